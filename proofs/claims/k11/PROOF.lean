import PyProof.Rows.All
import Wide.All
import OpenK.AllK
import Wide.FinOn
import HandS.ForMost
import HandS.Gcd
import HandS.Zip
import HandS.Walk
import HandS.SortKw
import HandS.TupMul
import HandS.TupAny
import HandS.IsInst
import HandS.OwnEq
import HandS.Wide
import KE.DataMinMax
import KE.GoesMore
import KE.GoesEnum
import PyProof.ReprBulk
import PyProof.P3Eq
import HandS.Dict
import KE.KeyNested
import KE.KDictPairs
import KE.GoesNew
import KE.KDictWalk
import HandS.TryMany
import HandS.ExcOwn
import HandS.ExcIs
import HandS.More
import HandS.ExcInit
import HandS.ExcField
import HandS.ExcValue
import KE.KExcIs
import HandS.WordsExc
import HandS.Style
import HandS.DeepEq
import PyProof.DictFindH
import KE.KDictDisplayH
import HandS.Lambda
import HandS.EndTab
import KE.KNestM
import PySem.Challenge.RW_tellsless_k11_plans_judged
set_option Elab.async false
set_option linter.all false
set_option maxRecDepth 100000
set_option maxHeartbeats 16000000
/-! rules that the layer lacks -/
namespace Tl
open PySem PySem.Spec PyProof.Rows L2 RZ
section
variable {X : Cx}
/-- repr of nested data -/
def rReprD (K : PySem.W.Frag) : List V → Hp → VK → Prop := fun xs H Q =>
  ∃ (a : Addr) (d : PyData), xs = [.ref a] ∧ Dp K H (.ref a) d ∧ d.showable = true ∧ d.hasDict = false ∧ d.depth ≤ 60 ∧ d.shown.length ≤ sizeLine ∧ Q (.str d.shown) H
theorem cr_reprD (hu : X.A.units + 64 < cLine) (hg : X.A.guards = some []) : CallR X (.builtin "repr") (rReprD X.K) := by
  intro pins s σ H xs us Q I r h
  obtain ⟨a, d, rfl, hd, h1, h2, h3, h4, q⟩ := h
  rw [Vals.ref1 r]
  obtain ⟨as, rd⟩ := Dp.reads I d _ _ hd rfl
  refine repr_of_reads' rd h1 (PyData.noDict_hsm h2) hg (by omega) (fun _ _ e => e) (fun h' u tk hk => ?_) h4
  exact ⟨.str d.shown, H, I.kept (t' := tk) hk, ⟨_, rfl⟩, q⟩
/-- xs[i], i from 0 on, read for a store by an operator -/
def gAtL (K : PySem.W.Frag) : V → V → Hp → VK → Prop := fun x y H Q => ∃ p xs j v, x = .ref p ∧ y = .int ((j : Nat) : Int) ∧ SqL K H p xs ∧ xs[j]? = some v ∧ Q v H
theorem get_listP : PGet X (gAtL X.K) := by
  intro pins s σ H o i ov iv Q I ro ri h
  obtain ⟨p, xs, j, z, rfl, rfl, hq, he, q⟩ := h
  cases ro
  obtain ⟨t, rfl⟩ := ri
  obtain ⟨its, r, pl, hz⟩ := I.list hq
  obtain ⟨w, ew, rw'⟩ := r.get he
  have hn := line63
  have hj : j < xs.length := (List.getElem?_eq_some_iff.mp he).1
  exact wpAny_getItem_list pl.isList (by omega) (by omega) (by simpa using ew) ⟨z, H, I, rw', q⟩
end

section
variable {X : Cx}
def topOf (d : Int) : List Int → Int
  | [] => d
  | n :: r => r.foldl max n
def rMaxDf (K : PySem.W.Frag) : List V → List V → Hp → VK → Prop := fun vs zs H Q => ∃ (a : Addr) (ns : List Int) (d : Int), vs = [V.ref a] ∧ zs = [.int d] ∧ SqL K H a (ns.map V.int) ∧ Q (.int (topOf d ns)) H
theorem reads_ints {h : Heap} : ∀ {us : List Value} {ns : List Int}, IntsAre us ns → ∃ as, ReadsAll h us (ns.map PyData.int) as
  | _, _, .nil => ⟨_, .nil⟩
  | _, _, .cons n t r => by
    obtain ⟨as, q⟩ := reads_ints (h := h) r
    exact ⟨_, .cons (.int n t) q⟩
theorem depth_ints : ∀ ns : List Int, PyData.depthAll (ns.map PyData.int) = 0
  | [] => rfl
  | n :: r => by
    show max (PyData.depth (.int n)) (PyData.depthAll (r.map PyData.int)) = 0
    rw [depth_ints r]
    rfl
theorem alike_ints (ns : List Int) : PySem.W.AlikeAll (ns.map PyData.int) := by
  constructor
  · intro x hx y hy
    obtain ⟨i, _, rfl⟩ := List.mem_map.mp hx
    obtain ⟨j, _, rfl⟩ := List.mem_map.mp hy
    rfl
  · intro x hx
    obtain ⟨i, _, rfl⟩ := List.mem_map.mp hx
    exact fun h => by cases h
theorem cr_maxDf (hc : X.calm = true) (hu : X.A.units + 64 < cLine) : CallRK X (.builtin "max") [Str.ofString "default"] (rMaxDf X.K) := by
  intro pins s σ H vs zs us ws Q I r rz h
  obtain ⟨a, ns, d, rfl, rfl, hs, q⟩ := h
  obtain ⟨its, rv, pl, hz⟩ := I.list hs
  rw [Vals.ref1 r]
  obtain ⟨w1, rfl, t, rfl⟩ := vals1 rz
  have hi := rv.ints
  obtain ⟨as, hr⟩ := reads_ints (h := s.heap) hi
  refine PySem.W.max_list_default (vs := its.toArray) (xs := ns.map PyData.int) (as := as) (I.ok.hd hc) pl.isList (by simpa using hr) (alike_ints ns) (by rw [depth_ints]; omega) (fun hn h' tk hk => ?_) fun y ys i v h' tk bs e ev hv hk => ?_
  · have e : ns = [] := List.map_eq_nil_iff.mp hn
    subst e
    exact ⟨.int d, H, I.kept (t' := tk) hk, ⟨t, rfl⟩, q⟩
  · cases ns with
    | nil => cases e
    | cons n r =>
      cases e
      rw [PySem.W.maxD_ints] at hv
      cases hv
      exact ⟨.int _, H, I.kept (t' := tk) hk, ⟨_, rfl⟩, q⟩
end

/-! enumerate(a tuple) -/
def IteT (K : PySem.W.Frag) (a : Addr) : It :=
  ⟨fun i H => ∃ (xs : List V) (x : V), SqT K H a xs ∧ xs[i]? = some x,
   fun i H v H' => ∃ T x, v = .ref T ∧ H T = none ∧ H' = upd H T (.tup [.int (i : Nat), x]) ∧ ∀ xs, SqT K H a xs → xs[i]? = some x,
   fun i H => ∃ xs : List V, SqT K H a xs ∧ xs.length = i⟩
set_option maxHeartbeats 1000000 in
theorem enum_new_tup (l : Addr) (items : Array Value) : Meets (Builtin.«enumerate.__new__» ⟨[.type "enumerate", .ref l], []⟩) (fun _ R s => s.heap.IsTuple l items ∧
      R (.ok (.ret (.ref (s.heap.objs.size + 1)))) { s with heap := (s.heap.push { cls := .type "tuple_iterator", data := .fields #[.ref l, .int 0 0] }).push { cls := .type "enumerate", data := .fields #[.none, .bool false, .ref s.heap.objs.size, rawInt 0, .none, .none] } }) :=
  .of_wp fun prog w A R s ⟨ht, h⟩ => by
    obtain ⟨hp, g, d, tk, os⟩ := s
    have hsz : ∀ o : Obj, (hp.push o).objs.size = hp.objs.size + 1 := fun o => Heap.size_push ..
    have hsub := sub_enumerate
    have q1 : ∀ {A' : Around} {E' : Value → Shared → Prop} {Q' : Value → Shared → Prop}, Q' (.ref hp.objs.size) ⟨hp.push { cls := .type "tuple_iterator", data := .fields #[.ref l, .int 0 0] }, g, d, tk, os⟩ → wpAny (model prog w) A' (pyIter (.ref l)) Q' E' ⟨hp, g, d, tk, os⟩ :=
      fun q => wpAny_pyIter_tuple (s := ⟨hp, g, d, tk, os⟩) ht q
    rw [← hsz { cls := .type "tuple_iterator", data := .fields #[.ref l, .int 0 0] }] at h
    wp_walk using q1
    refine wpAny_stack_any fun st => wpAny_pure ?_
    split
    · rename_i c _ _ _ _ _
      rcases (c == Value.type "enumerate") with _ | _ <;> (wp_walk using q1; exact ⟨_, rfl, h⟩)
    · wp_walk using q1
      exact ⟨_, rfl, h⟩
theorem enum_tup {prog : Program} {w : World} {A : Around} {E : Value → Shared → Prop} {s : Shared} {l : Addr} {items : Array Value} {Q : Value → Shared → Prop} (ht : s.heap.IsTuple l items)
    (h : ∀ h', IsEnum h' (s.heap.objs.size + 1) s.heap.objs.size 0 .none → h'.IsTupleIter s.heap.objs.size l 0 →
      (∀ b o, s.heap.get? b = some o → h'.get? b = some o) → Q (.ref (s.heap.objs.size + 1)) { s with heap := h' }) :
    wpAny (model prog w) A (call (.type "enumerate") [.ref l]) Q E s := by
  refine callType_new F.called_enumerate (by decide) (F.typeCall_enumerate_1 _) (F.newCall_enumerate_1 _) (fun ob => F.args_object_init_2 ob _) F.entry_enumerate_new (enum_new_tup l items) ⟨ht, ?_⟩
  have e2 : IsEnum ((s.heap.push { cls := .type "tuple_iterator", data := .fields #[.ref l, .int 0 0] }).push { cls := .type "enumerate", data := .fields #[.none, .bool false, .ref s.heap.objs.size, rawInt 0, .none, .none] }) (s.heap.objs.size + 1) s.heap.objs.size 0 .none := by
    have e3 := Heap.get?_push_size (s.heap.push { cls := .type "tuple_iterator", data := .fields #[.ref l, .int 0 0] }) (o := { cls := .type "enumerate", data := .fields #[.none, .bool false, .ref s.heap.objs.size, rawInt 0, .none, .none] }) rfl
    rw [Heap.size_push] at e3
    exact e3
  exact ⟨⟨_, e2, rfl⟩, h _ e2 ⟨_, Heap.get?_push_of_some _ (Heap.get?_push_size _ rfl), rfl, rfl⟩ fun b o x => Heap.get?_push_of_some _ (Heap.get?_push_of_some _ x)⟩
theorem turn_enumT {P : Program} {w : World} {K : PySem.W.Frag} {elts : List Expr} {kk : Nat} {tpos : Pos} (a e it : Addr) :
    Turn P w K (.Tuple elts kk tpos) (IteT K a) [e, it] e (fun i h => (∃ old, IsEnum h e it ((i : Nat) : Int) old) ∧ h.IsTupleIter it a i ∧ e ≠ it ∧ e ≠ a ∧ a ≠ it) where
  mem := List.mem_cons_self
  obj := by
    rintro i h ⟨⟨old, he⟩, ⟨o, ho, hc, hd⟩, _⟩ b hb
    rcases (show b = e ∨ b = it by simpa using hb) with rfl | rfl
    · exact ⟨_, he, fun v q => by cases q⟩
    · exact ⟨o, ho, fun v q => by rw [hd] at q; cases q⟩
  keep := by
    rintro i h h' ⟨⟨old, he⟩, hi, hne⟩ k
    exact ⟨⟨old, k e (by simp) _ he⟩, hi.at fun o q => k it (by simp) o q, hne⟩
  item := by
    intro X hP hw hK hc i pins s σ H E I hf st hg
    subst hP hw hK
    obtain ⟨⟨old, he⟩, hit, hne, hea, hai⟩ := st
    obtain ⟨xs, x, hq, hx⟩ := hg
    obtain ⟨its, rv, pt, hz⟩ := I.tuple hq
    obtain ⟨u, hu, ru⟩ := rv.get hx
    have hlt : i < its.toArray.size := by
      rw [List.size_toArray]
      exact (List.getElem?_eq_some_iff.mp hu).1
    have lte : e < s.heap.objs.size := Heap.lt_size he
    have lti : it < s.heap.objs.size := by
      obtain ⟨_, q, _⟩ := hit
      exact Heap.lt_size q
    have D := Draws.tuple (prog := X.prog) (w := X.w) (A := X.A.in1) (I.ok.hd hc) it a hai its.toArray
    refine wpAny_pyNext_enum_itemD D he ⟨hit, pt⟩ hlt hne (by simp [hne, hea]) fun v h' tk hP ho hit' hT hsz hk => ?_
    have ev : v = u := by
      have q1 : its[i]? = some v := by simpa using hP
      rw [hu] at q1
      exact (Option.some.inj q1).symm
    subst ev
    refine ⟨_, rfl, wpAny_letOwnedTupleGo_enum (s := { s with heap := h', toks := tk + 1 }) ho fun h2 he2 sb => ?_⟩
    have hT2 : h2.get? s.heap.objs.size = some { cls := .type "tuple", data := .seq #[.int i tk, v] } := (sb.2 _ (Nat.ne_of_gt lte)).trans hT
    have mk : ObjOk X.prog X.w (upd H s.heap.objs.size (.tup [.int (i : Nat), x])) h2 s.heap.objs.size (.tup [.int (i : Nat), x]) :=
      ⟨by show 2 ≤ sizeLine; decide, [.int i tk, v], .cons ⟨_, rfl⟩ (.cons ru .nil), ⟨_, hT2, rfl, _, rfl⟩⟩
    have I1 : Inv X pins σ (upd H s.heap.objs.size (.tup [.int (i : Nat), x])) { s with heap := h2, toks := tk + 1 } :=
      I.turnedNew (ch := [e, it]) (fun b ob hb q => by
        have z1 : b ≠ e := fun z => hb (by simp [z])
        have z2 : b ≠ it := fun z => hb (by simp [z])
        exact (sb.2 b z1).trans (hk b ob z1 z2 q)) hf (Nat.le_refl _) mk
    refine ⟨.ref s.heap.objs.size, _, I1, rfl, ⟨_, x, rfl, I.hok.fresh (Nat.le_refl _), rfl, fun ys hy => by rw [I.tuple_inj hy hq]; exact hx⟩, ⟨⟨v, ?_⟩, hit'.1.at fun o q => (sb.2 it (Ne.symm hne)).trans q, hne, hea, hai⟩, fun b hb => ?_⟩
    · rw [show ((i + 1 : Nat) : Int) = (i : Int) + 1 by omega]
      exact he2
    · have lb : b < s.heap.objs.size := by
        rcases (show b = e ∨ b = it by simpa using hb) with z | z
        · rw [z]; exact lte
        · rw [z]; exact lti
      rw [upd_ne (Nat.ne_of_lt lb)]
      exact (hf b hb).1
  done := by
    intro X hP hw hK hc i pins s σ H E I hf st hg
    subst hP hw hK
    obtain ⟨⟨old, he⟩, hit, hne, hea, hai⟩ := st
    obtain ⟨xs, hq, hx⟩ := hg
    obtain ⟨its, rv, pt, hz⟩ := I.tuple hq
    obtain ⟨f0, f1, f2, f3, f4, f5⟩ := hf it (by simp)
    have hl : its.toArray.size = i := by
      rw [List.size_toArray, ← rv.length]
      exact hx
    have D := Draws.tuple (prog := X.prog) (w := X.w) (A := X.A.in1) (I.ok.hd hc) it a hai its.toArray
    exact wpAny_pyNext_enum_endD D he ⟨by rw [hl]; exact hit, pt⟩ fun h' eb => ⟨rfl, I.turned (t' := s.toks) (fun b o hb q => eb b o hb q) f0 f1 f3 f4 f5⟩
  self := fun A i s Q E st h => by
    obtain ⟨⟨_, he⟩, _⟩ := st
    exact wpAny_pyIter_enum he h
def iEnumT (K : PySem.W.Frag) (ta : TA) : TI := fun σ H R => ta σ H fun vs H1 => ∃ a xs, vs = [.ref a] ∧ SqT K H1 a xs ∧ R (IteT K a) H1
theorem pi_enumT {X : Cx} {e : Expr} {ta : TA} {p pos tpos : Pos} {elts : List Expr} {kk : Nat} (hg : Gl X "enumerate") (hm : X.mg "enumerate" = none) (ha : PA X [e] ta) (hs : starEach [e] X.env = [(false, eval e X.env)] := by rfl) :
    PI X (.Tuple elts kk tpos) (.Call (.Name "enumerate" p) [e] [] pos) (iEnumT X.K ta) := by
  refine ⟨fun pins s σ H R I h => Call_ (ld_blt I hg hm boot_enumerate (PyProof.Rows.callWith_type1 (thn (ha.run pos pins s σ H _ I h) fun us s1 hq => ?_) hs rfl))⟩
  obtain ⟨vs, H1, I1, r1, a, xs, rfl, hT, q⟩ := hq
  rw [Vals.ref1 r1]
  obtain ⟨its, rv, pt, hz⟩ := I1.tuple hT
  have hat : a < s1.heap.objs.size := by
    obtain ⟨o, ho, _⟩ := id pt
    exact Heap.lt_size ho
  refine enum_tup (show s1.heap.IsTuple a its.toArray from pt) fun h' he hit hk => wpAny_pyIter_enum he ?_
  have I2 : Inv X pins σ H1 { s1 with heap := h' } := I1.kept (t' := s1.toks) hk
  refine ⟨_, [s1.heap.objs.size + 1, s1.heap.objs.size], _, _, H1, rfl, I2, turn_enumT a (s1.heap.objs.size + 1) s1.heap.objs.size, ⟨⟨.none, he⟩, hit, Nat.succ_ne_self _, Nat.ne_of_gt (Nat.lt_succ_of_lt hat), Nat.ne_of_lt hat⟩, fun b hb => ?_, q⟩
  have hle : s1.heap.objs.size ≤ b := by
    rcases (show b = s1.heap.objs.size + 1 ∨ b = s1.heap.objs.size by simpa using hb) with z | z
    · rw [z]; exact Nat.le_succ _
    · rw [z]; exact Nat.le_refl _
  exact I1.fpOk hle (I1.hok.fresh hle)
theorem walk_enumT {K : PySem.W.Frag} {a : Addr} {xs : List V} : Walk (IteT K a) xs.length (fun H => SqT K H a xs) (YPair (fun i => some (.int (i : Nat))) (fun i => xs[i]?)) := by
  refine ⟨fun i _ hi q => ⟨xs, xs[i], q, by simp [hi]⟩, fun _ q => ⟨xs, q, rfl⟩, fun i H v H' _ q y => ?_⟩
  obtain ⟨T, x, h1, h2, h3, h4⟩ := y
  exact ⟨T, .int (i : Nat), x, h1, h2, h3, rfl, h4 xs q⟩
theorem walk_zipT {K : PySem.W.Frag} {a b : Addr} {xs ys : List V} {n : Nat} (hn : n = min xs.length ys.length) : Walk (ItzT K a b) n (fun H => SqT K H a xs ∧ SqT K H b ys) (YPair (fun i => xs[i]?) (fun i => ys[i]?)) := by
  subst hn
  refine ⟨fun i _ hi q => ⟨xs, ys, xs[i]'(by omega), ys[i]'(by omega), q.1, q.2, List.getElem?_eq_getElem _, List.getElem?_eq_getElem _⟩, fun _ q => ⟨xs, ys, q.1, q.2, by omega⟩, fun i H v H' _ q y => ?_⟩
  obtain ⟨T, x, z, h1, h2, h3, h4, h5⟩ := y
  exact ⟨T, x, z, h1, h2, h3, h4 xs q.1, h5 ys q.2⟩

/-! a tuple times an int, also 1 -/
theorem mul_one_tup (l : Addr) (items : Array Value) (n : Nat) (dd : Option Addr) (sl : Array (Option Value)) (u : Tok) (hne : items.isEmpty = false) : Meets (Builtin.«tuple.__mul__» ⟨[.ref l, .int 1 u], []⟩) (fun _ R s => s.heap.get? l = some { cls := .type "tuple", dict := dd, data := .seq items n, slots := sl } ∧ R (.ok (.ret (.ref l))) s) :=
  .of_wp fun prog w A R s h => by
    obtain ⟨hp, g, d, tk, os⟩ := s
    obtain ⟨hl, h⟩ := h
    have f1 := AutoSeq1.idx_int
    wp_walk using wpAny_loadPart' hl
    exact ⟨_, rfl, h⟩
def rRepP (K : PySem.W.Frag) : R2 := fun x y H Q => ∃ l k xs, x = .ref l ∧ y = .int k ∧ SqT K H l xs ∧ xs ≠ [] ∧ 1 ≤ k ∧ k ≤ 1000 ∧ xs.length ≤ 1000 ∧ ∀ p H', Same H H' → SqT K H' p (List.replicate k.toNat xs).flatten → Q (.ref p) H'
theorem same_upd {H : Hp} {p : Addr} {o : HO} (h : H p = none) : Same H (upd H p o) := fun b x e => by
  rw [upd_ne (ne_of_none e h)]
  exact e
theorem op_repP {X : Cx} : OpR X (binaryOp .Mult) (rRepP X.K) := by
  intro pins s σ H x y v u Q I rx ry h
  obtain ⟨l, k, xs, rfl, rfl, hT, hne, h1, h2, hz, q⟩ := h
  by_cases hk : 2 ≤ k
  · exact op_repT pins s σ H _ _ v u Q I rx ry ⟨l, k, xs, rfl, rfl, hT, hne, hk, h2, hz, fun p hp => q p _ (same_upd hp) (.inl (.inl upd_same))⟩
  · obtain rfl : k = 1 := by omega
    cases rx
    obtain ⟨t, rfl⟩ := ry
    obtain ⟨its, r, ⟨⟨cls, dd, data, sl⟩, ho, hc, n, hd⟩, hs⟩ := I.tuple hT
    simp only at hc hd
    subst hc hd
    have hn : its.toArray.isEmpty = false := by
      cases its with
      | nil =>
        cases r
        exact absurd rfl hne
      | cons a b => rfl
    refine wpAny_binaryOp_repeat_ref (T := "tuple") (U := "int") (by decide) ⟨_, ho, rfl⟩ (fun s' => typeIs_int s' 1 t) noFill_tuple_mul F.fills_int_mul F.slot_int_rmul repeat_tuple F.slot_int_index.lookup
      (call_meets F.slot_int_rmul (typeIs_int s 1 t) F.entry_int_rmul (F.args_int_rmul_2 _ _) (int_rmul_tuple 1 t l its.toArray n dd sl)
        ⟨ho, rfl, ⟨_, ho, rfl⟩, call_meets F.slot_tuple_mul ⟨_, ho, rfl⟩ F.entry_tuple_mul (F.args_tuple_mul_2 _ _) (mul_one_tup l its.toArray n dd sl t hn) ⟨ho, ?_⟩⟩)
    exact ⟨.ref l, H, I, rfl, q l H (Same.refl H) (by rw [show (List.replicate (Int.toNat 1) xs).flatten = xs by simp]; exact hT)⟩

/-! ### defs that want no repr to run around them -/
structure FnG (P : Program) (w : World) (K : PySem.W.Frag) (mg : Str → Option Value) (base : Heap) (CX : CXT) (k : Nat) (f : Addr) (fd : FuncData) (ps : List Str) (sp : Sp) : Prop where
  many : ∀ vs H Q E, sp vs H Q E → vs.length = ps.length
  goes : ∀ (A : Around) (outer : List Env) (s : Shared) (H : Hp) (args : Args) (us : List Value) (vs : List V) (Q : VK) (E : XK), Room k A → A.guards = some [] → Env0 P w K mg base A outer s H → BindsTo s fd args (ps.zip us) → Vals vs us → sp vs H Q E →
    codeAny (model P w) A (.call (.ref f) args) (CR CX outer P w H s Q E) s
section
variable {P : Program} {w : World} {K : PySem.W.Frag} {mg : Str → Option Value} {base : Heap}
theorem okG {x qual : Str} {st : Stmt} {f : Addr} {fd : FuncData} {N ps : List Str} {k : Nat} {sp : Sp} (F : Fun K x qual st f fd) (S : FnScope N ps (defScope st)) (len : ∀ vs H Q E, sp vs H Q E → vs.length = ps.length)
    (bd : ∀ (cdv : Value) (A : Around) (outer : List Env) (s : Shared) (H : Hp) (vs : List V) (Q : VK) (E : XK), Room k (A.deeper (envOfC qual (defScope st) s.heap.objs.size f cdv)) → A.guards = some [] → sp vs H Q E →
      ∃ t, PSs (cxOf CX0 P w K mg base N qual (defScope st) f cdv A outer s H E).nox (defBody st) t ∧ t { nx := fun _ H' => Q .non H', rt := Q } (start N vs) H) : FnG P w K mg base CX0 (k + 1) f fd ps sp := by
  obtain ⟨oc, od, kV, doc, pm, an, cdv, ct, osl, rfl, lk, hcd⟩ := F.ex
  refine ⟨len, fun A outer s H args us vs Q E hr hgu e0 hb rv hsp => ?_⟩
  have hl := len _ _ _ _ hsp
  have kin : K.In s.heap := e0.mod.kin.keeps fun b o e => (e0.bs b o e).1
  have nol : s.heap.NoLimit := e0.mod.nolimit.keeps fun b o e => (e0.bs b o e).1
  have kinds : ∀ y ∈ ps.zip us, (defScope st).names.lookup y.1 = some .local ∨ ((defScope st).names.lookup y.1 = some .cell ∧ ((cellsFrom (s.heap.objs.size + 1) (defScope st).names []).lookup y.1).isSome = true) := by
    rintro ⟨n, v⟩ hy
    have hn := (List.of_mem_zip hy).1
    rcases S.par n hn with q | q
    · exact Or.inl q
    · exact Or.inr ⟨q, PySem.W.cellsFrom_some _ _ _ (Or.inl q)⟩
  refine codeAny_call_function hr.depth (kin _ _ lk) rfl S.co S.gen rfl (PySem.W.codeRec_of kin hcd) (hb _ _ _ _ (wpAny_newFunctionEnv_cells S.kind kinds fun env ee s1 x => ?_))
  subst ee
  refine ⟨nol.keeps x.toInCall.keep, codeAny_func ?_⟩
  obtain ⟨t, ht, hq⟩ := bd cdv A outer s H vs Q E (hr.deeper _) hgu hsp
  have J : Inv (cxOf CX0 P w K mg base N qual (defScope st) f cdv A outer s H E) [] (start N vs) H s1 := inv_start S hr.hd e0 hl rv x
  refine wpAny_mono (ht.nox.run [] s1 (start N vs) H _ J hq) (fun fl s2 hs => ?_) fun e s2 hs => hs
  have done : ∀ {σ' : L2.St} {H' : Hp} {v : V} {u : Value}, Inv (cxOf CX0 P w K mg base N qual (defScope st) f cdv A outer s H E) [] σ' H' s2 → RelV v u → Q v H' → CE outer P w H s Q u s2 :=
    fun {σ' H' v u} L r q => ⟨v, H', L.os, L.bare, L.base, L.hok, r, q⟩
  cases fl with
  | ret u =>
    obtain ⟨v, σ', H', L, r, q⟩ := hs
    exact done L r q
  | next =>
    obtain ⟨σ', H', L, q⟩ := hs
    exact done (v := V.non) (u := Value.none) L rfl q
  | brk =>
    obtain ⟨_, _, _, q⟩ := hs
    exact q.elim
  | cont =>
    obtain ⟨_, _, _, q⟩ := hs
    exact q.elim
end
section
variable {X : Cx} {CX : CXT} {k : Nat} {f : Addr} {fd : FuncData} {ps : List Str} {sp : Sp} {dvs : List V} {ds : List Value} {E : XK} {x : Str} {p pos : Pos} {e : Expr} {es : List Expr} {t : TA}
theorem pe_callG (F : FnG X.prog X.w X.K X.mg X.base CX k f fd ps sp) (hr : Room k X.A) (hgu : X.A.guards = some []) (hg : Gl X x) (hm : X.mg x = some (.ref f)) (hk : PySem.W.keepIn X.K (.ref f) = true) (hb : Binds X.K fd ps ds) (hd : Vals dvs ds) (hx : Passes CX X E)
    (ha : PA X (e :: es) t) (hdb : (x == ("__debug__" : Str)) = false := by decide) (he : starEach (e :: es) X.env = (false, eval e X.env) :: starEach es X.env := by rfl) (hpl : (backTo pos (starEach es X.env)).any (·.1) = false := by rfl) :
    PE X (.Call (.Name x p) (e :: es) [] pos) (tCall sp dvs E t) := by
  refine ⟨fun pins s σ H Q I h => wpAny_Call_Name_kw (ld_glob I hg hm ?_ hdb)⟩
  refine PySem.W.callWith_K (h₀ := X.base) I.ok.mod.kin hk (thn (ha.run pos pins s σ H _ I h) ?_) he hpl
  rintro us s1 ⟨vs, H1, I1, r, q⟩
  refine ⟨I1.kIn, ?_⟩
  have r2 : Vals (vs ++ dvs) (us ++ ds) := r.append hd
  have hl : (us ++ ds).length = ps.length := by
    rw [← r2.length]
    exact F.many _ _ _ _ q
  refine wpAny_call (codeAny_mono (F.goes X.A X.stack s1 H1 ⟨us, []⟩ (us ++ ds) (vs ++ dvs) Q E hr hgu I1.env0 (hb s1 us I1.kIn hl) r2 q) ?_)
  intro res s2 hq
  match res, hq with
  | .error e, hq => exact hx pins σ H1 s1 e s2 I1 hq
  | .ok (.ret u), hq => exact I1.after hq
end
/-- a law's own promise -/
def spTrue (K : PySem.W.Frag) : Sp := fun vs H Q _ => ∃ (a : Addr) (ns : List Int), vs = [.ref a] ∧ SqL K H a (ns.map V.int) ∧ ns.length ≤ 63 ∧ ∀ H', Q (.bl true) H'
theorem callG {P : Program} {w : World} {K : PySem.W.Frag} {mg mb : Str → Option Value} {k : Nat} {fa a : Addr} {fd : FuncData} {x : Str} {s₁ : Shared} {vs : List Value} {ns : List Int}
    (kin : K.In s₁.heap) (hns : s₁.heap.Ns mainGlobals mg) (hbl : s₁.heap.Ns builtinsNs mb) (hbb : ∀ x : Str, x ≠ "__name__" → mb x = bootBuiltins x) (nol : s₁.heap.NoLimit) (hgens : s₁.gens = #[])
    (ha : s₁.heap.get? a = some { cls := .type "list", data := .seq vs.toArray }) (hi : IntsAre vs ns) (h63 : ns.length ≤ 63) (hr : Room k callerA)
    (F : ∀ base : Heap, K.In base → base.Ns mainGlobals mg → FnG P w K mg base CX0 k fa fd [x] (spTrue K)) (hbind : ∀ (s : Shared) (u : Value), BindsTo s fd ⟨[u], []⟩ [(x, u)]) :
    codeAny (model P w) callerA (.call (.ref fa) ⟨[.ref a], []⟩) (fun r s' => r = .ok (.ret (.bool true)) ∧ OldK s₁.heap s'.heap ∧ s'.os = s₁.os ∧ AllBare s'.gens) s₁ := by
  have hl : ns.length ≤ sizeLine := Nat.le_trans h63 (by decide)
  have rv := vals_ints hi
  have lv := hi.length
  have main : ∀ T : Hp, Only T → SqL K T a (ns.map V.int) → HOk P w T s₁.heap → (∀ b, T b ≠ none → b = a) → (T a ≠ none → K.lookup a = none) →
      codeAny (model P w) callerA (.call (.ref fa) ⟨[.ref a], []⟩) (fun r s' => r = .ok (.ret (.bool true)) ∧ OldK s₁.heap s'.heap ∧ s'.os = s₁.os ∧ AllBare s'.gens) s₁ := by
    intro T only hS hok only_a notK
    have put : ∀ {b : Addr} {o : Obj}, s₁.heap.get? b = some o → T b = none → (hidT s₁.heap T).get? b = some o := fun e n => hidT_get e n
    have dict_free : ∀ {b : Addr} {o : Obj} {es : Array DictEntry} {ep : Nat}, s₁.heap.get? b = some o → o.data = .dict es ep → T b = none := by
      intro b o es ep e d
      match q : T b with
      | none => rfl
      | some u =>
        obtain rfl := only_a b (by rw [q]; exact fun z => by cases z)
        rw [ha] at e
        cases e
        exact absurd (show Data.seq vs.toArray _ = Data.dict es ep from d) (fun z => by cases z)
    have nsB : ∀ {b : Addr} {m : Str → Option Value}, s₁.heap.Ns b m → (hidT s₁.heap T).Ns b m := by
      rintro b m ⟨o, es, ep, e, d, r⟩
      exact ⟨o, es, ep, put e (dict_free e d), d, r⟩
    have kinB : K.In (hidT s₁.heap T) := by
      intro b o e
      refine put (kin b o e) ?_
      match q : T b with
      | none => rfl
      | some u =>
        have q' : T b ≠ none := by rw [q]; exact fun z => by cases z
        obtain rfl := only_a b q'
        rw [notK q'] at e
        cases e
    obtain ⟨mc, l1, l2⟩ := nol
    have md : Mod K mg (hidT s₁.heap T) := ⟨kinB, nsB hns, ⟨mb, nsB hbl, hbb⟩, ⟨mc, nsB l1, l2⟩⟩
    have e0 : Env0 P w K mg (hidT s₁.heap T) callerA [] s₁ T :=
      { frames := rfl, mod := md, bs := fun b o e => of_hidT e, bsz := Nat.le_of_eq (hidT_size _ _), funs := trivial, frf := fun b hb => (List.not_mem_nil (show b ∈ ([] : List Addr) from hb)).elim, hok := hok, bare := .of_eq hgens }
    have sp0 : spTrue K [.ref a] T (fun v _ => v = .bl true) (fun _ _ _ => False) := ⟨a, ns, rfl, hS, h63, fun _ => rfl⟩
    refine codeAny_mono ((F _ kinB (nsB hns)).goes callerA [] s₁ T ⟨[.ref a], []⟩ [.ref a] [.ref a] _ _ hr rfl e0 (hbind s₁ (.ref a)) (.cons rfl .nil) sp0) ?_
    intro r s2 h
    match r, h with
    | .error e, h => exact h.elim
    | .ok (.ret u), h =>
      obtain ⟨v, T', os, bare, un, hok2, r2, q⟩ := h
      obtain rfl : v = .bl true := q
      obtain rfl : u = Value.bool true := r2
      refine ⟨rfl, OldK.of_keep fun b o e => ?_, os, bare⟩
      match q : T b with
      | none => exact un.keep b o e q (fun z => (List.not_mem_nil (show b ∈ ([] : List Addr) from z)).elim) List.not_mem_nil
      | some u =>
        rcases only b with z | ⟨ob, xs, z⟩
        · rw [q] at z
          cases z
        · obtain ⟨e1, _⟩ := hok b _ z
          obtain ⟨e2, _⟩ := hok2 b _ (un.frzs b ob _ z)
          rw [e] at e1
          cases e1
          exact e2
  match hk : K.lookup a with
  | some o =>
    have e := kin a o hk
    rw [ha] at e
    cases e
    exact main (fun _ => none) (fun _ => Or.inl rfl) (Or.inr ⟨_, vs.toArray, _, hk, rfl, rfl, rfl, by rw [List.size_toArray, lv]; exact hl, by simpa using rv⟩) (fun b u z => by cases (show (none : Option HO) = some u from z)) (fun b z => (z rfl).elim) fun z => (z rfl).elim
  | none =>
    refine main (fun b => if b = a then some (.frz { cls := .type "list", data := .seq vs.toArray } (.lst (ns.map V.int))) else none) (fun b => ?_) (Or.inl (Or.inr ⟨{ cls := .type "list", data := .seq vs.toArray }, if_pos rfl⟩)) (fun b u z => ?_) (fun b z => ?_) fun _ => hk
    · by_cases hb : b = a
      · exact Or.inr ⟨_, _, if_pos hb⟩
      · exact Or.inl (if_neg hb)
    · by_cases hb : b = a
      · cases (if_pos hb).symm.trans z
        subst hb
        exact ⟨ha, by rw [List.length_map]; exact hl, vs, _, rv, ha⟩
      · cases (if_neg hb).symm.trans z
    · exact Decidable.byContradiction fun hb => z (if_neg hb)
theorem walkG {l : PySem.W.OpenLaw} {k : Nat} {q : Program} {loose : List Str} {XP : (Str → Option Value) → Heap → Prop} {YP : World → Heap → Prop} {d : DefRec} {K : Params → PySem.W.Frag} {x : Str}
    (hn : l.most = some 63) (hdf : d.params.defaults = []) (hr : Room k callerA) (hY : ∀ (w : World) (h : Heap), YP w h → (K w.params).In h)
    (F : ∀ (w : World) (mg : Str → Option Value) (fa : Addr) (h : Heap), (K w.params).In h → h.Ns mainGlobals mg → mg d.name = some (.ref fa) →
      ∃ fd : FuncData, (∀ (s : Shared) (u : Value), BindsTo s fd ⟨[u], []⟩ [(x, u)]) ∧ ∀ base : Heap, (K w.params).In base → base.Ns mainGlobals mg → FnG l.prog w (K w.params) mg base CX0 k fa fd [x] (spTrue (K w.params))) :
    PySem.W.WalkO q loose XP YP l.row.toRowW d [] (fun f vs => PySem.call f vs) := by
  refine Att.attach_call hn hdf ?_
  intro w s₀ s₁ mg mb fa o pm cd doc a vs ns G Y ho hd hcd hmg hob hints hlen hg
  have kin := hY w _ Y
  obtain ⟨fd, hb, hF⟩ := F w mg fa _ kin G.T.g hmg
  exact callG kin G.T.g G.T.b G.T.builtins G.T.nolimit hg hob hints hlen hr hF hb
end Tl
/-! data without lists, frames, the bag -/
namespace Tl
open PySem PySem.Spec PyProof.Rows L2 RZ
/-! ### heaps -/
/-- all tuples stay -/
def KT (K : PySem.W.Frag) (H H' : Hp) : Prop := ∀ a xs, SqT K H a xs → SqT K H' a xs
theorem KT.refl {K : PySem.W.Frag} (H : Hp) : KT K H H := fun _ _ h => h
theorem KT.trans {K : PySem.W.Frag} {H1 H2 H3 : Hp} (a : KT K H1 H2) (b : KT K H2 H3) : KT K H1 H3 := fun x xs h => b x xs (a x xs h)
theorem Same.kt {K : PySem.W.Frag} {H H' : Hp} (h : Same H H') : KT K H H' := fun a xs q => by
  rcases q with (q | ⟨o, q⟩) | q
  · exact .inl (.inl (h _ _ q))
  · exact .inl (.inr ⟨o, h _ _ q⟩)
  · exact .inr q
/-- all but the lists at b and g stays as it was -/
def Frm (b g : Addr) (H H' : Hp) : Prop := ∀ a o, H a = some o → a ≠ b → a ≠ g → H' a = some o
theorem Frm.refl (b g : Addr) (H : Hp) : Frm b g H H := fun _ _ h _ _ => h
theorem Frm.trans {b g : Addr} {H1 H2 H3 : Hp} (x : Frm b g H1 H2) (y : Frm b g H2 H3) : Frm b g H1 H3 := fun a o h h1 h2 => y a o (x a o h h1 h2) h1 h2
theorem Frm.of {b g : Addr} {H H' : Hp} (h : Same H H') : Frm b g H H' := fun a o q _ _ => h a o q
theorem Frm.updB {b g : Addr} {H : Hp} {o : HO} : Frm b g H (upd H b o) := fun a x h h1 _ => by rw [upd_ne h1]; exact h
theorem Frm.updG {b g : Addr} {H : Hp} {o : HO} : Frm b g H (upd H g o) := fun a x h _ h2 => by rw [upd_ne h2]; exact h
/-! ### data of tuples -/
mutual
inductive Td (K : PySem.W.Frag) (H : Hp) : V → PyData → Prop
  | non : Td K H .non .none
  | bl (b : Bool) : Td K H (.bl b) (.bool b)
  | int (i : Int) : Td K H (.int i) (.int i)
  | str (x : Str) : Td K H (.str x) (.str x)
  | tup {a : Addr} {xs : List V} {ds : List PyData} : SqT K H a xs → TdAll K H xs ds → Td K H (.ref a) (.tuple ds)
inductive TdAll (K : PySem.W.Frag) (H : Hp) : List V → List PyData → Prop
  | nil : TdAll K H [] []
  | cons {v : V} {vs : List V} {d : PyData} {ds : List PyData} : Td K H v d → TdAll K H vs ds → TdAll K H (v :: vs) (d :: ds)
end
variable {K : PySem.W.Frag} {H H' : Hp}
mutual
theorem Td.dp : ∀ {v : V} {d : PyData}, Td K H v d → Dp K H v d
  | _, _, .non => .non
  | _, _, .bl b => .bl b
  | _, _, .int i => .int i
  | _, _, .str x => .str x
  | _, _, .tup h a => .tup h (TdAll.dp a)
theorem TdAll.dp : ∀ {v : List V} {d : List PyData}, TdAll K H v d → DpAll K H v d
  | _, _, .nil => .nil
  | _, _, .cons h t => .cons (Td.dp h) (TdAll.dp t)
end
mutual
theorem Td.keep (k : KT K H H') : ∀ {v : V} {d : PyData}, Td K H v d → Td K H' v d
  | _, _, .non => .non
  | _, _, .bl b => .bl b
  | _, _, .int i => .int i
  | _, _, .str x => .str x
  | _, _, .tup h a => .tup (k _ _ h) (TdAll.keep k a)
theorem TdAll.keep (k : KT K H H') : ∀ {v : List V} {d : List PyData}, TdAll K H v d → TdAll K H' v d
  | _, _, .nil => .nil
  | _, _, .cons h t => .cons (Td.keep k h) (TdAll.keep k t)
end
theorem TdAll.len : ∀ {v : List V} {d : List PyData}, TdAll K H v d → v.length = d.length
  | _, _, .nil => rfl
  | _, _, .cons _ t => congrArg (· + 1) (TdAll.len t)
theorem TdAll.get : ∀ {vs : List V} {ds : List PyData} {i : Nat} {d : PyData}, TdAll K H vs ds → ds[i]? = some d → ∃ v, vs[i]? = some v ∧ Td K H v d
  | _, _, _, _, .nil, e => by simp at e
  | _, _, 0, _, .cons h _, e => by
    simp at e
    subst e
    exact ⟨_, rfl, h⟩
  | _, _, i + 1, d, .cons _ t, e => by
    obtain ⟨v, h1, h2⟩ := TdAll.get (i := i) (d := d) t (by simpa using e)
    exact ⟨v, by simpa using h1, h2⟩
theorem TdAll.getV : ∀ {vs : List V} {ds : List PyData} {i : Nat} {v : V}, TdAll K H vs ds → vs[i]? = some v → ∃ d, ds[i]? = some d ∧ Td K H v d
  | _, _, _, _, .nil, e => by simp at e
  | _, _, 0, _, .cons h _, e => by
    simp at e
    subst e
    exact ⟨_, rfl, h⟩
  | _, _, i + 1, v, .cons _ t, e => by
    obtain ⟨d, h1, h2⟩ := TdAll.getV (i := i) (v := v) t (by simpa using e)
    exact ⟨d, by simpa using h1, h2⟩
theorem TdAll.app : ∀ {vs ws : List V} {ds es : List PyData}, TdAll K H vs ds → TdAll K H ws es → TdAll K H (vs ++ ws) (ds ++ es)
  | _, _, _, _, .nil, h => h
  | _, _, _, _, .cons h t, q => .cons h (TdAll.app t q)
theorem Td.tupE {v : V} {ds : List PyData} (h : Td K H v (.tuple ds)) : ∃ a xs, v = .ref a ∧ SqT K H a xs ∧ TdAll K H xs ds := by
  cases h with
  | tup h a => exact ⟨_, _, rfl, h, a⟩
theorem Td.intE {v : V} {i : Int} (h : Td K H v (.int i)) : v = .int i := by
  cases h
  rfl
theorem tdAll_ints : ∀ ns : List Int, TdAll K H (ns.map V.int) (ns.map PyData.int)
  | [] => .nil
  | n :: r => .cons (.int n) (tdAll_ints r)
theorem tdAll_intsE : ∀ {ns : List Int} {vs : List V}, TdAll K H vs (ns.map PyData.int) → vs = ns.map V.int
  | [], _, h => by
    cases h
    rfl
  | n :: r, _, h => by
    cases h with
    | cons h t =>
      cases h
      rw [tdAll_intsE t]
      rfl
/-- a list of values, each at its datum -/
theorem tdAll_iff {vs : List V} {ds : List PyData} (hl : vs.length = ds.length) (h : ∀ (i : Nat) (v : V) (d : PyData), vs[i]? = some v → ds[i]? = some d → Td K H v d) : TdAll K H vs ds := by
  induction vs generalizing ds with
  | nil =>
    cases ds with
    | nil => exact .nil
    | cons d r => simp at hl
  | cons v vs ih =>
    cases ds with
    | nil => simp at hl
    | cons d r =>
      refine .cons (h 0 v d rfl rfl) (ih (by simpa using hl) fun i v d h1 h2 => h (i + 1) v d (by simpa using h1) (by simpa using h2))
/-! ### the bag -/
structure Bag (H : Hp) (b g : Addr) : Prop where
  ne : b ≠ g
  hb : ∃ s c al, H b = some (.lst [.int s, .int c, .ref g, al]) ∧ (al = .non ∨ ∃ n, al = .int n)
  hg : ∃ gs : List Int, H g = some (.lst (gs.map V.int)) ∧ gs.length ≤ 63
theorem Bag.kt {b g : Addr} (B : Bag H b g) (f : Frm b g H H') : KT K H H' := fun a xs q => by
  obtain ⟨s, c, al, hb, _⟩ := B.hb
  obtain ⟨gs, hg, _⟩ := B.hg
  rcases q with (q | ⟨o, q⟩) | q
  · refine .inl (.inl (f _ _ q ?_ ?_))
    · intro e
      rw [e, hb] at q
      cases q
    · intro e
      rw [e, hg] at q
      cases q
  · refine .inl (.inr ⟨o, f _ _ q ?_ ?_⟩)
    · intro e
      rw [e, hb] at q
      cases q
    · intro e
      rw [e, hg] at q
      cases q
  · exact .inr q
theorem Bag.keep {b g : Addr} (B : Bag H b g) (s : Same H H') : Bag H' b g :=
  ⟨B.ne, let ⟨x, c, al, h, r⟩ := B.hb; ⟨x, c, al, s _ _ h, r⟩, let ⟨gs, h, r⟩ := B.hg; ⟨gs, s _ _ h, r⟩⟩
/-- another list stands -/
theorem Bag.other {b g a : Addr} {o : HO} (B : Bag H b g) (h : H a = some o) (h2 : ∀ xs, o ≠ .lst xs) : a ≠ b ∧ a ≠ g := by
  obtain ⟨s, c, al, hb, _⟩ := B.hb
  obtain ⟨gs, hg, _⟩ := B.hg
  constructor
  · intro e
    rw [e, hb] at h
    exact h2 _ (Option.some.inj h).symm
  · intro e
    rw [e, hg] at h
    exact h2 _ (Option.some.inj h).symm
theorem Bag.neNew {b g a : Addr} (B : Bag H b g) (h : H a = none) : a ≠ b ∧ a ≠ g := by
  obtain ⟨s, c, al, hb, _⟩ := B.hb
  obtain ⟨gs, hg, _⟩ := B.hg
  refine ⟨fun e => ?_, fun e => ?_⟩
  · rw [e, hb] at h
    cases h
  · rw [e, hg] at h
    cases h
end Tl
/-! the rules with the written part named (for blocks) -/
namespace Tl
open PySem PySem.Spec PyProof.Rows L2 RZ
section
variable {X : Cx} {K : PySem.W.Frag} (h : X.K = K)
include h
theorem k_ixL : IxR X (rIxL K) := by subst h; exact ix_list
theorem k_ixT : IxR X (rIxT K) := by subst h; exact ix_tup
def rLen (K : PySem.W.Frag) : List V → Hp → VK → Prop := fun xs H Q => ∃ p ys, xs = [.ref p] ∧ (SqL K H p ys ∨ SqT K H p ys) ∧ Q (.int ys.length) H
theorem k_len : CallR X (.builtin "len") (rLen K) := by subst h; exact call_len_seq
theorem k_sum (hc : X.calm = true) : CallR X (.builtin "sum") (rSum K) := by subst h; exact cr_sum hc
theorem k_any (hc : X.calm = true) : CallR X (.builtin "any") (rAny K) := by subst h; exact cr_any hc
theorem k_all (hc : X.calm = true) : CallR X (.builtin "all") (rAll K) := by subst h; exact cr_all hc
theorem k_eqD (hu : X.A.units + 64 < cLine) : OpR X (compareOp .Eq) (rEqD K) := by subst h; exact op_eqD hu
theorem k_neD (hu : X.A.units + 64 < cLine) : OpR X (compareOp .NotEq) (rNeD K) := by subst h; exact op_neD hu
theorem k_ltT (hu : X.A.units < cLine) : OpR X (compareOp .Lt) (rLtT K) := by subst h; exact op_ltT hu
theorem k_rep : OpR X (binaryOp .Mult) (rRepP K) := by subst h; exact op_repP
def rCatP (K : PySem.W.Frag) : R2 := fun x y H Q => ∃ a b xs ys, x = .ref a ∧ y = .ref b ∧ SqT K H a xs ∧ SqT K H b ys ∧ xs.length + ys.length ≤ sizeLine ∧ ∀ p H', Same H H' → SqT K H' p (xs ++ ys) → Q (.ref p) H'
theorem k_cat : OpR X (binaryOp .Add) (rCatP K) := by
  subst h
  intro pins s σ H x y v u Q I rx ry ⟨a, b, xs, ys, e1, e2, ha, hb, hz, q⟩
  refine op_catA pins s σ H x y v u Q I rx ry ⟨a, b, xs, ys, e1, e2, ha, hb, hz, fun z => ?_, fun _ z => ?_, fun _ _ p hp => q p _ (same_upd hp) (.inl (.inl upd_same))⟩
  · subst z
    exact q b H (Same.refl H) hb
  · subst z
    exact q a H (Same.refl H) (by rw [List.append_nil]; exact ha)
def rTupOf (K : PySem.W.Frag) : List V → Hp → VK → Prop := fun xs H Q => ∃ p ys, xs = [.ref p] ∧ SqL K H p ys ∧ ∀ l H', Same H H' → SqT K H' l ys → Q (.ref l) H'
theorem k_tupOf : CallR X (.type "tuple") (rTupOf K) := by
  subst h
  intro pins s σ H xs us Q I r ⟨p, ys, e, hs, q⟩
  exact call_tuple_of pins s σ H xs us Q I r ⟨p, ys, e, .inl ⟨hs, fun l hl => q l _ (same_upd hl) (.inl (.inl upd_same))⟩⟩
theorem k_isi : CallR X (.builtin "isinstance") (rIsi K) := by subst h; exact call_isi
theorem k_repr (hu : X.A.units + 64 < cLine) (hg : X.A.guards = some []) : CallR X (.builtin "repr") (rReprD K) := by subst h; exact cr_reprD hu hg
theorem k_maxDf (hc : X.calm = true) (hu : X.A.units + 64 < cLine) : CallRK X (.builtin "max") [Str.ofString "default"] (rMaxDf K) := by subst h; exact cr_maxDf hc hu
theorem k_slL : SlR X (rSlL K) := by subst h; exact sl_list
theorem k_getL : PGet X (gAtL K) := by subst h; exact get_listP
theorem k_tup {pos : Pos} {es : List Expr} {k : Nat} {t : TGs} {n : Nat} (hc : X.calm = true) (hp : PGs X es t) (hn : (assignEach es X.env).length = n := by rfl) (hst : (assignEach es X.env).findIdx? (·.1) = none := by rfl) : PG X (.Tuple es k pos) (gTup K n t) := by
  subst h
  exact pg_tup hc hp hn hst
theorem k_iL {tg l : Expr} {tl : TE} (hl : PE X l tl) : PI X tg l (iList K tl) := by subst h; exact pi_list hl
theorem k_iT {tg l : Expr} {tl : TE} (hl : PE X l tl) : PI X tg l (iTup K tl) := by subst h; exact pi_tup hl
theorem k_enum {e : Expr} {ta : TA} {p pos tpos : Pos} {elts : List Expr} {kk : Nat} (hg : Gl X "enumerate") (hm : X.mg "enumerate" = none) (ha : PA X [e] ta) (hs : starEach [e] X.env = [(false, eval e X.env)] := by rfl) :
    PI X (.Tuple elts kk tpos) (.Call (.Name "enumerate" p) [e] [] pos) (iEnumT K ta) := by subst h; exact pi_enumT hg hm ha hs
theorem k_zip {e e2 : Expr} {ta : TA} {p pos tpos : Pos} {elts : List Expr} {kk : Nat} (hg : Gl X "zip") (hm : X.mg "zip" = none) (ha : PA X [e, e2] ta)
    (hs : starEach [e, e2] X.env = (false, eval e X.env) :: starEach [e2] X.env := by rfl) (hpl : (backTo pos (starEach [e2] X.env)).any (·.1) = false := by rfl) :
    PI X (.Tuple elts kk tpos) (.Call (.Name "zip" p) [e, e2] [] pos) (iZipA K ta) := by subst h; exact pi_zipA hg hm ha hs hpl
theorem k_fld {e : Expr} {ta : TE} {f : Str} {pos : Pos} (he : PE X e ta) (hb : attributeBase e f X.env (eval e X.env) = eval e X.env) : PE X (.Attribute e f pos) (tFld K ta f) := by subst h; exact pe_fld he hb
end
end Tl
/-! every second item: a[::2], a[1::2]; list(a) -/
namespace Tl
open PySem PySem.Spec PyProof.Rows L2 RZ
def ev2 {T : Type} : List T → List T
  | [] => []
  | [a] => [a]
  | a :: _ :: r => a :: ev2 r
theorem ev2_at {T : Type} : ∀ (l : List T) (i : Nat), (ev2 l)[i]? = l[2 * i]?
  | [], i => by
    show ([] : List T)[i]? = _
    rw [List.getElem?_nil, List.getElem?_nil]
  | [a], 0 => rfl
  | [a], i + 1 => by
    rw [List.getElem?_eq_none (by show 1 ≤ i + 1; omega), List.getElem?_eq_none (by show 1 ≤ 2 * (i + 1); omega)]
  | a :: b :: r, 0 => rfl
  | a :: b :: r, i + 1 => by
    show (ev2 r)[i]? = _
    rw [ev2_at r i, show 2 * (i + 1) = 2 * i + 1 + 1 by omega, List.getElem?_cons_succ, List.getElem?_cons_succ]
theorem ev2_len {T : Type} : ∀ l : List T, (ev2 l).length = (l.length + 1) / 2
  | [] => by
    show 0 = (0 + 1) / 2
    decide
  | [a] => by
    show 1 = (1 + 1) / 2
    decide
  | a :: b :: r => by
    show (ev2 r).length + 1 = (r.length + 1 + 1 + 1) / 2
    rw [ev2_len r]
    omega
theorem pick2 {T : Type} : ∀ l : List T, ((List.range ((l.length + 1) / 2)).filterMap fun k => l[2 * k]?) = ev2 l
  | [] => by
    have e : (([] : List T).length + 1) / 2 = 0 := by
      show (0 + 1) / 2 = 0
      decide
    rw [e]
    rfl
  | [a] => by
    have e : ([a].length + 1) / 2 = 1 := by
      show (1 + 1) / 2 = 1
      decide
    rw [e]
    rfl
  | a :: b :: r => by
    have e : ((a :: b :: r).length + 1) / 2 = (r.length + 1) / 2 + 1 := by
      show (r.length + 1 + 1 + 1) / 2 = _
      omega
    rw [e, List.range_succ_eq_map, List.filterMap_cons, List.filterMap_map]
    show a :: _ = a :: ev2 r
    rw [← pick2 r]
    congr 1
theorem pick2_from {T : Type} (l : List T) (a : Nat) (ha : a ≤ l.length) : ((sliceRange (a : Int) (l.length : Int) 2).filterMap fun k => l[k]?) = ev2 (l.drop a) := by
  have c : (if (2 : Int) > 0 then (if (a : Int) < (l.length : Int) then ((l.length : Int) - a + 2 - 1) / 2 else 0) else (if (a : Int) > (l.length : Int) then ((a : Int) - l.length - 2 - 1) / (-2) else 0)).toNat = ((l.drop a).length + 1) / 2 := by
    rw [if_pos (by decide), List.length_drop]
    split <;> omega
  unfold sliceRange
  simp only []
  rw [c, List.filterMap_map, ← pick2 (l.drop a)]
  congr 1
  funext k
  show l[((a : Int) + 2 * (k : Int)).toNat]? = (l.drop a)[2 * k]?
  rw [List.getElem?_drop]
  congr 1
/-- a[::2] and a[1::2] -/
def rSlS (K : PySem.W.Frag) : V → Option Int → Hp → VK → Prop := fun x lo H Q => ∃ (p : Addr) (xs : List V) (j : Nat), x = .ref p ∧ SqL K H p xs ∧ (lo = none ∧ j = 0 ∨ lo = some 1 ∧ j = 1) ∧ 1 ≤ xs.length ∧ ∀ q, H q = none → Q (.ref q) (upd H q (.lst (ev2 (xs.drop j))))
def tSlS (K : PySem.W.Frag) (te : TE) (tl : TO) : TE := fun σ H Q => te σ H fun x H1 => tl σ H1 fun lo H2 => rSlS K x lo H2 Q
theorem ev2_vals {xs : List V} {us : List Value} (r : Vals xs us) : Vals (ev2 xs) (ev2 us) := by
  have g : ∀ (n : Nat) (xs : List V) (us : List Value), xs.length ≤ n → Vals xs us → Vals (ev2 xs) (ev2 us) := by
    intro n
    induction n with
    | zero =>
      intro xs us h r
      cases r with
      | nil => exact .nil
      | cons _ _ => simp at h
    | succ n ih =>
      intro xs us h r
      cases r with
      | nil => exact .nil
      | cons r1 t =>
        cases t with
        | nil => exact .cons r1 .nil
        | cons r2 t => exact .cons r1 (ih _ _ (by simp at h; omega) t)
  exact g _ _ _ (Nat.le_refl _) r
section
variable {X : Cx} {K : PySem.W.Frag} (hK : X.K = K)
include hK
theorem k_slS {e : Expr} {lo : Option Expr} {te : TE} {tl : TO} {kk : Nat} {p3 p2 pos : Pos} (ee : PE X e te) (el : PO X lo tl) : PE X (.Subscript e (.Slice lo none (some (.Constant (.int 2) kk p3)) p2) pos) (tSlS K te tl) := by
  subst hK
  constructor
  intro pins s σ H Q I want
  refine Subscript_ (thn (ee.run pins s σ H _ I want) fun v sa za => ?_)
  obtain ⟨x, Ha, Ia, rx, want⟩ := za
  refine wpAny_Slice (thn (el.run pins sa σ Ha _ Ia want) fun vl sb zb => ?_)
  obtain ⟨l, Hb, Ib, pl, want⟩ := zb
  rw [evalPart_none, evalPart_some]
  refine wpAny_pure ?_
  refine thn ((pe_int (X := X) (i := 2) (j := kk) (pos := p3)).run pins sb σ Hb (fun z Hz => z = .int 2 ∧ Hz = Hb) Ib ⟨rfl, rfl⟩) fun vs sc zc => ?_
  obtain ⟨z, Hc, Ic, rz, rfl, rfl⟩ := zc
  obtain ⟨tk, rfl⟩ := rz
  have Id : Inv X pins σ Hc { sc with heap := sc.heap.push { cls := .type "slice", data := .fields #[vl, .none, .int 2 tk] } } := Ic.kept (t' := sc.toks) fun b ob q => Heap.get?_push_of_some _ q
  obtain ⟨p, xs, j, rfl, hx, hj, h1, want⟩ := want
  cases rx
  obtain ⟨its, rv, ht, hz⟩ := Id.list hx
  have hlen := rv.length
  show wpAny (model X.prog X.w) X.A (subscriptTail e (.Slice lo none (some (.Constant (.int 2) kk p3)) p2) (.ref p) (.ref sc.heap.objs.size)) (EP X pins σ Q) X.xe { sc with heap := sc.heap.push { cls := .type "slice", data := .fields #[vl, .none, .int 2 tk] } }
  refine tail_any (ops := [.ref p, .ref sc.heap.objs.size]) ht.isList.typeIs slot_list_getitem.lookup ?_ (by with_unfolding_all rfl)
  refine wpAny_getItem_list_slice (st := some 2) ht.isList (Heap.IsSliceOf.new ..) pl .none (.int 2 tk) (by decide) ?_ (by rw [List.size_toArray] <;> omega)
  have b1 : (sliceBounds l none (some 2) its.length).1 = (j : Int) := by
    rcases hj with ⟨rfl, rfl⟩ | ⟨rfl, rfl⟩
    · rfl
    · show (if (2 : Int) > 0 then max 0 (min (if (1 : Int) < 0 then 1 + (its.length : Int) else 1) (its.length : Int)) else max (-1) (min (if (1 : Int) < 0 then 1 + (its.length : Int) else 1) ((its.length : Int) - 1))) = ((1 : Nat) : Int)
      rw [if_pos (by decide), if_neg (by decide)]
      omega
  have jl : j ≤ its.length := by rcases hj with ⟨_, rfl⟩ | ⟨_, rfl⟩ <;> omega
  have pk : slicePick its.toArray l none (some 2) = (ev2 (its.drop j)).toArray := by
    unfold slicePick
    rw [List.size_toArray, b1]
    show ((sliceRange (j : Int) (its.length : Int) 2).filterMap (its.toArray[·]?)).toArray = _
    rw [← pick2_from its j jl]
    congr 2
    funext k
    exact List.getElem?_toArray
  rw [pk]
  refine ⟨.ref _, _, Id.laid (t' := sc.toks) (o := .lst (ev2 (xs.drop j))) (fun b ob q => Heap.get?_push_of_some _ q) (Nat.le_refl _) ?_, rfl, want _ (Id.hok.fresh (Nat.le_refl _))⟩
  refine ⟨?_, ev2 (its.drop j), 0, ev2_vals (rv.drop j), Heap.get?_push_size _ rfl⟩
  rw [ev2_len, List.length_drop]
  omega
def rListOf (K : PySem.W.Frag) : List V → Hp → VK → Prop := fun xs H Q => ∃ p ys, xs = [.ref p] ∧ (SqL K H p ys ∨ SqT K H p ys) ∧ ∀ l, H l = none → Q (.ref l) (upd H l (.lst ys))
theorem k_listOf : CallR X (.type "list") (rListOf K) := by
  subst hK
  exact call_list_of
end
end Tl
/-! math.lcm; a walk over a list or a tuple, whichever it is -/
namespace Tl
open PySem PySem.Spec PyProof.Rows L2 RZ
def rLcm : List V → Hp → VK → Prop := fun vs H Q => ∃ a b : Nat, vs = [.int (a : Int), .int (b : Int)] ∧ a < 2 ^ 6000 ∧ b < 2 ^ 6000 ∧ Q (.int ((Nat.lcm a b : Nat) : Int)) H
section
variable {X : Cx}
theorem cr_lcm : CallR X (.builtin "math.lcm") rLcm := by
  intro pins s σ H vs us Q I r h
  obtain ⟨a, b, rfl, ha, hb, q⟩ := h
  obtain ⟨t, u, rfl⟩ := Vals.int2 r
  have e1 : (Nat.lcm 1 ((a : Int)).natAbs).lcm ((b : Int)).natAbs = Nat.lcm a b := by
    rw [PySem.W.mc_lcm_one, Int.natAbs_natCast, Int.natAbs_natCast]
  have e3 : ((1 : Nat)) ≤ 2 ^ 6000 := Nat.one_le_two_pow
  have e4 : ((1 : Nat)) < 2 ^ 6000 := Nat.one_lt_two_pow (by decide)
  have h1 : (max 1 ((a : Int)).natAbs).log2 ≤ 5999 := PySem.W.mg_log (by
    rw [Int.natAbs_natCast]
    show max 1 a < 2 ^ 6000
    generalize (2 : Nat) ^ 6000 = Z at ha e4
    omega)
  have h2 : (max ((a : Int)).natAbs ((b : Int)).natAbs).log2 ≤ 5999 := PySem.W.mg_log (by
    rw [Int.natAbs_natCast, Int.natAbs_natCast]
    show max a b < 2 ^ 6000
    generalize (2 : Nat) ^ 6000 = Z at ha hb
    omega)
  have h3 : Nat.lcm a b < 2 ^ 12000 := by
    refine Nat.lt_of_le_of_lt (PySem.W.mc_lcm_le a b) ?_
    rw [show (12000 : Nat) = 6000 + 6000 from rfl, Nat.pow_add]
    exact Nat.mul_lt_mul'' ha hb
  have hsz : ((((Nat.lcm 1 ((a : Int)).natAbs).lcm ((b : Int)).natAbs : Nat) : Int)).natAbs.log2 < bitsLine := by
    rw [e1, Int.natAbs_natCast]
    refine Nat.lt_of_le_of_lt (PySem.W.mg_log (k := 11999) h3) (by decide)
  refine call_function_meets PySem.W.MGF.kind_lcm PySem.W.MGF.plain_lcm PySem.W.MGF.entry_lcm (PySem.W.MGF.args_lcm _ _) (PySem.W.mg_run_lcm (a : Int) t (b : Int) u (by omega) (by omega) hsz).meets ?_
  rw [e1]
  exact ⟨.int _, H, I.tok _, ⟨_, rfl⟩, q⟩
end
theorem KT.updL {K : PySem.W.Frag} {H : Hp} {e : Addr} {xs ys : List V} (h : H e = some (.lst xs)) : KT K H (upd H e (.lst ys)) := fun a zs q => by
  rcases q with (q | ⟨o, q⟩) | q
  · exact .inl (.inl (by rw [upd_ne (ne_of q h (by intro z; cases z))]; exact q))
  · exact .inl (.inr ⟨o, by rw [upd_ne (ne_of q h (by intro z; cases z))]; exact q⟩)
  · exact .inr q
def iLT (K : PySem.W.Frag) (tl : TE) : TI := fun σ H R => tl σ H fun x H1 => ∃ a xs, x = .ref a ∧ (SqL K H1 a xs ∨ SqT K H1 a xs) ∧ ∀ (J : It) (G : Hp → Prop), Walk J xs.length G (YAt xs) → (∀ H', Same H1 H' → G H') → R J H1
theorem k_iLT {X : Cx} {K : PySem.W.Frag} (hK : X.K = K) {tg l : Expr} {tl : TE} (hl : PE X l tl) : PI X tg l (iLT K tl) := by
  subst hK
  refine ⟨fun pins s σ H R I h => ?_⟩
  refine thn (hl.run pins s σ H _ I h) fun v s1 ⟨x, H1, I1, r1, q1⟩ => ?_
  obtain ⟨a, xs, e, hq, q⟩ := q1
  subst e
  cases r1
  rcases hq with hq | hq
  · obtain ⟨its, rv, p, hz⟩ := I1.list hq
    refine wpAny_pyIter_list p.isList ?_
    refine ⟨s1.heap.objs.size, [s1.heap.objs.size], _, _, H1, rfl, I1.kept (t' := s1.toks) fun b o e => Heap.get?_push_of_some _ e, turn_list a _, ⟨_, Heap.get?_push_size _ rfl, rfl, rfl⟩, fun b hb => ?_, q _ _ walk_list fun H' s => s.seq hq⟩
    have e : b = s1.heap.objs.size := by simpa using hb
    subst e
    exact I1.fpOk (Nat.le_refl _) (I1.hok.fresh (Nat.le_refl _))
  · obtain ⟨its, rv, p, hz⟩ := I1.tuple hq
    refine wpAny_pyIter_tuple (show s1.heap.IsTuple a its.toArray from p) ?_
    refine ⟨s1.heap.objs.size, [s1.heap.objs.size], _, _, H1, rfl, I1.kept (t' := s1.toks) fun b o e => Heap.get?_push_of_some _ e, turn_tuple a _, ⟨_, Heap.get?_push_size _ rfl, rfl, rfl⟩, fun b hb => ?_, q _ _ walk_tup fun H' s => Same.kt s _ _ hq⟩
    have e : b = s1.heap.objs.size := by simpa using hb
    subst e
    exact I1.fpOk (Nat.le_refl _) (I1.hok.fresh (Nat.le_refl _))
/-- xs[i] of a list or a tuple, whichever it is -/
def rIxLT (K : PySem.W.Frag) : V → V → Hp → VK → Prop := fun x y H Q => ∃ (p : Addr) (xs : List V) (i : Int) (v : V), x = .ref p ∧ y = .int i ∧ (SqL K H p xs ∨ SqT K H p xs) ∧ atI xs i = some v ∧ Q v H
theorem k_ixLT {X : Cx} {K : PySem.W.Frag} (hK : X.K = K) : IxR X (rIxLT K) := by
  subst hK
  intro value slice pins s σ H x y v u Q I rx ry h hs
  obtain ⟨p, xs, j, z, e1, e2, hq, he, q⟩ := h
  rcases hq with hq | hq
  · exact ix_list value slice pins s σ H x y v u Q I rx ry ⟨p, xs, j, z, e1, e2, hq, he, q⟩ hs
  · exact ix_tup value slice pins s σ H x y v u Q I rx ry ⟨p, xs, j, z, e1, e2, hq, he, q⟩ hs
def iEnumLT (K : PySem.W.Frag) (ta : TA) : TI := fun σ H R => ta σ H fun vs H1 => ∃ a xs, vs = [.ref a] ∧ (SqL K H1 a xs ∨ SqT K H1 a xs) ∧ ∀ (J : It) (G : Hp → Prop), Walk J xs.length G (YPair (fun i => some (.int (i : Nat))) (fun i => xs[i]?)) → (∀ H', Same H1 H' → G H') → R J H1
theorem k_enumLT {X : Cx} {K : PySem.W.Frag} (hK : X.K = K) {e : Expr} {ta : TA} {p pos tpos : Pos} {elts : List Expr} {kk : Nat} (hg : Gl X "enumerate") (hm : X.mg "enumerate" = none) (ha : PA X [e] ta) (hs : starEach [e] X.env = [(false, eval e X.env)] := by rfl) :
    PI X (.Tuple elts kk tpos) (.Call (.Name "enumerate" p) [e] [] pos) (iEnumLT K ta) := by
  subst hK
  refine ⟨fun pins s σ H R I h => Call_ (ld_blt I hg hm boot_enumerate (PyProof.Rows.callWith_type1 (thn (ha.run pos pins s σ H _ I h) fun us s1 hq => ?_) hs rfl))⟩
  obtain ⟨vs, H1, I1, r1, a, xs, rfl, hT, q⟩ := hq
  rw [Vals.ref1 r1]
  rcases hT with hT | hT
  · obtain ⟨its, rv, p', hz⟩ := I1.list hT
    refine call_enumerate_list p'.isList fun h' he hit hsz hk => wpAny_pyIter_enum he ?_
    have I2 : Inv X pins σ H1 { s1 with heap := h' } := I1.kept (t' := s1.toks) hk
    refine ⟨s1.heap.objs.size + 1, [s1.heap.objs.size + 1, s1.heap.objs.size], _, _, H1, rfl, I2, turn_enum a (s1.heap.objs.size + 1) s1.heap.objs.size, ⟨⟨.none, he⟩, hit, Nat.succ_ne_self _⟩, fun b hb => ?_, q _ _ walk_enum fun H' s => s.seq hT⟩
    have e' : b = s1.heap.objs.size + 1 ∨ b = s1.heap.objs.size := by simpa using hb
    have hle : s1.heap.objs.size ≤ b := by
      rcases e' with z | z
      · rw [z]; exact Nat.le_add_right _ _
      · rw [z]; exact Nat.le_refl _
    exact I1.fpOk hle (I1.hok.fresh hle)
  · obtain ⟨its, rv, pt, hz⟩ := I1.tuple hT
    have hat : a < s1.heap.objs.size := by
      obtain ⟨o, ho, _⟩ := id pt
      exact Heap.lt_size ho
    refine enum_tup (show s1.heap.IsTuple a its.toArray from pt) fun h' he hit hk => wpAny_pyIter_enum he ?_
    have I2 : Inv X pins σ H1 { s1 with heap := h' } := I1.kept (t' := s1.toks) hk
    refine ⟨_, [s1.heap.objs.size + 1, s1.heap.objs.size], _, _, H1, rfl, I2, turn_enumT a (s1.heap.objs.size + 1) s1.heap.objs.size, ⟨⟨.none, he⟩, hit, Nat.succ_ne_self _, Nat.ne_of_gt (Nat.lt_succ_of_lt hat), Nat.ne_of_lt hat⟩, fun b hb => ?_, q _ _ walk_enumT fun H' s => Same.kt s _ _ hT⟩
    have hle : s1.heap.objs.size ≤ b := by
      rcases (show b = s1.heap.objs.size + 1 ∨ b = s1.heap.objs.size by simpa using hb) with z | z
      · rw [z]; exact Nat.le_succ _
      · rw [z]; exact Nat.le_refl _
    exact I1.fpOk hle (I1.hok.fresh hle)
/-! comprehensions whose items are told one by one -/
theorem lc_td {K : PySem.W.Frag} {J : It} {n : Nat} {G : Hp → Prop} {Y : Nat → Hp → V → Hp → Prop} (w : Walk J n G Y) {g : TG} {tt : TT} {te : TE} {vs : List Nat} {σ : L2.St} {H : Hp} {T : Addr} {Qd : Hp → Prop} (es : List PyData) (hl : es.length = n) (hn : n ≤ 3000) (hT : H T = none) (hG : ∀ H', Same H H' → G H')
    (hs : ∀ (i : Nat) (x : V) (e : PyData) (H2 H3 : Hp) (Qy : V → Hp → Prop) (N : Hp → Prop), es[i]? = some e → Same H H2 → Y i H2 x H3 → (∀ y H5, Same H2 H5 → Td K H5 y e → Qy y H5) → g x (wipe σ vs) H3 fun σ2 H4 => wipe σ2 vs = wipe σ vs ∧ tt σ2 H4 fun b H5 => if b = true then te σ2 H5 Qy else N H5)
    (hd : ∀ H2 ws, H2 T = some (.lst ws) → TdAll K H2 ws es → Same H H2 → Qd H2) :
    ∃ W : Nat → Nat → Hp → Prop, (∃ m, W 0 m (upd H T (.lst []))) ∧ ∀ i m H, W i m H →
      (J.stop i H ∧ Qd H) ∨ (J.go i H ∧ ∃ Nx : Hp → Prop, (∀ H', Nx H' → ∃ m', m' < m ∧ W (i + 1) m' H') ∧ ∀ x H', J.yld i H x H' → g x (wipe σ vs) H' fun σ2 H2 => wipe σ2 vs = wipe σ vs ∧ tt σ2 H2 fun b H3 =>
        if b = true then te σ2 H3 fun y H4 => ∃ acc, H4 T = some (.lst acc) ∧ acc.length < sizeLine ∧ Nx (upd H4 T (.lst (acc ++ [y]))) else Nx H3) := by
  refine lc_it w (fun i H2 => ∃ ws : List V, H2 T = some (.lst ws) ∧ TdAll K H2 ws (es.take i) ∧ Same H H2) ⟨[], upd_same, .nil, same_upd hT⟩ (fun i H2 _ h => hG _ h.choose_spec.2.2) ?_ ?_
  · rintro i x H2 H3 hi ⟨ws, h2, t2, s2⟩ y
    have he : es[i]? = some (es[i]'(by omega)) := List.getElem?_eq_getElem _
    refine hs i x _ H2 H3 _ _ he s2 y fun v H5 s5 tv => ?_
    have h5 := s5 _ _ h2
    have kT : KT K H5 (upd H5 T (.lst (ws ++ [v]))) := KT.updL h5
    refine ⟨ws, h5, ?_, ws ++ [v], upd_same, ?_, fun c o z => ?_⟩
    · rw [t2.len, List.length_take]
      have : (3000 : Nat) < sizeLine := by decide
      omega
    · rw [List.take_add_one, he]
      exact (t2.keep ((Same.kt s5).trans kT)).app (.cons (tv.keep kT) .nil)
    · rw [upd_ne (ne_of_none z hT)]
      exact s5 _ _ (s2 _ _ z)
  · rintro H2 ⟨ws, h2, t2, s2⟩
    rw [List.take_of_length_le (by omega)] at t2
    exact hd H2 ws h2 t2 s2
end Tl
namespace Tl
open PySem PySem.Spec PyProof.Rows L2 RZ
def topS (i : Nat) : Stmt := PySem.Challenge.pw_tellsless_k11_plans_judged.main.body.getD i (.Pass ⟨0, 0, 0, 0⟩)
abbrev s_BadHouse_init : Stmt := inClass (topS 3) 0
theorem sc_BadHouse_init : FnScope ["self", "place"] ["self", "place"] (defScope s_BadHouse_init) := ⟨rfl, rfl, rfl, by decide +kernel, rfl, by decide +kernel, by decide +kernel⟩
abbrev s_is_integral : Stmt := topS 7
theorem sc_is_integral : FnScope ["thing"] ["thing"] (defScope s_is_integral) := ⟨rfl, rfl, rfl, by decide +kernel, rfl, by decide +kernel, by decide +kernel⟩
abbrev s_is_number : Stmt := topS 8
theorem sc_is_number : FnScope ["thing", "least", "most"] ["thing", "least", "most"] (defScope s_is_number) := ⟨rfl, rfl, rfl, by decide +kernel, rfl, by decide +kernel, by decide +kernel⟩
abbrev s_is_fraction : Stmt := topS 9
theorem sc_is_fraction : FnScope ["thing", "top", "bottom"] ["thing"] (defScope s_is_fraction) := ⟨rfl, rfl, rfl, by decide +kernel, rfl, by decide +kernel, by decide +kernel⟩
abbrev s_is_chance : Stmt := topS 10
theorem sc_is_chance : FnScope ["thing"] ["thing"] (defScope s_is_chance) := ⟨rfl, rfl, rfl, by decide +kernel, rfl, by decide +kernel, by decide +kernel⟩
abbrev s_are_chances : Stmt := topS 11
theorem sc_are_chances : FnScope ["thing", "many", "chance"] ["thing", "many"] (defScope s_are_chances) := ⟨rfl, rfl, rfl, by decide +kernel, rfl, by decide +kernel, by decide +kernel⟩
abbrev s_reduced : Stmt := topS 12
theorem sc_reduced : FnScope ["top", "bottom", "common"] ["top", "bottom"] (defScope s_reduced) := ⟨rfl, rfl, rfl, by decide +kernel, rfl, by decide +kernel, by decide +kernel⟩
abbrev s_common_bottom : Stmt := topS 13
theorem sc_common_bottom : FnScope ["fractions", "bottom", "fraction"] ["fractions"] (defScope s_common_bottom) := ⟨rfl, rfl, rfl, by decide +kernel, rfl, by decide +kernel, by decide +kernel⟩
abbrev s_times_whole : Stmt := topS 14
theorem sc_times_whole : FnScope ["fraction", "whole"] ["fraction", "whole"] (defScope s_times_whole) := ⟨rfl, rfl, rfl, by decide +kernel, rfl, by decide +kernel, by decide +kernel⟩
abbrev s_total : Stmt := topS 15
theorem sc_total : FnScope ["fractions", "whole", "fraction"] ["fractions"] (defScope s_total) := ⟨rfl, rfl, rfl, by decide +kernel, rfl, by decide +kernel, by decide +kernel⟩
abbrev s_total_weights : Stmt := topS 16
theorem sc_total_weights : FnScope ["rows", "worlds", "weights", "world"] ["rows", "worlds"] (defScope s_total_weights) := ⟨rfl, rfl, rfl, by decide +kernel, rfl, by decide +kernel, by decide +kernel⟩
abbrev s_is_word : Stmt := topS 23
theorem sc_is_word : FnScope ["thing", "number"] ["thing"] (defScope s_is_word) := ⟨rfl, rfl, rfl, by decide +kernel, rfl, by decide +kernel, by decide +kernel⟩
abbrev s_is_answer : Stmt := topS 24
theorem sc_is_answer : FnScope ["thing", "worlds"] ["thing", "worlds"] (defScope s_is_answer) := ⟨rfl, rfl, rfl, by decide +kernel, rfl, by decide +kernel, by decide +kernel⟩
abbrev s_is_ascending : Stmt := topS 25
theorem sc_is_ascending : FnScope ["rows", "low", "high"] ["rows"] (defScope s_is_ascending) := ⟨rfl, rfl, rfl, by decide +kernel, rfl, by decide +kernel, by decide +kernel⟩
abbrev s_check_tree : Stmt := topS 26
theorem sc_check_tree : FnScope ["worlds", "tree"] ["worlds", "tree"] (defScope s_check_tree) := ⟨rfl, rfl, rfl, by decide +kernel, rfl, by decide +kernel, by decide +kernel⟩
abbrev s_check_node : Stmt := topS 27
theorem sc_check_node : FnScope ["node", "place", "ahead", "number", "question"] ["node", "place", "ahead"] (defScope s_check_node) := ⟨rfl, rfl, rfl, by decide +kernel, rfl, by decide +kernel, by decide +kernel⟩
abbrev s_check_question : Stmt := topS 28
theorem sc_check_question : FnScope ["question", "place", "ahead", "number", "answer"] ["question", "place", "ahead"] (defScope s_check_question) := ⟨rfl, rfl, rfl, by decide +kernel, rfl, by decide +kernel, by decide +kernel⟩
abbrev s_answers_in : Stmt := topS 29
theorem sc_answers_in : FnScope ["node", "many", "question", "answer"] ["node"] (defScope s_answers_in) := ⟨rfl, rfl, rfl, by decide +kernel, rfl, by decide +kernel, by decide +kernel⟩
abbrev s_House_init : Stmt := inClass (topS 31) 0
theorem sc_House_init : FnScope ["self", "worlds", "tree"] ["self", "worlds", "tree"] (defScope s_House_init) := ⟨rfl, rfl, rfl, by decide +kernel, rfl, by decide +kernel, by decide +kernel⟩
abbrev s_House_eq : Stmt := inClass (topS 31) 1
theorem sc_House_eq : FnScope ["self", "other"] ["self", "other"] (defScope s_House_eq) := ⟨rfl, rfl, rfl, by decide +kernel, rfl, by decide +kernel, by decide +kernel⟩
abbrev s_check_alike : Stmt := topS 32
theorem sc_check_alike : FnScope ["house", "other"] ["house", "other"] (defScope s_check_alike) := ⟨rfl, rfl, rfl, by decide +kernel, rfl, by decide +kernel, by decide +kernel⟩
abbrev s_is_wait : Stmt := topS 34
theorem sc_is_wait : FnScope ["thing", "waiting", "stand", "move", "question"] ["thing", "waiting", "stand"] (defScope s_is_wait) := ⟨rfl, rfl, rfl, by decide +kernel, rfl, by decide +kernel, by decide +kernel⟩
abbrev s_is_move : Stmt := topS 35
theorem sc_is_move : FnScope ["thing", "question", "stand", "word", "number", "behind", "move", "answer"] ["thing", "question", "stand"] (defScope s_is_move) := ⟨rfl, rfl, rfl, by decide +kernel, rfl, by decide +kernel, by decide +kernel⟩
abbrev s_is_plan : Stmt := topS 36
theorem sc_is_plan : FnScope ["house", "other", "thing"] ["house", "other", "thing"] (defScope s_is_plan) := ⟨rfl, rfl, rfl, by decide +kernel, rfl, by decide +kernel, by decide +kernel⟩
abbrev s_passing_wait : Stmt := topS 37
theorem sc_passing_wait : FnScope ["node", "place", "answer", "number", "question"] ["node"] (defScope s_passing_wait) := ⟨rfl, rfl, rfl, by decide +kernel, rfl, by decide +kernel, by decide +kernel⟩
abbrev s_passing : Stmt := topS 38
theorem sc_passing : FnScope ["house"] ["house"] (defScope s_passing) := ⟨rfl, rfl, rfl, by decide +kernel, rfl, by decide +kernel, by decide +kernel⟩
abbrev s_law_bag : Stmt := topS 40
theorem sc_law_bag : FnScope ["script", "seed", "cell", "great", "always"] ["script"] (defScope s_law_bag) := ⟨rfl, rfl, rfl, by decide +kernel, rfl, by decide +kernel, by decide +kernel⟩
abbrev s_law_pick : Stmt := topS 41
theorem sc_law_pick : FnScope ["bag", "many", "great", "digit", "number"] ["bag", "many"] (defScope s_law_pick) := ⟨rfl, rfl, rfl, by decide +kernel, rfl, by decide +kernel, by decide +kernel⟩
abbrev s_law_some : Stmt := topS 42
theorem sc_law_some : FnScope ["bag", "things"] ["bag", "things"] (defScope s_law_some) := ⟨rfl, rfl, rfl, by decide +kernel, rfl, by decide +kernel, by decide +kernel⟩
abbrev s_law_common : Stmt := topS 43
theorem sc_law_common : FnScope ["one", "other"] ["one", "other"] (defScope s_law_common) := ⟨rfl, rfl, rfl, by decide +kernel, rfl, by decide +kernel, by decide +kernel⟩
abbrev s_law_low : Stmt := topS 44
theorem sc_law_low : FnScope ["top", "bottom", "common"] ["top", "bottom"] (defScope s_law_low) := ⟨rfl, rfl, rfl, by decide +kernel, rfl, by decide +kernel, by decide +kernel⟩
abbrev s_law_times : Stmt := topS 45
theorem sc_law_times : FnScope ["one", "other"] ["one", "other"] (defScope s_law_times) := ⟨rfl, rfl, rfl, by decide +kernel, rfl, by decide +kernel, by decide +kernel⟩
abbrev s_law_shares : Stmt := topS 46
theorem sc_law_shares : FnScope ["bag", "many", "least", "parts", "k", "part"] ["bag", "many", "least"] (defScope s_law_shares) := ⟨rfl, rfl, rfl, by decide +kernel, rfl, by decide +kernel, by decide +kernel⟩
abbrev s_law_question : Stmt := topS 47
theorem sc_law_question : FnScope ["bag", "worlds", "ahead", "levels", "left", "many", "rows", "world", "found", "k", "word", "weights"] ["bag", "worlds", "ahead", "levels", "left"] (defScope s_law_question) := ⟨rfl, rfl, rfl, by decide +kernel, rfl, by decide +kernel, by decide +kernel⟩
abbrev s_law_node : Stmt := topS 48
theorem sc_law_node : FnScope ["bag", "worlds", "ahead", "levels", "left", "k"] ["bag", "worlds", "ahead", "levels", "left"] (defScope s_law_node) := ⟨rfl, rfl, rfl, by decide +kernel, rfl, by decide +kernel, by decide +kernel⟩
abbrev s_law_tree : Stmt := topS 49
theorem sc_law_tree : FnScope ["bag", "worlds", "levels", "answers", "ahead", "left", "some", "k"] ["bag", "worlds", "levels", "answers"] (defScope s_law_tree) := ⟨rfl, rfl, rfl, by decide +kernel, rfl, by decide +kernel, by decide +kernel⟩
abbrev s_law_deep : Stmt := topS 50
theorem sc_law_deep : FnScope ["thing", "turn"] [] (defScope s_law_deep) := ⟨rfl, rfl, rfl, by decide +kernel, rfl, by decide +kernel, by decide +kernel⟩
abbrev s_law_odd : Stmt := topS 51
theorem sc_law_odd : FnScope ["bag", "some"] ["bag"] (defScope s_law_odd) := ⟨rfl, rfl, rfl, by decide +kernel, rfl, by decide +kernel, by decide +kernel⟩
abbrev s_law_parts : Stmt := topS 52
theorem sc_law_parts : FnScope ["node", "place", "found", "k", "thing"] ["node", "place"] (defScope s_law_parts) := ⟨rfl, rfl, rfl, by decide +kernel, rfl, by decide +kernel, by decide +kernel⟩
abbrev s_law_put : Stmt := topS 53
theorem sc_law_put : FnScope ["thing", "place", "other"] ["thing", "place", "other"] (defScope s_law_put) := ⟨rfl, rfl, rfl, by decide +kernel, rfl, by decide +kernel, by decide +kernel⟩
abbrev s_law_spoilt : Stmt := topS 54
theorem sc_law_spoilt : FnScope ["bag", "thing", "place", "part", "way"] ["bag", "thing"] (defScope s_law_spoilt) := ⟨rfl, rfl, rfl, by decide +kernel, rfl, by decide +kernel, by decide +kernel⟩
abbrev s_law_wait : Stmt := topS 55
theorem sc_law_wait : FnScope ["bag", "here", "goal", "left", "question"] ["bag", "here", "goal", "left"] (defScope s_law_wait) := ⟨rfl, rfl, rfl, by decide +kernel, rfl, by decide +kernel, by decide +kernel⟩
abbrev s_law_move : Stmt := topS 56
theorem sc_law_move : FnScope ["bag", "here", "question", "left", "q", "word", "weights", "behind", "a"] ["bag", "here", "question", "left"] (defScope s_law_move) := ⟨rfl, rfl, rfl, by decide +kernel, rfl, by decide +kernel, by decide +kernel⟩
abbrev s_law_is_int : Stmt := topS 57
theorem sc_law_is_int : FnScope ["thing", "least", "most"] ["thing", "least", "most"] (defScope s_law_is_int) := ⟨rfl, rfl, rfl, by decide +kernel, rfl, by decide +kernel, by decide +kernel⟩
abbrev s_law_is_wait : Stmt := topS 58
theorem sc_law_is_wait : FnScope ["here", "goal", "thing", "k"] ["here", "goal", "thing"] (defScope s_law_is_wait) := ⟨rfl, rfl, rfl, by decide +kernel, rfl, by decide +kernel, by decide +kernel⟩
abbrev s_law_is_move : Stmt := topS 59
theorem sc_law_is_move : FnScope ["here", "question", "thing", "answers", "k"] ["here", "question", "thing"] (defScope s_law_is_move) := ⟨rfl, rfl, rfl, by decide +kernel, rfl, by decide +kernel, by decide +kernel⟩
abbrev s_law_reweighted : Stmt := topS 60
theorem sc_law_reweighted : FnScope ["bag", "worlds", "node", "ahead", "found", "question", "rows", "world", "answers", "k", "word", "weights", "behind", "there"] ["bag", "worlds", "node", "ahead"] (defScope s_law_reweighted) := ⟨rfl, rfl, rfl, by decide +kernel, rfl, by decide +kernel, by decide +kernel⟩
abbrev s_law_two : Stmt := topS 61
theorem sc_law_two : FnScope ["bag", "levels", "answers", "worlds"] ["bag", "levels", "answers"] (defScope s_law_two) := ⟨rfl, rfl, rfl, by decide +kernel, rfl, by decide +kernel, by decide +kernel⟩
abbrev s_law_flag : Stmt := topS 62
theorem sc_law_flag : FnScope ["told", "due"] ["told", "due"] (defScope s_law_flag) := ⟨rfl, rfl, rfl, by decide +kernel, rfl, by decide +kernel, by decide +kernel⟩
abbrev s_law_word : Stmt := topS 63
theorem sc_law_word : FnScope ["call", "word"] ["call"] (defScope s_law_word) := ⟨rfl, rfl, rfl, by decide +kernel, rfl, by decide +kernel, by decide +kernel⟩
abbrev s_law_edge : Stmt := topS 64
theorem sc_law_edge : FnScope ["bag", "here", "goal", "plan", "at"] ["bag", "here", "goal", "plan"] (defScope s_law_edge) := ⟨rfl, rfl, rfl, by decide +kernel, rfl, by decide +kernel, by decide +kernel⟩
abbrev s_law_move_edge : Stmt := topS 65
theorem sc_law_move_edge : FnScope ["bag", "here", "question", "move", "word", "number", "later", "behind", "some", "answers", "at", "inner"] ["bag", "here", "question", "move"] (defScope s_law_move_edge) := ⟨rfl, rfl, rfl, by decide +kernel, rfl, by decide +kernel, by decide +kernel⟩
abbrev s_law : Stmt := topS 66
theorem sc_law : FnScope ["script", "bag", "worlds", "one", "other", "house", "second", "turn", "plan", "more", "thing"] ["script"] (defScope s_law) := ⟨rfl, rfl, rfl, by decide +kernel, rfl, by decide +kernel, by decide +kernel⟩
end Tl
namespace Tl
open PySem PySem.Spec PyProof.Rows L2 RZ
/-- a def of the text as it stands behind the top -/
structure Dn (K : PySem.W.Frag) (mg : Str → Option Value) (x : Str) (st : Stmt) (ps : List Str) (f : Addr) (fd : FuncData) : Prop where
  F : Fun K x x st f fd
  b : Binds K fd ps []
  m : mg x = some (.ref f)
/-- the built-in names that the text uses -/
structure Blt (mg : Str → Option Value) : Prop where
  len : mg "len" = none
  int : mg "int" = none
  abs : mg "abs" = none
  sum : mg "sum" = none
  range : mg "range" = none
  repr : mg "repr" = none
  isinstance : mg "isinstance" = none
  any : mg "any" = none
  all : mg "all" = none
  tuple : mg "tuple" = none
  list : mg "list" = none
  zip : mg "zip" = none
  enumerate : mg "enumerate" = none
  max : mg "max" = none
  bool : mg "bool" = none
def spPick : Sp := fun vs H Q _ => ∃ (b g : Addr) (m : Int), vs = [.ref b, .int m] ∧ Bag H b g ∧ 0 < m ∧ m < 1000000 ∧
  ∀ (r : Int) (H' : Hp), 0 ≤ r → r < m → Bag H' b g → Frm b g H H' → Q (.int r) H'
theorem Bag.mk2 {H : Hp} {b g : Addr} {s c : Int} {al : V} {gs : List Int} (ne : b ≠ g) (hal : al = .non ∨ ∃ n, al = .int n) (h1 : H b = some (.lst [.int s, .int c, .ref g, al])) (h2 : H g = some (.lst (gs.map V.int))) (h3 : gs.length ≤ 63) : Bag H b g :=
  ⟨ne, ⟨s, c, al, h1, hal⟩, ⟨gs, h2, h3⟩⟩
section
variable {P : Program} {w : World} {K : PySem.W.Frag} {mg : Str → Option Value} {base : Heap}
theorem ok_law_pick {f : Addr} {fd : FuncData} (D : Dn K mg "_law_pick" s_law_pick ["bag", "many"] f fd) (B : Blt mg) : FnOk P w K mg base CX0 1 f fd ["bag", "many"] spPick := by
  refine D.F.ok sc_law_pick (fun vs H Q E h => ?_) (fun cdv A outer s H vs Q E hr h => ?_)
  · obtain ⟨b, g, m, rfl, _⟩ := h
    rfl
  obtain ⟨b, g, m, rfl, hB, hm0, hm1, q⟩ := h
  have nd := sc_law_pick.nd
  refine ⟨_, (pss_cons (ps_if (pt_cmpR op_notN (pe_ix (k_ixL (K := K) rfl) (pv 0) pe_int (fun _ _ => rfl)) pe_non (nomark _)) (pss_one (ps_ret (pe_op op_mod (pe_callTy call_int1 (by rfl) B.int (by decide +kernel) (pa_cons (pe_ix (k_ixL (K := K) rfl) (pv 0) pe_int (fun _ _ => rfl)) pa_nil)) (pv 1)))) pss_nil)
      (pss_cons (ps_asg (pe_op op_add (pe_ix (k_ixL (K := K) rfl) (pv 0) pe_int (fun _ _ => rfl)) pe_int) (pg_sub (pv 0) pe_int set_list))
      (pss_cons (ps_set (i := 2) nd rfl (.inl rfl) (pe_ix (k_ixL (K := K) rfl) (pv 0) pe_int (fun _ _ => rfl)))
      (pss_cons (ps_if (pt_cmpR op_gt (pe_callB (k_len (K := K) rfl) (by rfl) B.len PySem.boot_len (pa_cons (pv 2) pa_nil)) pe_int (nomark _)) (pss_cons (ps_set (i := 3) nd rfl (.inl rfl) (pe_op op_mod (pe_callTy call_int1 (by rfl) B.int (by decide +kernel) (pa_cons (pe_ix (k_ixL (K := K) rfl) (pv 2) pe_int (fun _ _ => rfl)) pa_nil)) (pv 1)))
      (pss_cons (ps_asg (pe_op op_fdivW (pe_callTy call_int1 (by rfl) B.int (by decide +kernel) (pa_cons (pe_ix (k_ixL (K := K) rfl) (pv 2) pe_int (fun _ _ => rfl)) pa_nil)) (pv 1)) (pg_sub (pv 2) pe_int set_list))
      (pss_cons (ps_if (pt_cmpR op_eq (pe_ix (k_ixL (K := K) rfl) (pv 2) pe_int (fun _ _ => rfl)) pe_int (nomark _)) (pss_one (ps_expr (pe_bm PySem.F.plainAttrs_list PySem.F.slot_list_pop PySem.F.type_list_pop mt_popAt (pv 2) (pa_cons pe_int pa_nil)))) pss_nil)
      (pss_one (ps_ret (pv 3)))))) pss_nil)
      (pss_cons (ps_set (i := 4) nd rfl (.inl rfl) (pe_op op_mod (pe_callTy call_int1 (by rfl) B.int (by decide +kernel) (pa_cons (pe_op op_mul (pe_op op_add (pe_ix (k_ixL (K := K) rfl) (pv 0) pe_int (fun _ _ => rfl)) (pe_op op_mul pe_int (pe_ix (k_ixL (K := K) rfl) (pv 0) pe_int (fun _ _ => rfl)))) pe_int) pa_nil)) pe_int))
      (pss_cons (ps_set (i := 4) nd rfl (.inl rfl) (pe_op op_mod (pe_callTy call_int1 (by rfl) B.int (by decide +kernel) (pa_cons (pe_op op_mul (pv 4) (pe_op op_add (pe_op op_fdivW (pv 4) pe_int) pe_int)) pa_nil)) pe_int))
      (pss_cons (ps_set (i := 4) nd rfl (.inl rfl) (pe_op op_mod (pe_callTy call_int1 (by rfl) B.int (by decide +kernel) (pa_cons (pe_op op_mul (pv 4) (pe_op op_add (pe_op op_fdivW (pv 4) pe_int) pe_int)) pa_nil)) pe_int))
      (pss_one (ps_ret (pe_op op_mod (pe_callTy call_int1 (by rfl) B.int (by decide +kernel) (pa_cons (pe_op op_fdivW (pv 4) pe_int) pa_nil)) (pv 1))))))))))), ?_⟩
  obtain ⟨s0, c0, al, hb, hal⟩ := hB.hb
  obtain ⟨gs, hg, hgl⟩ := hB.hg
  have hne := hB.ne
  refine ⟨_, rfl, b, _, 3, _, rfl, rfl, SqL.of hb, at_of (j := 3) rfl rfl, rfl, _, rfl, ?_⟩
  refine ite2 (fun c => ?_) (fun c => ?_)
  · -- always
    have c' : al ≠ .non := by simpa using c
    obtain ⟨n, rfl⟩ : ∃ n, al = .int n := by
      rcases hal with h | h
      · exact absurd h c'
      · exact h
    refine ⟨_, rfl, b, _, 3, _, rfl, rfl, SqL.of hb, at_of (j := 3) rfl rfl, .inl ⟨_, rfl, _, rfl, _, _, rfl, rfl, hm0, ?_⟩⟩
    exact q _ H (Int.emod_nonneg _ (by omega)) (Int.emod_lt_of_pos _ hm0) hB (Frm.refl _ _ _)
  -- bag[1] = bag[1] + 1
  refine ⟨_, rfl, b, _, 1, _, rfl, rfl, SqL.of hb, at_of (j := 1) rfl rfl, _, _, rfl, rfl, _, rfl, b, _, 1, 1, rfl, rfl, hb, rfl, ?_⟩
  have hb1 : (upd H b (.lst ([V.int s0, V.int c0, V.ref g, al].set 1 (V.int (c0 + 1))))) b = some (.lst [V.int s0, V.int (c0 + 1), V.ref g, al]) := upd_same
  have hg1 : (upd H b (.lst ([V.int s0, V.int c0, V.ref g, al].set 1 (V.int (c0 + 1))))) g = some (.lst (gs.map V.int)) := by
    rw [upd_ne hne.symm]
    exact hg
  generalize hH1 : upd H b (.lst ([V.int s0, V.int c0, V.ref g, al].set 1 (V.int (c0 + 1)))) = H1 at hb1 hg1
  have f1 : Frm b g H H1 := by
    rw [← hH1]
    exact Frm.updB
  clear hH1
  -- great = bag[2]
  refine ⟨_, rfl, b, _, 2, _, rfl, rfl, SqL.of hb1, at_of (j := 2) rfl rfl, ?_⟩
  refine ⟨_, rfl, g, _, rfl, .inl (SqL.of hg1), _, _, rfl, rfl, _, rfl, ?_⟩
  refine ite2 (fun c => ?_) (fun c => ?_)
  · -- a great one
    cases gs with
    | nil => simp at c
    | cons z zs =>
      have e0 : atI ((z :: zs).map V.int) 0 = some (V.int z) := at_of (j := 0) rfl rfl
      refine ⟨_, rfl, g, _, 0, _, rfl, rfl, SqL.of hg1, e0, .inl ⟨_, rfl, _, rfl, _, _, rfl, rfl, hm0, ?_⟩⟩
      have hm2 : m.natAbs < 2 ^ 20 := by omega
      refine ⟨_, rfl, g, _, 0, _, rfl, rfl, SqL.of hg1, e0, .inl ⟨_, rfl, _, rfl, _, _, rfl, rfl, wide_div hm0 hm2 (by decide) (by decide), _, rfl, g, _, 0, 0, rfl, rfl, hg1, by simp [ixN], ?_⟩⟩
      have hg2 : (upd H1 g (.lst (((z :: zs).map V.int).set 0 (V.int (z / m))))) g = some (.lst (((z / m) :: zs).map V.int)) := upd_same
      have hb2 : (upd H1 g (.lst (((z :: zs).map V.int).set 0 (V.int (z / m))))) b = some (.lst [V.int s0, V.int (c0 + 1), V.ref g, al]) := by
        rw [upd_ne hne]
        exact hb1
      generalize hH2 : upd H1 g (.lst (((z :: zs).map V.int).set 0 (V.int (z / m)))) = H2 at hg2 hb2
      have f2 : Frm b g H H2 := by
        rw [← hH2]
        exact f1.trans Frm.updG
      clear hH2
      have e1 : atI (((z / m) :: zs).map V.int) 0 = some (V.int (z / m)) := at_of (j := 0) rfl rfl
      refine ⟨_, rfl, g, _, 0, _, rfl, rfl, SqL.of hg2, e1, rfl, _, rfl, ?_⟩
      refine ite2 (fun c => ?_) (fun c => ?_)
      · refine ⟨_, rfl, .inl ⟨rfl, _, SqL.of hg2⟩, g, _, 0, 0, _, rfl, rfl, hg2, by decide, by decide, by simp [seqIndex?], rfl, ?_⟩
        have hg3 : (upd H2 g (.lst ((((z / m) :: zs).map V.int).eraseIdx 0))) g = some (.lst (zs.map V.int)) := upd_same
        refine ⟨_, rfl, q _ _ (Int.emod_nonneg _ (by omega)) (Int.emod_lt_of_pos _ hm0) (.mk2 hne hal ((upd_ne hne).trans hb2) hg3 (by simp at hgl; omega)) (f2.trans Frm.updG)⟩
      · exact ⟨_, rfl, q _ H2 (Int.emod_nonneg _ (by omega)) (Int.emod_lt_of_pos _ hm0) (.mk2 hne hal hb2 hg2 (by simpa using hgl)) f2⟩
  · have mod0 : ∀ i j : Int, 0 < j → 0 ≤ i % j ∧ i % j < j := fun i j h => ⟨Int.emod_nonneg _ (by omega), Int.emod_lt_of_pos _ h⟩
    refine ⟨_, rfl, b, _, 0, _, rfl, rfl, SqL.of hb1, at_of (j := 0) rfl rfl, _, rfl, b, _, 1, _, rfl, rfl, SqL.of hb1, at_of (j := 1) rfl rfl, _, _, rfl, rfl, .inl ⟨by decide, by decide⟩, _, _, rfl, rfl, _, _, rfl, rfl, .inr ⟨by decide, by decide⟩, .inl ⟨_, rfl, _, _, rfl, rfl, (by show (0 : Int) < 2147483647; decide), ?_⟩⟩
    obtain ⟨l1, u1⟩ := mod0 ((s0 + 7919 * (c0 + 1)) * 48271) 2147483647 (by decide)
    generalize (s0 + 7919 * (c0 + 1)) * 48271 % 2147483647 = n1 at l1 u1 ⊢
    refine ⟨_, rfl, _, rfl, _, _, rfl, rfl, wide_div (b := 40) (by decide) (by decide) (by decide) (by decide), _, _, rfl, rfl, _, _, rfl, rfl, .inl ⟨by omega, by omega⟩, .inl ⟨_, rfl, _, _, rfl, rfl, (by show (0 : Int) < 2147483647; decide), ?_⟩⟩
    obtain ⟨l2, u2⟩ := mod0 (n1 * (n1 / 1009 + 69621)) 2147483647 (by decide)
    generalize n1 * (n1 / 1009 + 69621) % 2147483647 = n2 at l2 u2 ⊢
    refine ⟨_, rfl, _, rfl, _, _, rfl, rfl, wide_div (b := 40) (by decide) (by decide) (by decide) (by decide), _, _, rfl, rfl, _, _, rfl, rfl, .inl ⟨by omega, by omega⟩, .inl ⟨_, rfl, _, _, rfl, rfl, (by show (0 : Int) < 2147483399; decide), ?_⟩⟩
    generalize n2 * (n2 / 2003 + 40692) % 2147483399 = n3
    refine ⟨_, rfl, _, _, rfl, rfl, wide_div (b := 40) (by decide) (by decide) (by decide) (by decide), .inl ⟨_, rfl, _, rfl, _, _, rfl, rfl, hm0, ?_⟩⟩
    exact q _ H1 (mod0 _ _ hm0).1 (mod0 _ _ hm0).2 (.mk2 hne hal hb1 hg1 hgl) f1
end
end Tl
namespace Tl
open PySem PySem.Spec PyProof.Rows L2 RZ
theorem int_at {ns : List Int} {i : Nat} {y : V} (h : (ns.map V.int)[i]? = some y) : ∃ z, ns[i]? = some z ∧ y = .int z := by
  rw [List.getElem?_map] at h
  cases e : ns[i]? with
  | none =>
    rw [e] at h
    cases h
  | some z =>
    rw [e] at h
    exact ⟨z, rfl, (Option.some.inj h).symm⟩
theorem cut_ints (ns : List Int) (lo hi : Option Int) : ∃ ms : List Int, cutV (ns.map V.int) lo hi = ms.map V.int ∧ ms.length ≤ ns.length := by
  unfold cutV
  refine ⟨(ns.drop (HT.sIx (ns.map V.int).length 0 lo)).take (HT.sIx (ns.map V.int).length (ns.map V.int).length hi - HT.sIx (ns.map V.int).length 0 lo), by rw [List.map_take, List.map_drop], ?_⟩
  rw [List.length_take, List.length_drop]
  omega
def spBag (K : PySem.W.Frag) : Sp := fun vs H Q _ => ∃ (a : Addr) (ns : List Int), vs = [.ref a] ∧ SqL K H a (ns.map V.int) ∧ ns.length ≤ 63 ∧
  ∀ (b g : Addr) (H' : Hp), Same H H' → Bag H' b g → H b = none → H g = none → Q (.ref b) H'
theorem small63 {n : Nat} (h : n ≤ 63) : n < sizeLine := small1000 (by omega)
section
variable {P : Program} {w : World} {K : PySem.W.Frag} {mg : Str → Option Value} {base : Heap}
theorem ok_law_bag {f : Addr} {fd : FuncData} (D : Dn K mg "_law_bag" s_law_bag ["script"] f fd) (B : Blt mg) : FnOk P w K mg base CX0 1 f fd ["script"] (spBag K) := by
  refine D.F.ok sc_law_bag (fun vs H Q E h => ?_) (fun cdv A outer s H vs Q E hr h => ?_)
  · obtain ⟨a, ns, rfl, _⟩ := h
    rfl
  obtain ⟨a, ns, rfl, hS, hn, q⟩ := h
  have nd := sc_law_bag.nd
  refine ⟨_, (pss_cons (ps_set (i := 1) nd rfl (.inl rfl) (pe_op op_add pe_int (pe_callB (k_len (K := K) rfl) (by rfl) B.len PySem.boot_len (pa_cons (pv 0) pa_nil))))
      (pss_cons (ps_for PassesOwn.never rfl (k_iL (K := K) rfl (pe_slice (k_slL (K := K) rfl) (pv 0) po_none (po_some pe_int))) (pg_name (i := 2) nd rfl (.inl rfl)) (pss_one (ps_set (i := 1) nd rfl (.inl rfl) (pe_op op_mod (pe_callTy call_int1 (by rfl) B.int (by decide +kernel) (pa_cons (pe_op op_add (pe_op op_add (pe_op op_mul (pv 1) pe_int) (pe_op op_mod (pe_callTy call_int1 (by rfl) B.int (by decide +kernel) (pa_cons (pv 2) pa_nil)) pe_int)) pe_int) pa_nil)) pe_int))))
      (pss_cons (ps_setLc (i := 3) (own := [("cell", 2)]) rfl nd rfl rfl (sw_true rfl rfl rfl (by decide +kernel)) (k_iL (K := K) rfl (pe_slice (k_slL (K := K) rfl) (pv 0) po_none (po_some pe_int))) (blkOk_by (own := [("cell", 2)]) (by kernel_rfl)) (fun _ _ _ _ _ => (pg_name (i := 2) nd rfl (.inl rfl))) (fun _ _ _ _ _ => pts_one (pt_cmpR op_ge (pe_callB call_abs (by rfl) B.abs (by decide +kernel) (pa_cons (pe_callTy call_int1 (by rfl) B.int (by decide +kernel) (pa_cons (pv 2) pa_nil)) pa_nil)) (pe_op op_pow pe_int pe_int) (nomark _))) (fun _ _ _ _ _ => (pe_callB call_abs (by rfl) B.abs (by decide +kernel) (pa_cons (pe_callTy call_int1 (by rfl) B.int (by decide +kernel) (pa_cons (pv 2) pa_nil)) pa_nil))))
      (pss_cons (ps_set (i := 4) nd rfl (.inl rfl) pe_non)
      (pss_cons (ps_if (PW.pt (pw_and (pt_cmpR op_lt (pe_callB (k_len (K := K) rfl) (by rfl) B.len PySem.boot_len (pa_cons (pv 0) pa_nil)) pe_int (nomark _)) (pw_and1 (pt_cmpR op_eq (pe_callB (k_len (K := K) rfl) (by rfl) B.len PySem.boot_len (pa_cons (pv 3) pa_nil)) pe_int (nomark _))))) (pss_one (ps_set (i := 4) nd rfl (.inl rfl) (pe_callB call_abs (by rfl) B.abs (by decide +kernel) (pa_cons (pe_callB (k_sum (K := K) rfl rfl) (by rfl) B.sum (by decide +kernel) (pa_cons (pe_lc (own := [("cell", 2)]) rfl nd (k_iL (K := K) rfl (pv 0)) (blkOk_by (own := [("cell", 2)]) (by kernel_rfl)) (fun _ _ _ _ _ => (pg_name (i := 2) nd rfl (.inl rfl))) (fun _ _ _ _ _ => pts_nil) (fun _ _ _ _ _ => (pe_callTy call_int1 (by rfl) B.int (by decide +kernel) (pa_cons (pv 2) pa_nil)))) pa_nil)) pa_nil)))) pss_nil)
      (pss_one (ps_ret (pe_lst (pa_cons (pv 1) (pa_cons pe_int (pa_cons (pv 3) (pa_cons (pv 4) pa_nil)))))))))))), ?_⟩
  obtain ⟨ms, em, hm⟩ := cut_ints ns none (some 63)
  -- seed = 29 + len(script)
  refine ⟨_, rfl, a, _, rfl, .inl hS, _, _, rfl, rfl, ?_⟩
  -- for cell in script[:63]
  refine ⟨_, rfl, _, rfl, a, _, rfl, hS, fun p hp => ?_⟩
  rw [em]
  have s1 : Same H (upd H p (.lst (ms.map V.int))) := same_upd hp
  refine ⟨p, rfl, ⟨_, SqL.of upd_same⟩, for_list (K := K) (a := p) (xs := ms.map V.int) (fun i σ H2 => ∃ (z : Int) (v : Option V), σ = [some (.ref a), some (.int z), v, none, none] ∧ H2 = upd H p (.lst (ms.map V.int))) ⟨_, none, rfl, rfl⟩ (fun i σ H2 _ h => ?_) ?_ ?_⟩
  · obtain ⟨_, _, _, rfl⟩ := h
    exact SqL.of upd_same
  · rintro i y σ H2 hi ⟨z, v, rfl, rfl⟩
    obtain ⟨n, _, rfl⟩ := int_at hi
    refine ⟨_, rfl, _, _, rfl, rfl, .inr ⟨by decide, by decide⟩, _, rfl, .inl ⟨_, rfl, _, _, rfl, rfl, (by show (0 : Int) < 1000003; decide), _, _, rfl, rfl, _, _, rfl, rfl, .inl ⟨_, rfl, _, _, rfl, rfl, (by show (0 : Int) < 2147483647; decide), ?_⟩⟩⟩
    exact ⟨_, _, rfl, rfl⟩
  rintro σ H2 ⟨z, v, rfl, rfl⟩
  -- great = [..]
  refine ⟨_, rfl, _, rfl, a, _, rfl, s1.seq hS, fun p2 hp2 => ?_⟩
  rw [em]
  have s2 : Same (upd H p (.lst (ms.map V.int))) (upd (upd H p (.lst (ms.map V.int))) p2 (.lst (ms.map V.int))) := same_upd hp2
  generalize hH2 : upd (upd H p (.lst (ms.map V.int))) p2 (.lst (ms.map V.int)) = H2 at s2
  have hp2' : H2 p2 = some (.lst (ms.map V.int)) := by
    rw [← hH2]
    exact upd_same
  have s12 : Same H H2 := s1.trans s2
  clear hH2 s2 s1 hp
  refine ⟨p2, rfl, ⟨_, SqL.of hp2'⟩, fun g hg => ?_⟩
  have sg : Same H2 (upd H2 g (.lst [])) := same_upd hg
  refine lc_list (K := K) (a := p2) (xs := ms.map V.int) (fun i H3 => ∃ gs : List Int, gs.length ≤ i ∧ H3 g = some (.lst (gs.map V.int)) ∧ Same H2 H3) ⟨[], Nat.le_refl _, upd_same, sg⟩ (fun i H3 _ h => ?_) ?_ ?_
  · obtain ⟨_, _, _, h⟩ := h
    exact h.seq (SqL.of hp2')
  · rintro i y H3 hi ⟨gs, hl, h3, s3⟩
    obtain ⟨n, hn', rfl⟩ := int_at hi
    have hi2 : i < ms.length := (List.getElem?_eq_some_iff.mp hn').1
    refine ⟨rfl, ?_⟩
    refine ⟨_, rfl, .inl ⟨_, rfl, _, rfl, _, _, rfl, rfl, ⟨by decide, by decide, by decide⟩, _, _, rfl, rfl, _, rfl, ?_⟩⟩
    refine ite2 (fun c => ?_) (fun c => ?_)
    · refine ⟨_, rfl, .inl ⟨_, rfl, _, rfl, _, h3, by rw [List.length_map]; exact small63 (by omega), ?_⟩⟩
      refine ⟨gs ++ [_], by rw [List.length_append]; exact Nat.add_le_add_right hl 1, by rw [List.map_append]; exact upd_same, fun c o e => ?_⟩
      rw [upd_ne (ne_of_none e hg)]
      exact s3 _ _ e
    · exact ⟨gs, Nat.le_succ_of_le hl, h3, s3⟩
  rintro H3 ⟨gs, hl, h3, s3⟩
  rw [List.length_map] at hl
  have s13 := s12.trans s3
  -- always
  have fin : ∀ (H4 : Hp) (al : V), Same H3 H4 → (al = .non ∨ ∃ n, al = .int n) → (∀ b, H4 b = none → Q (.ref b) (upd H4 b (.lst [.int z, .int 1, .ref g, al]))) := by
    intro H4 al s4 hal b hb
    have e4 := s4 _ _ h3
    have hbg : b ≠ g := fun e => by
      rw [e, e4] at hb
      cases hb
    have hn1 : H b = none := (s13.trans s4).free hb
    exact q b g _ ((s13.trans s4).trans (same_upd hb)) (.mk2 hbg hal upd_same ((upd_ne hbg.symm).trans e4) (by omega)) hn1 (s12.free hg)
  refine ⟨_, rfl, a, _, rfl, .inl (s13.seq hS), _, _, rfl, rfl, _, rfl, ?_⟩
  refine ite2 (fun c => ?_) (fun c => ?_)
  · refine ⟨_, rfl, g, _, rfl, .inl (SqL.of h3), rfl, _, rfl, ?_⟩
    refine ite2 (fun c => ?_) (fun c => ?_)
    · -- sum([int(cell) for cell in script])
      refine ⟨_, rfl, a, rfl, ⟨_, s13.seq hS⟩, fun l hl2 => ?_⟩
      refine lc_list (K := K) (a := a) (xs := ns.map V.int) (fun i H4 => H4 l = some (.lst ((ns.take i).map V.int)) ∧ Same H3 H4) ⟨upd_same, same_upd hl2⟩ (fun i H4 _ h => h.2.seq (s13.seq hS)) ?_ ?_
      · rintro i y H4 hi ⟨h4, s4⟩
        obtain ⟨n, hn', rfl⟩ := int_at hi
        have hi2 : i < ns.length := (List.getElem?_eq_some_iff.mp hn').1
        refine ⟨rfl, ?_⟩
        refine iteT (B := H4 l = some (.lst ((ns.take (i + 1)).map V.int)) ∧ Same H3 H4) ?_
        refine ⟨_, rfl, .inl ⟨_, rfl, _, h4, ?_, ?_, fun c o e => ?_⟩⟩
        · rw [List.length_map, List.length_take]
          exact small63 (by omega)
        · rw [upd_same, List.take_add_one, hn', List.map_append]
          rfl
        · rw [upd_ne (ne_of_none e hl2)]
          exact s4 _ _ e
      · rintro H4 ⟨h4, s4⟩
        refine ⟨l, _, rfl, SqL.of h4, _, rfl, ?_⟩
        refine ⟨_, rfl, _, rfl, _, rfl, (by show 4 ≤ sizeLine; decide), fun b hb => ?_⟩
        exact fin H4 _ s4 (.inr ⟨_, rfl⟩) b hb
    · exact ⟨_, rfl, _, rfl, _, rfl, (by show 4 ≤ sizeLine; decide), fun b hb => fin H3 _ (Same.refl _) (.inl rfl) b hb⟩
  · exact iteF ⟨_, rfl, _, rfl, _, rfl, (by show 4 ≤ sizeLine; decide), fun b hb => fin H3 _ (Same.refl _) (.inl rfl) b hb⟩
end
end Tl
namespace Tl
open PySem PySem.Spec PyProof.Rows L2 RZ
/-! ### fractions -/
def rD (q : Rat) : PyData := .tuple [.int q.num, .int (q.den : Int)]
theorem mkRat_parts (t : Int) (b : Nat) (h : 0 < b) : (mkRat t b).num = t / (Nat.gcd t.natAbs b : Nat) ∧ ((mkRat t b).den : Int) = (b : Int) / (Nat.gcd t.natAbs b : Nat) := by
  have hb : b ≠ 0 := by omega
  rw [mkRat, dif_neg hb, Rat.normalize_eq]
  exact ⟨rfl, rfl⟩
theorem mkRat_den_le (t : Int) (b : Nat) (h : 0 < b) : (mkRat t b).den ≤ b := by
  rw [Rat.den_mkRat, if_neg (by omega)]
  exact Nat.div_le_self _ _
theorem rat_mk (q : Rat) : mkRat q.num q.den = q := Rat.mkRat_self q
theorem td_rD {K : PySem.W.Frag} {H : Hp} {p : Addr} {t : Int} {b : Nat} (h : 0 < b) (hp : H p = some (.tup [.int (t / (Nat.gcd t.natAbs b : Nat)), .int ((b : Int) / (Nat.gcd t.natAbs b : Nat))])) : Td K H (.ref p) (rD (mkRat t b)) := by
  obtain ⟨e1, e2⟩ := mkRat_parts t b h
  unfold rD
  rw [e1, e2]
  exact .tup (.inl (.inl hp)) (.cons (.int _) (.cons (.int _) .nil))
theorem Td.rE {K : PySem.W.Frag} {H : Hp} {v : V} {q : Rat} (h : Td K H v (rD q)) : ∃ a, v = .ref a ∧ SqT K H a [.int q.num, .int (q.den : Int)] := by
  obtain ⟨a, xs, rfl, hs, ht⟩ := h.tupE
  cases ht with
  | cons h1 t =>
    cases t with
    | cons h2 t =>
      cases t
      cases h1
      cases h2
      exact ⟨a, rfl, hs⟩
def spCommon : Sp := fun vs H Q _ => ∃ a b : Int, vs = [.int a, .int b] ∧ 0 ≤ a ∧ 0 ≤ b ∧ Q (.int ((Nat.gcd a.toNat b.toNat : Nat) : Int)) H
def spLow (K : PySem.W.Frag) : Sp := fun vs H Q _ => ∃ (t : Int) (b : Nat), vs = [.int t, .int (b : Int)] ∧ 0 < b ∧ b < 2 ^ 4000 ∧ ∀ v H', Same H H' → Td K H' v (rD (mkRat t b)) → Q v H'
def spTimes (K : PySem.W.Frag) : Sp := fun vs H Q _ => ∃ (x y : V) (p q : Rat), vs = [x, y] ∧ Td K H x (rD p) ∧ Td K H y (rD q) ∧ p.den < 2 ^ 2000 ∧ q.den < 2 ^ 2000 ∧ p.num.natAbs < 2 ^ 2000 ∧ q.num.natAbs < 2 ^ 2000 ∧ ∀ v H', Same H H' → Td K H' v (rD (p * q)) → Q v H'
theorem gcd_step {a b : Int} (ha : 0 ≤ a) (hb : 0 < b) : Nat.gcd b.toNat (a % b).toNat = Nat.gcd a.toNat b.toNat := by
  rw [Int.toNat_emod ha (by omega), Nat.gcd_comm a.toNat b.toNat, Nat.gcd_rec b.toNat a.toNat, Nat.gcd_comm]
section
variable {P : Program} {w : World} {K : PySem.W.Frag} {mg : Str → Option Value} {base : Heap}
theorem ok_law_common {f : Addr} {fd : FuncData} (D : Dn K mg "_law_common" s_law_common ["one", "other"] f fd) (B : Blt mg) : FnOk P w K mg base CX0 1 f fd ["one", "other"] spCommon := by
  refine D.F.ok sc_law_common (fun vs H Q E h => ?_) (fun cdv A outer s H vs Q E hr h => ?_)
  · obtain ⟨a, b, rfl, _⟩ := h
    rfl
  obtain ⟨a, b, rfl, ha, hb, q⟩ := h
  have nd := sc_law_common.nd
  refine ⟨_, (pss_cons (ps_while PassesOwn.never (pt_cmpR op_ne (pv 1) pe_int (nomark _)) (pss_one (ps_par (i := 0) (j := 1) rfl nd rfl rfl (by decide) rfl rfl (pa_cons (pv 1) (pa_cons (pe_op op_mod (pv 0) (pv 1)) pa_nil)) (by rfl))))
      (pss_one (ps_ret (pv 0)))), ?_⟩
  refine while_by (fun σ H2 => H2 = H ∧ ∃ x y : Int, σ = [some (.int x), some (.int y)] ∧ 0 ≤ x ∧ 0 ≤ y ∧ Nat.gcd x.toNat y.toNat = Nat.gcd a.toNat b.toNat) (fun σ _ => match σ with | [_, some (.int y)] => y.toNat | _ => 0) ⟨rfl, a, b, rfl, ha, hb, rfl⟩ ?_ ?_
  · rintro σ H2 ⟨rfl, x, y, rfl, hx, hy, e⟩
    refine ⟨_, rfl, rfl, _, rfl, ?_⟩
    refine ite2 (fun c => ?_) (fun c => ?_)
    · have hy0 : y ≠ 0 := by
        intro z
        rw [z] at c
        simp at c
      have hy1 : 0 < y := by omega
      refine ⟨_, rfl, _, rfl, _, rfl, _, _, rfl, rfl, hy1, _, _, rfl, ?_⟩
      refine ⟨⟨rfl, y, x % y, rfl, hy, Int.emod_nonneg _ hy0, (gcd_step hx hy1).trans e⟩, ?_⟩
      have l := Int.emod_lt_of_pos x hy1
      have l0 := Int.emod_nonneg x hy0
      show (x % y).toNat < y.toNat
      omega
    · have hy0 : y = 0 := by
        by_cases z : y = 0
        · exact z
        · exact absurd (by simp [z]) c
      subst hy0
      refine ⟨_, rfl, ?_⟩
      have e3 : x.toNat.gcd (Int.toNat 0) = x.toNat := Nat.gcd_zero_right _
      have e4 : ((x.toNat : Nat) : Int) = x := by omega
      rw [← e, e3, e4] at q
      exact q
  · rintro σ H2 Q1 Q2 h ⟨x, hx, h1, k, hk, h2⟩
    exact ⟨x, hx, h1, k, hk, h _ _ h2⟩
theorem ok_law_low {f f1 : Addr} {fd fd1 : FuncData} (D : Dn K mg "_law_low" s_law_low ["top", "bottom"] f fd) (B : Blt mg) (D_law_common : Dn K mg "_law_common" s_law_common ["one", "other"] f1 fd1) : FnOk P w K mg base CX0 2 f fd ["top", "bottom"] (spLow K) := by
  have G_law_common : FnOk P w K mg base CX0 1 f1 fd1 ["one", "other"] spCommon := ok_law_common D_law_common B
  refine D.F.ok sc_law_low (fun vs H Q E h => ?_) (fun cdv A outer s H vs Q E hr h => ?_)
  · obtain ⟨a, b, rfl, _⟩ := h
    rfl
  obtain ⟨t, b, rfl, hb, hz, q⟩ := h
  have nd := sc_law_low.nd
  refine ⟨_, (pss_cons (ps_set (i := 2) nd rfl (.inl rfl) (pe_call G_law_common (hr.mono (by omega)) (by rfl) D_law_common.m D_law_common.F.kp D_law_common.b .nil pass0 (pa_cons (pe_callB call_abs (by rfl) B.abs (by decide +kernel) (pa_cons (pv 0) pa_nil)) (pa_cons (pv 1) pa_nil))))
      (pss_one (ps_ret (pe_tup (pa_cons (pe_op op_fdivW (pv 0) (pv 2)) (pa_cons (pe_op op_fdivW (pv 1) (pv 2)) pa_nil)))))), ?_⟩
  refine ⟨_, rfl, _, rfl, _, rfl, _, _, rfl, ?_, by omega, ?_⟩
  · split <;> omega
  have e1 : (if t < 0 then -t else t).toNat = t.natAbs := by split <;> omega
  have e2 : (b : Int).toNat = b := Int.toNat_natCast b
  rw [e1, e2]
  have hg0 : 0 < Nat.gcd t.natAbs b := Nat.gcd_pos_of_pos_right _ hb
  have hg1 : Nat.gcd t.natAbs b ≤ b := Nat.gcd_le_right _ hb
  have hg2 : ((Nat.gcd t.natAbs b : Nat) : Int).natAbs < 2 ^ 4000 := by
    rw [Int.natAbs_natCast]
    omega
  have dv : ∀ i : Int, CDivW i ((Nat.gcd t.natAbs b : Nat) : Int) := fun i => wide_div (b := 4000) (by omega) hg2 (by decide) (by decide)
  refine ⟨_, rfl, _, rfl, _, _, rfl, rfl, dv _, _, rfl, _, rfl, _, _, rfl, rfl, dv _, (by show 2 ≤ sizeLine; decide), fun p hp => ?_⟩
  exact q _ _ (same_upd hp) (td_rD hb upd_same)
theorem ok_law_times {f f1 f2 : Addr} {fd fd1 fd2 : FuncData} (D : Dn K mg "_law_times" s_law_times ["one", "other"] f fd) (B : Blt mg) (D_law_low : Dn K mg "_law_low" s_law_low ["top", "bottom"] f1 fd1) (D_law_common : Dn K mg "_law_common" s_law_common ["one", "other"] f2 fd2) : FnOk P w K mg base CX0 3 f fd ["one", "other"] (spTimes K) := by
  have G_law_low : FnOk P w K mg base CX0 2 f1 fd1 ["top", "bottom"] (spLow K) := ok_law_low D_law_low B D_law_common
  refine D.F.ok sc_law_times (fun vs H Q E h => ?_) (fun cdv A outer s H vs Q E hr h => ?_)
  · obtain ⟨x, y, p, q, rfl, _⟩ := h
    rfl
  obtain ⟨x, y, p, q, rfl, hx, hy, z1, z2, z3, z4, k⟩ := h
  have nd := sc_law_times.nd
  refine ⟨_, (pss_one (ps_ret (pe_call G_law_low (hr.mono (by omega)) (by rfl) D_law_low.m D_law_low.F.kp D_law_low.b .nil pass0 (pa_cons (pe_op op_mulW (pe_ix (k_ixT (K := K) rfl) (pv 0) pe_int (fun _ _ => rfl)) (pe_ix (k_ixT (K := K) rfl) (pv 1) pe_int (fun _ _ => rfl))) (pa_cons (pe_op op_mulW (pe_ix (k_ixT (K := K) rfl) (pv 0) pe_int (fun _ _ => rfl)) (pe_ix (k_ixT (K := K) rfl) (pv 1) pe_int (fun _ _ => rfl))) pa_nil))))), ?_⟩
  obtain ⟨a, rfl, ha⟩ := hx.rE
  obtain ⟨b, rfl, hb⟩ := hy.rE
  have i0 : atI [V.int p.num, .int (p.den : Int)] 0 = some (.int p.num) := at_of (j := 0) rfl rfl
  have i1 : atI [V.int p.num, .int (p.den : Int)] 1 = some (.int (p.den : Int)) := at_of (j := 1) rfl rfl
  have j0 : atI [V.int q.num, .int (q.den : Int)] 0 = some (.int q.num) := at_of (j := 0) rfl rfl
  have j1 : atI [V.int q.num, .int (q.den : Int)] 1 = some (.int (q.den : Int)) := at_of (j := 1) rfl rfl
  have hp0 : 0 < p.den := Nat.pos_of_ne_zero p.den_nz
  have hq0 : 0 < q.den := Nat.pos_of_ne_zero q.den_nz
  have c1 : CMulW p.num q.num := wide_mul z3 z4 (by decide) (by decide) (by decide)
  have c2 : CMulW (p.den : Int) (q.den : Int) := wide_mul (a := 2000) (b := 2000) (by rw [Int.natAbs_natCast]; exact z1) (by rw [Int.natAbs_natCast]; exact z2) (by decide) (by decide) (by decide)
  refine ⟨_, rfl, a, _, 0, _, rfl, rfl, ha, i0, _, rfl, b, _, 0, _, rfl, rfl, hb, j0, _, _, rfl, rfl, c1, _, rfl, a, _, 1, _, rfl, rfl, ha, i1, _, rfl, b, _, 1, _, rfl, rfl, hb, j1, _, _, rfl, rfl, c2, ?_⟩
  refine ⟨p.num * q.num, p.den * q.den, by rw [Int.natCast_mul]; rfl, Nat.mul_pos hp0 hq0, ?_, fun v H' s' hv => k v H' s' ?_⟩
  · rw [show (4000 : Nat) = 2000 + 2000 from rfl, Nat.pow_add]
    exact Nat.mul_lt_mul'' z1 z2
  · rw [← Rat.mkRat_mul_mkRat, rat_mk, rat_mk] at hv
    exact hv
end
end Tl
namespace Tl
open PySem PySem.Spec PyProof.Rows L2 RZ
theorem Frm.updN {b g p : Addr} {H H' : Hp} {o : HO} (f : Frm b g H H') (h : H p = none) : Frm b g H (upd H' p o) := fun a x e h1 h2 => by
  rw [upd_ne (ne_of_none e h)]
  exact f a x e h1 h2
theorem Bag.updN {b g p : Addr} {H : Hp} {o : HO} (B : Bag H b g) (h1 : p ≠ b) (h2 : p ≠ g) : Bag (upd H p o) b g := by
  obtain ⟨ne, ⟨s, c, al, h, r⟩, ⟨gs, h', r'⟩⟩ := B
  exact ⟨ne, ⟨s, c, al, by rw [upd_ne h1.symm]; exact h, r⟩, ⟨gs, by rw [upd_ne h2.symm]; exact h', r'⟩⟩
def nI (ps : List Nat) : List Int := ps.map fun (p : Nat) => (p : Int)
theorem nI_sum : ∀ ps : List Nat, (nI ps).sum = ((ps.sum : Nat) : Int)
  | [] => rfl
  | p :: r => by
    show ((p : Int)) + (nI r).sum = (((p + r.sum : Nat)) : Int)
    rw [nI_sum r]
    omega
/-- shares of a whole by small parts -/
def IsShares (m : Nat) (rs : List Rat) : Prop := ∃ ps : List Nat, ps.length = m ∧ 0 < ps.sum ∧ ps.sum ≤ 5 * m + 1 ∧ rs = ps.map fun (p : Nat) => mkRat (p : Int) ps.sum
theorem sum_le5 : ∀ ps : List Nat, (∀ p ∈ ps, p ≤ 4) → ps.sum ≤ 4 * ps.length
  | [], _ => Nat.le_refl _
  | p :: r, h => by
    have h1 := h p (List.mem_cons_self ..)
    have h2 := sum_le5 r fun x hx => h x (List.mem_cons_of_mem _ hx)
    show p + r.sum ≤ 4 * (r.length + 1)
    omega
theorem sum_bump : ∀ (ps : List Nat) (j : Nat) (v : Nat), ps[j]? = some v → (ps.set j (v + 1)).sum = ps.sum + 1
  | [], _, _, h => by simp at h
  | p :: r, 0, v, h => by
    have e : p = v := by simpa using h
    subst e
    show (p + 1) + r.sum = (p + r.sum) + 1
    omega
  | p :: r, j + 1, v, h => by
    have ih := sum_bump r j v (by simpa using h)
    show p + (r.set j (v + 1)).sum = (p + r.sum) + 1
    omega
def spShares (K : PySem.W.Frag) : Sp := fun vs H Q _ => ∃ (b g : Addr) (m : Nat) (l : Int), vs = [.ref b, .int (m : Int), .int l] ∧ Bag H b g ∧ 1 ≤ m ∧ m ≤ 12 ∧ 0 ≤ l ∧ l ≤ 1 ∧
  ∀ (r : Addr) (rs : List Rat) (us : List V) (H' : Hp), IsShares m rs → H' r = some (.lst us) → TdAll K H' us (rs.map rD) → H r = none → Bag H' b g → Frm b g H H' → Q (.ref r) H'
section
variable {P : Program} {w : World} {K : PySem.W.Frag} {mg : Str → Option Value} {base : Heap}
theorem ok_law_shares {f f1 f2 f3 : Addr} {fd fd1 fd2 fd3 : FuncData} (D : Dn K mg "_law_shares" s_law_shares ["bag", "many", "least"] f fd) (B : Blt mg) (D_law_low : Dn K mg "_law_low" s_law_low ["top", "bottom"] f1 fd1) (D_law_common : Dn K mg "_law_common" s_law_common ["one", "other"] f2 fd2)
    (D_law_pick : Dn K mg "_law_pick" s_law_pick ["bag", "many"] f3 fd3) : FnOk P w K mg base CX0 3 f fd ["bag", "many", "least"] (spShares K) := by
  have G_law_low : FnOk P w K mg base CX0 2 f1 fd1 ["top", "bottom"] (spLow K) := ok_law_low D_law_low B D_law_common
  have G_law_pick : FnOk P w K mg base CX0 1 f3 fd3 ["bag", "many"] spPick := ok_law_pick D_law_pick B
  refine D.F.ok sc_law_shares (fun vs H Q E h => ?_) (fun cdv A outer s H vs Q E hr h => ?_)
  · obtain ⟨b, g, m, l, rfl, _⟩ := h
    rfl
  obtain ⟨b, g, m, l, rfl, hB, hm1, hm2, hl0, hl1, q⟩ := h
  have nd := sc_law_shares.nd
  refine ⟨_, (pss_cons (ps_set (i := 3) nd rfl (.inr rfl) (pe_lc (own := [("k", 4)]) rfl nd (pi_range1 (by rfl) B.range (pa_cons (pv 1) pa_nil)) (blkOk_by (own := [("k", 4)]) (by kernel_rfl)) (fun _ _ _ _ _ => (pg_name (i := 4) nd rfl (.inl rfl))) (fun _ _ _ _ _ => pts_nil) (fun _ _ _ _ _ => (pe_op op_add (pv 2) (pe_call G_law_pick (hr.mono (by omega)) (by rfl) D_law_pick.m D_law_pick.F.kp D_law_pick.b .nil pass0 (pa_cons (pv 0) (pa_cons pe_int pa_nil)))))))
      (pss_cons (ps_augS (pv 3) (pe_call G_law_pick (hr.mono (by omega)) (by rfl) D_law_pick.m D_law_pick.F.kp D_law_pick.b .nil pass0 (pa_cons (pv 0) (pa_cons (pv 1) pa_nil))) (k_getL (K := K) rfl) pe_int ip_add set_list)
      (pss_one (ps_ret (pe_lc (own := [("part", 5)]) rfl nd (k_iL (K := K) rfl (pv 3)) (blkOk_by (own := [("part", 5)]) (by kernel_rfl)) (fun _ _ _ _ _ => (pg_name (i := 5) nd rfl (.inl rfl))) (fun _ _ _ _ _ => pts_nil) (fun _ _ _ _ _ => (pe_call G_law_low (hr.mono (by omega)) (by rfl) D_law_low.m D_law_low.F.kp D_law_low.b .nil pass0 (pa_cons (pv 5) (pa_cons (pe_callB (k_sum (K := K) rfl rfl) (by rfl) B.sum (by decide +kernel) (pa_cons (pv 3) pa_nil)) pa_nil))))))))), ?_⟩
  -- parts = [least + _law_pick(bag, 4) for k in range(many)]
  refine ⟨_, rfl, _, rfl, by omega, by omega, fun d hd => ?_⟩
  obtain ⟨db, dg⟩ := hB.neNew hd
  refine lc_range (lo := 0) (n := m) (fun i H3 => ∃ ps : List Nat, ps.length = i ∧ (∀ p ∈ ps, p ≤ 4) ∧ H3 d = some (.lst ((nI ps).map V.int)) ∧ Bag H3 b g ∧ Frm b g H H3) ⟨[], rfl, fun _ h => absurd h List.not_mem_nil, upd_same, hB.updN db dg, (Frm.refl b g H).updN hd⟩ ?_ ?_
  · rintro i H3 hi ⟨ps, hp1, hp2, h3, B3, F3⟩
    refine ⟨rfl, ?_⟩
    refine iteT (B := ∃ ps : List Nat, ps.length = i + 1 ∧ (∀ p ∈ ps, p ≤ 4) ∧ H3 d = some (.lst ((nI ps).map V.int)) ∧ Bag H3 b g ∧ Frm b g H H3) ?_
    refine ⟨_, rfl, _, rfl, b, g, 4, rfl, B3, by decide, by decide, fun r H4 r0 r1 B4 F4 => ⟨_, _, rfl, rfl, ?_⟩⟩
    have h4 := F4 d _ h3 db dg
    refine ⟨_, h4, by rw [List.length_map, nI, List.length_map]; exact small1000 (by omega), ps ++ [(l + r).toNat], by rw [List.length_append, hp1]; rfl, ?_, ?_, B4.updN db dg, (F3.trans F4).updN hd⟩
    · intro p hp
      rcases List.mem_append.mp hp with hp | hp
      · exact hp2 p hp
      · rw [List.mem_singleton.mp hp]
        omega
    · rw [upd_same, nI, nI, List.map_append, List.map_append]
      show some (HO.lst (_ ++ [V.int (l + r)])) = some (HO.lst (_ ++ [V.int (((l + r).toNat : Nat) : Int)]))
      rw [show (((l + r).toNat : Nat) : Int) = l + r by omega]
  rintro H3 ⟨ps, hp1, hp2, h3, B3, F3⟩
  -- parts[_law_pick(bag, many)] += 1
  refine ⟨_, rfl, _, rfl, _, rfl, b, g, (m : Int), rfl, B3, by omega, by omega, fun r H4 r0 r1 B4 F4 => ?_⟩
  have h4 := F4 d _ h3 db dg
  obtain ⟨j, ej⟩ : ∃ j : Nat, r = (j : Int) := ⟨r.toNat, by omega⟩
  have hj : j < ps.length := by omega
  have gj : ps[j]? = some ps[j] := List.getElem?_eq_getElem hj
  have gI : ((nI ps).map V.int)[j]? = some (.int ((ps[j] : Nat) : Int)) := by
    rw [List.getElem?_map, nI, List.getElem?_map, gj]
    rfl
  refine ⟨d, _, j, _, rfl, by rw [ej], SqL.of h4, gI, _, _, rfl, rfl, d, _, r, j, rfl, rfl, h4, ?_, ?_⟩
  · rw [List.length_map, nI, List.length_map]
    unfold ixN
    rw [if_pos r0, if_pos (by omega)]
    exact congrArg some (by omega)
  have h5 : (upd H4 d (.lst (((nI ps).map V.int).set j (.int (((ps[j] : Nat) : Int) + 1))))) d = some (.lst ((nI (ps.set j (ps[j] + 1))).map V.int)) := by
    rw [upd_same, nI, nI, List.map_set, List.map_set]
    rfl
  have B5 : Bag (upd H4 d (.lst (((nI ps).map V.int).set j (.int (((ps[j] : Nat) : Int) + 1))))) b g := B4.updN db dg
  have F5 : Frm b g H (upd H4 d (.lst (((nI ps).map V.int).set j (.int (((ps[j] : Nat) : Int) + 1))))) := (F3.trans F4).updN hd
  generalize upd H4 d (.lst (((nI ps).map V.int).set j (.int (((ps[j] : Nat) : Int) + 1)))) = H5 at h5 B5 F5
  have hsum := sum_bump ps j _ gj
  have hle := sum_le5 ps hp2
  have hlen : (ps.set j (ps[j] + 1)).length = m := by rw [List.length_set]; exact hp1
  generalize ps.set j (ps[j] + 1) = us at h5 hsum hlen
  -- return [_law_low(part, sum(parts)) for part in parts]
  have hs0 : 0 < us.sum := by omega
  have hs1 : us.sum ≤ 5 * m + 1 := by omega
  refine ⟨_, rfl, d, rfl, ⟨_, SqL.of h5⟩, fun e he => ?_⟩
  obtain ⟨eb, eg⟩ := B5.neNew he
  have heH : H e = none := by
    cases z : H e with
    | none => rfl
    | some o =>
      rw [F5 e o z eb eg] at he
      cases he
  have hl5 : ((nI us).map V.int).length = m := by rw [List.length_map, nI, List.length_map, hlen]
  refine lc_list (K := K) (a := d) (xs := (nI us).map V.int) (fun i H6 => ∃ ws : List V, H6 e = some (.lst ws) ∧ TdAll K H6 ws ((us.take i).map fun (p : Nat) => rD (mkRat (p : Int) us.sum)) ∧ Same H5 H6) ⟨[], upd_same, .nil, same_upd he⟩ (fun i H6 _ h => by obtain ⟨_, _, _, s6⟩ := h; exact s6.seq (SqL.of h5)) ?_ ?_
  · rintro i y H6 hi ⟨ws, h6, t6, s6⟩
    obtain ⟨z, hz, rfl⟩ := int_at hi
    obtain ⟨p, hp, rfl⟩ : ∃ p : Nat, us[i]? = some p ∧ z = (p : Int) := by
      rw [nI, List.getElem?_map] at hz
      cases q2 : us[i]? with
      | none =>
        rw [q2] at hz
        cases hz
      | some p =>
        rw [q2] at hz
        exact ⟨p, rfl, (Option.some.inj hz).symm⟩
    have hi2 : i < us.length := (List.getElem?_eq_some_iff.mp hp).1
    refine ⟨rfl, ?_⟩
    refine iteT (B := ∃ ws : List V, H6 e = some (.lst ws) ∧ TdAll K H6 ws ((us.take (i + 1)).map fun (p : Nat) => rD (mkRat (p : Int) us.sum)) ∧ Same H5 H6) ?_
    refine ⟨_, rfl, _, rfl, d, nI us, rfl, SqL.of (s6 _ _ h5), (p : Int), us.sum, by rw [nI_sum]; rfl, hs0, ?_, fun v H7 s7 hv => ?_⟩
    · exact Nat.lt_of_le_of_lt (Nat.le_trans hs1 (show 5 * m + 1 ≤ 2 ^ 10 by omega)) (Nat.pow_lt_pow_right (by decide) (by decide))
    · have h7 := s7 _ _ h6
      have kt7 : KT K H7 (upd H7 e (.lst (ws ++ [v]))) := KT.updL h7
      have kt : KT K H6 (upd H7 e (.lst (ws ++ [v]))) := (Same.kt s7).trans kt7
      refine ⟨ws, h7, ?_, ws ++ [v], upd_same, ?_, fun a o q => ?_⟩
      · rw [t6.len, List.length_map, List.length_take]
        exact small1000 (by omega)
      · rw [List.take_add_one, hp, List.map_append]
        exact (t6.keep kt).app (.cons (hv.keep kt7) .nil)
      · rw [upd_ne (ne_of_none q he)]
        exact s7 _ _ (s6 _ _ q)
  · rintro H6 ⟨ws, h6, t6, s6⟩
    rw [hl5, ← hlen, List.take_length] at t6
    have t7 : TdAll K H6 ws ((us.map fun (p : Nat) => mkRat (p : Int) us.sum).map rD) := by
      rw [List.map_map]
      exact t6
    exact q e _ ws H6 ⟨us, hlen, hs0, hs1, rfl⟩ h6 t7 heH (B5.keep s6) (F5.trans (Frm.of s6))
end
end Tl
/-! trees -/
namespace Tl
open PySem PySem.Spec PyProof.Rows L2 RZ
/-- nodes of at most n rounds: questions of answers (word, weights, node) -/
def Nd : Nat → Type
  | 0 => Unit
  | n + 1 => List (List (List Int × List Rat × Nd n))
abbrev An (n : Nat) : Type := List Int × List Rat × Nd n
abbrev Qn (n : Nat) : Type := List (An n)
def wdD (w : List Int) : PyData := .tuple (w.map .int)
def wsD (ws : List Rat) : PyData := .tuple (ws.map rD)
def ndD : (n : Nat) → Nd n → PyData
  | 0, _ => .tuple []
  | n + 1, qs => .tuple ((show List (Qn n) from qs).map fun q => .tuple (q.map fun a => .tuple [wdD a.1, wsD a.2.1, ndD n a.2.2]))
def anD (n : Nat) (a : An n) : PyData := .tuple [wdD a.1, wsD a.2.1, ndD n a.2.2]
def qnD (n : Nat) (q : Qn n) : PyData := .tuple (q.map (anD n))
theorem ndD_succ (n : Nat) (qs : List (Qn n)) : ndD (n + 1) qs = .tuple (qs.map (qnD n)) := rfl
/-- how many answers -/
def cnt : (n : Nat) → Nd n → Nat
  | 0, _ => 0
  | n + 1, qs => ((show List (Qn n) from qs).map fun q => (q.map fun a => 1 + cnt n a.2.2).sum).sum
def cntQ (n : Nat) (q : Qn n) : Nat := (q.map fun a => 1 + cnt n a.2.2).sum
theorem cnt_succ (n : Nat) (qs : List (Qn n)) : cnt (n + 1) qs = (qs.map (cntQ n)).sum := rfl
def emptyNd : (n : Nat) → Nd n
  | 0 => ()
  | _ + 1 => ([] : List _)
theorem ndD_empty (n : Nat) : ndD n (emptyNd n) = .tuple [] := by cases n <;> rfl
theorem cnt_empty (n : Nat) : cnt n (emptyNd n) = 0 := by cases n <;> rfl
/-! sums of fractions from the left -/
def fsum (l : List Rat) : Rat := l.foldl (· + ·) 0
theorem foldl_add (l : List Rat) : ∀ a : Rat, l.foldl (· + ·) a = a + fsum l := by
  induction l with
  | nil =>
    intro a
    exact (Rat.add_zero a).symm
  | cons x r ih =>
    intro a
    unfold fsum
    rw [List.foldl_cons, List.foldl_cons, ih, ih (0 + x), Rat.zero_add, Rat.add_assoc]
theorem fsum_nil : fsum [] = 0 := rfl
theorem fsum_cons (x : Rat) (r : List Rat) : fsum (x :: r) = x + fsum r := by
  unfold fsum
  rw [List.foldl_cons, foldl_add, Rat.zero_add]
  rfl
theorem fsum_snoc (l : List Rat) (x : Rat) : fsum (l ++ [x]) = fsum l + x := by
  unfold fsum
  rw [List.foldl_append]
  rfl
theorem fsum_mul (a : Rat) : ∀ l : List Rat, fsum (l.map fun x => a * x) = a * fsum l
  | [] => by
    rw [List.map_nil, fsum_nil, Rat.mul_zero]
  | x :: r => by
    rw [List.map_cons, fsum_cons, fsum_cons, fsum_mul a r, Rat.mul_add]
theorem mk_add (p q : Int) (s : Nat) (hs : 0 < s) : mkRat p s + mkRat q s = mkRat (p + q) s := by
  have h : s ≠ 0 := by omega
  rw [Rat.mkRat_add_mkRat _ _ h h, ← Int.add_mul, Rat.mkRat_mul_right h]
theorem fsum_mk (s : Nat) (hs : 0 < s) : ∀ ps : List Nat, fsum (ps.map fun (p : Nat) => mkRat (p : Int) s) = mkRat ((ps.sum : Nat) : Int) s
  | [] => by
    show (0 : Rat) = mkRat 0 s
    rw [Rat.zero_mkRat]
  | p :: r => by
    rw [List.map_cons, fsum_cons, fsum_mk s hs r, mk_add _ _ _ hs]
    congr 1
theorem mk_same (s : Nat) (hs : 0 < s) : mkRat (s : Int) s = 1 := by
  have h : s ≠ 0 := by omega
  have e := Rat.mkRat_mul_right (n := 1) (d := 1) h
  rw [Int.one_mul, Nat.one_mul] at e
  rw [e]
  rfl
theorem mk_nonneg (p s : Nat) (hs : 0 < s) : 0 ≤ mkRat (p : Int) s := by
  refine Rat.num_nonneg.mp ?_
  rw [(mkRat_parts (p : Int) s hs).1]
  exact Int.ediv_nonneg (by omega) (by omega)
theorem mk_le_one (p s : Nat) (hs : 0 < s) (h : p ≤ s) : mkRat (p : Int) s ≤ 1 := by
  refine (Rat.le_iff _ _).mpr ?_
  obtain ⟨e1, e2⟩ := mkRat_parts (p : Int) s hs
  rw [e2, e1]
  show _ / _ * 1 ≤ 1 * (_ / _)
  rw [Int.mul_one, Int.one_mul]
  exact Int.ediv_le_ediv (by have := Nat.gcd_pos_of_pos_right (p : Int).natAbs hs; omega) (by omega)
/-- all numbers up to 61 divide it -/
def LL : Nat := 591133442051411133755680800
theorem ll_dvd : ∀ s : Nat, 0 < s → s ≤ 61 → s ∣ LL := fun s h1 h2 => by
  have h : ∀ s : Fin 62, 0 < s.val → s.val ∣ LL := by decide +kernel
  exact h ⟨s, by omega⟩ h1
theorem ll_pos (e : Nat) : 0 < LL ^ e := Nat.pow_pos (by decide)
theorem ll_mono {e f : Nat} (h : e ≤ f) : LL ^ e ∣ LL ^ f := Nat.pow_dvd_pow LL h
theorem ll_le {e : Nat} : LL ^ e ≤ 2 ^ (89 * e) := by
  rw [Nat.pow_mul]
  exact Nat.pow_le_pow_left (by decide) e
theorem ll_small {e k : Nat} (h : 89 * e ≤ k) : LL ^ e ≤ 2 ^ k := Nat.le_trans ll_le (Nat.pow_le_pow_right (by decide) h)
/-- from NOUGHT to ONE, the bottom divides the e-th power -/
def Ch (e : Nat) (r : Rat) : Prop := 0 ≤ r ∧ r ≤ 1 ∧ r.den ∣ LL ^ e
theorem Ch.den {e : Nat} {r : Rat} (h : Ch e r) : r.den ≤ LL ^ e := Nat.le_of_dvd (ll_pos e) h.2.2
theorem Ch.num {e : Nat} {r : Rat} (h : Ch e r) : r.num.natAbs ≤ LL ^ e := by
  have d3 := h.den
  obtain ⟨h0, h1, h2⟩ := h
  have a := (Rat.le_iff r 1).mp h1
  have b := Rat.num_nonneg.mpr h0
  have c : (1 : Rat).num = 1 := rfl
  have d : (1 : Rat).den = 1 := rfl
  rw [c, d] at a
  omega
theorem Ch.mono {e f : Nat} {r : Rat} (h : Ch e r) (l : e ≤ f) : Ch f r := ⟨h.1, h.2.1, Nat.dvd_trans h.2.2 (ll_mono l)⟩
theorem mk_den_dvd {t : Int} {b : Nat} (h : 0 < b) : (mkRat t b).den ∣ b := by
  rw [Rat.den_mkRat, if_neg (by omega)]
  exact Nat.div_dvd_of_dvd (Nat.gcd_dvd_left _ _)
theorem mul_den_dvd (a b : Rat) : (a * b).den ∣ a.den * b.den := by
  have e : a * b = mkRat (a.num * b.num) (a.den * b.den) := by
    rw [← Rat.mkRat_mul_mkRat, rat_mk, rat_mk]
  rw [e]
  exact mk_den_dvd (Nat.mul_pos (Nat.pos_of_ne_zero a.den_nz) (Nat.pos_of_ne_zero b.den_nz))
theorem Ch.mul {e p s : Nat} {a : Rat} (h : Ch e a) (hs : 0 < s) (h21 : s ≤ 61) (hp : p ≤ s) : Ch (e + 1) (a * mkRat (p : Int) s) := by
  obtain ⟨h0, h1, h2⟩ := h
  have m0 := mk_nonneg p s hs
  have m1 := mk_le_one p s hs hp
  refine ⟨Rat.mul_nonneg h0 m0, ?_, Nat.dvd_trans (mul_den_dvd _ _) ?_⟩
  · have z := Rat.mul_le_mul_of_nonneg_left m1 h0
    rw [Rat.mul_one] at z
    exact Rat.le_trans z h1
  · rw [Nat.pow_succ]
    exact Nat.mul_dvd_mul h2 (Nat.dvd_trans (mk_den_dvd hs) (ll_dvd s hs h21))
theorem ch_zero {e : Nat} : Ch e 0 := ⟨by decide, by decide, Nat.one_dvd _⟩
theorem ch_one {e : Nat} : Ch e 1 := ⟨by decide, by decide, Nat.one_dvd _⟩
theorem ch_share {p s : Nat} (hs : 0 < s) (h21 : s ≤ 61) (hp : p ≤ s) : Ch 1 (mkRat (p : Int) s) := by
  have z := ch_one.mul (e := 0) hs h21 hp
  rw [Rat.one_mul] at z
  exact z
/-! ### right trees -/
def col {n : Nat} (q : Qn n) (j : Nat) : List Rat := q.map fun a => a.2.1.getD j 0
def WordOk (w : List Int) : Prop := w.length ≤ 8 ∧ ∀ x ∈ w, 0 ≤ x ∧ x ≤ 99
/-- one question right but for what is behind -/
structure QnOk (W : Nat) {n : Nat} (ahead : List Rat) (q : Qn n) : Prop where
  one : 1 ≤ q.length
  most : q.length ≤ 12
  words : ∀ a ∈ q, WordOk a.1
  asc : ∀ i (x y : An n), q[i]? = some x → q[i + 1]? = some y → HT.lexLt x.1 y.1 = true
  wide : ∀ a ∈ q, a.2.1.length = W
  chs : ∀ a ∈ q, ∀ r ∈ a.2.1, Ch 6 r
  whole : ∀ j, j < W → fsum (col q j) = ahead.getD j 0
def NdOk (W : Nat) : (n : Nat) → List Rat → Nd n → Prop
  | 0, _, _ => True
  | n + 1, ahead, qs => (show List (Qn n) from qs).length ≤ 5 ∧ ∀ q ∈ (show List (Qn n) from qs), QnOk W ahead q ∧ ∀ a ∈ q, NdOk W n a.2.1 a.2.2
theorem ndOk_empty (W n : Nat) (ws : List Rat) : NdOk W n ws (emptyNd n) := by
  cases n with
  | zero => trivial
  | succ n => exact ⟨Nat.zero_le _, fun q h => absurd h List.not_mem_nil⟩
end Tl
namespace Tl
open PySem PySem.Spec PyProof.Rows L2 RZ
/-- all but the lists at b, g, l stays -/
def Frl (b g l : Addr) (H H' : Hp) : Prop := ∀ a o, H a = some o → a ≠ b → a ≠ g → a ≠ l → H' a = some o
theorem Frl.refl (b g l : Addr) (H : Hp) : Frl b g l H H := fun _ _ h _ _ _ => h
theorem Frl.trans {b g l : Addr} {H1 H2 H3 : Hp} (x : Frl b g l H1 H2) (y : Frl b g l H2 H3) : Frl b g l H1 H3 := fun a o h h1 h2 h3 => y a o (x a o h h1 h2 h3) h1 h2 h3
theorem Frl.of {b g l : Addr} {H H' : Hp} (h : Same H H') : Frl b g l H H' := fun a o q _ _ _ => h a o q
theorem Frl.ofF {b g l : Addr} {H H' : Hp} (h : Frm b g H H') : Frl b g l H H' := fun a o q h1 h2 _ => h a o q h1 h2
theorem Frl.updL {b g l : Addr} {H : Hp} {o : HO} : Frl b g l H (upd H l o) := fun a x h _ _ h3 => by rw [upd_ne h3]; exact h
theorem Frl.updN {b g l p : Addr} {H H' : Hp} {o : HO} (f : Frl b g l H H') (h : H p = none) : Frl b g l H (upd H' p o) := fun a x e h1 h2 h3 => by
  rw [upd_ne (ne_of_none e h)]
  exact f a x e h1 h2 h3
/-- the bag and the list that tells how many answers are left -/
structure BagL (H : Hp) (b g l : Addr) (L : Int) : Prop where
  B : Bag H b g
  hl : H l = some (.lst [.int L])
  lb : l ≠ b
  lg : l ≠ g
theorem BagL.kt {K : PySem.W.Frag} {b g l : Addr} {L : Int} {H H' : Hp} (B : BagL H b g l L) (f : Frl b g l H H') : KT K H H' := fun a xs q => by
  have ne : ∀ {o : HO}, H a = some o → (∀ xs, o ≠ .lst xs) → a ≠ b ∧ a ≠ g ∧ a ≠ l := fun {o} e z => by
    obtain ⟨h1, h2⟩ := B.B.other e z
    exact ⟨h1, h2, fun y => by rw [y, B.hl] at e; exact z _ (Option.some.inj e).symm⟩
  rcases q with (q | ⟨o, q⟩) | q
  · obtain ⟨h1, h2, h3⟩ := ne q (fun xs z => by cases z)
    exact .inl (.inl (f _ _ q h1 h2 h3))
  · obtain ⟨h1, h2, h3⟩ := ne q (fun xs z => by cases z)
    exact .inl (.inr ⟨o, f _ _ q h1 h2 h3⟩)
  · exact .inr q
theorem BagL.keep {b g l : Addr} {L : Int} {H H' : Hp} (B : BagL H b g l L) (s : Same H H') : BagL H' b g l L := ⟨B.B.keep s, s _ _ B.hl, B.lb, B.lg⟩
theorem BagL.neNew {b g l p : Addr} {L : Int} {H : Hp} (B : BagL H b g l L) (h : H p = none) : p ≠ b ∧ p ≠ g ∧ p ≠ l := by
  obtain ⟨h1, h2⟩ := B.B.neNew h
  exact ⟨h1, h2, fun e => by rw [e, B.hl] at h; cases h⟩
theorem BagL.bag {b g l : Addr} {L : Int} {H H' : Hp} (B : BagL H b g l L) (B' : Bag H' b g) (f : Frm b g H H') : BagL H' b g l L := ⟨B', f _ _ B.hl B.lb B.lg, B.lb, B.lg⟩
theorem BagL.updN {b g l p : Addr} {L : Int} {H : Hp} {o : HO} (B : BagL H b g l L) (h1 : p ≠ b) (h2 : p ≠ g) (h3 : p ≠ l) : BagL (upd H p o) b g l L :=
  ⟨B.B.updN h1 h2, by rw [upd_ne h3.symm]; exact B.hl, B.lb, B.lg⟩
theorem BagL.updL {b g l : Addr} {L M : Int} {H : Hp} (B : BagL H b g l L) : BagL (upd H l (.lst [.int M])) b g l M :=
  ⟨B.B.updN B.lb B.lg, upd_same, B.lb, B.lg⟩
theorem Frl.none {b g l p : Addr} {H H' : Hp} (f : Frl b g l H H') (h : H' p = Option.none) (h1 : p ≠ b) (h2 : p ≠ g) (h3 : p ≠ l) : H p = Option.none := by
  cases e : H p with
  | none => rfl
  | some o =>
    rw [f p o e h1 h2 h3] at h
    cases h
def spSome : Sp := fun vs H Q _ => ∃ (b g t : Addr) (xs : List V), vs = [.ref b, .ref t] ∧ Bag H b g ∧ H t = some (.lst xs) ∧ t ≠ b ∧ t ≠ g ∧ 0 < xs.length ∧ xs.length ≤ 1000 ∧
  ∀ (i : Nat) (x : V) (H' : Hp), xs[i]? = some x → Bag H' b g → Frm b g H H' → Q x H'
section
variable {P : Program} {w : World} {K : PySem.W.Frag} {mg : Str → Option Value} {base : Heap}
theorem ok_law_some {f f3 : Addr} {fd fd3 : FuncData} (D : Dn K mg "_law_some" s_law_some ["bag", "things"] f fd) (B : Blt mg) (D_law_pick : Dn K mg "_law_pick" s_law_pick ["bag", "many"] f3 fd3) : FnOk P w K mg base CX0 2 f fd ["bag", "things"] spSome := by
  have G_law_pick : FnOk P w K mg base CX0 1 f3 fd3 ["bag", "many"] spPick := ok_law_pick D_law_pick B
  refine D.F.ok sc_law_some (fun vs H Q E h => ?_) (fun cdv A outer s H vs Q E hr h => ?_)
  · obtain ⟨b, g, t, xs, rfl, _⟩ := h
    rfl
  obtain ⟨b, g, t, xs, rfl, hB, ht, tb, tg, h1, h2, q⟩ := h
  have nd := sc_law_some.nd
  refine ⟨_, (pss_one (ps_ret (pe_ix (k_ixL (K := K) rfl) (pv 1) (pe_call G_law_pick (hr.mono (by omega)) (by rfl) D_law_pick.m D_law_pick.F.kp D_law_pick.b .nil pass0 (pa_cons (pv 0) (pa_cons (pe_callB (k_len (K := K) rfl) (by rfl) B.len PySem.boot_len (pa_cons (pv 1) pa_nil)) pa_nil))) (fun _ _ => rfl)))), ?_⟩
  refine ⟨_, rfl, _, rfl, _, rfl, t, _, rfl, .inl (SqL.of ht), b, g, _, rfl, hB, by omega, by omega, fun r H' r0 r1 B' F' => ?_⟩
  obtain ⟨j, ej⟩ : ∃ j : Nat, r = (j : Int) := ⟨r.toNat, by omega⟩
  have hj : j < xs.length := by omega
  have gj : xs[j]? = some xs[j] := List.getElem?_eq_getElem hj
  exact ⟨t, xs, r, xs[j], rfl, rfl, SqL.of (F' _ _ ht tb tg), at_of (j := j) ej gj, q j _ H' gj B' F'⟩
end
/-! ### questions and nodes that the law draws -/
/-- sharper weights -/
def Sharp {n : Nat} (q : Qn n) : Prop := ∀ a ∈ q, ∀ r ∈ a.2.1, Ch 5 r
def QnG (W : Nat) {n : Nat} (ahead : List Rat) (q : Qn n) : Prop := QnOk W ahead q ∧ Sharp q
def NdG (W : Nat) : (n : Nat) → List Rat → Nd n → Prop
  | 0, _, _ => True
  | n + 1, ahead, qs => (show List (Qn n) from qs).length ≤ 5 ∧ ∀ q ∈ (show List (Qn n) from qs), QnG W ahead q ∧ ∀ a ∈ q, NdG W n a.2.1 a.2.2
theorem ndG_empty (W n : Nat) (ws : List Rat) : NdG W n ws (emptyNd n) := by
  cases n with
  | zero => trivial
  | succ n => exact ⟨Nat.zero_le _, fun q h => absurd h List.not_mem_nil⟩
theorem NdG.ok : ∀ {W n : Nat} {ahead : List Rat} {t : Nd n}, NdG W n ahead t → NdOk W n ahead t
  | _, 0, _, _, _ => trivial
  | _, _ + 1, _, _, h => ⟨h.1, fun q hq => ⟨(h.2 q hq).1.1, fun a ha => NdG.ok ((h.2 q hq).2 a ha)⟩⟩
def Few {n : Nat} (q : Qn n) : Prop := q.length ≤ 3 ∧ Sharp q
/-- right nodes of questions of at most three answers -/
def NdF (W : Nat) : (n : Nat) → List Rat → Nd n → Prop
  | 0, _, _ => True
  | n + 1, ahead, qs => (show List (Qn n) from qs).length ≤ 5 ∧ ∀ q ∈ (show List (Qn n) from qs), (QnOk W ahead q ∧ Few q) ∧ ∀ a ∈ q, NdF W n a.2.1 a.2.2
theorem ndF_empty (W n : Nat) (ws : List Rat) : NdF W n ws (emptyNd n) := by
  cases n with
  | zero => trivial
  | succ n => exact ⟨Nat.zero_le _, fun q h => absurd h List.not_mem_nil⟩
theorem NdF.ok : ∀ {W n : Nat} {ahead : List Rat} {t : Nd n}, NdF W n ahead t → NdOk W n ahead t
  | _, 0, _, _, _ => trivial
  | _, _ + 1, _, _, h => ⟨h.1, fun q hq => ⟨(h.2 q hq).1.1, fun a ha => NdF.ok ((h.2 q hq).2 a ha)⟩⟩
theorem NdF.g : ∀ {W n : Nat} {ahead : List Rat} {t : Nd n}, NdF W n ahead t → NdG W n ahead t
  | _, 0, _, _, _ => trivial
  | _, _ + 1, _, _, h => ⟨h.1, fun q hq => ⟨⟨(h.2 q hq).1.1, (h.2 q hq).1.2.2⟩, fun a ha => NdF.g ((h.2 q hq).2 a ha)⟩⟩
def lowL (n : Nat) : Int := -(3 * (n : Int) + 2)
def spQ (K : PySem.W.Frag) : Nat → Sp
  | 0 => fun _ _ _ _ => False
  | n + 1 => fun vs H Q _ => ∃ (b g l : Addr) (W e : Nat) (av : V) (ahead : List Rat) (L : Int), vs = [.ref b, .int (W : Int), av, .int ((n + 1 : Nat) : Int), .ref l] ∧ BagL H b g l L ∧ Td K H av (wsD ahead) ∧
      ahead.length = W ∧ (∀ r ∈ ahead, Ch e r) ∧ e + (n + 1) ≤ 5 ∧ 1 ≤ W ∧ W ≤ 5 ∧
      ∀ (v : V) (q : Qn n) (L' : Int) (H' : Hp), Td K H' v (qnD n q) → (QnOk W ahead q ∧ Few q) → (∀ a ∈ q, NdF W n a.2.1 a.2.2) → ((cntQ n q : Nat) : Int) + L' = L → (L - 3 ≤ L' ∨ lowL n ≤ L') → BagL H' b g l L' → Frl b g l H H' → Q v H'
def spN (K : PySem.W.Frag) (n : Nat) : Sp := fun vs H Q _ => ∃ (b g l : Addr) (W e : Nat) (av : V) (ahead : List Rat) (L : Int), vs = [.ref b, .int (W : Int), av, .int (n : Int), .ref l] ∧ BagL H b g l L ∧ Td K H av (wsD ahead) ∧
      ahead.length = W ∧ (∀ r ∈ ahead, Ch e r) ∧ e + n ≤ 5 ∧ 1 ≤ W ∧ W ≤ 5 ∧
      ∀ (v : V) (t : Nd n) (L' : Int) (H' : Hp), Td K H' v (ndD n t) → NdF W n ahead t → ((cnt n t : Nat) : Int) + L' = L → (L ≤ L' ∨ lowL n ≤ L') → BagL H' b g l L' → Frl b g l H H' → Q v H'
/-- lists of fractions, told by their places, away from Z -/
def RowsAt (K : PySem.W.Frag) (b g l : Addr) (Z : Addr → Prop) (H : Hp) (R : Addr) (ds : List (List Rat)) : Prop := R ≠ b ∧ R ≠ g ∧ R ≠ l ∧ ¬ Z R ∧ ∃ rs : List Addr, H R = some (.lst (rs.map V.ref)) ∧ rs.length = ds.length ∧
  ∀ (i : Nat) (r : Addr) (d : List Rat), rs[i]? = some r → ds[i]? = some d → (r ≠ R ∧ ¬ Z r) ∧ r ≠ b ∧ r ≠ g ∧ r ≠ l ∧ ∃ us, H r = some (.lst us) ∧ TdAll K H us (d.map rD)
theorem RowsAt.keep {K : PySem.W.Frag} {b g l R : Addr} {Z : Addr → Prop} {H H' : Hp} {ds : List (List Rat)} (h : RowsAt K b g l Z H R ds) (k : KT K H H') (f : Frl b g l H H') : RowsAt K b g l Z H' R ds := by
  obtain ⟨n1, n2, n3, n4, rs, h1, h2, h3⟩ := h
  refine ⟨n1, n2, n3, n4, rs, f _ _ h1 n1 n2 n3, h2, fun i r d e1 e2 => ?_⟩
  obtain ⟨m0, m1, m2, m3, us, u1, u2⟩ := h3 i r d e1 e2
  exact ⟨m0, m1, m2, m3, us, f _ _ u1 m1 m2 m3, u2.keep k⟩
theorem RowsAt.avoid {K : PySem.W.Frag} {b g l R φ : Addr} {Z : Addr → Prop} {H : Hp} {ds : List (List Rat)} (h : RowsAt K b g l Z H R ds) (n : H φ = none) : RowsAt K b g l (fun x => x = φ) H R ds := by
  obtain ⟨n1, n2, n3, _, rs, h1, h2, h3⟩ := h
  refine ⟨n1, n2, n3, ne_of_none h1 n, rs, h1, h2, fun i r d e1 e2 => ?_⟩
  obtain ⟨m0, m1, m2, m3, us, u1, u2⟩ := h3 i r d e1 e2
  exact ⟨⟨m0.1, ne_of_none u1 n⟩, m1, m2, m3, us, u1, u2⟩
end Tl
namespace Tl
open PySem PySem.Spec PyProof.Rows L2 RZ
def cntB (n : Nat) (q : Qn n) : Nat := (q.map fun a => cnt n a.2.2).sum
theorem cntQ_eq (n : Nat) : ∀ q : Qn n, cntQ n q = q.length + cntB n q
  | [] => rfl
  | a :: r => by
    have ih := cntQ_eq n r
    show (1 + cnt n a.2.2) + cntQ n r = (r.length + 1) + (cnt n a.2.2 + cntB n r)
    omega
theorem cntB_snoc (n : Nat) (q : Qn n) (a : An n) : cntB n (q ++ [a]) = cntB n q + cnt n a.2.2 := by
  unfold cntB
  rw [List.map_append, List.sum_append]
  rfl
/-- the weights of the i-th answer -/
def wk (W : Nat) (ahead : List Rat) (ds : List (List Rat)) (i : Nat) : List Rat := (List.range W).map fun j => ahead.getD j 0 * (ds.getD j []).getD i 0
/-- a drawn answer in its place -/
structure AnIs (W n : Nat) (ahead : List Rat) (ds : List (List Rat)) (i : Nat) (a : An n) : Prop where
  w : ∃ r : List Int, a.1 = 11 * (i : Int) :: r ∧ r.length ≤ 7 ∧ ∀ x ∈ r, 0 ≤ x ∧ x ≤ 99
  ws : a.2.1 = wk W ahead ds i
  ok : NdF W n a.2.1 a.2.2
theorem getD_of {α : Type} {l : List α} {i : Nat} {x d : α} (h : l[i]? = some x) : l.getD i d = x := by
  rw [List.getD_eq_getElem?_getD, h]
  rfl
theorem wk_at {W : Nat} {ahead : List Rat} {ds : List (List Rat)} {i j : Nat} (hj : j < W) : (wk W ahead ds i).getD j 0 = ahead.getD j 0 * (ds.getD j []).getD i 0 := by
  refine getD_of ?_
  unfold wk
  rw [List.getElem?_map, List.getElem?_range hj]
  rfl
theorem mem_getD0 {l : List Rat} {P : Rat → Prop} (h : ∀ r ∈ l, P r) {j : Nat} (hj : j < l.length) : P (l.getD j 0) := by
  rw [getD_of (List.getElem?_eq_getElem hj)]
  exact h _ (List.getElem_mem hj)
theorem share_at {m i : Nat} {rs : List Rat} (h : IsShares m rs) (hi : i < m) : ∃ p s : Nat, 0 < s ∧ s ≤ 5 * m + 1 ∧ p ≤ s ∧ rs.getD i 0 = mkRat (p : Int) s := by
  obtain ⟨ps, h1, h2, h3, rfl⟩ := h
  have hi2 : i < ps.length := by omega
  refine ⟨ps[i], ps.sum, h2, h3, ?_, getD_of (by rw [List.getElem?_map, List.getElem?_eq_getElem hi2]; rfl)⟩
  have : ∀ (l : List Nat) (x : Nat), x ∈ l → x ≤ l.sum := fun l => by
    induction l with
    | nil =>
      intro x h
      exact absurd h List.not_mem_nil
    | cons y r ih =>
      intro x h
      rcases List.mem_cons.mp h with rfl | h
      · show x ≤ x + r.sum
        omega
      · have := ih x h
        show x ≤ y + r.sum
        omega
  exact this ps _ (List.getElem_mem hi2)
theorem shares_col {m : Nat} {rs : List Rat} (h : IsShares m rs) (a : Rat) : fsum (rs.map fun x => a * x) = a := by
  obtain ⟨ps, h1, h2, h3, rfl⟩ := h
  rw [fsum_mul, fsum_mk _ h2, mk_same _ h2, Rat.mul_one]
/-- a drawn question is right -/
theorem drawn_ok {W n m e : Nat} {ahead : List Rat} {ds : List (List Rat)} {q : Qn n} (hm1 : 1 ≤ m) (hm : m ≤ 3) (hq : q.length = m) (hd : ds.length = W) (ha : ahead.length = W) (hS : ∀ d ∈ ds, IsShares m d) (hA : ∀ r ∈ ahead, Ch e r) (he : e + 1 ≤ 6)
    (h : ∀ i a, q[i]? = some a → AnIs W n ahead ds i a) : QnOk W ahead q ∧ (∀ a ∈ q, ∀ r ∈ a.2.1, Ch (e + 1) r) := by
  have dj : ∀ j, j < W → IsShares m (ds.getD j []) := fun j hj => by
    have hj2 : j < ds.length := by omega
    rw [getD_of (List.getElem?_eq_getElem hj2)]
    exact hS _ (List.getElem_mem hj2)
  have aj : ∀ j, j < W → Ch e (ahead.getD j 0) := fun j hj => mem_getD0 hA (by omega)
  have chw : ∀ a ∈ q, ∀ r ∈ a.2.1, Ch (e + 1) r := by
    intro a hm' r hr
    obtain ⟨i, hi, rfl⟩ := List.getElem_of_mem hm'
    have A := h i _ (List.getElem?_eq_getElem hi)
    rw [A.ws] at hr
    unfold wk at hr
    obtain ⟨j, hj, rfl⟩ := List.mem_map.mp hr
    have hj := List.mem_range.mp hj
    obtain ⟨p, s, s0, s1, ps, e1⟩ := share_at (dj j hj) (show i < m by omega)
    rw [e1]
    exact (aj j hj).mul s0 (by omega) ps
  have colj : ∀ j, j < W → col q j = (ds.getD j []).map fun x => ahead.getD j 0 * x := by
    intro j hj
    have lj : (ds.getD j []).length = m := by
      obtain ⟨ps, h1, _, _, e1⟩ := dj j hj
      rw [e1, List.length_map, h1]
    refine List.ext_getElem? fun i => ?_
    unfold col
    rw [List.getElem?_map, List.getElem?_map]
    by_cases hi : i < m
    · have g1 : q[i]? = some q[i] := List.getElem?_eq_getElem (by omega)
      have g2 : (ds.getD j [])[i]? = some (ds.getD j [])[i] := List.getElem?_eq_getElem (by omega)
      rw [g1, g2]
      have e3 : (q[i]).2.1 = wk W ahead ds i := (h i _ g1).ws
      show some ((q[i]).2.1.getD j 0) = some (ahead.getD j 0 * (ds.getD j [])[i])
      rw [e3, wk_at hj, getD_of g2]
    · rw [List.getElem?_eq_none (by omega), List.getElem?_eq_none (by omega)]
      rfl
  refine ⟨⟨by omega, by omega, ?_, ?_, ?_, ?_, ?_⟩, chw⟩
  · intro a hm'
    obtain ⟨i, hi, rfl⟩ := List.getElem_of_mem hm'
    obtain ⟨r, e1, e2, e3⟩ := (h i _ (List.getElem?_eq_getElem hi)).w
    rw [e1]
    refine ⟨by rw [List.length_cons]; omega, fun x hx => ?_⟩
    rcases List.mem_cons.mp hx with rfl | hx
    · omega
    · exact e3 x hx
  · intro i x y hx hy
    obtain ⟨r, e1, _⟩ := (h i _ hx).w
    obtain ⟨r2, e2, _⟩ := (h (i + 1) _ hy).w
    rw [e1, e2]
    show (if 11 * (i : Int) = 11 * ((i + 1 : Nat) : Int) then HT.lexLt r r2 else decide (11 * (i : Int) < 11 * ((i + 1 : Nat) : Int))) = true
    rw [if_neg (by omega)]
    exact decide_eq_true (by omega)
  · intro a hm'
    obtain ⟨i, hi, rfl⟩ := List.getElem_of_mem hm'
    rw [(h i _ (List.getElem?_eq_getElem hi)).ws]
    unfold wk
    rw [List.length_map, List.length_range]
  · exact fun a h1 r h2 => (chw a h1 r h2).mono he
  · intro j hj
    rw [colj j hj]
    exact shares_col (dj j hj) _
end Tl
namespace Tl
open PySem PySem.Spec PyProof.Rows L2 RZ
theorem cmul_small {i j : Int} (h1 : i.natAbs < 1024) (h2 : j.natAbs < 1024) : CMulW i j := wide_mul (a := 10) (b := 10) h1 h2 (by decide) (by decide) (by decide)
theorem pow_lt2000 {e : Nat} (h : e ≤ 14) : LL ^ e < 2 ^ 2000 := Nat.lt_of_le_of_lt (ll_small (k := 1500) (by omega)) (Nat.pow_lt_pow_right (by decide) (by decide))
/-- the five words that the law picks from -/
def five (k : Int) : List (List Int) := [[k], [7 * k, 3], [9 * k + 1, 0, 99], List.replicate 7 (90 + k), []]
theorem five_ok {k : Int} (h0 : 0 ≤ k) (h2 : k ≤ 2) : ∀ r ∈ five k, r.length ≤ 7 ∧ ∀ x ∈ r, 0 ≤ x ∧ x ≤ 99 := by
  intro r hr
  unfold five at hr
  simp only [List.mem_cons, List.not_mem_nil, or_false] at hr
  rcases hr with rfl | rfl | rfl | rfl | rfl
  · exact ⟨by simp, fun x hx => by simp at hx; omega⟩
  · exact ⟨by simp, fun x hx => by simp at hx; omega⟩
  · exact ⟨by simp, fun x hx => by simp at hx; omega⟩
  · exact ⟨by simp, fun x hx => by rw [List.mem_replicate] at hx; omega⟩
  · exact ⟨by simp, fun x hx => absurd hx List.not_mem_nil⟩
section
variable {P : Program} {w : World} {K : PySem.W.Frag} {mg : Str → Option Value} {base : Heap}
theorem ok_law_question {m : Nat} {f f1 f2 f3 f4 f5 f6 f7 : Addr} {fd fd1 fd2 fd3 fd4 fd5 fd6 fd7 : FuncData} (D : Dn K mg "_law_question" s_law_question ["bag", "worlds", "ahead", "levels", "left"] f fd) (B : Blt mg) (D_law_low : Dn K mg "_law_low" s_law_low ["top", "bottom"] f1 fd1) (D_law_common : Dn K mg "_law_common" s_law_common ["one", "other"] f2 fd2)
    (D_law_pick : Dn K mg "_law_pick" s_law_pick ["bag", "many"] f3 fd3) (D_law_shares : Dn K mg "_law_shares" s_law_shares ["bag", "many", "least"] f4 fd4) (D_law_some : Dn K mg "_law_some" s_law_some ["bag", "things"] f5 fd5) (D_law_times : Dn K mg "_law_times" s_law_times ["one", "other"] f6 fd6)
    (D_law_node : Dn K mg "_law_node" s_law_node ["bag", "worlds", "ahead", "levels", "left"] f7 fd7) (G_law_node : FnOk P w K mg base CX0 (6 + 2 * m) f7 fd7 ["bag", "worlds", "ahead", "levels", "left"] (spN K m)) :
    FnOk P w K mg base CX0 (7 + 2 * m) f fd ["bag", "worlds", "ahead", "levels", "left"] (spQ K (m + 1)) := by
  have G_law_pick : FnOk P w K mg base CX0 1 f3 fd3 ["bag", "many"] spPick := ok_law_pick D_law_pick B
  have G_law_shares : FnOk P w K mg base CX0 3 f4 fd4 ["bag", "many", "least"] (spShares K) := ok_law_shares D_law_shares B D_law_low D_law_common D_law_pick
  have G_law_some : FnOk P w K mg base CX0 2 f5 fd5 ["bag", "things"] spSome := ok_law_some D_law_some B D_law_pick
  have G_law_times : FnOk P w K mg base CX0 3 f6 fd6 ["one", "other"] (spTimes K) := ok_law_times D_law_times B D_law_low D_law_common
  rw [show 7 + 2 * m = (6 + 2 * m) + 1 by omega]
  refine D.F.ok sc_law_question (fun vs H Q E h => ?_) (fun cdv A outer s H vs Q E hr h => ?_)
  · obtain ⟨b, g, l, W, e, av, ahead, L, rfl, _⟩ := h
    rfl
  obtain ⟨b, g, l, W, e, av, ahead, L, rfl, hB, hav, hla, hch, hel, hW1, hW5, q⟩ := h
  have nd := sc_law_question.nd
  refine ⟨_, (pss_cons (ps_set (i := 5) nd rfl (.inr rfl) (pe_op op_add pe_int (pe_call G_law_pick (hr.mono (by omega)) (by rfl) D_law_pick.m D_law_pick.F.kp D_law_pick.b .nil pass0 (pa_cons (pv 0) (pa_cons pe_int pa_nil)))))
      (pss_cons (ps_augS (pv 4) pe_int (k_getL (K := K) rfl) (pv 5) ip_sub set_list)
      (pss_cons (ps_set (i := 6) nd rfl (.inr rfl) (pe_lc (own := [("world", 7)]) rfl nd (pi_range1 (by rfl) B.range (pa_cons (pv 1) pa_nil)) (blkOk_by (own := [("world", 7)]) (by kernel_rfl)) (fun _ _ _ _ _ => (pg_name (i := 7) nd rfl (.inl rfl))) (fun _ _ _ _ _ => pts_nil) (fun _ _ _ _ _ => (pe_call G_law_shares (hr.mono (by omega)) (by rfl) D_law_shares.m D_law_shares.F.kp D_law_shares.b .nil pass0 (pa_cons (pv 0) (pa_cons (pv 5) (pa_cons (pe_call G_law_pick (hr.mono (by omega)) (by rfl) D_law_pick.m D_law_pick.F.kp D_law_pick.b .nil pass0 (pa_cons (pv 0) (pa_cons pe_int pa_nil))) pa_nil)))))))
      (pss_cons (ps_set (i := 8) nd rfl (.inl rfl) (pe_lst pa_nil))
      (pss_cons (ps_for PassesOwn.never rfl (pi_range1 (by rfl) B.range (pa_cons (pv 5) pa_nil)) (pg_name (i := 9) nd rfl (.inr rfl)) (pss_cons (ps_set (i := 10) nd rfl (.inl rfl) (pe_call G_law_some (hr.mono (by omega)) (by rfl) D_law_some.m D_law_some.F.kp D_law_some.b .nil pass0 (pa_cons (pv 0) (pa_cons (pe_lst (pa_cons (pe_tup (pa_cons (pv 9) pa_nil)) (pa_cons (pe_tup (pa_cons (pe_op op_mulW pe_int (pv 9)) (pa_cons pe_int pa_nil))) (pa_cons (pe_tup (pa_cons (pe_op op_add (pe_op op_mulW pe_int (pv 9)) pe_int) (pa_cons pe_int (pa_cons pe_int pa_nil)))) (pa_cons (pe_op (k_rep (K := K) rfl) (pe_tup (pa_cons (pe_op op_add pe_int (pv 9)) pa_nil)) pe_int) (pa_cons (pe_tup pa_nil) pa_nil)))))) pa_nil))))
      (pss_cons (ps_set (i := 11) nd rfl (.inl rfl) (pe_callTy (k_tupOf (K := K) rfl) (by rfl) B.tuple (by decide +kernel) (pa_cons (pe_lc (own := [("world", 7)]) rfl nd (pi_range1 (by rfl) B.range (pa_cons (pv 1) pa_nil)) (blkOk_by (own := [("world", 7)]) (by kernel_rfl)) (fun _ _ _ _ _ => (pg_name (i := 7) nd rfl (.inl rfl))) (fun _ _ _ _ _ => pts_nil) (fun _ _ _ _ _ => (pe_call G_law_times (hr.mono (by omega)) (by rfl) D_law_times.m D_law_times.F.kp D_law_times.b .nil pass0 (pa_cons (pe_ix (k_ixT (K := K) rfl) (pv 2) (pv 7) (fun _ _ => rfl)) (pa_cons (pe_ix (k_ixL (K := K) rfl) (pe_ix (k_ixL (K := K) rfl) (pv 6) (pv 7) (fun _ _ => rfl)) (pv 9) (fun _ _ => rfl)) pa_nil))))) pa_nil)))
      (pss_one (ps_expr (pe_bm PySem.F.plainAttrs_list PySem.F.slot_list_append PySem.F.type_list_append mt_append (pv 8) (pa_cons (pe_tup (pa_cons (pe_op (k_cat (K := K) rfl) (pe_tup (pa_cons (pe_op op_mulW pe_int (pv 9)) pa_nil)) (pv 10)) (pa_cons (pv 11) (pa_cons (pe_call G_law_node (hr.mono (by omega)) (by rfl) D_law_node.m D_law_node.F.kp D_law_node.b .nil pass0 (pa_cons (pv 0) (pa_cons (pv 1) (pa_cons (pv 11) (pa_cons (pe_op op_sub (pv 3) pe_int) (pa_cons (pv 4) pa_nil)))))) pa_nil)))) pa_nil)))))))
      (pss_one (ps_ret (pe_callTy (k_tupOf (K := K) rfl) (by rfl) B.tuple (by decide +kernel) (pa_cons (pv 8) pa_nil))))))))), ?_⟩
  -- many = 1 + _law_pick(bag, 3)
  refine ⟨_, rfl, b, g, 3, rfl, hB.B, by decide, by decide, fun r H1 r0 r1 B1 F1 => ⟨_, _, rfl, rfl, ?_⟩⟩
  obtain ⟨mm, em⟩ : ∃ mm : Nat, 1 + r = (mm : Int) := ⟨(1 + r).toNat, by omega⟩
  have mm1 : 1 ≤ mm := by omega
  have mm3 : mm ≤ 3 := by omega
  show gName 5 (V.int (1 + r)) _ _ _
  rw [em]
  have B1 := hB.bag B1 F1
  have F1 : Frl b g l H H1 := .ofF F1
  have hav1 := hav.keep (hB.kt F1)
  -- left[0] -= many
  refine ⟨_, rfl, l, _, 0, _, rfl, rfl, SqL.of B1.hl, rfl, _, rfl, _, _, rfl, rfl, l, _, 0, 0, rfl, rfl, B1.hl, rfl, ?_⟩
  have B2 : BagL (upd H1 l (.lst ([V.int L].set 0 (.int (L - (mm : Int)))))) b g l (L - (mm : Int)) := B1.updL
  have F2 : Frl b g l H1 (upd H1 l (.lst ([V.int L].set 0 (.int (L - (mm : Int)))))) := Frl.updL
  generalize upd H1 l (.lst ([V.int L].set 0 (.int (L - (mm : Int))))) = H2 at B2 F2
  have hav2 := hav1.keep (B1.kt F2)
  have F02 := F1.trans F2
  clear F1 F2 B1 hav1
  -- rows
  refine ⟨_, rfl, _, rfl, by omega, by omega, fun R hR => ?_⟩
  obtain ⟨Rb, Rg, Rl⟩ := B2.neNew hR
  refine lc_range (lo := 0) (n := W) (fun i H3 => ∃ ds : List (List Rat), ds.length = i ∧ RowsAt K b g l (fun _ => False) H3 R ds ∧ (∀ d ∈ ds, IsShares mm d) ∧ BagL H3 b g l (L - (mm : Int)) ∧ Frl b g l H2 H3)
    ⟨[], rfl, ⟨Rb, Rg, Rl, (fun z => z), [], upd_same, rfl, fun i r d e1 _ => by simp at e1⟩, fun d h => absurd h List.not_mem_nil, B2.updN Rb Rg Rl, (Frl.refl b g l H2).updN hR⟩ ?_ ?_
  · rintro i H3 hi ⟨ds, hd, hRows, hS, B3, F3⟩
    refine ⟨rfl, ?_⟩
    refine iteT (B := ∃ ds : List (List Rat), ds.length = i + 1 ∧ RowsAt K b g l (fun _ => False) H3 R ds ∧ (∀ d ∈ ds, IsShares mm d) ∧ BagL H3 b g l (L - (mm : Int)) ∧ Frl b g l H2 H3) ?_
    refine ⟨_, rfl, _, rfl, _, rfl, b, g, 2, rfl, B3.B, by decide, by decide, fun r H4 r0 r1 B4 F4 => ?_⟩
    refine ⟨b, g, mm, r, rfl, B4, mm1, by omega, r0, by omega, fun ρ d us H5 hI h5 t5 fr B5 F5 => ?_⟩
    have B4 := B3.bag B4 F4
    have F4 : Frl b g l H3 H4 := .ofF F4
    have k4 := B3.kt (K := K) F4
    have nρ4 := B4.neNew fr
    have B5 := B4.bag B5 F5
    have F5 : Frl b g l H4 H5 := .ofF F5
    have k5 := k4.trans (B4.kt F5)
    have F35 := F4.trans F5
    obtain ⟨_, _, _, _, rs, h1, h2, h3⟩ := hRows.keep k5 F35
    have ρR : ρ ≠ R := fun z => by
      rw [z] at fr
      obtain ⟨_, _, _, _, rs', h1', _⟩ := hRows.keep k4 F4
      rw [h1'] at fr
      cases fr
    have kR : KT K H5 (upd H5 R (.lst (rs.map V.ref ++ [V.ref ρ]))) := KT.updL h1
    refine ⟨_, h1, by rw [List.length_map]; exact small1000 (by omega), ds ++ [d], by rw [List.length_append, hd]; rfl, ⟨Rb, Rg, Rl, (fun z => z), rs ++ [ρ], by rw [upd_same, List.map_append]; rfl, by rw [List.length_append, List.length_append, h2]; rfl, ?_⟩, ?_, B5.updN Rb Rg Rl, (F3.trans F35).updN hR⟩
    · intro j ρ' d' e1 e2
      by_cases hj : j < rs.length
      · rw [List.getElem?_append_left hj] at e1
        rw [List.getElem?_append_left (by omega)] at e2
        obtain ⟨nR, m1, m2, m3, us', u1, u2⟩ := h3 j ρ' d' e1 e2
        exact ⟨nR, m1, m2, m3, us', by rw [upd_ne nR.1]; exact u1, u2.keep kR⟩
      · have ej : j = rs.length := by
          have := (List.getElem?_eq_some_iff.mp e1).1
          rw [List.length_append] at this
          simp at this
          omega
        subst ej
        rw [List.getElem?_append_right (Nat.le_refl _), Nat.sub_self] at e1
        rw [h2, List.getElem?_append_right (Nat.le_refl _), Nat.sub_self] at e2
        cases e1
        cases e2
        exact ⟨⟨ρR, fun z => z⟩, nρ4.1, nρ4.2.1, nρ4.2.2, us, by rw [upd_ne ρR]; exact h5, t5.keep kR⟩
    · intro d' hd'
      rcases List.mem_append.mp hd' with h | h
      · exact hS d' h
      · rw [List.mem_singleton.mp h]
        exact hI
  rintro H3 ⟨ds, hd, hRows, hS, B3, F3⟩
  have hav3 := hav2.keep (B2.kt F3)
  have F03 := F02.trans F3
  clear F3 F02 hav2 B2
  -- found = []
  refine ⟨Nat.zero_le _, fun φ hφ => ?_⟩
  obtain ⟨φb, φg, φl⟩ := B3.neNew hφ
  have sφ : Same H3 (upd H3 φ (.lst [])) := same_upd hφ
  have hφ0 : H φ = none := F03.none hφ φb φg φl
  -- for k in range(many)
  refine ⟨_, rfl, _, rfl, by omega, by omega, for_range (lo := 0) (n := mm) (fun i σ H4 => ∃ (qs : Qn m) (us : List V) (L4 : Int) (o7 o9 o10 o11 : Option V),
      σ = [some (.ref b), some (.int (W : Int)), some av, some (.int ((m + 1 : Nat) : Int)), some (.ref l), some (.int (mm : Int)), some (.ref R), o7, some (.ref φ), o9, o10, o11] ∧ qs.length = i ∧ H4 φ = some (.lst us) ∧ TdAll K H4 us (qs.map (anD m)) ∧
      (∀ j a, qs[j]? = some a → AnIs W m ahead ds j a) ∧ ((cntB m qs : Nat) : Int) + L4 = L - (mm : Int) ∧ (L - (mm : Int) ≤ L4 ∨ lowL m ≤ L4) ∧ RowsAt K b g l (fun x => x = φ) H4 R ds ∧ R ≠ φ ∧ Td K H4 av (wsD ahead) ∧ BagL H4 b g l L4 ∧ Frl b g l H H4)
    ⟨[], [], L - (mm : Int), none, none, none, none, rfl, rfl, upd_same, .nil, fun j a h => by simp at h, by show ((0 : Nat) : Int) + _ = _; omega, .inl (Int.le_refl _), (hRows.avoid hφ).keep (Same.kt sφ) (.of sφ), ?_, hav3.keep (Same.kt sφ), B3.updN φb φg φl, F03.updN hφ0⟩ ?_ ?_⟩
  · intro z
    obtain ⟨_, _, _, _, rs, h1, _⟩ := hRows
    rw [z, hφ] at h1
    cases h1
  · clear sφ hRows B3 F03 hφ hav3
    rintro i σ H4 hi ⟨qs, us, L4, o7, o9, o10, o11, rfl, hq, h4, t4, hA, hc, hlow, hRows, hRφ, hav4, B4, F4⟩
    have hk : (0 : Int) + (i : Int) = (i : Int) := by omega
    show gName 9 (.int (0 + (i : Int))) _ _ _
    rw [hk]
    -- the five words
    refine ⟨_, rfl, _, rfl, (by show 1 ≤ sizeLine; decide), fun p1 n1 => ?_⟩
    refine ⟨_, rfl, _, _, rfl, rfl, cmul_small (by decide) (by omega), (by show 2 ≤ sizeLine; decide), fun p2 n2 => ?_⟩
    refine ⟨_, rfl, _, _, rfl, rfl, cmul_small (by decide) (by omega), _, _, rfl, rfl, (by show 3 ≤ sizeLine; decide), fun p3 n3 => ?_⟩
    refine ⟨_, rfl, _, _, rfl, rfl, (by show 1 ≤ sizeLine; decide), fun p4 n4 => ?_⟩
    have s4 : Same H4 (upd (upd (upd (upd H4 p1 (.tup [.int (i : Int)])) p2 (.tup [.int (7 * (i : Int)), .int 3])) p3 (.tup [.int (9 * (i : Int) + 1), .int 0, .int 99])) p4 (.tup [.int (90 + (i : Int))])) :=
      (((same_upd n1).trans (same_upd n2)).trans (same_upd n3)).trans (same_upd n4)
    refine ⟨p4, 7, _, rfl, rfl, .inl (.inl upd_same), by simp, by decide, by decide, by simp, fun p5 H5 s5 t5 => ?_⟩
    refine ⟨Nat.zero_le _, fun p6 n6 => ?_⟩
    refine ⟨(by show 5 ≤ sizeLine; decide), fun t nt => ?_⟩
    have t1 : SqT K (upd (upd H5 p6 (.tup [])) t (.lst [.ref p1, .ref p2, .ref p3, .ref p5, .ref p6])) p1 [.int (i : Int)] := Same.kt (same_upd nt) _ _ (Same.kt (same_upd n6) _ _ (Same.kt s5 _ _ (Same.kt (same_upd n4) _ _ (Same.kt (same_upd n3) _ _ (Same.kt (same_upd n2) _ _ (.inl (.inl upd_same)))))))
    have t2 : SqT K (upd (upd H5 p6 (.tup [])) t (.lst [.ref p1, .ref p2, .ref p3, .ref p5, .ref p6])) p2 [.int (7 * (i : Int)), .int 3] := Same.kt (same_upd nt) _ _ (Same.kt (same_upd n6) _ _ (Same.kt s5 _ _ (Same.kt (same_upd n4) _ _ (Same.kt (same_upd n3) _ _ (.inl (.inl upd_same))))))
    have t3 : SqT K (upd (upd H5 p6 (.tup [])) t (.lst [.ref p1, .ref p2, .ref p3, .ref p5, .ref p6])) p3 [.int (9 * (i : Int) + 1), .int 0, .int 99] := Same.kt (same_upd nt) _ _ (Same.kt (same_upd n6) _ _ (Same.kt s5 _ _ (Same.kt (same_upd n4) _ _ (.inl (.inl upd_same)))))
    have t5' : SqT K (upd (upd H5 p6 (.tup [])) t (.lst [.ref p1, .ref p2, .ref p3, .ref p5, .ref p6])) p5 _ := Same.kt (same_upd nt) _ _ (Same.kt (same_upd n6) _ _ t5)
    have t6 : SqT K (upd (upd H5 p6 (.tup [])) t (.lst [.ref p1, .ref p2, .ref p3, .ref p5, .ref p6])) p6 [] := Same.kt (same_upd nt) _ _ (.inl (.inl upd_same))
    have s6 : Same H4 (upd (upd H5 p6 (.tup [])) t (.lst [.ref p1, .ref p2, .ref p3, .ref p5, .ref p6])) := ((s4.trans s5).trans (same_upd n6)).trans (same_upd nt)
    have ht : (upd (upd H5 p6 (.tup [])) t (.lst [.ref p1, .ref p2, .ref p3, .ref p5, .ref p6])) t = some (.lst [.ref p1, .ref p2, .ref p3, .ref p5, .ref p6]) := upd_same
    have nt4 : H4 t = none := ((s4.trans s5).trans (same_upd n6)).free nt
    generalize upd (upd H5 p6 (.tup [])) t (.lst [.ref p1, .ref p2, .ref p3, .ref p5, .ref p6]) = H6 at t1 t2 t3 t5' t6 s6 ht ⊢
    have tw : TdAll K H6 [.ref p1, .ref p2, .ref p3, .ref p5, .ref p6] ((five (i : Int)).map wdD) := by
      refine .cons (.tup t1 (tdAll_ints [(i : Int)])) (.cons (.tup t2 (tdAll_ints [7 * (i : Int), 3])) (.cons (.tup t3 (tdAll_ints [9 * (i : Int) + 1, 0, 99])) (.cons (.tup t5' ?_) (.cons (.tup t6 .nil) .nil))))
      have e : (List.replicate (Int.toNat 7) [V.int (90 + (i : Int))]).flatten = (List.replicate 7 (90 + (i : Int))).map V.int := rfl
      rw [e]
      exact tdAll_ints _
    clear t1 t2 t3 t5' t6 t5 n6 n4 n3 n2 n1 nt s5 s4
    obtain ⟨tb, tg, tl⟩ := B4.neNew nt4
    have B6 := B4.keep s6
    refine ⟨b, g, t, _, rfl, B6.B, ht, tb, tg, by simp, by simp, fun jj x H7 hx B7 F7 => ?_⟩
    obtain ⟨dx, hdx, tx⟩ := tw.getV hx
    obtain ⟨wd, hwd, rfl⟩ : ∃ wd, (five (i : Int))[jj]? = some wd ∧ dx = wdD wd := by
      rw [List.getElem?_map] at hdx
      cases e : (five (i : Int))[jj]? with
      | none =>
        rw [e] at hdx
        cases hdx
      | some wd =>
        rw [e] at hdx
        exact ⟨wd, rfl, (Option.some.inj hdx).symm⟩
    have hwok := five_ok (k := (i : Int)) (by omega) (by omega) wd (List.mem_of_getElem? hwd)
    have B7 := B6.bag B7 F7
    have F7 : Frl b g l H6 H7 := .ofF F7
    have F67 : Frl b g l H4 H7 := (Frl.of s6).trans F7
    have k67 : KT K H4 H7 := (Same.kt s6).trans (B6.kt F7)
    have tx7 := tx.keep (B6.kt F7)
    have hR7 := hRows.keep k67 F67
    have t7 := t4.keep k67
    have h7 := F67 φ _ h4 φb φg φl
    have hav7 := hav4.keep k67
    have F07 := F4.trans F67
    clear hRows t4 h4 hav4 F4 F67 k67 F7 tx tw hx hdx B6 ht s6 nt4 B4
    -- weights
    refine ⟨_, rfl, _, rfl, by omega, by omega, fun wd' nw => ?_⟩
    obtain ⟨wb, wg, wl⟩ := B7.neNew nw
    obtain ⟨aA, aX, rfl, aS, aT⟩ := hav7.tupE
    refine lc_range (lo := 0) (n := W) (fun j H8 => ∃ vs : List V, H8 wd' = some (.lst vs) ∧ TdAll K H8 vs (((wk W ahead ds i).take j).map rD) ∧ Same H7 H8) ⟨[], upd_same, .nil, same_upd nw⟩ ?_ ?_
    · rintro j H8 hj ⟨vs, h8, t8, s8⟩
      refine ⟨rfl, ?_⟩
      refine iteT (B := ∃ vs : List V, H8 wd' = some (.lst vs) ∧ TdAll K H8 vs (((wk W ahead ds i).take (j + 1)).map rD) ∧ Same H7 H8) ?_
      have aj : ahead[j]? = some ahead[j] := List.getElem?_eq_getElem (by omega)
      obtain ⟨va, ea, ta⟩ := aT.get (i := j) (d := rD ahead[j]) (by rw [List.getElem?_map, aj]; rfl)
      obtain ⟨_, _, _, _, rs, h1, h2, h3⟩ := hR7.keep (Same.kt s8) (.of s8)
      have rj : rs[j]? = some rs[j] := List.getElem?_eq_getElem (by omega)
      have dj : ds[j]? = some ds[j] := List.getElem?_eq_getElem (by omega)
      obtain ⟨_, _, _, _, us', u1, u2⟩ := h3 j _ _ rj dj
      obtain ⟨ps, c1, c2, c3, c4⟩ := hS _ (List.getElem_mem (show j < ds.length by omega))
      have lj : ds[j].length = mm := by rw [c4, List.length_map, c1]
      have di : ds[j][i]? = some (ds[j][i]'(by omega)) := List.getElem?_eq_getElem _
      obtain ⟨vb, eb, tb'⟩ := u2.get (i := i) (d := rD (ds[j][i]'(by omega))) (by rw [List.getElem?_map, di]; rfl)
      have hj0 : (0 : Int) + (j : Int) = ((j : Nat) : Int) := by omega
      have ca := hch _ (List.getElem_mem (show j < ahead.length by omega))
      obtain ⟨pp, ss, q1, q2, q3, q4⟩ := share_at (hS _ (List.getElem_mem (show j < ds.length by omega))) hi
      have eqi : ds[j][i]'(by omega) = mkRat (pp : Int) ss := by rw [← q4]; exact (getD_of di).symm
      have cb : Ch 1 (ds[j][i]'(by omega)) := by
        rw [eqi]
        exact ch_share q1 (by omega) q3
      have z1 : LL ^ e < 2 ^ 2000 := pow_lt2000 (by omega)
      have z2 : LL ^ 1 < 2 ^ 2000 := pow_lt2000 (by decide)
      refine ⟨_, rfl, _, rfl, aA, aX, _, va, rfl, by rw [hj0], Same.kt s8 _ _ aS, atI_nat ea, ?_⟩
      refine ⟨_, rfl, _, rfl, R, _, _, _, rfl, by rw [hj0], SqL.of h1, atI_nat (by rw [List.getElem?_map, rj]; rfl), _, rfl, rs[j], us', (i : Int), vb, rfl, rfl, SqL.of u1, atI_nat eb, ?_⟩
      refine ⟨va, vb, _, _, rfl, ta.keep (Same.kt s8), tb', Nat.lt_of_le_of_lt ca.den z1, Nat.lt_of_le_of_lt cb.den z2, Nat.lt_of_le_of_lt ca.num z1, Nat.lt_of_le_of_lt cb.num z2, fun v H9 s9 tv => ?_⟩
      have h9 := s9 _ _ h8
      have kw : KT K H9 (upd H9 wd' (.lst (vs ++ [v]))) := KT.updL h9
      refine ⟨vs, h9, ?_, vs ++ [v], upd_same, ?_, fun a o z => ?_⟩
      · rw [t8.len, List.length_map, List.length_take]
        exact small1000 (by omega)
      · have ewk : (wk W ahead ds i)[j]? = some (ahead[j] * (ds[j][i]'(by omega))) := by
          unfold wk
          rw [List.getElem?_map, List.getElem?_range hj]
          show some (ahead.getD j 0 * (ds.getD j []).getD i 0) = some (ahead[j] * (ds[j][i]'(by omega)))
          rw [getD_of aj, getD_of dj, getD_of di]
        rw [List.take_add_one, ewk, List.map_append]
        exact (t8.keep ((Same.kt s9).trans kw)).app (.cons (tv.keep kw) .nil)
      · rw [upd_ne (ne_of_none z nw)]
        exact s9 _ _ (s8 _ _ z)
    · rintro H8 ⟨vs, h8, t8, s8⟩
      have lw : (wk W ahead ds i).length = W := by
        unfold wk
        rw [List.length_map, List.length_range]
      rw [List.take_of_length_le (by omega)] at t8
      refine ⟨wd', vs, rfl, SqL.of h8, fun wt H9 s9 q9 => ?_⟩
      have s79 := s8.trans s9
      have twt : Td K H9 (.ref wt) (wsD (wk W ahead ds i)) := .tup q9 (t8.keep (Same.kt s9))
      -- found.append(..)
      have h9 := s79 _ _ h7
      refine ⟨_, rfl, .inl ⟨rfl, _, SqL.of h9⟩, _, rfl, _, _, rfl, rfl, cmul_small (by decide) (by omega), (by show 1 ≤ sizeLine; decide), fun p1 n1 => ?_⟩
      obtain ⟨xa, xs, rfl, xS, xT⟩ := tx7.tupE
      have xe := tdAll_intsE xT
      subst xe
      refine ⟨_, rfl, p1, xa, _, _, rfl, rfl, .inl (.inl upd_same), Same.kt (same_upd n1) _ _ (Same.kt s79 _ _ xS), ?_, fun pw H10 s10 q10 => ?_⟩
      · rw [List.length_map]
        have := hwok.1
        exact Nat.le_of_lt (small1000 (by simp; omega))
      have s910 : Same H9 H10 := (same_upd n1).trans s10
      have s710 := s79.trans s910
      have B10 := B7.keep s710
      have hlev : (((m + 1 : Nat) : Int)) - 1 = (m : Int) := by omega
      refine ⟨_, rfl, _, rfl, _, rfl, _, rfl, _, rfl, _, _, rfl, rfl, _, rfl, ?_⟩
      have hdr : ∀ (a : An m), NdF W m a.2.1 a.2.2 → a.1 = 11 * (i : Int) :: wd → a.2.1 = wk W ahead ds i → ∀ j a', (qs ++ [a])[j]? = some a' → AnIs W m ahead ds j a' := by
        intro a o1 o2 o3 j a' ea
        by_cases hj : j < qs.length
        · rw [List.getElem?_append_left hj] at ea
          exact hA j a' ea
        · have ej : j = qs.length := by
            have := (List.getElem?_eq_some_iff.mp ea).1
            rw [List.length_append] at this
            simp at this
            omega
          subst ej
          rw [List.getElem?_append_right (Nat.le_refl _), Nat.sub_self] at ea
          cases ea
          exact ⟨⟨wd, by rw [o2, hq], hwok.1, hwok.2⟩, by rw [o3, hq], o1⟩
      have chk : ∀ r ∈ wk W ahead ds i, Ch (e + 1) r := by
        intro r hr
        unfold wk at hr
        obtain ⟨j, hj, rfl⟩ := List.mem_map.mp hr
        have hj := List.mem_range.mp hj
        have hj2 : j < ds.length := by omega
        rw [getD_of (List.getElem?_eq_getElem hj2)]
        obtain ⟨p, s, s0, s1, ps, e1⟩ := share_at (hS _ (List.getElem_mem hj2)) hi
        rw [e1]
        exact (mem_getD0 hch (by omega)).mul s0 (by omega) ps
      refine ⟨b, g, l, W, e + 1, .ref wt, wk W ahead ds i, L4, congrArg (fun z => [V.ref b, V.int (W : Int), V.ref wt, V.int z, V.ref l]) hlev, B10, twt.keep (Same.kt s910), lw, chk, by omega, hW1, hW5, fun v tn L5 H11 tv nok hcnt hlow5 B11 F11 => ?_⟩
      refine ⟨(by show 3 ≤ sizeLine; decide), fun pa na => ?_⟩
      have F911 : Frl b g l H7 H11 := (Frl.of s710).trans F11
      have k711 : KT K H7 H11 := (Same.kt s710).trans (B10.kt F11)
      have h11 := F911 φ _ h7 φb φg φl
      have naφ : φ ≠ pa := ne_of_none h11 na
      have h12 : (upd H11 pa (.tup [.ref pw, .ref wt, v])) φ = some (.lst us) := by
        rw [upd_ne naφ]
        exact h11
      have s12 : Same H11 (upd H11 pa (.tup [.ref pw, .ref wt, v])) := same_upd na
      refine ⟨φ, us, _, rfl, rfl, h12, ?_, ?_⟩
      · rw [t7.len, List.length_map]
        exact small1000 (by omega)
      have kf : KT K (upd H11 pa (.tup [.ref pw, .ref wt, v])) (upd (upd H11 pa (.tup [.ref pw, .ref wt, v])) φ (.lst (us ++ [.ref pa]))) := KT.updL h12
      have kall : KT K H7 (upd (upd H11 pa (.tup [.ref pw, .ref wt, v])) φ (.lst (us ++ [.ref pa]))) := (k711.trans (Same.kt s12)).trans kf
      have k1011 : KT K H10 (upd (upd H11 pa (.tup [.ref pw, .ref wt, v])) φ (.lst (us ++ [.ref pa]))) := ((B10.kt F11).trans (Same.kt s12)).trans kf
      have tan : Td K (upd (upd H11 pa (.tup [.ref pw, .ref wt, v])) φ (.lst (us ++ [.ref pa]))) (.ref pa) (anD m (11 * (i : Int) :: wd, wk W ahead ds i, tn)) := by
        refine .tup (kf _ _ (.inl (.inl upd_same))) (.cons ?_ (.cons ?_ (.cons (tv.keep ((Same.kt s12).trans kf)) .nil)))
        · exact .tup (k1011 _ _ q10) (tdAll_ints (11 * (i : Int) :: wd))
        · exact twt.keep ((Same.kt s910).trans k1011)
      have F712 : Frl b g l H7 (upd H11 pa (.tup [.ref pw, .ref wt, v])) := F911.trans (.of s12)
      have R12 := hR7.keep (k711.trans (Same.kt s12)) F712
      refine ⟨qs ++ [(11 * (i : Int) :: wd, wk W ahead ds i, tn)], us ++ [.ref pa], L5, _, _, _, _, rfl, by rw [List.length_append, hq]; rfl, upd_same, ?_, hdr _ nok rfl rfl, ?_, ?_, ?_, hRφ, hav7.keep kall, ?_, ?_⟩
      · rw [List.map_append]
        exact (t7.keep kall).app (.cons tan .nil)
      · rw [cntB_snoc]
        show ((cntB m qs + cnt m tn : Nat) : Int) + L5 = _
        omega
      · rcases hlow with hl | hl <;> rcases hlow5 with hl5 | hl5 <;> omega
      · obtain ⟨_, _, _, _, rs, h1, h2, h3⟩ := R12
        refine ⟨Rb, Rg, Rl, hRφ, rs, by rw [upd_ne hRφ]; exact h1, h2, fun j r d e1 e2 => ?_⟩
        obtain ⟨m0, m1, m2, m3, us', u1, u2⟩ := h3 j r d e1 e2
        exact ⟨m0, m1, m2, m3, us', by rw [upd_ne m0.2]; exact u1, u2.keep kf⟩
      · exact (B11.keep s12).updN φb φg φl
      · exact (F07.trans F712).updN hφ0
  · rintro σ H4 ⟨qs, us, L4, o7, o9, o10, o11, rfl, hq, h4, t4, hA, hc, hlow, hRows, hRφ, hav4, B4, F4⟩
    refine ⟨_, rfl, φ, us, rfl, SqL.of h4, fun v H5 s5 q5 => ?_⟩
    obtain ⟨ok1, ok2⟩ := drawn_ok mm1 mm3 hq hd hla hS hch (by omega) hA
    refine q (.ref v) qs L4 H5 (.tup q5 (t4.keep (Same.kt s5))) ⟨ok1, by omega, fun a ha r hr => (ok2 a ha r hr).mono (by omega)⟩ ?_ ?_ ?_ (B4.keep s5) (F4.trans (.of s5))
    · intro a ha
      obtain ⟨j, hj, rfl⟩ := List.getElem_of_mem ha
      exact (hA j _ (List.getElem?_eq_getElem hj)).ok
    · rw [cntQ_eq]
      omega
    · rcases hlow with hl | hl
      · exact .inl (by omega)
      · exact .inr hl
end
end Tl
namespace Tl
open PySem PySem.Spec PyProof.Rows L2 RZ
theorem cnt_snoc (n : Nat) (qs : List (Qn n)) (q : Qn n) : cnt (n + 1) (qs ++ [q] : List (Qn n)) = cnt (n + 1) qs + cntQ n q := by
  rw [cnt_succ, cnt_succ, List.map_append, List.sum_append]
  rfl
section
variable {P : Program} {w : World} {K : PySem.W.Frag} {mg : Str → Option Value} {base : Heap}
theorem ok_law_node {n : Nat} {f f1 f2 : Addr} {fd fd1 fd2 : FuncData} (D : Dn K mg "_law_node" s_law_node ["bag", "worlds", "ahead", "levels", "left"] f fd) (B : Blt mg) (D_law_pick : Dn K mg "_law_pick" s_law_pick ["bag", "many"] f1 fd1)
    (D_law_question : Dn K mg "_law_question" s_law_question ["bag", "worlds", "ahead", "levels", "left"] f2 fd2) (G_law_question : FnOk P w K mg base CX0 (5 + 2 * n) f2 fd2 ["bag", "worlds", "ahead", "levels", "left"] (spQ K n)) :
    FnOk P w K mg base CX0 (6 + 2 * n) f fd ["bag", "worlds", "ahead", "levels", "left"] (spN K n) := by
  have G_law_pick : FnOk P w K mg base CX0 1 f1 fd1 ["bag", "many"] spPick := ok_law_pick D_law_pick B
  rw [show 6 + 2 * n = (5 + 2 * n) + 1 by omega]
  refine D.F.ok sc_law_node (fun vs H Q E h => ?_) (fun cdv A outer s H vs Q E hr h => ?_)
  · obtain ⟨b, g, l, W, e, av, ahead, L, rfl, _⟩ := h
    rfl
  obtain ⟨b, g, l, W, e, av, ahead, L, rfl, hB, hav, hla, hch, hel, hW1, hW5, q⟩ := h
  have nd := sc_law_node.nd
  refine ⟨_, (pss_cons (ps_if (PW.pt (pw_or (pt_cmpR op_eq (pv 3) pe_int (nomark _)) (pw_or1 (pt_cmpR op_le (pe_ix (k_ixL (K := K) rfl) (pv 4) pe_int (fun _ _ => rfl)) pe_int (nomark _))))) (pss_one (ps_ret (pe_tup pa_nil))) pss_nil)
      (pss_one (ps_ret (pe_callTy (k_tupOf (K := K) rfl) (by rfl) B.tuple (by decide +kernel) (pa_cons (pe_lc (own := [("k", 5)]) rfl nd (pi_range1 (by rfl) B.range (pa_cons (pe_call G_law_pick (hr.mono (by omega)) (by rfl) D_law_pick.m D_law_pick.F.kp D_law_pick.b .nil pass0 (pa_cons (pv 0) (pa_cons pe_int pa_nil))) pa_nil)) (blkOk_by (own := [("k", 5)]) (by kernel_rfl)) (fun _ _ _ _ _ => (pg_name (i := 5) nd rfl (.inl rfl))) (fun _ _ _ _ _ => pts_nil) (fun _ _ _ _ _ => (pe_call G_law_question (hr.mono (by omega)) (by rfl) D_law_question.m D_law_question.F.kp D_law_question.b .nil pass0 (pa_cons (pv 0) (pa_cons (pv 1) (pa_cons (pv 2) (pa_cons (pv 3) (pa_cons (pv 4) pa_nil)))))))) pa_nil))))), ?_⟩
  have none_ : ∀ p, H p = none → Q (.ref p) (upd H p (.tup [])) := fun p np => by
    refine q (.ref p) (emptyNd n) L _ ?_ (ndF_empty _ _ _) (by rw [cnt_empty]; omega) (.inl (Int.le_refl _)) (hB.keep (same_upd np)) (.of (same_upd np))
    rw [ndD_empty]
    exact .tup (.inl (.inl upd_same)) .nil
  refine ⟨_, rfl, rfl, _, rfl, ?_⟩
  refine ite2 (fun c => ?_) (fun c => ?_)
  · exact iteT ⟨Nat.zero_le _, none_⟩
  refine ⟨_, rfl, l, _, 0, _, rfl, rfl, SqL.of hB.hl, at_of (j := 0) rfl rfl, _, _, rfl, rfl, _, rfl, ?_⟩
  refine ite2 (fun c2 => ?_) (fun c2 => ?_)
  · exact ⟨Nat.zero_le _, none_⟩
  have hL : 0 < L := by
    have : ¬ L ≤ 0 := by simpa using c2
    omega
  cases n with
  | zero => exact absurd rfl c
  | succ n =>
    refine ⟨_, rfl, b, g, 3, rfl, hB.B, by decide, by decide, fun r H1 r0 r1 B1 F1 => ⟨_, rfl, by omega, by omega, fun T hT => ?_⟩⟩
    have B1 := hB.bag B1 F1
    have F1 : Frl b g l H H1 := .ofF F1
    have hav1 := hav.keep (hB.kt F1)
    obtain ⟨Tb, Tg, Tl'⟩ := B1.neNew hT
    obtain ⟨mm, em⟩ : ∃ mm : Nat, r = (mm : Int) := ⟨r.toNat, by omega⟩
    have emm : r.toNat = mm := by omega
    rw [emm]
    have T0 : H T = none := F1.none hT Tb Tg Tl'
    refine lc_range (lo := 0) (n := mm) (fun i H2 => ∃ (us : List V) (qs : List (Qn n)) (L2 : Int), qs.length = i ∧ H2 T = some (.lst us) ∧ TdAll K H2 us (qs.map (qnD n)) ∧ (∀ q ∈ qs, (QnOk W ahead q ∧ Few q) ∧ ∀ a ∈ q, NdF W n a.2.1 a.2.2) ∧ ((cnt (n + 1) qs : Nat) : Int) + L2 = L ∧
        (L2 = L ∨ lowL (n + 1) + 3 * ((2 : Int) - i) ≤ L2) ∧ Td K H2 av (wsD ahead) ∧ BagL H2 b g l L2 ∧ Frl b g l H H2)
      ⟨[], [], L, rfl, upd_same, .nil, fun q h => absurd h List.not_mem_nil, by show ((0 : Nat) : Int) + L = L; omega, .inl rfl, hav1.keep (Same.kt (same_upd hT)), B1.updN Tb Tg Tl', F1.updN T0⟩ ?_ ?_
    · rintro i H2 hi ⟨us, qs, L2, hq, h2, t2, ok2, c2, low2, av2, B2, F2⟩
      refine ⟨rfl, ?_⟩
      refine iteT (B := ∃ (us : List V) (qs : List (Qn n)) (L2 : Int), qs.length = i + 1 ∧ H2 T = some (.lst us) ∧ TdAll K H2 us (qs.map (qnD n)) ∧ (∀ q ∈ qs, (QnOk W ahead q ∧ Few q) ∧ ∀ a ∈ q, NdF W n a.2.1 a.2.2) ∧ ((cnt (n + 1) qs : Nat) : Int) + L2 = L ∧
        (L2 = L ∨ lowL (n + 1) + 3 * ((2 : Int) - ((i + 1 : Nat) : Int)) ≤ L2) ∧ Td K H2 av (wsD ahead) ∧ BagL H2 b g l L2 ∧ Frl b g l H H2) ?_
      refine ⟨_, rfl, _, rfl, _, rfl, _, rfl, _, rfl, ?_⟩
      refine ⟨b, g, l, W, e, av, ahead, L2, rfl, B2, av2, hla, hch, hel, hW1, hW5, fun v qn L3 H3 tv ok3 nok3 c3 low3 B3 F3 => ?_⟩
      have k3 := B2.kt (K := K) F3
      have h3 := F3 T _ h2 Tb Tg Tl'
      have kT : KT K H3 (upd H3 T (.lst (us ++ [v]))) := KT.updL h3
      refine ⟨us, h3, ?_, us ++ [v], qs ++ [qn], L3, by rw [List.length_append, hq]; rfl, upd_same, ?_, ?_, ?_, ?_, av2.keep (k3.trans kT), B3.updN Tb Tg Tl', (F2.trans F3).updN T0⟩
      · rw [t2.len, List.length_map]
        exact small1000 (by omega)
      · rw [List.map_append]
        exact (t2.keep (k3.trans kT)).app (.cons (tv.keep kT) .nil)
      · intro q' hq'
        rcases List.mem_append.mp hq' with h | h
        · exact ok2 q' h
        · rw [List.mem_singleton.mp h]
          exact ⟨ok3, nok3⟩
      · rw [cnt_snoc]
        omega
      · have e1 : lowL (n + 1) = lowL n - 3 := by
          unfold lowL
          omega
        have e2 : lowL n = -(3 * (n : Int) + 2) := rfl
        refine .inr ?_
        rcases low2 with l2 | l2 <;> rcases low3 with l3 | l3 <;> omega
    · rintro H2 ⟨us, qs, L2, hq, h2, t2, ok2, c2, low2, av2, B2, F2⟩
      refine ⟨T, us, rfl, SqL.of h2, fun v H3 s3 q3 => ?_⟩
      refine q (.ref v) qs L2 H3 (.tup q3 (t2.keep (Same.kt s3))) ⟨by show qs.length ≤ 5; omega, ok2⟩ c2 ?_ (B2.keep s3) (F2.trans (.of s3))
      rcases low2 with l2 | l2
      · exact .inl (by omega)
      · exact .inr (by omega)
/-- both, by the number of levels -/
theorem ok_law_qn {f f1 f2 f3 f4 f5 f6 f7 : Addr} {fd fd1 fd2 fd3 fd4 fd5 fd6 fd7 : FuncData} (D_law_question : Dn K mg "_law_question" s_law_question ["bag", "worlds", "ahead", "levels", "left"] f fd) (B : Blt mg) (D_law_low : Dn K mg "_law_low" s_law_low ["top", "bottom"] f1 fd1) (D_law_common : Dn K mg "_law_common" s_law_common ["one", "other"] f2 fd2)
    (D_law_pick : Dn K mg "_law_pick" s_law_pick ["bag", "many"] f3 fd3) (D_law_shares : Dn K mg "_law_shares" s_law_shares ["bag", "many", "least"] f4 fd4) (D_law_some : Dn K mg "_law_some" s_law_some ["bag", "things"] f5 fd5) (D_law_times : Dn K mg "_law_times" s_law_times ["one", "other"] f6 fd6)
    (D_law_node : Dn K mg "_law_node" s_law_node ["bag", "worlds", "ahead", "levels", "left"] f7 fd7) :
    ∀ n : Nat, FnOk P w K mg base CX0 (5 + 2 * n) f fd ["bag", "worlds", "ahead", "levels", "left"] (spQ K n) ∧ FnOk P w K mg base CX0 (6 + 2 * n) f7 fd7 ["bag", "worlds", "ahead", "levels", "left"] (spN K n)
  | 0 => by
    have h0 : FnOk P w K mg base CX0 (5 + 2 * 0) f fd ["bag", "worlds", "ahead", "levels", "left"] (spQ K 0) := ⟨fun vs H Q E h => h.elim, fun A outer s H args us vs Q E _ _ _ _ h => h.elim⟩
    exact ⟨h0, ok_law_node D_law_node B D_law_pick D_law_question h0⟩
  | n + 1 => by
    have ih := ok_law_qn D_law_question B D_law_low D_law_common D_law_pick D_law_shares D_law_some D_law_times D_law_node n
    have h1 : FnOk P w K mg base CX0 (5 + 2 * (n + 1)) f fd ["bag", "worlds", "ahead", "levels", "left"] (spQ K (n + 1)) := by
      have := ok_law_question D_law_question B D_law_low D_law_common D_law_pick D_law_shares D_law_some D_law_times D_law_node ih.2
      rw [show 5 + 2 * (n + 1) = 7 + 2 * n by omega]
      exact this
    exact ⟨h1, ok_law_node D_law_node B D_law_pick D_law_question h1⟩
end
end Tl
namespace Tl
open PySem PySem.Spec PyProof.Rows L2 RZ
def ones (W : Nat) : List Rat := List.replicate W 1
theorem ones_ch {W e : Nat} : ∀ r ∈ ones W, Ch e r := fun r hr => by
  rw [(List.mem_replicate.mp hr).2]
  exact ch_one
theorem rD_one : rD 1 = .tuple [.int 1, .int 1] := rfl
theorem rD_zero : rD 0 = .tuple [.int 0, .int 1] := rfl
theorem tdAll_rep {K : PySem.W.Frag} {H : Hp} {v : V} {d : PyData} (h : Td K H v d) : ∀ n : Nat, TdAll K H (List.replicate n v) (List.replicate n d)
  | 0 => .nil
  | n + 1 => by
    rw [List.replicate_succ, List.replicate_succ]
    exact .cons h (tdAll_rep h n)
theorem flat_rep {α : Type} (v : α) : ∀ n : Nat, (List.replicate n [v]).flatten = List.replicate n v
  | 0 => rfl
  | n + 1 => by
    rw [List.replicate_succ, List.flatten_cons, flat_rep v n, List.replicate_succ]
    rfl
theorem ones_td {K : PySem.W.Frag} {H : Hp} {p q : Addr} {W : Nat} (hq : Td K H (.ref q) (rD 1)) (hp : SqT K H p (List.replicate (W : Int).toNat [V.ref q]).flatten) : Td K H (.ref p) (wsD (ones W)) := by
  rw [flat_rep, Int.toNat_natCast] at hp
  refine .tup hp ?_
  unfold ones
  rw [List.map_replicate]
  exact tdAll_rep hq W
/-- a drawn tree -/
def spTree (K : PySem.W.Frag) (n : Nat) : Sp := fun vs H Q _ => ∃ (b g : Addr) (W : Nat) (A : Nat), vs = [.ref b, .int (W : Int), .int ((n + 1 : Nat) : Int), .int (A : Int)] ∧ Bag H b g ∧ n + 1 ≤ 5 ∧ 1 ≤ W ∧ W ≤ 5 ∧
  ∀ (v : V) (t : Nd (n + 1)) (H' : Hp), Td K H' v (ndD (n + 1) t) → NdF W (n + 1) (ones W) t → cnt (n + 1) t ≤ A + 3 * n + 8 → Bag H' b g → Frm b g H H' → Q v H'
section
variable {P : Program} {w : World} {K : PySem.W.Frag} {mg : Str → Option Value} {base : Heap}
theorem ok_law_tree {n : Nat} {f f1 f2 : Addr} {fd fd1 fd2 : FuncData} (D : Dn K mg "_law_tree" s_law_tree ["bag", "worlds", "levels", "answers"] f fd) (B : Blt mg) (D_law_pick : Dn K mg "_law_pick" s_law_pick ["bag", "many"] f1 fd1)
    (D_law_question : Dn K mg "_law_question" s_law_question ["bag", "worlds", "ahead", "levels", "left"] f2 fd2) (G_law_question : FnOk P w K mg base CX0 (5 + 2 * (n + 1)) f2 fd2 ["bag", "worlds", "ahead", "levels", "left"] (spQ K (n + 1))) :
    FnOk P w K mg base CX0 (6 + 2 * (n + 1)) f fd ["bag", "worlds", "levels", "answers"] (spTree K n) := by
  have G_law_pick : FnOk P w K mg base CX0 1 f1 fd1 ["bag", "many"] spPick := ok_law_pick D_law_pick B
  rw [show 6 + 2 * (n + 1) = (5 + 2 * (n + 1)) + 1 by omega]
  refine D.F.ok sc_law_tree (fun vs H Q E h => ?_) (fun cdv A outer s H vs Q E hr h => ?_)
  · obtain ⟨b, g, W, A, rfl, _⟩ := h
    rfl
  obtain ⟨b, g, W, A, rfl, hB, hn, hW1, hW5, q⟩ := h
  have nd := sc_law_tree.nd
  refine ⟨_, (pss_cons (ps_asg (pe_tup (pa_cons (pe_op (k_rep (K := K) rfl) (pe_tup (pa_cons (pe_tup (pa_cons pe_int (pa_cons pe_int pa_nil))) pa_nil)) (pv 1)) (pa_cons (pe_lst (pa_cons (pv 3) pa_nil)) pa_nil))) (k_tup (K := K) (n := 2) rfl rfl (pgs_cons (pg_name (i := 4) nd rfl (.inr rfl)) (pgs_cons (pg_name (i := 5) nd rfl (.inr rfl)) pgs_nil))))
      (pss_cons (ps_setLc (i := 6) (own := [("k", 7)]) rfl nd rfl rfl (sw_true rfl rfl rfl (by decide +kernel)) (pi_range1 (by rfl) B.range (pa_cons (pe_op op_add pe_int (pe_call G_law_pick (hr.mono (by omega)) (by rfl) D_law_pick.m D_law_pick.F.kp D_law_pick.b .nil pass0 (pa_cons (pv 0) (pa_cons pe_int pa_nil)))) pa_nil)) (blkOk_by (own := [("k", 7)]) (by kernel_rfl)) (fun _ _ _ _ _ => (pg_name (i := 7) nd rfl (.inl rfl))) (fun _ _ _ _ _ => pts_nil) (fun _ _ _ _ _ => (pe_call G_law_question (hr.mono (by omega)) (by rfl) D_law_question.m D_law_question.F.kp D_law_question.b .nil pass0 (pa_cons (pv 0) (pa_cons (pv 1) (pa_cons (pv 4) (pa_cons (pv 2) (pa_cons (pv 5) pa_nil))))))))
      (pss_one (ps_ret (pe_callTy (k_tupOf (K := K) rfl) (by rfl) B.tuple (by decide +kernel) (pa_cons (pv 6) pa_nil)))))), ?_⟩
  refine ⟨(by show 2 ≤ sizeLine; decide), fun p1 n1 => ⟨(by show 1 ≤ sizeLine; decide), fun p2 n2 => ?_⟩⟩
  have s2 : Same H (upd (upd H p1 (.tup [.int 1, .int 1])) p2 (.tup [.ref p1])) := (same_upd n1).trans (same_upd n2)
  refine ⟨_, rfl, p2, (W : Int), _, rfl, rfl, .inl (.inl upd_same), by simp, by omega, by omega, by simp, fun pa H3 s3 q3 => ?_⟩
  refine ⟨_, rfl, (by show 1 ≤ sizeLine; decide), fun l nl => ?_⟩
  refine ⟨(by show 2 ≤ sizeLine; decide), fun pt npt => ?_⟩
  have hl : (upd (upd H3 l (.lst [.int (A : Int)])) pt (.tup [.ref pa, .ref l])) l = some (.lst [.int (A : Int)]) := by
    rw [upd_ne (ne_of_none (H := upd H3 l (.lst [.int (A : Int)])) upd_same npt)]
    exact upd_same
  have s35 : Same H3 (upd (upd H3 l (.lst [.int (A : Int)])) pt (.tup [.ref pa, .ref l])) := (same_upd nl).trans (same_upd npt)
  have s5 := (s2.trans s3).trans s35
  have t1 : Td K (upd (upd H3 l (.lst [.int (A : Int)])) pt (.tup [.ref pa, .ref l])) (.ref p1) (rD 1) := by
    rw [rD_one]
    exact .tup (Same.kt s35 _ _ (Same.kt s3 _ _ (Same.kt (same_upd n2) _ _ (.inl (.inl upd_same))))) (tdAll_ints [1, 1])
  have ta : Td K (upd (upd H3 l (.lst [.int (A : Int)])) pt (.tup [.ref pa, .ref l])) (.ref pa) (wsD (ones W)) := ones_td t1 (Same.kt s35 _ _ q3)
  have nl0 : H l = none := (s2.trans s3).free nl
  obtain ⟨lb, lg⟩ := hB.neNew nl0
  refine ⟨pt, [.ref pa, .ref l], rfl, .inl (.inl upd_same), rfl, _, _, rfl, _, _, rfl, rfl, ?_⟩
  generalize upd (upd H3 l (.lst [.int (A : Int)])) pt (.tup [.ref pa, .ref l]) = H5 at hl s5 ta
  have B5 : BagL H5 b g l (A : Int) := ⟨hB.keep s5, hl, lb, lg⟩
  clear t1
  -- some
  refine ⟨_, rfl, b, g, 2, rfl, B5.B, by decide, by decide, fun r H6 r0 r1 B6 F6 => ⟨_, _, rfl, rfl, _, rfl, by omega, by omega, fun T hT => ?_⟩⟩
  have B6 := B5.bag B6 F6
  have F6 : Frl b g l H5 H6 := .ofF F6
  have ta6 := ta.keep (B5.kt F6)
  obtain ⟨Tb, Tg, Tl'⟩ := B6.neNew hT
  obtain ⟨mm, em⟩ : ∃ mm : Nat, (1 + r).toNat = mm := ⟨_, rfl⟩
  rw [em]
  have F06 : Frl b g l H H6 := (Frl.of s5).trans F6
  have T0 : H T = none := F06.none hT Tb Tg Tl'
  refine lc_range (lo := 0) (n := mm) (fun i H2 => ∃ (us : List V) (qs : List (Qn n)) (L2 : Int), qs.length = i ∧ H2 T = some (.lst us) ∧ TdAll K H2 us (qs.map (qnD n)) ∧ (∀ q ∈ qs, (QnOk W (ones W) q ∧ Few q) ∧ ∀ a ∈ q, NdF W n a.2.1 a.2.2) ∧ ((cnt (n + 1) qs : Nat) : Int) + L2 = (A : Int) ∧
      ((A : Int) - 3 * i ≤ L2 ∨ lowL n - 3 * i ≤ L2) ∧ Td K H2 (.ref pa) (wsD (ones W)) ∧ BagL H2 b g l L2 ∧ Frl b g l H H2)
    ⟨[], [], (A : Int), rfl, upd_same, .nil, fun q h => absurd h List.not_mem_nil, by show ((0 : Nat) : Int) + (A : Int) = A; omega, .inl (by omega), ta6.keep (Same.kt (same_upd hT)), B6.updN Tb Tg Tl', F06.updN T0⟩ ?_ ?_
  · rintro i H2 hi ⟨us, qs, L2, hq, h2, t2, ok2, c2, low2, av2, B2, F2⟩
    refine ⟨rfl, ?_⟩
    refine iteT (B := ∃ (us : List V) (qs : List (Qn n)) (L2 : Int), qs.length = i + 1 ∧ H2 T = some (.lst us) ∧ TdAll K H2 us (qs.map (qnD n)) ∧ (∀ q ∈ qs, (QnOk W (ones W) q ∧ Few q) ∧ ∀ a ∈ q, NdF W n a.2.1 a.2.2) ∧ ((cnt (n + 1) qs : Nat) : Int) + L2 = (A : Int) ∧
      ((A : Int) - 3 * ((i + 1 : Nat) : Int) ≤ L2 ∨ lowL n - 3 * ((i + 1 : Nat) : Int) ≤ L2) ∧ Td K H2 (.ref pa) (wsD (ones W)) ∧ BagL H2 b g l L2 ∧ Frl b g l H H2) ?_
    refine ⟨_, rfl, _, rfl, _, rfl, _, rfl, _, rfl, ?_⟩
    refine ⟨b, g, l, W, 0, .ref pa, ones W, L2, rfl, B2, av2, by unfold ones; rw [List.length_replicate], ones_ch, by omega, hW1, hW5, fun v qn L3 H3 tv ok3 nok3 c3 low3 B3 F3 => ?_⟩
    have k3 := B2.kt (K := K) F3
    have h3 := F3 T _ h2 Tb Tg Tl'
    have kT : KT K H3 (upd H3 T (.lst (us ++ [v]))) := KT.updL h3
    refine ⟨us, h3, ?_, us ++ [v], qs ++ [qn], L3, by rw [List.length_append, hq]; rfl, upd_same, ?_, ?_, ?_, ?_, av2.keep (k3.trans kT), B3.updN Tb Tg Tl', (F2.trans F3).updN T0⟩
    · rw [t2.len, List.length_map]
      exact small1000 (by omega)
    · rw [List.map_append]
      exact (t2.keep (k3.trans kT)).app (.cons (tv.keep kT) .nil)
    · intro q' hq'
      rcases List.mem_append.mp hq' with h | h
      · exact ok2 q' h
      · rw [List.mem_singleton.mp h]
        exact ⟨ok3, nok3⟩
    · rw [cnt_snoc]
      omega
    · rcases low2 with l2 | l2 <;> rcases low3 with l3 | l3 <;> omega
  · rintro H2 ⟨us, qs, L2, hq, h2, t2, ok2, c2, low2, av2, B2, F2⟩
    refine ⟨_, rfl, T, us, rfl, SqL.of h2, fun v H3 s3 q3 => ?_⟩
    refine q (.ref v) qs H3 (.tup q3 (t2.keep (Same.kt s3))) ⟨by show qs.length ≤ 5; omega, ok2⟩ ?_ ((B2.keep s3).B) ?_
    · have e2 : lowL n = -(3 * (n : Int) + 2) := rfl
      rcases low2 with l2 | l2 <;> omega
    · intro a o ha h1 h2'
      exact (F2.trans (.of s3)) a o ha h1 h2' (fun z => by rw [z, nl0] at ha; cases ha)
end
end Tl
namespace Tl
open PySem PySem.Spec PyProof.Rows L2 RZ
/-- the module's constants -/
structure Cst (K : PySem.W.Frag) (mg : Str → Option Value) (aN aO : Addr) (t1 t2 t3 t4 t5 t6 t7 : Tok) : Prop where
  gcd : mg "gcd" = some (.builtin "math.gcd")
  lcm : mg "lcm" = some (.builtin "math.lcm")
  ONE : mg "ONE" = some (.ref aO)
  tO : ∀ H, SqT K H aO [.int 1, .int 1]
  MOST_QUESTIONS : mg "MOST_QUESTIONS" = some (.int 5 t1)
  MOST_WORDS : mg "MOST_WORDS" = some (.int 12 t2)
  MOST_NUMBERS : mg "MOST_NUMBERS" = some (.int 8 t3)
  MOST_ON_A_WAY : mg "MOST_ON_A_WAY" = some (.int 8 t4)
  MOST_PASSED : mg "MOST_PASSED" = some (.int 1500 t5)
theorem tyx_tup {K : PySem.W.Frag} {H : Hp} {a : Addr} {xs : List V} (h : SqT K H a xs) : TyX K H (.ref a) (.type "tuple") := by
  rcases h with (h | ⟨o, h⟩) | ⟨o, its, n, h, c, _⟩
  · exact .base (.tup h)
  · exact .fTuple h
  · exact .kTuple h c
def spIntegral : Sp := fun vs H Q _ => ∃ i : Int, vs = [.int i] ∧ Q (.bl true) H
def spNumber : Sp := fun vs H Q _ => ∃ i lo hi : Int, vs = [.int i, .int lo, .int hi] ∧ Q (.bl (decide (lo ≤ i) && decide (i ≤ hi))) H
def spFraction (K : PySem.W.Frag) : Sp := fun vs H Q _ => ∃ (v : V) (q : Rat), vs = [v] ∧ Td K H v (rD q) ∧ Q (.bl true) H
def spChance (K : PySem.W.Frag) : Sp := fun vs H Q _ => ∃ (v : V) (q : Rat), vs = [v] ∧ Td K H v (rD q) ∧ 0 ≤ q ∧ q ≤ 1 ∧ Q (.bl true) H
def spReduced (K : PySem.W.Frag) : Sp := fun vs H Q _ => ∃ (t : Int) (b : Nat), vs = [.int t, .int (b : Int)] ∧ 0 < b ∧ b < 2 ^ 4000 ∧ ∀ v H', Same H H' → Td K H' v (rD (mkRat t b)) → Q v H'
/-- small enough to be reckoned with -/
def Sm (q : Rat) : Prop := q.den < 2 ^ 1500 ∧ q.num.natAbs < 2 ^ 1500
theorem ll_lt1500 {e : Nat} (h : e ≤ 16) : LL ^ e < 2 ^ 1500 := Nat.lt_of_le_of_lt (ll_small (k := 1450) (by omega)) (Nat.pow_lt_pow_right (by decide) (by decide))
theorem Ch.sm {e : Nat} {q : Rat} (h : Ch e q) (he : e ≤ 16) : Sm q := ⟨Nat.lt_of_le_of_lt h.den (ll_lt1500 he), Nat.lt_of_le_of_lt h.num (ll_lt1500 he)⟩
def spAdded (K : PySem.W.Frag) : Sp := fun vs H Q _ => ∃ (x y : V) (p q : Rat), vs = [x, y] ∧ Td K H x (rD p) ∧ Td K H y (rD q) ∧ Sm p ∧ Sm q ∧ ∀ v H', Same H H' → Td K H' v (rD (p + q)) → Q v H'
theorem mapAt {α β : Type} {l : List α} {f : α → β} {i : Nat} {y : β} (h : (l.map f)[i]? = some y) : ∃ x, l[i]? = some x ∧ y = f x := by
  rw [List.getElem?_map] at h
  cases e : l[i]? with
  | none =>
    rw [e] at h
    cases h
  | some x =>
    rw [e] at h
    exact ⟨x, rfl, (Option.some.inj h).symm⟩
/-! fractions with one bottom -/
def fr (D : Nat) (n : Int) : Rat := mkRat n D
theorem fr_add {D : Nat} (hD : 0 < D) (m n : Int) : fr D m + fr D n = fr D (m + n) := mk_add m n D hD
theorem fsum_fr {D : Nat} (hD : 0 < D) : ∀ ns : List Int, fsum (ns.map (fr D)) = fr D ns.sum
  | [] => by
    show (0 : Rat) = mkRat 0 D
    rw [Rat.zero_mkRat]
  | n :: r => by
    rw [List.map_cons, fsum_cons, fsum_fr hD r, fr_add hD]
    rfl
def abssum (ns : List Int) : Nat := (ns.map Int.natAbs).sum
theorem abssum_cons (n : Int) (r : List Int) : abssum (n :: r) = n.natAbs + abssum r := rfl
theorem abssum_mem {ns : List Int} {n : Int} (h : n ∈ ns) : n.natAbs ≤ abssum ns := by
  induction ns with
  | nil => exact absurd h List.not_mem_nil
  | cons x r ih =>
    rw [abssum_cons]
    rcases List.mem_cons.mp h with rfl | h
    · omega
    · have := ih h
      omega
theorem fr_sm {D : Nat} (hD : 0 < D) (h : D < 2 ^ 1500) {n : Int} (hn : n.natAbs < 2 ^ 1500) : Sm (fr D n) := by
  refine ⟨Nat.lt_of_le_of_lt (mkRat_den_le n D hD) h, Nat.lt_of_le_of_lt ?_ hn⟩
  show (mkRat n D).num.natAbs ≤ _
  rw [(mkRat_parts n D hD).1]
  exact Int.natAbs_ediv_le_natAbs _ _
/-- the sums of pairs -/
def prs : List Int → List Int
  | a :: b :: r => (a + b) :: prs r
  | _ => []
theorem prs_len : ∀ ns : List Int, (prs ns).length = ns.length / 2
  | [] => by
    show 0 = 0 / 2
    decide
  | [a] => by
    show 0 = 1 / 2
    decide
  | a :: b :: r => by
    show (prs r).length + 1 = (r.length + 1 + 1) / 2
    rw [prs_len r]
    omega
theorem prs_at : ∀ (ns : List Int) (i : Nat) (x y : Int), ns[2 * i]? = some x → ns[2 * i + 1]? = some y → (prs ns)[i]? = some (x + y)
  | [], i, x, y, h, _ => by simp at h
  | [a], i, x, y, _, h => by simp at h
  | a :: b :: r, 0, x, y, h1, h2 => by
    cases h1
    cases h2
    rfl
  | a :: b :: r, i + 1, x, y, h1, h2 => by
    rw [show 2 * (i + 1) = 2 * i + 1 + 1 by omega] at h1 h2
    exact prs_at r i x y (by simpa using h1) (by simpa using h2)
def pw (ns : List Int) : List Int := prs ns ++ ns.drop (2 * (prs ns).length)
theorem pw_cons (a b : Int) (r : List Int) : pw (a :: b :: r) = (a + b) :: pw r := rfl
theorem pw_sum : ∀ ns : List Int, (pw ns).sum = ns.sum
  | [] => rfl
  | [a] => rfl
  | a :: b :: r => by
    rw [pw_cons]
    show (a + b) + (pw r).sum = a + (b + r.sum)
    rw [pw_sum r]
    omega
theorem pw_abs : ∀ ns : List Int, abssum (pw ns) ≤ abssum ns
  | [] => Nat.le_refl _
  | [a] => Nat.le_refl _
  | a :: b :: r => by
    rw [pw_cons, abssum_cons, abssum_cons, abssum_cons]
    have := pw_abs r
    omega
theorem pw_len (ns : List Int) : (pw ns).length = ns.length - (prs ns).length := by
  unfold pw
  have := prs_len ns
  rw [List.length_append, List.length_drop]
  omega
def frN (D : Nat) (r : Rat) : Int := r.num * ((D / r.den : Nat) : Int)
theorem fr_frN {D : Nat} (hD : 0 < D) {r : Rat} (h : r.den ∣ D) : fr D (frN D r) = r := by
  obtain ⟨k, e⟩ := h
  have d0 : 0 < r.den := Nat.pos_of_ne_zero r.den_nz
  have k0 : k ≠ 0 := fun z => by
    rw [z, Nat.mul_zero] at e
    omega
  have ek : D / r.den = k := by rw [e]; exact Nat.mul_div_cancel_left k d0
  unfold fr frN
  rw [ek]
  show mkRat (r.num * (k : Int)) D = r
  rw [e, Rat.mkRat_mul_right k0]
  exact rat_mk r
theorem frs_frN {D : Nat} (hD : 0 < D) : ∀ {rs : List Rat}, (∀ r ∈ rs, r.den ∣ D) → (rs.map (frN D)).map (fr D) = rs
  | [], _ => rfl
  | r :: rs, h => by
    rw [List.map_cons, List.map_cons, fr_frN hD (h r (List.mem_cons_self ..)), frs_frN hD fun x hx => h x (List.mem_cons_of_mem _ hx)]
theorem frN_abs {D : Nat} {r : Rat} (h : r.den ∣ D) (h0 : 0 ≤ r) (h1 : r ≤ 1) : (frN D r).natAbs ≤ D := by
  have a := (Rat.le_iff r 1).mp h1
  have b := Rat.num_nonneg.mpr h0
  have c : (1 : Rat).num = 1 := rfl
  have d : (1 : Rat).den = 1 := rfl
  rw [c, d] at a
  have n1 : r.num.natAbs ≤ r.den := by omega
  unfold frN
  rw [Int.natAbs_mul, Int.natAbs_natCast]
  have := Nat.mul_le_mul_right (D / r.den) n1
  rw [Nat.mul_div_cancel' h] at this
  exact this
theorem frNs_abs {D : Nat} : ∀ {rs : List Rat}, (∀ r ∈ rs, r.den ∣ D ∧ 0 ≤ r ∧ r ≤ 1) → abssum (rs.map (frN D)) ≤ rs.length * D
  | [], _ => by
    rw [List.length_nil, Nat.zero_mul]
    exact Nat.le_refl 0
  | r :: rs, h => by
    rw [List.map_cons, abssum_cons, List.length_cons, Nat.add_mul, Nat.one_mul]
    obtain ⟨a, b, c⟩ := h r (List.mem_cons_self ..)
    have := frN_abs a b c
    have := frNs_abs fun x hx => h x (List.mem_cons_of_mem _ hx)
    omega
theorem TdAll.drop {K : PySem.W.Frag} {H : Hp} : ∀ {us : List V} {ds : List PyData} (k : Nat), TdAll K H us ds → TdAll K H (us.drop k) (ds.drop k)
  | _, _, 0, h => h
  | _, _, _ + 1, .nil => .nil
  | _, _, k + 1, .cons _ t => TdAll.drop k t
theorem cut_drop {xs : List V} {k : Nat} (h : k ≤ xs.length) : cutV xs (some (k : Int)) none = xs.drop k := by
  unfold cutV
  rw [HT.sIx_nat, HT.sIx_none, Nat.min_eq_left h]
  exact List.take_of_length_le (by rw [List.length_drop]; omega)
theorem rat0_td {K : PySem.W.Frag} {H : Hp} {a : Addr} (h : SqT K H a [.int 0, .int 1]) : Td K H (.ref a) (rD 0) := by
  have e : rD 0 = .tuple [.int 0, .int 1] := rfl
  rw [e]
  exact .tup h (tdAll_ints [0, 1])
def spTotal (K : PySem.W.Frag) : Sp := fun vs H Q _ => ∃ (r : Addr) (us : List V) (D : Nat) (ns : List Int), vs = [.ref r] ∧ (SqL K H r us ∨ SqT K H r us) ∧ TdAll K H us ((ns.map (fr D)).map rD) ∧ 0 < D ∧ D < 2 ^ 1500 ∧ abssum ns < 2 ^ 1500 ∧ ns.length ≤ 1000 ∧
  ∀ v H', Same H H' → Td K H' v (rD (fsum (ns.map (fr D)))) → Q v H'
def tot (W : Nat) (rows : List (List Rat)) : List Rat := (List.range W).map fun j => fsum (rows.map fun r => r.getD j 0)
def spTotW (K : PySem.W.Frag) : Sp := fun vs H Q _ => ∃ (r : Addr) (us : List V) (W : Nat) (rows : List (List Rat)), vs = [.ref r, .int (W : Int)] ∧ SqL K H r us ∧ TdAll K H us (rows.map wsD) ∧ 1 ≤ W ∧ W ≤ 5 ∧ rows.length ≤ 900 ∧ (∀ x ∈ rows, x.length = W) ∧
  (∀ j, j < W → ∃ D : Nat, 0 < D ∧ D < 2 ^ 1500 ∧ (∀ x ∈ rows, (x.getD j 0).den ∣ D) ∧ abssum ((rows.map fun x => x.getD j 0).map (frN D)) < 2 ^ 1500) ∧ ∀ v H', Same H H' → Td K H' v (wsD (tot W rows)) → Q v H'
def spChances (K : PySem.W.Frag) : Sp := fun vs H Q _ => ∃ (v : V) (ws : List Rat), vs = [v, .int ((ws.length : Nat) : Int)] ∧ Td K H v (wsD ws) ∧ ws.length ≤ 100 ∧ (∀ r ∈ ws, 0 ≤ r ∧ r ≤ 1) ∧ ∀ H', Same H H' → Q (.bl true) H'
theorem tot_len (W : Nat) (rows : List (List Rat)) : (tot W rows).length = W := by
  unfold tot
  rw [List.length_map, List.length_range]
/-! the least common bottom -/
def lcmL (rs : List Rat) : Nat := rs.foldl (fun b r => Nat.lcm b r.den) 1
theorem lcmL_snoc (rs : List Rat) (r : Rat) : lcmL (rs ++ [r]) = Nat.lcm (lcmL rs) r.den := by
  unfold lcmL
  rw [List.foldl_append]
  rfl
theorem foldlcm : ∀ (rs : List Rat) (b : Nat), b ∣ rs.foldl (fun b r => Nat.lcm b r.den) b ∧ (∀ r ∈ rs, r.den ∣ rs.foldl (fun b r => Nat.lcm b r.den) b) ∧ (∀ D, b ∣ D → (∀ r ∈ rs, r.den ∣ D) → rs.foldl (fun b r => Nat.lcm b r.den) b ∣ D)
  | [], b => ⟨Nat.dvd_refl _, fun r h => absurd h List.not_mem_nil, fun D h _ => h⟩
  | x :: rs, b => by
    obtain ⟨h1, h2, h3⟩ := foldlcm rs (Nat.lcm b x.den)
    rw [List.foldl_cons]
    refine ⟨Nat.dvd_trans (Nat.dvd_lcm_left b x.den) h1, fun r hr => ?_, fun D hb hr => h3 D (Nat.lcm_dvd hb (hr x (List.mem_cons_self ..))) fun r h => hr r (List.mem_cons_of_mem _ h)⟩
    rcases List.mem_cons.mp hr with rfl | hr
    · exact Nat.dvd_trans (Nat.dvd_lcm_right b r.den) h1
    · exact h2 r hr
theorem lcmL_mem {rs : List Rat} {r : Rat} (h : r ∈ rs) : r.den ∣ lcmL rs := (foldlcm rs 1).2.1 r h
theorem lcmL_dvd {rs : List Rat} {D : Nat} (h : ∀ r ∈ rs, r.den ∣ D) : lcmL rs ∣ D := (foldlcm rs 1).2.2 D (Nat.one_dvd _) h
theorem lcmL_pos {rs : List Rat} {D : Nat} (hD : 0 < D) (h : ∀ r ∈ rs, r.den ∣ D) : 0 < lcmL rs := Nat.pos_of_dvd_of_pos (lcmL_dvd h) hD
theorem fr_den {D : Nat} (hD : 0 < D) (n : Int) : (fr D n).den ∣ D := by
  unfold fr
  rw [Rat.den_mkRat, if_neg (by omega)]
  exact Nat.div_dvd_of_dvd (Nat.gcd_dvd_left _ _)
theorem fr_num_le {D : Nat} (hD : 0 < D) (n : Int) : (fr D n).num.natAbs ≤ n.natAbs := by
  show (mkRat n D).num.natAbs ≤ _
  rw [(mkRat_parts n D hD).1]
  exact Int.natAbs_ediv_le_natAbs _ _
theorem fsum_lcm {rs : List Rat} {D : Nat} (hD : 0 < D) (h : ∀ r ∈ rs, r.den ∣ D) : mkRat (rs.map (frN (lcmL rs))).sum (lcmL rs) = fsum rs := by
  have e := frs_frN (lcmL_pos hD h) (rs := rs) fun r hr => lcmL_mem hr
  have s := fsum_fr (lcmL_pos hD h) (rs.map (frN (lcmL rs)))
  rw [e] at s
  exact s.symm
def spCB (K : PySem.W.Frag) : Sp := fun vs H Q _ => ∃ (r : Addr) (us : List V) (D : Nat) (rs : List Rat), vs = [.ref r] ∧ (SqL K H r us ∨ SqT K H r us) ∧ TdAll K H us (rs.map rD) ∧ 0 < D ∧ D < 2 ^ 1500 ∧ (∀ x ∈ rs, x.den ∣ D) ∧ Q (.int ((lcmL rs : Nat) : Int)) H
def spTW (K : PySem.W.Frag) : Sp := fun vs H Q _ => ∃ (v : V) (r : Rat) (m : Nat), vs = [v, .int (m : Int)] ∧ Td K H v (rD r) ∧ m < 2 ^ 1500 ∧ r.num.natAbs < 2 ^ 1500 ∧ r.den < 2 ^ 1500 ∧ Q (.int (frN m r)) H
def DTot (K : PySem.W.Frag) (mg : Str → Option Value) (f : Addr) (fd : FuncData) : Prop := Dn K mg "common_bottom" s_common_bottom ["fractions"] f fd ∧ ∃ f2 fd2, Dn K mg "times_whole" s_times_whole ["fraction", "whole"] f2 fd2
section
variable {P : Program} {w : World} {K : PySem.W.Frag} {mg : Str → Option Value} {base : Heap} {aN aO : Addr} {t1 t2 t3 t4 t5 t6 t7 : Tok}
theorem ok_is_integral {f : Addr} {fd : FuncData} (D : Dn K mg "is_integral" s_is_integral ["thing"] f fd) (B : Blt mg) : FnOk P w K mg base CX0 1 f fd ["thing"] spIntegral := by
  refine D.F.ok sc_is_integral (fun vs H Q E h => ?_) (fun cdv A outer s H vs Q E hr h => ?_)
  · obtain ⟨i, rfl, _⟩ := h
    rfl
  obtain ⟨i, rfl, q⟩ := h
  have nd := sc_is_integral.nd
  refine ⟨_, (pss_one (ps_ret (pe_and (pe_callB (k_isi (K := K) rfl) (by rfl) B.isinstance (by decide +kernel) (pa_cons (pv 0) (pa_cons (pe_bltn (v := .ty "int") (u := .type "int") (by rfl) B.int (by decide +kernel) rfl) pa_nil))) (pe_one (pe_not (pe_callB (k_isi (K := K) rfl) (by rfl) B.isinstance (by decide +kernel) (pa_cons (pv 0) (pa_cons (pe_bltn (v := .ty "bool") (u := .type "bool") (by rfl) B.bool (by decide +kernel) rfl) pa_nil)))))))), ?_⟩
  refine ⟨_, rfl, _, _, _, _, true, rfl, .ty "int", .base (.int i), kit_ty (by decide +kernel), _, rfl, ?_⟩
  refine iteT ⟨_, rfl, _, _, _, _, false, rfl, .ty "bool", .base (.int i), kit_ty (by decide +kernel), _, rfl, q⟩
theorem ok_is_number {f f1 : Addr} {fd fd1 : FuncData} (D : Dn K mg "is_number" s_is_number ["thing", "least", "most"] f fd) (B : Blt mg) (D_is_integral : Dn K mg "is_integral" s_is_integral ["thing"] f1 fd1) : FnOk P w K mg base CX0 2 f fd ["thing", "least", "most"] spNumber := by
  have G_is_integral : FnOk P w K mg base CX0 1 f1 fd1 ["thing"] spIntegral := ok_is_integral D_is_integral B
  refine D.F.ok sc_is_number (fun vs H Q E h => ?_) (fun cdv A outer s H vs Q E hr h => ?_)
  · obtain ⟨i, lo, hi, rfl, _⟩ := h
    rfl
  obtain ⟨i, lo, hi, rfl, q⟩ := h
  have nd := sc_is_number.nd
  refine ⟨_, (pss_one (ps_ret (pe_and (pe_call G_is_integral (hr.mono (by omega)) (by rfl) D_is_integral.m D_is_integral.F.kp D_is_integral.b .nil pass0 (pa_cons (pv 0) pa_nil)) (pe_one (pe_chain op_le op_le (pv 1) (pv 0) (pv 2)))))), ?_⟩
  refine ⟨_, rfl, i, rfl, _, rfl, iteT ⟨_, rfl, _, rfl, _, _, rfl, rfl, _, rfl, ?_⟩⟩
  refine ite2 (fun c => ?_) (fun c => ?_)
  · have e : (decide (lo ≤ i) && decide (i ≤ hi)) = decide (i ≤ hi) := by rw [c, Bool.true_and]
    rw [e] at q
    exact ⟨_, rfl, _, _, rfl, rfl, q⟩
  · have c : decide (lo ≤ i) = false := Bool.eq_false_iff.mpr c
    rw [c, Bool.false_and] at q
    exact q
theorem ok_is_fraction {f f1 : Addr} {fd fd1 : FuncData} (D : Dn K mg "is_fraction" s_is_fraction ["thing"] f fd) (B : Blt mg) (C : Cst K mg aN aO t1 t2 t3 t4 t5 t6 t7) (D_is_integral : Dn K mg "is_integral" s_is_integral ["thing"] f1 fd1) : FnOk P w K mg base CX0 2 f fd ["thing"] (spFraction K) := by
  have G_is_integral : FnOk P w K mg base CX0 1 f1 fd1 ["thing"] spIntegral := ok_is_integral D_is_integral B
  refine D.F.ok sc_is_fraction (fun vs H Q E h => ?_) (fun cdv A outer s H vs Q E hr h => ?_)
  · obtain ⟨v, r, rfl, _⟩ := h
    rfl
  obtain ⟨v, r, rfl, hv, q⟩ := h
  have nd := sc_is_fraction.nd
  refine ⟨_, (pss_cons (ps_if (PW.pt (pw_or (pt_not (pt_val (pe_callB (k_isi (K := K) rfl) (by rfl) B.isinstance (by decide +kernel) (pa_cons (pv 0) (pa_cons (pe_bltn (v := .ty "tuple") (u := .type "tuple") (by rfl) B.tuple (by decide +kernel) rfl) pa_nil))))) (pw_or1 (pt_cmpR op_ne (pe_callB (k_len (K := K) rfl) (by rfl) B.len PySem.boot_len (pa_cons (pv 0) pa_nil)) pe_int (nomark _))))) (pss_one (ps_ret pe_bl)) pss_nil)
      (pss_cons (ps_asg (pv 0) (k_tup (K := K) (n := 2) rfl rfl (pgs_cons (pg_name (i := 1) nd rfl (.inl rfl)) (pgs_cons (pg_name (i := 2) nd rfl (.inl rfl)) pgs_nil))))
      (pss_one (ps_ret (pe_and (pe_call G_is_integral (hr.mono (by omega)) (by rfl) D_is_integral.m D_is_integral.F.kp D_is_integral.b .nil pass0 (pa_cons (pv 1) pa_nil)) (pe_and (pe_call G_is_integral (hr.mono (by omega)) (by rfl) D_is_integral.m D_is_integral.F.kp D_is_integral.b .nil pass0 (pa_cons (pv 2) pa_nil)) (pe_and (pe_cmpR op_ge (pv 2) pe_int (nomark _)) (pe_one (pe_cmpR op_eq (pe_callBfun cr_gcd (by rfl) C.gcd (pa_cons (pv 1) (pa_cons (pv 2) pa_nil))) pe_int (nomark _)))))))))), ?_⟩
  obtain ⟨a, rfl, hs⟩ := hv.rE
  refine ⟨_, rfl, _, _, _, _, true, rfl, .ty "tuple", tyx_tup hs, kit_ty (by decide +kernel), _, rfl, iteF ?_⟩
  refine ⟨_, rfl, a, _, rfl, .inr hs, rfl, _, rfl, iteF ?_⟩
  refine ⟨_, rfl, a, _, rfl, hs, rfl, _, _, rfl, _, _, rfl, rfl, ?_⟩
  have hd : 0 < r.den := Nat.pos_of_ne_zero r.den_nz
  have hd1 : decide ((r.den : Int) ≥ 1) = true := decide_eq_true (by omega)
  refine ⟨_, rfl, _, rfl, _, rfl, iteT ⟨_, rfl, _, rfl, _, rfl, iteT ⟨_, rfl, _, _, rfl, rfl, _, rfl, ?_⟩⟩⟩
  rw [hd1]
  refine iteT ⟨_, rfl, _, rfl, _, _, rfl, rfl, ?_⟩
  have hg : Nat.gcd r.num.natAbs ((r.den : Int)).natAbs = 1 := by
    rw [Int.natAbs_natCast]
    exact r.reduced
  show Q (.bl (decide (V.int ((Nat.gcd r.num.natAbs ((r.den : Int)).natAbs : Nat) : Int) = V.int 1))) H
  rw [hg]
  exact q
theorem rat_bound {q : Rat} (h0 : 0 ≤ q) (h1 : q ≤ 1) : 0 ≤ q.num ∧ q.num ≤ (q.den : Int) := by
  have a := (Rat.le_iff q 1).mp h1
  have b := Rat.num_nonneg.mpr h0
  have c : (1 : Rat).num = 1 := rfl
  have d : (1 : Rat).den = 1 := rfl
  rw [c, d] at a
  omega
theorem ok_is_chance {f f1 f2 : Addr} {fd fd1 fd2 : FuncData} (D : Dn K mg "is_chance" s_is_chance ["thing"] f fd) (B : Blt mg) (C : Cst K mg aN aO t1 t2 t3 t4 t5 t6 t7) (D_is_integral : Dn K mg "is_integral" s_is_integral ["thing"] f1 fd1) (D_is_fraction : Dn K mg "is_fraction" s_is_fraction ["thing"] f2 fd2) : FnOk P w K mg base CX0 3 f fd ["thing"] (spChance K) := by
  have G_is_fraction : FnOk P w K mg base CX0 2 f2 fd2 ["thing"] (spFraction K) := ok_is_fraction D_is_fraction B C D_is_integral
  refine D.F.ok sc_is_chance (fun vs H Q E h => ?_) (fun cdv A outer s H vs Q E hr h => ?_)
  · obtain ⟨v, r, rfl, _⟩ := h
    rfl
  obtain ⟨v, r, rfl, hv, h0, h1, q⟩ := h
  have nd := sc_is_chance.nd
  refine ⟨_, (pss_one (ps_ret (pe_and (pe_call G_is_fraction (hr.mono (by omega)) (by rfl) D_is_fraction.m D_is_fraction.F.kp D_is_fraction.b .nil pass0 (pa_cons (pv 0) pa_nil)) (pe_one (pe_chain op_le op_le pe_int (pe_ix (k_ixT (K := K) rfl) (pv 0) pe_int (fun _ _ => rfl)) (pe_ix (k_ixT (K := K) rfl) (pv 0) pe_int (fun _ _ => rfl))))))), ?_⟩
  obtain ⟨a, rfl, hs⟩ := id hv.rE
  obtain ⟨b0, b1⟩ := rat_bound h0 h1
  refine ⟨_, rfl, _, r, rfl, hv, _, rfl, iteT ⟨_, rfl, a, _, 0, _, rfl, rfl, hs, at_of (j := 0) rfl rfl, _, _, rfl, rfl, _, rfl, ?_⟩⟩
  rw [decide_eq_true b0]
  refine iteT ⟨_, rfl, a, _, 1, _, rfl, rfl, hs, at_of (j := 1) rfl rfl, _, _, rfl, rfl, ?_⟩
  show Q (.bl (decide (r.num ≤ (r.den : Int)))) H
  rw [decide_eq_true b1]
  exact q
theorem ok_reduced {f : Addr} {fd : FuncData} (D : Dn K mg "reduced" s_reduced ["top", "bottom"] f fd) (B : Blt mg) (C : Cst K mg aN aO t1 t2 t3 t4 t5 t6 t7) : FnOk P w K mg base CX0 1 f fd ["top", "bottom"] (spReduced K) := by
  refine D.F.ok sc_reduced (fun vs H Q E h => ?_) (fun cdv A outer s H vs Q E hr h => ?_)
  · obtain ⟨a, b, rfl, _⟩ := h
    rfl
  obtain ⟨t, b, rfl, hb, hz, q⟩ := h
  have nd := sc_reduced.nd
  refine ⟨_, (pss_cons (ps_set (i := 2) nd rfl (.inl rfl) (pe_callBfun cr_gcd (by rfl) C.gcd (pa_cons (pv 0) (pa_cons (pv 1) pa_nil))))
      (pss_one (ps_ret (pe_tup (pa_cons (pe_op op_fdivW (pv 0) (pv 2)) (pa_cons (pe_op op_fdivW (pv 1) (pv 2)) pa_nil)))))), ?_⟩
  refine ⟨_, rfl, _, rfl, _, _, rfl, ?_⟩
  rw [Int.natAbs_natCast]
  have hg0 : 0 < Nat.gcd t.natAbs b := Nat.gcd_pos_of_pos_right _ hb
  have hg1 : Nat.gcd t.natAbs b ≤ b := Nat.gcd_le_right _ hb
  have hg2 : ((Nat.gcd t.natAbs b : Nat) : Int).natAbs < 2 ^ 4000 := by
    rw [Int.natAbs_natCast]
    omega
  have dv : ∀ i : Int, CDivW i ((Nat.gcd t.natAbs b : Nat) : Int) := fun i => wide_div (b := 4000) (by omega) hg2 (by decide) (by decide)
  refine ⟨_, rfl, _, rfl, _, _, rfl, rfl, dv _, _, rfl, _, rfl, _, _, rfl, rfl, dv _, (by show 2 ≤ sizeLine; decide), fun p hp => ?_⟩
  exact q _ _ (same_upd hp) (td_rD hb upd_same)
theorem ok_common_bottom {f : Addr} {fd : FuncData} (D : Dn K mg "common_bottom" s_common_bottom ["fractions"] f fd) (B : Blt mg) (C : Cst K mg aN aO t1 t2 t3 t4 t5 t6 t7) : FnOk P w K mg base CX0 1 f fd ["fractions"] (spCB K) := by
  refine D.F.ok sc_common_bottom (fun vs H Q E h => ?_) (fun cdv A outer s H vs Q E hr h => ?_)
  · obtain ⟨r, us, D, rs, rfl, _⟩ := h
    rfl
  obtain ⟨r, us, d, rs, rfl, hS, tS, d0, d1, hdv, q⟩ := h
  have nd := sc_common_bottom.nd
  refine ⟨_, (pss_cons (ps_set (i := 1) nd rfl (.inl rfl) pe_int)
      (pss_cons (ps_for PassesOwn.never rfl (k_iLT (K := K) rfl (pv 0)) (pg_name (i := 2) nd rfl (.inl rfl)) (pss_one (ps_set (i := 1) nd rfl (.inl rfl) (pe_callBfun cr_lcm (by rfl) C.lcm (pa_cons (pv 1) (pa_cons (pe_ix (k_ixT (K := K) rfl) (pv 2) pe_int (fun _ _ => rfl)) pa_nil))))))
      (pss_one (ps_ret (pv 1))))), ?_⟩
  have lu : us.length = rs.length := by rw [tS.len, List.length_map]
  refine ⟨_, rfl, r, us, rfl, hS, fun J G w1 hG => for_it w1 (fun i σ H2 => H2 = H ∧ ∃ o2 : Option V, σ = [some (.ref r), some (.int ((lcmL (rs.take i) : Nat) : Int)), o2]) ⟨rfl, none, rfl⟩ (fun i σ H2 _ h => by rw [h.1]; exact hG _ (Same.refl _)) ?_ ?_⟩
  · rintro i x σ H0 H2 hi ⟨rfl, o2, rfl⟩ ⟨rfl, e1⟩
    obtain ⟨dx, ex, tx⟩ := tS.getV e1
    obtain ⟨x', er, rfl⟩ := mapAt ex
    obtain ⟨a, rfl, ha⟩ := tx.rE
    have l1 : lcmL (rs.take i) ∣ d := lcmL_dvd fun z hz => hdv z (List.mem_of_mem_take hz)
    have l2 := hdv x' (List.mem_of_getElem? er)
    have z : ∀ {m : Nat}, m ∣ d → m < 2 ^ 6000 := fun {m} h => Nat.lt_of_le_of_lt (Nat.le_of_dvd d0 h) (Nat.lt_trans d1 (Nat.pow_lt_pow_right (by decide) (by decide)))
    refine ⟨_, rfl, _, rfl, a, _, 1, _, rfl, rfl, ha, at_of (j := 1) rfl rfl, _, _, rfl, z l1, z l2, rfl, some (.ref a), ?_⟩
    rw [List.take_add_one, er]
    show [some (V.ref r), some (.int ((Nat.lcm (lcmL (rs.take i)) x'.den : Nat) : Int)), some (V.ref a)] = [some (V.ref r), some (.int ((lcmL (rs.take i ++ [x']) : Nat) : Int)), _]
    rw [lcmL_snoc]
  · rintro σ H2 ⟨rfl, o2, rfl⟩
    rw [lu, List.take_length]
    exact ⟨_, rfl, q⟩
theorem ok_times_whole {f : Addr} {fd : FuncData} (D : Dn K mg "times_whole" s_times_whole ["fraction", "whole"] f fd) (B : Blt mg) (C : Cst K mg aN aO t1 t2 t3 t4 t5 t6 t7) : FnOk P w K mg base CX0 1 f fd ["fraction", "whole"] (spTW K) := by
  refine D.F.ok sc_times_whole (fun vs H Q E h => ?_) (fun cdv A outer s H vs Q E hr h => ?_)
  · obtain ⟨v, r, m, rfl, _⟩ := h
    rfl
  obtain ⟨v, r, m, rfl, tv, m0, n0, b0, q⟩ := h
  have nd := sc_times_whole.nd
  refine ⟨_, (pss_one (ps_ret (pe_op op_mulW (pe_ix (k_ixT (K := K) rfl) (pv 0) pe_int (fun _ _ => rfl)) (pe_op op_fdivW (pv 1) (pe_ix (k_ixT (K := K) rfl) (pv 0) pe_int (fun _ _ => rfl)))))), ?_⟩
  obtain ⟨a, rfl, ha⟩ := tv.rE
  have hd : 0 < r.den := Nat.pos_of_ne_zero r.den_nz
  have q0 : ((m : Int) / (r.den : Int)) = ((m / r.den : Nat) : Int) := (Int.natCast_ediv _ _).symm
  have q1 : m / r.den < 2 ^ 1500 := Nat.lt_of_le_of_lt (Nat.div_le_self _ _) m0
  refine ⟨_, rfl, a, _, 0, _, rfl, rfl, ha, at_of (j := 0) rfl rfl, _, rfl, _, rfl, a, _, 1, _, rfl, rfl, ha, at_of (j := 1) rfl rfl, _, _, rfl, rfl, wide_div (b := 1500) (by omega) (by rw [Int.natAbs_natCast]; exact b0) (by decide) (by decide), _, _, rfl, rfl, ?_, ?_⟩
  · rw [q0]
    exact wide_mul n0 (by rw [Int.natAbs_natCast]; exact q1) (by decide) (by decide) (by decide)
  · show Q (.int (r.num * ((m : Int) / (r.den : Int)))) H
    rw [q0]
    exact q
theorem ok_total {f f1 f2 : Addr} {fd fd1 fd2 : FuncData} (D : Dn K mg "total" s_total ["fractions"] f fd) (B : Blt mg) (C : Cst K mg aN aO t1 t2 t3 t4 t5 t6 t7) (D_reduced : Dn K mg "reduced" s_reduced ["top", "bottom"] f1 fd1) (D_added : DTot K mg f2 fd2) : FnOk P w K mg base CX0 3 f fd ["fractions"] (spTotal K) := by
  obtain ⟨D_common_bottom, f3, fd3, D_times_whole⟩ := D_added
  have G_reduced : FnOk P w K mg base CX0 1 f1 fd1 ["top", "bottom"] (spReduced K) := ok_reduced D_reduced B C
  have G_common_bottom : FnOk P w K mg base CX0 1 f2 fd2 ["fractions"] (spCB K) := ok_common_bottom D_common_bottom B C
  have G_times_whole : FnOk P w K mg base CX0 1 f3 fd3 ["fraction", "whole"] (spTW K) := ok_times_whole D_times_whole B C
  refine D.F.ok sc_total (fun vs H Q E h => ?_) (fun cdv A outer s H vs Q E hr h => ?_)
  · obtain ⟨r, us, d, ns, rfl, _⟩ := h
    rfl
  obtain ⟨r, us, d, ns, rfl, hS, tS, hd0, hd1, hb, hl, k⟩ := h
  have nd := sc_total.nd
  refine ⟨_, (pss_cons (ps_set (i := 1) nd rfl (.inr rfl) (pe_call G_common_bottom (hr.mono (by omega)) (by rfl) D_common_bottom.m D_common_bottom.F.kp D_common_bottom.b .nil pass0 (pa_cons (pv 0) pa_nil)))
      (pss_one (ps_ret (pe_call G_reduced (hr.mono (by omega)) (by rfl) D_reduced.m D_reduced.F.kp D_reduced.b .nil pass0 (pa_cons (pe_callB (k_sum (K := K) rfl rfl) (by rfl) B.sum (by decide +kernel) (pa_cons (pe_lc (own := [("fraction", 2)]) rfl nd (k_iLT (K := K) rfl (pv 0)) (blkOk_by (own := [("fraction", 2)]) (by kernel_rfl)) (fun _ _ _ _ _ => (pg_name (i := 2) nd rfl (.inl rfl))) (fun _ _ _ _ _ => pts_nil) (fun _ _ _ _ _ => (pe_call G_times_whole (hr.mono (by omega)) (by rfl) D_times_whole.m D_times_whole.F.kp D_times_whole.b .nil pass0 (pa_cons (pv 2) (pa_cons (pv 1) pa_nil))))) pa_nil)) (pa_cons (pv 1) pa_nil)))))), ?_⟩
  have hdv : ∀ x ∈ ns.map (fr d), x.den ∣ d := fun x hx => by
    obtain ⟨n, _, rfl⟩ := List.mem_map.mp hx
    exact fr_den hd0 n
  have hnum : ∀ x ∈ ns.map (fr d), x.num.natAbs < 2 ^ 1500 := fun x hx => by
    obtain ⟨n, hn, rfl⟩ := List.mem_map.mp hx
    exact Nat.lt_of_le_of_lt (Nat.le_trans (fr_num_le hd0 n) (abssum_mem hn)) hb
  have lu : us.length = ns.length := by rw [tS.len, List.length_map, List.length_map]
  have lr : (ns.map (fr d)).length = ns.length := List.length_map ..
  have esum := fsum_lcm hd0 hdv
  have lpos := lcmL_pos hd0 hdv
  have lle := Nat.le_of_dvd hd0 (lcmL_dvd hdv)
  generalize ns.map (fr d) = rs at tS hdv hnum k esum lpos lle lr
  refine ⟨_, rfl, r, us, d, rs, rfl, hS, tS, hd0, hd1, hdv, ?_⟩
  refine ⟨_, rfl, r, us, rfl, hS, fun J G w1 hG T hT => lc_it w1 (fun i H2 => H2 T = some (.lst (((rs.map (frN (lcmL rs))).take i).map V.int)) ∧ Same H H2) ⟨upd_same, same_upd hT⟩ (fun i H2 _ h => hG H2 h.2) ?_ ?_⟩
  · rintro i x H0 H2 hi ⟨h2, s2⟩ ⟨rfl, e1⟩
    obtain ⟨dx, ex, tx⟩ := tS.getV e1
    obtain ⟨x', er, rfl⟩ := mapAt ex
    have m1 := List.mem_of_getElem? er
    refine ⟨rfl, ?_⟩
    refine iteT (B := H2 T = some (.lst (((rs.map (frN (lcmL rs))).take (i + 1)).map V.int)) ∧ Same H H2) ?_
    refine ⟨_, rfl, _, rfl, x, x', lcmL rs, rfl, tx.keep (Same.kt s2), Nat.lt_of_le_of_lt lle hd1, hnum _ m1, Nat.lt_of_le_of_lt (Nat.le_of_dvd hd0 (hdv _ m1)) hd1, _, h2, ?_, ?_, fun c o y => ?_⟩
    · rw [List.length_map, List.length_take]
      exact small1000 (by omega)
    · rw [upd_same, List.take_add_one, List.getElem?_map, er, List.map_append]
      rfl
    · rw [upd_ne (ne_of_none y hT)]
      exact s2 _ _ y
  · rintro H2 ⟨h2, s2⟩
    rw [lu, ← lr] at h2
    rw [List.take_of_length_le (by rw [List.length_map]; exact Nat.le_refl _)] at h2
    refine ⟨T, _, rfl, SqL.of h2, _, rfl, _, lcmL rs, rfl, lpos, Nat.lt_of_le_of_lt lle (Nat.lt_trans hd1 (Nat.pow_lt_pow_right (by decide) (by decide))), fun v H3 s3 tv => ?_⟩
    rw [esum] at tv
    exact k v H3 (s2.trans s3) tv
theorem ok_total_weights {f f1 f2 f3 : Addr} {fd fd1 fd2 fd3 : FuncData} (D : Dn K mg "total_weights" s_total_weights ["rows", "worlds"] f fd) (B : Blt mg) (C : Cst K mg aN aO t1 t2 t3 t4 t5 t6 t7) (D_reduced : Dn K mg "reduced" s_reduced ["top", "bottom"] f1 fd1) (D_added : DTot K mg f2 fd2)
    (D_total : Dn K mg "total" s_total ["fractions"] f3 fd3) : FnOk P w K mg base CX0 4 f fd ["rows", "worlds"] (spTotW K) := by
  have G_total : FnOk P w K mg base CX0 3 f3 fd3 ["fractions"] (spTotal K) := ok_total D_total B C D_reduced D_added
  refine D.F.ok sc_total_weights (fun vs H Q E h => ?_) (fun cdv A outer s H vs Q E hr h => ?_)
  · obtain ⟨x, y, p, q, rfl, _⟩ := h
    rfl
  obtain ⟨r, us, W, rows, rfl, hS, tS, hW1, hW5, hlr, hrow, hcol, k⟩ := h
  have nd := sc_total_weights.nd
  refine ⟨_, (pss_one (ps_ret (pe_callTy (k_tupOf (K := K) rfl) (by rfl) B.tuple (by decide +kernel) (pa_cons (pe_lc (own := [("world", 3)]) rfl nd (pi_range1 (by rfl) B.range (pa_cons (pv 1) pa_nil)) (blkOk_by (own := [("world", 3)]) (by kernel_rfl)) (fun _ _ _ _ _ => (pg_name (i := 3) nd rfl (.inr rfl))) (fun _ _ _ _ _ => pts_nil) (fun _ _ _ _ _ => (pe_call G_total (hr.mono (by omega)) (by rfl) D_total.m D_total.F.kp D_total.b .nil pass0 (pa_cons (pe_lc (own := [("weights", 2)]) rfl nd (k_iL (K := K) rfl (pv 0)) (blkOk_by (own := [("weights", 2)]) (by kernel_rfl)) (fun _ _ _ _ _ => (pg_name (i := 2) nd rfl (.inl rfl))) (fun _ _ _ _ _ => pts_nil) (fun _ _ _ _ _ => (pe_ix (k_ixT (K := K) rfl) (pv 2) (pv 3) (fun _ _ => rfl)))) pa_nil)))) pa_nil)))), ?_⟩
  have lu : us.length = rows.length := by rw [tS.len, List.length_map]
  refine ⟨_, rfl, _, rfl, by omega, by omega, fun T hT => ?_⟩
  refine lc_range (lo := 0) (n := W) (fun i H2 => ∃ vs : List V, H2 T = some (.lst vs) ∧ TdAll K H2 vs (((tot W rows).take i).map rD) ∧ Same H H2) ⟨[], upd_same, .nil, same_upd hT⟩ ?_ ?_
  · rintro i H2 hi ⟨vs, h2, t2, s2⟩
    refine ⟨rfl, ?_⟩
    refine iteT (B := ∃ vs : List V, H2 T = some (.lst vs) ∧ TdAll K H2 vs (((tot W rows).take (i + 1)).map rD) ∧ Same H H2) ?_
    obtain ⟨d, d0, d1, hdv, hab⟩ := hcol i hi
    refine ⟨_, rfl, r, rfl, ⟨_, s2.seq hS⟩, fun T2 hT2 => ?_⟩
    refine lc_list (K := K) (a := r) (xs := us) (fun j H3 => ∃ ws : List V, H3 T2 = some (.lst ws) ∧ TdAll K H3 ws (((rows.take j).map fun x => x.getD i 0).map rD) ∧ Same H2 H3) ⟨[], upd_same, .nil, same_upd hT2⟩ (fun j H3 _ h => ?_) ?_ ?_
    · obtain ⟨_, _, _, s3⟩ := h
      exact s3.seq (s2.seq hS)
    · rintro j y H3 hj ⟨ws, h3, t3, s3⟩
      obtain ⟨dy, ey, ty⟩ := tS.getV hj
      obtain ⟨x, hx, rfl⟩ := mapAt ey
      have lx := hrow x (List.mem_of_getElem? hx)
      have ty3 := ty.keep (Same.kt (s2.trans s3))
      obtain ⟨b, zs, rfl, hb, tz⟩ := ty3.tupE
      have gx : x[i]? = some (x.getD i 0) := by
        rw [List.getD_eq_getElem?_getD, List.getElem?_eq_getElem (show i < x.length by omega)]
        rfl
      obtain ⟨z, ez, tz1⟩ := tz.get (i := i) (d := rD (x.getD i 0)) (by rw [List.getElem?_map, gx]; rfl)
      have kT : KT K H3 (upd H3 T2 (.lst (ws ++ [z]))) := KT.updL h3
      refine ⟨rfl, ?_⟩
      refine iteT (B := ∃ ws : List V, H3 T2 = some (.lst ws) ∧ TdAll K H3 ws (((rows.take (j + 1)).map fun x => x.getD i 0).map rD) ∧ Same H2 H3) ?_
      refine ⟨_, rfl, _, rfl, b, zs, (0 + (i : Int)), z, rfl, rfl, hb, at_of (j := i) (by omega) ez, ws, h3, ?_, ws ++ [z], upd_same, ?_, fun c o w => ?_⟩
      · rw [t3.len, List.length_map, List.length_map, List.length_take]
        exact small1000 (by omega)
      · rw [List.take_add_one, hx, List.map_append, List.map_append]
        exact (t3.keep kT).app (.cons (tz1.keep kT) .nil)
      · rw [upd_ne (ne_of_none w hT2)]
        exact s3 _ _ w
    · rintro H3 ⟨ws, h3, t3, s3⟩
      rw [lu, List.take_length] at t3
      have er : ((rows.map fun x => x.getD i 0).map (frN d)).map (fr d) = rows.map fun x => x.getD i 0 := frs_frN d0 fun q hq => by
        obtain ⟨x, hx, rfl⟩ := List.mem_map.mp hq
        exact hdv x hx
      refine ⟨T2, ws, d, (rows.map fun x => x.getD i 0).map (frN d), rfl, .inl (SqL.of h3), by rw [er]; exact t3, d0, d1, hab, by rw [List.length_map, List.length_map]; omega, fun v H4 s4 tv => ?_⟩
      rw [er] at tv
      have s34 := s3.trans s4
      have h4 := s34 _ _ h2
      have kT : KT K H4 (upd H4 T (.lst (vs ++ [v]))) := KT.updL h4
      refine ⟨vs, h4, ?_, vs ++ [v], upd_same, ?_, fun c o w => ?_⟩
      · rw [t2.len, List.length_map, List.length_take]
        exact small1000 (by omega)
      · have et : (tot W rows)[i]? = some (fsum (rows.map fun x => x.getD i 0)) := by
          unfold tot
          rw [List.getElem?_map, List.getElem?_range hi]
          rfl
        rw [List.take_add_one, et, List.map_append]
        exact (t2.keep ((Same.kt s34).trans kT)).app (.cons (tv.keep kT) .nil)
      · rw [upd_ne (ne_of_none w hT)]
        exact s34 _ _ (s2 _ _ w)
  · rintro H2 ⟨vs, h2, t2, s2⟩
    rw [show (tot W rows).take W = tot W rows from List.take_of_length_le (by rw [tot_len]; omega)] at t2
    refine ⟨T, vs, rfl, SqL.of h2, fun l H3 s3 q3 => k (.ref l) H3 (s2.trans s3) (.tup q3 (t2.keep (Same.kt s3)))⟩
theorem ok_are_chances {f f2 f4 f5 : Addr} {fd fd2 fd4 fd5 : FuncData} (D : Dn K mg "are_chances" s_are_chances ["thing", "many"] f fd) (B : Blt mg) (C : Cst K mg aN aO t1 t2 t3 t4 t5 t6 t7) (D_is_integral : Dn K mg "is_integral" s_is_integral ["thing"] f2 fd2) (D_is_fraction : Dn K mg "is_fraction" s_is_fraction ["thing"] f4 fd4) (D_is_chance : Dn K mg "is_chance" s_is_chance ["thing"] f5 fd5) : FnOk P w K mg base CX0 4 f fd ["thing", "many"] (spChances K) := by
  have G_is_chance : FnOk P w K mg base CX0 3 f5 fd5 ["thing"] (spChance K) := ok_is_chance D_is_chance B C D_is_integral D_is_fraction
  refine D.F.ok sc_are_chances (fun vs H Q E h => ?_) (fun cdv A outer s H vs Q E hr h => ?_)
  · obtain ⟨v, ws, rfl, _⟩ := h
    rfl
  obtain ⟨v, ws, rfl, hv, hl, hch, q⟩ := h
  have nd := sc_are_chances.nd
  refine ⟨_, (pss_cons (ps_if (PW.pt (pw_or (pt_not (pt_val (pe_callB (k_isi (K := K) rfl) (by rfl) B.isinstance (by decide +kernel) (pa_cons (pv 0) (pa_cons (pe_bltn (v := .ty "tuple") (u := .type "tuple") (by rfl) B.tuple (by decide +kernel) rfl) pa_nil))))) (pw_or1 (pt_cmpR op_ne (pe_callB (k_len (K := K) rfl) (by rfl) B.len PySem.boot_len (pa_cons (pv 0) pa_nil)) (pv 1) (nomark _))))) (pss_one (ps_ret pe_bl)) pss_nil)
      (pss_one (ps_ret (pe_callB (k_all (K := K) rfl rfl) (by rfl) B.all (by decide +kernel) (pa_cons (pe_lc (own := [("chance", 2)]) rfl nd (k_iT (K := K) rfl (pv 0)) (blkOk_by (own := [("chance", 2)]) (by kernel_rfl)) (fun _ _ _ _ _ => (pg_name (i := 2) nd rfl (.inl rfl))) (fun _ _ _ _ _ => pts_nil) (fun _ _ _ _ _ => (pe_call G_is_chance (hr.mono (by omega)) (by rfl) D_is_chance.m D_is_chance.F.kp D_is_chance.b .nil pass0 (pa_cons (pv 2) pa_nil)))) pa_nil))))), ?_⟩
  obtain ⟨b, ys, rfl, hb, tb⟩ := hv.tupE
  have ly : ys.length = ws.length := by rw [tb.len, List.length_map]
  refine ⟨_, rfl, _, _, _, _, true, rfl, .ty "tuple", tyx_tup hb, kit_ty (by decide +kernel), _, rfl, iteF ?_⟩
  refine ⟨_, rfl, b, _, rfl, .inr hb, _, rfl, rfl, _, rfl, ?_⟩
  rw [ly, decide_eq_true rfl]
  refine iteF ?_
  refine ⟨_, rfl, b, rfl, ⟨_, hb⟩, fun T hT => ?_⟩
  refine lc_it (walk_tup (K := K) (a := b) (xs := ys)) (fun i H2 => H2 T = some (.lst ((List.replicate i true).map V.bl)) ∧ Same H H2) ⟨upd_same, same_upd hT⟩ (fun i H2 _ h => Same.kt h.2 _ _ hb) ?_ ?_
  · rintro i x H0 H2 hi ⟨h2, s2⟩ ⟨rfl, e1⟩
    obtain ⟨dx, ex, tx⟩ := tb.getV e1
    obtain ⟨r, er, rfl⟩ := mapAt ex
    obtain ⟨r0, r1⟩ := hch r (List.mem_of_getElem? er)
    refine ⟨rfl, ?_⟩
    refine iteT (B := H2 T = some (.lst ((List.replicate (i + 1) true).map V.bl)) ∧ Same H H2) ?_
    refine ⟨_, rfl, x, r, rfl, tx.keep (Same.kt s2), r0, r1, _, h2, ?_, ?_, fun c o y => ?_⟩
    · rw [List.length_map, List.length_replicate]
      exact small1000 (by omega)
    · rw [upd_same, List.replicate_succ', List.map_append]
      rfl
    · rw [upd_ne (ne_of_none y hT)]
      exact s2 _ _ y
  · rintro H2 ⟨h2, s2⟩
    refine ⟨T, _, rfl, SqL.of h2, ?_⟩
    have e : ∀ n : Nat, (List.replicate n true).all id = true := fun n => by
      induction n with
      | zero => rfl
      | succ n ih =>
        rw [List.replicate_succ]
        exact ih
    rw [e]
    exact q H2 s2
end
end Tl
namespace Tl
open PySem PySem.Spec PyProof.Rows L2 RZ
/-- data that may be compared -/
structure Good (k : Nat) (d : PyData) : Prop where
  lay : d.canLay0 = true
  deep : d.depth ≤ k
  dict : d.hasDict = false
theorem Good.mono {k k' : Nat} {d : PyData} (h : Good k d) (l : k ≤ k') : Good k' d := ⟨h.lay, Nat.le_trans h.deep l, h.dict⟩
theorem good_int (k : Nat) (i : Int) : Good k (.int i) := ⟨rfl, Nat.zero_le _, rfl⟩
theorem good_all {k : Nat} : ∀ {xs : List PyData}, (∀ x ∈ xs, Good k x) → PyData.canLayAll0 xs = true ∧ PyData.depthAll xs ≤ k ∧ PyData.hasDictAll xs = false
  | [], _ => ⟨rfl, Nat.zero_le _, rfl⟩
  | x :: xs, h => by
    obtain ⟨h1, h2, h3⟩ := h x (List.mem_cons_self ..)
    obtain ⟨a1, a2, a3⟩ := good_all fun y hy => h y (List.mem_cons_of_mem _ hy)
    refine ⟨?_, ?_, ?_⟩
    · show (PyData.canLay0 x && PyData.canLayAll0 xs) = true
      rw [h1, a1]
      rfl
    · show max (PyData.depth x) (PyData.depthAll xs) ≤ k
      omega
    · show (PyData.hasDict x || PyData.hasDictAll xs) = false
      rw [h3, a3]
      rfl
theorem good_tup {k : Nat} {xs : List PyData} (h : ∀ x ∈ xs, Good k x) : Good (k + 1) (.tuple xs) := by
  obtain ⟨a1, a2, a3⟩ := good_all h
  exact ⟨a1, Nat.succ_le_succ a2, a3⟩
theorem good_ints (ns : List Int) : Good 1 (.tuple (ns.map PyData.int)) := good_tup fun x hx => by
  obtain ⟨i, _, rfl⟩ := List.mem_map.mp hx
  exact good_int 0 i
theorem good_rD (q : Rat) : Good 1 (rD q) := good_ints [q.num, (q.den : Int)]
theorem good_wdD (w : List Int) : Good 1 (wdD w) := good_ints w
theorem good_wsD (ws : List Rat) : Good 2 (wsD ws) := good_tup fun x hx => by
  obtain ⟨q, _, rfl⟩ := List.mem_map.mp hx
  exact good_rD q
theorem good_ndD : ∀ (n : Nat) (t : Nd n), Good (3 * n + 2) (ndD n t)
  | 0, _ => (good_tup (k := 0) (xs := []) fun x hx => absurd hx List.not_mem_nil).mono (by decide)
  | n + 1, qs => by
    rw [show 3 * (n + 1) + 2 = ((3 * n + 2 + 1) + 1) + 1 by omega]
    refine good_tup fun x hx => ?_
    obtain ⟨q, _, rfl⟩ := List.mem_map.mp hx
    refine good_tup fun y hy => ?_
    obtain ⟨a, _, rfl⟩ := List.mem_map.mp hy
    refine good_tup fun z hz => ?_
    simp only [List.mem_cons, List.not_mem_nil, or_false] at hz
    rcases hz with rfl | rfl | rfl
    · exact (good_wdD _).mono (by omega)
    · exact (good_wsD _).mono (by omega)
    · exact good_ndD n _
theorem Good.shaped {k : Nat} {d : PyData} (h : Good k d) (l : k ≤ 64) : SeqAt.shaped d = true := by
  show (d.canLay0 && decide (d.depth ≤ 64)) = true
  rw [h.lay, decide_eq_true (Nat.le_trans h.deep l)]
  rfl
theorem Good.refl {k : Nat} {d : PyData} (h : Good k d) : PyData.eqv d d = true := SeqAt.eqv_refl d h.lay
theorem eqv_rD (p q : Rat) : PyData.eqv (rD p) (rD q) = decide (p = q) := by
  show ((p.num == q.num) && (((p.den : Int) == (q.den : Int)) && true)) = decide (p = q)
  rw [Bool.and_true]
  by_cases h : p = q
  · subst h
    rw [beq_self_eq_true, beq_self_eq_true, decide_eq_true rfl]
    rfl
  · rw [decide_eq_false h]
    by_cases h1 : p.num = q.num
    · have h2 : (p.den : Int) ≠ (q.den : Int) := fun e => h (Rat.ext h1 (by omega))
      rw [beq_eq_false_iff_ne.mpr h2, Bool.and_false]
    · rw [beq_eq_false_iff_ne.mpr h1, Bool.false_and]
end Tl
namespace Tl
open PySem PySem.Spec PyProof.Rows L2 RZ
def isZ (ws : List Rat) : Bool := ws.all fun q => decide (q = 0)
def spNought (K : PySem.W.Frag) : Sp := fun vs H Q _ => ∃ (v : V) (ws : List Rat), vs = [v] ∧ Td K H v (wsD ws) ∧ ws.length ≤ 100 ∧ ∀ H', Same H H' → Q (.bl (isZ ws)) H'
def spWord (K : PySem.W.Frag) : Sp := fun vs H Q _ => ∃ (v : V) (r : List Int), vs = [v] ∧ Td K H v (wdD r) ∧ WordOk r ∧ ∀ H', Same H H' → Q (.bl true) H'
def spAnswer (K : PySem.W.Frag) (n : Nat) : Sp := fun vs H Q _ => ∃ (v : V) (a : An n), vs = [v, .int ((a.2.1.length : Nat) : Int)] ∧ Td K H v (anD n a) ∧ WordOk a.1 ∧ a.2.1.length ≤ 100 ∧ (∀ r ∈ a.2.1, 0 ≤ r ∧ r ≤ 1) ∧ ∀ H', Same H H' → Q (.bl true) H'
def spAsc (K : PySem.W.Frag) : Sp := fun vs H Q _ => ∃ (r : Addr) (us : List V) (ws : List (List Int)), vs = [.ref r] ∧ SqL K H r us ∧ TdAll K H us (ws.map wdD) ∧ ws.length ≤ 900 ∧ (∀ i x y, ws[i]? = some x → ws[i + 1]? = some y → HT.lexLt x y = true) ∧ ∀ H', Same H H' → Q (.bl true) H'
theorem map_at {α β : Type} {l : List α} {f : α → β} {i : Nat} {y : β} (h : (l.map f)[i]? = some y) : ∃ x, l[i]? = some x ∧ y = f x := by
  rw [List.getElem?_map] at h
  cases e : l[i]? with
  | none =>
    rw [e] at h
    cases h
  | some x =>
    rw [e] at h
    exact ⟨x, rfl, (Option.some.inj h).symm⟩
theorem all_rep : ∀ n : Nat, (List.replicate n true).all id = true
  | 0 => rfl
  | n + 1 => by
    rw [List.replicate_succ]
    exact all_rep n
theorem rep_snoc {α : Type} (x : α) (n : Nat) : List.replicate n x ++ [x] = List.replicate (n + 1) x := List.replicate_succ'.symm
section
variable {P : Program} {w : World} {K : PySem.W.Frag} {mg : Str → Option Value} {base : Heap} {aN aO : Addr} {t1 t2 t3 t4 t5 t6 t7 : Tok}
theorem ok_is_word {f f1 f2 : Addr} {fd fd1 fd2 : FuncData} (D : Dn K mg "is_word" s_is_word ["thing"] f fd) (B : Blt mg) (C : Cst K mg aN aO t1 t2 t3 t4 t5 t6 t7) (D_is_number : Dn K mg "is_number" s_is_number ["thing", "least", "most"] f1 fd1) (D_is_integral : Dn K mg "is_integral" s_is_integral ["thing"] f2 fd2) : FnOk P w K mg base CX0 3 f fd ["thing"] (spWord K) := by
  have G_is_number : FnOk P w K mg base CX0 2 f1 fd1 ["thing", "least", "most"] spNumber := ok_is_number D_is_number B D_is_integral
  refine D.F.ok sc_is_word (fun vs H Q E h => ?_) (fun cdv A outer s H vs Q E hr h => ?_)
  · obtain ⟨v, ws, rfl, _⟩ := h
    rfl
  obtain ⟨v, ws, rfl, hv, hok, q⟩ := h
  have nd := sc_is_word.nd
  refine ⟨_, (pss_cons (ps_if (PW.pt (pw_or (pt_not (pt_val (pe_callB (k_isi (K := K) rfl) (by rfl) B.isinstance (by decide +kernel) (pa_cons (pv 0) (pa_cons (pe_bltn (v := .ty "tuple") (u := .type "tuple") (by rfl) B.tuple (by decide +kernel) rfl) pa_nil))))) (pw_or1 (pt_cmpR op_gt (pe_callB (k_len (K := K) rfl) (by rfl) B.len PySem.boot_len (pa_cons (pv 0) pa_nil)) (pe_glob (v := .int _) rfl C.MOST_NUMBERS ⟨_, rfl⟩) (nomark _))))) (pss_one (ps_ret pe_bl)) pss_nil)
      (pss_one (ps_ret (pe_callB (k_all (K := K) rfl rfl) (by rfl) B.all (by decide +kernel) (pa_cons (pe_lc (own := [("number", 1)]) rfl nd (k_iT (K := K) rfl (pv 0)) (blkOk_by (own := [("number", 1)]) (by kernel_rfl)) (fun _ _ _ _ _ => (pg_name (i := 1) nd rfl (.inl rfl))) (fun _ _ _ _ _ => pts_nil) (fun _ _ _ _ _ => (pe_call G_is_number (hr.mono (by omega)) (by rfl) D_is_number.m D_is_number.F.kp D_is_number.b .nil pass0 (pa_cons (pv 1) (pa_cons pe_int (pa_cons pe_int pa_nil)))))) pa_nil))))), ?_⟩
  obtain ⟨a, xs, rfl, ha, ta⟩ := hv.tupE
  have ex := tdAll_intsE ta
  subst ex
  have l8 := hok.1
  refine ⟨_, rfl, _, _, _, _, true, rfl, .ty "tuple", tyx_tup ha, kit_ty (by decide +kernel), _, rfl, iteF ?_⟩
  refine ⟨_, rfl, a, _, rfl, .inr ha, _, _, rfl, rfl, _, rfl, ?_⟩
  rw [List.length_map, decide_eq_false (show ¬ (8 : Int) < ((ws.length : Nat) : Int) by omega)]
  refine iteF ?_
  refine ⟨_, rfl, a, rfl, ⟨_, ha⟩, fun T hT => ?_⟩
  refine lc_it (walk_tup (K := K) (a := a) (xs := ws.map V.int)) (fun i H2 => H2 T = some (.lst ((List.replicate i true).map V.bl)) ∧ Same H H2) ⟨upd_same, same_upd hT⟩ (fun i H2 _ h => Same.kt h.2 _ _ ha) ?_ ?_
  · rintro i x H0 H2 hi ⟨h2, s2⟩ ⟨rfl, e1⟩
    obtain ⟨z, ez, rfl⟩ := int_at e1
    obtain ⟨z0, z1⟩ := hok.2 z (List.mem_of_getElem? ez)
    rw [List.length_map] at hi
    refine ⟨rfl, ?_⟩
    refine iteT (B := H2 T = some (.lst ((List.replicate (i + 1) true).map V.bl)) ∧ Same H H2) ?_
    refine ⟨_, rfl, z, 0, 99, rfl, _, h2, ?_, ?_, fun c o y => ?_⟩
    · rw [List.length_map, List.length_replicate]
      exact small1000 (by omega)
    · rw [upd_same, decide_eq_true z0, decide_eq_true z1, ← rep_snoc, List.map_append]
      rfl
    · rw [upd_ne (ne_of_none y hT)]
      exact s2 _ _ y
  · rintro H2 ⟨h2, s2⟩
    refine ⟨T, _, rfl, SqL.of h2, ?_⟩
    rw [all_rep]
    exact q H2 s2
theorem ok_is_answer {n : Nat} {f f1 f2 f3 f4 f5 f6 : Addr} {fd fd1 fd2 fd3 fd4 fd5 fd6 : FuncData} (D : Dn K mg "is_answer" s_is_answer ["thing", "worlds"] f fd) (B : Blt mg) (C : Cst K mg aN aO t1 t2 t3 t4 t5 t6 t7) (D_is_number : Dn K mg "is_number" s_is_number ["thing", "least", "most"] f1 fd1) (D_is_integral : Dn K mg "is_integral" s_is_integral ["thing"] f2 fd2)
    (D_is_word : Dn K mg "is_word" s_is_word ["thing"] f3 fd3) (D_is_fraction : Dn K mg "is_fraction" s_is_fraction ["thing"] f4 fd4) (D_is_chance : Dn K mg "is_chance" s_is_chance ["thing"] f5 fd5) (D_are_chances : Dn K mg "are_chances" s_are_chances ["thing", "many"] f6 fd6) : FnOk P w K mg base CX0 5 f fd ["thing", "worlds"] (spAnswer K n) := by
  have G_is_word : FnOk P w K mg base CX0 3 f3 fd3 ["thing"] (spWord K) := ok_is_word D_is_word B C D_is_number D_is_integral
  have G_are_chances : FnOk P w K mg base CX0 4 f6 fd6 ["thing", "many"] (spChances K) := ok_are_chances D_are_chances B C D_is_integral D_is_fraction D_is_chance
  refine D.F.ok sc_is_answer (fun vs H Q E h => ?_) (fun cdv A outer s H vs Q E hr h => ?_)
  · obtain ⟨v, ws, rfl, _⟩ := h
    rfl
  obtain ⟨v, an, rfl, hv, hok, hl, hch, q⟩ := h
  have nd := sc_is_answer.nd
  refine ⟨_, (pss_cons (ps_if (PW.pt (pw_or (pt_not (pt_val (pe_callB (k_isi (K := K) rfl) (by rfl) B.isinstance (by decide +kernel) (pa_cons (pv 0) (pa_cons (pe_bltn (v := .ty "tuple") (u := .type "tuple") (by rfl) B.tuple (by decide +kernel) rfl) pa_nil))))) (pw_or (pt_cmpR op_ne (pe_callB (k_len (K := K) rfl) (by rfl) B.len PySem.boot_len (pa_cons (pv 0) pa_nil)) pe_int (nomark _)) (pw_or1 (pt_not (pt_val (pe_call G_is_word (hr.mono (by omega)) (by rfl) D_is_word.m D_is_word.F.kp D_is_word.b .nil pass0 (pa_cons (pe_ix (k_ixT (K := K) rfl) (pv 0) pe_int (fun _ _ => rfl)) pa_nil)))))))) (pss_one (ps_ret pe_bl)) pss_nil)
      (pss_one (ps_ret (pe_call G_are_chances (hr.mono (by omega)) (by rfl) D_are_chances.m D_are_chances.F.kp D_are_chances.b .nil pass0 (pa_cons (pe_ix (k_ixT (K := K) rfl) (pv 0) pe_int (fun _ _ => rfl)) (pa_cons (pv 1) pa_nil)))))), ?_⟩
  obtain ⟨a, xs, rfl, ha, ta⟩ := id hv.tupE
  obtain ⟨vw, ew, tw⟩ := ta.get (i := 0) rfl
  obtain ⟨vs, es, ts⟩ := ta.get (i := 1) rfl
  have l3 : xs.length = 3 := ta.len
  refine ⟨_, rfl, _, _, _, _, true, rfl, .ty "tuple", tyx_tup ha, kit_ty (by decide +kernel), _, rfl, iteF ?_⟩
  refine ⟨_, rfl, a, _, rfl, .inr ha, rfl, _, rfl, ?_⟩
  rw [l3]
  refine iteF ?_
  refine ⟨_, rfl, a, _, 0, vw, rfl, rfl, ha, at_of (j := 0) rfl ew, vw, an.1, rfl, tw, hok, fun H1 s1 => ⟨_, rfl, iteF ?_⟩⟩
  have ha1 := Same.kt s1 _ _ ha
  exact ⟨_, rfl, a, _, 1, vs, rfl, rfl, ha1, at_of (j := 1) rfl es, _, rfl, vs, an.2.1, rfl, ts.keep (Same.kt s1), hl, hch, fun H2 s2 => q H2 (s1.trans s2)⟩
theorem ok_is_ascending {f : Addr} {fd : FuncData} (D : Dn K mg "is_ascending" s_is_ascending ["rows"] f fd) (B : Blt mg) : FnOk P w K mg base CX0 1 f fd ["rows"] (spAsc K) := by
  refine D.F.ok sc_is_ascending (fun vs H Q E h => ?_) (fun cdv A outer s H vs Q E hr h => ?_)
  · obtain ⟨v, ws, x, rfl, _⟩ := h
    rfl
  obtain ⟨r, us, ws, rfl, hS, tS, hl, hasc, q⟩ := h
  have nd := sc_is_ascending.nd
  refine ⟨_, (pss_one (ps_ret (pe_callB (k_all (K := K) rfl rfl) (by rfl) B.all (by decide +kernel) (pa_cons (pe_lc (own := [("low", 1), ("high", 2)]) rfl nd (k_zip (K := K) rfl (by rfl) B.zip (pa_cons (pv 0) (pa_cons (pe_slice (k_slL (K := K) rfl) (pv 0) (po_some pe_int) po_none) pa_nil))) (blkOk_by (own := [("low", 1), ("high", 2)]) (by kernel_rfl)) (fun _ _ _ _ _ => (k_tup (K := K) (n := 2) rfl rfl (pgs_cons (pg_name (i := 1) nd rfl (.inl rfl)) (pgs_cons (pg_name (i := 2) nd rfl (.inl rfl)) pgs_nil)))) (fun _ _ _ _ _ => pts_nil) (fun _ _ _ _ _ => (pe_cmpR (k_ltT (K := K) rfl hr.units0) (pv 1) (pv 2) (nomark _)))) pa_nil)))), ?_⟩
  have lu : us.length = ws.length := by rw [tS.len, List.length_map]
  refine ⟨_, rfl, _, rfl, _, rfl, r, us, rfl, hS, fun p hp => ?_⟩
  have s1 : Same H (upd H p (.lst (cutV us (some 1) none))) := same_upd hp
  have ec : cutV us (some 1) none = us.drop 1 := by
    unfold cutV
    rw [show HT.sIx us.length 0 (some 1) = min 1 us.length from HT.sIx_nat us.length 0 1, HT.sIx_none]
    cases us with
    | nil => rfl
    | cons x rr =>
      rw [show min 1 (x :: rr).length = 1 by rw [List.length_cons]; omega]
      exact List.take_of_length_le (by simp)
  rw [ec] at s1 ⊢
  refine ⟨r, p, us, us.drop 1, rfl, .inl ⟨s1.seq hS, SqL.of upd_same, fun T hT => ?_⟩⟩
  generalize hH1 : upd H p (.lst (us.drop 1)) = H1 at s1 hT ⊢
  have hp1 : H1 p = some (.lst (us.drop 1)) := by
    rw [← hH1]
    exact upd_same
  refine lc_it (walk_zip (K := K) (a := r) (b := p) (xs := us) (ys := us.drop 1) (n := min us.length (us.drop 1).length) rfl) (fun i H2 => H2 T = some (.lst ((List.replicate i true).map V.bl)) ∧ Same H1 H2) ⟨upd_same, same_upd hT⟩ (fun i H2 _ h => ⟨h.2.seq (s1.seq hS), h.2.seq (SqL.of hp1)⟩) ?_ ?_
  · rintro i x H2 H3 hi ⟨h2, s2⟩ ⟨T2, x', y', rfl, n2, rfl, e1, e2⟩
    replace e2 : (us.drop 1)[i]? = some y' := e2
    rw [List.getElem?_drop, Nat.add_comm 1 i] at e2
    obtain ⟨dx, ex, tx⟩ := tS.getV e1
    obtain ⟨dy, ey, ty⟩ := tS.getV e2
    obtain ⟨wx, gx, rfl⟩ := map_at ex
    obtain ⟨wy, gy, rfl⟩ := map_at ey
    have s3 : Same H2 (upd H2 T2 (.tup [x', y'])) := same_upd n2
    have k3 : KT K H (upd H2 T2 (.tup [x', y'])) := Same.kt ((s1.trans s2).trans s3)
    obtain ⟨ax, xs, rfl, hx, sx⟩ := (tx.keep k3).tupE
    obtain ⟨ay, ys, rfl, hy, sy⟩ := (ty.keep k3).tupE
    have e3 := tdAll_intsE sx
    have e4 := tdAll_intsE sy
    subst e3
    subst e4
    refine ⟨T2, _, rfl, .inl (.inl upd_same), rfl, _, _, rfl, _, _, rfl, rfl, rfl, ?_⟩
    refine iteT (B := (upd H2 T2 (.tup [V.ref ax, V.ref ay])) T = some (.lst ((List.replicate (i + 1) true).map V.bl)) ∧ Same H1 (upd H2 T2 (.tup [V.ref ax, V.ref ay]))) ?_
    have h3 := s3 _ _ h2
    refine ⟨_, rfl, _, rfl, ax, ay, wx, wy, rfl, rfl, hx, hy, _, h3, ?_, ?_, fun c o y => ?_⟩
    · rw [List.length_map, List.length_replicate]
      exact small1000 (by omega)
    · rw [upd_same, hasc i wx wy gx gy, ← rep_snoc, List.map_append]
      rfl
    · rw [upd_ne (ne_of_none y hT)]
      exact s3 _ _ (s2 _ _ y)
  · rintro H2 ⟨h2, s2⟩
    refine ⟨T, _, rfl, SqL.of h2, ?_⟩
    rw [all_rep]
    exact q H2 (s1.trans s2)
end
end Tl
namespace Tl
open PySem PySem.Spec PyProof.Rows L2 RZ
/-- a node judged: d answers ahead of it -/
def spCkN (K : PySem.W.Frag) (n : Nat) : Sp := fun vs H Q _ => ∃ (W d : Nat) (v av : V) (pl : Addr) (ps : List V) (ahead : List Rat) (t : Nd n), vs = [v, .ref pl, av] ∧ Td K H v (ndD n t) ∧ Td K H av (wsD ahead) ∧ SqT K H pl ps ∧ ps.length = 2 * d ∧ d + n ≤ 8 ∧
  1 ≤ W ∧ W ≤ 5 ∧ ahead.length = W ∧ NdOk W n ahead t ∧ ∀ H', Same H H' → Q .non H'
def spCkQ (K : PySem.W.Frag) : Nat → Sp
  | 0 => fun _ _ _ _ => False
  | n + 1 => fun vs H Q _ => ∃ (W d : Nat) (v av : V) (pl : Addr) (ps : List V) (ahead : List Rat) (q : Qn n), vs = [v, .ref pl, av] ∧ Td K H v (qnD n q) ∧ Td K H av (wsD ahead) ∧ SqT K H pl ps ∧ ps.length = 2 * d + 1 ∧ d + (n + 1) ≤ 8 ∧
      1 ≤ W ∧ W ≤ 5 ∧ ahead.length = W ∧ QnOk W ahead q ∧ (∀ a ∈ q, NdOk W n a.2.1 a.2.2) ∧ ∀ H', Same H H' → Q .non H'
theorem small25 {n : Nat} (h : n ≤ 25) : n ≤ sizeLine := Nat.le_of_lt (small1000 (by omega))
theorem tot_whole {W n : Nat} {ahead : List Rat} {q : Qn n} (ha : ahead.length = W) (h : QnOk W ahead q) : tot W (q.map fun a => a.2.1) = ahead := by
  refine List.ext_getElem? fun j => ?_
  unfold tot
  rw [List.getElem?_map]
  by_cases hj : j < W
  · rw [List.getElem?_range hj, List.getElem?_eq_getElem (show j < ahead.length by omega)]
    show some (fsum ((q.map fun a => a.2.1).map fun r => r.getD j 0)) = some _
    have e : ((q.map fun a => a.2.1).map fun r => r.getD j 0) = col q j := by
      unfold col
      rw [List.map_map]
      rfl
    rw [e, h.whole j hj, getD_of (List.getElem?_eq_getElem (show j < ahead.length by omega))]
  · rw [List.getElem?_eq_none (by rw [List.length_range]; omega), List.getElem?_eq_none (by omega)]
    rfl
theorem tot_cols {W n : Nat} {ahead : List Rat} {q : Qn n} (h : QnOk W ahead q) (j : Nat) (hj : j < W) : ∃ D : Nat, 0 < D ∧ D < 2 ^ 1500 ∧ (∀ x ∈ q.map (fun a => a.2.1), (x.getD j 0).den ∣ D) ∧ abssum (((q.map fun a => a.2.1).map fun x => x.getD j 0).map (frN D)) < 2 ^ 1500 := by
  have z2 : 12 * LL ^ 6 < 2 ^ 1500 := by
    have := @ll_small 6 800 (by decide)
    have z3 : 12 * 2 ^ 800 < 2 ^ 1500 := by
      rw [show (1500 : Nat) = 700 + 800 from rfl, Nat.pow_add]
      exact Nat.mul_lt_mul_of_pos_right (by decide) (Nat.two_pow_pos 800)
    exact Nat.lt_of_le_of_lt (Nat.mul_le_mul_left 12 this) z3
  have d2 : ∀ r ∈ col q j, r.den ∣ LL ^ 6 ∧ 0 ≤ r ∧ r ≤ 1 := fun r hr => by
    unfold col at hr
    obtain ⟨a, ha, rfl⟩ := List.mem_map.mp hr
    have hw := h.wide a ha
    have hm := h.chs a ha (a.2.1.getD j 0) (by rw [getD_of (List.getElem?_eq_getElem (show j < a.2.1.length by omega))]; exact List.getElem_mem _)
    exact ⟨hm.2.2, hm.1, hm.2.1⟩
  have e : ((q.map fun a => a.2.1).map fun x => x.getD j 0) = col q j := by
    unfold col
    rw [List.map_map]
    rfl
  refine ⟨LL ^ 6, ll_pos 6, ll_lt1500 (by decide), fun x hx => ?_, ?_⟩
  · obtain ⟨a, ha, rfl⟩ := List.mem_map.mp hx
    exact (d2 _ (List.mem_map.mpr ⟨a, ha, rfl⟩)).1
  · rw [e]
    exact Nat.lt_of_le_of_lt (frNs_abs d2) (Nat.lt_of_le_of_lt (Nat.mul_le_mul_right _ (show (col q j).length ≤ 12 by unfold col; rw [List.length_map]; exact h.most)) z2)
section
variable {P : Program} {w : World} {K : PySem.W.Frag} {mg : Str → Option Value} {base : Heap} {aN aO : Addr} {t1 t2 t3 t4 t5 t6 t7 : Tok}
theorem ok_check_node {n : Nat} {f f1 : Addr} {fd fd1 : FuncData} (D : Dn K mg "check_node" s_check_node ["node", "place", "ahead"] f fd) (B : Blt mg) (C : Cst K mg aN aO t1 t2 t3 t4 t5 t6 t7) (D_check_question : Dn K mg "check_question" s_check_question ["question", "place", "ahead"] f1 fd1)
    (G_check_question : FnOk P w K mg base CX0 (5 + 2 * n) f1 fd1 ["question", "place", "ahead"] (spCkQ K n)) : FnOk P w K mg base CX0 (6 + 2 * n) f fd ["node", "place", "ahead"] (spCkN K n) := by
  rw [show 6 + 2 * n = (5 + 2 * n) + 1 by omega]
  refine D.F.ok sc_check_node (fun vs H Q E h => ?_) (fun cdv A outer s H vs Q E hr h => ?_)
  · obtain ⟨W, d, v, av, pl, ps, ahead, t, rfl, _⟩ := h
    rfl
  obtain ⟨W, d, v, av, pl, ps, ahead, t, rfl, hv, hav, hpl, lp, hd, hW1, hW5, hla, hok, q⟩ := h
  have nd := sc_check_node.nd
  refine ⟨_, (pss_cons (ps_if (PW.pt (pw_or (pt_not (pt_val (pe_callB (k_isi (K := K) rfl) (by rfl) B.isinstance (by decide +kernel) (pa_cons (pv 0) (pa_cons (pe_bltn (v := .ty "tuple") (u := .type "tuple") (by rfl) B.tuple (by decide +kernel) rfl) pa_nil))))) (pw_or1 (pt_cmpR op_gt (pe_callB (k_len (K := K) rfl) (by rfl) B.len PySem.boot_len (pa_cons (pv 0) pa_nil)) (pe_glob (v := .int _) rfl C.MOST_QUESTIONS ⟨_, rfl⟩) (nomark _))))) (pss_one ps_never) pss_nil)
      (pss_cons (ps_if (PW.pt (pw_and (pt_cmpR op_gt (pe_callB (k_len (K := K) rfl) (by rfl) B.len PySem.boot_len (pa_cons (pv 0) pa_nil)) pe_int (nomark _)) (pw_and1 (pt_cmpR op_ge (pe_callB (k_len (K := K) rfl) (by rfl) B.len PySem.boot_len (pa_cons (pv 1) pa_nil)) (pe_op op_mulW pe_int (pe_glob (v := .int _) rfl C.MOST_ON_A_WAY ⟨_, rfl⟩)) (nomark _))))) (pss_one ps_never) pss_nil)
      (pss_one (ps_for PassesOwn.never rfl (k_enum (K := K) rfl (by rfl) B.enumerate (pa_cons (pv 0) pa_nil)) (k_tup (K := K) (n := 2) rfl rfl (pgs_cons (pg_name (i := 3) nd rfl (.inl rfl)) (pgs_cons (pg_name (i := 4) nd rfl (.inl rfl)) pgs_nil))) (pss_one (ps_expr (pe_call G_check_question (hr.mono (by omega)) (by rfl) D_check_question.m D_check_question.F.kp D_check_question.b .nil pass0 (pa_cons (pv 4) (pa_cons (pe_op (k_cat (K := K) rfl) (pv 1) (pe_tup (pa_cons (pv 3) pa_nil))) (pa_cons (pv 2) pa_nil)))))))))), ?_⟩
  obtain ⟨ds, eds, l5, l0⟩ : ∃ ds, ndD n t = .tuple ds ∧ ds.length ≤ 5 ∧ (n = 0 → ds.length = 0) := by
    cases n with
    | zero => exact ⟨[], rfl, by decide, fun _ => rfl⟩
    | succ n => exact ⟨_, rfl, by rw [List.length_map]; exact hok.1, fun h => by cases h⟩
  have hv2 := hv
  rw [eds] at hv2
  obtain ⟨a, xs, rfl, ha, ta⟩ := hv2.tupE
  have lx := ta.len
  refine ⟨_, rfl, _, _, _, _, true, rfl, .ty "tuple", tyx_tup ha, kit_ty (by decide +kernel), _, rfl, iteF ?_⟩
  refine ⟨_, rfl, a, _, rfl, .inr ha, _, _, rfl, rfl, _, rfl, ?_⟩
  rw [decide_eq_false (show ¬ (5 : Int) < ((xs.length : Nat) : Int) by omega)]
  refine iteF ?_
  refine ⟨_, rfl, a, _, rfl, .inr ha, _, _, rfl, rfl, _, rfl, ?_⟩
  have rest : tFor (iEnumT K (tCons (tVar 0) tNil)) (gTup K 2 (gCons (gName 3) (gCons (gName 4) gNil))) (tDrop (tCall (spCkQ K n) [] E0 (tCons (tVar 4) (tCons (tOp (rCatP K) (tVar 1) (tTup (tCons (tVar 3) tNil))) (tCons (tVar 2) tNil))))) { nx := fun _ H' => Q .non H', rt := Q } [some (.ref a), some (.ref pl), some av, none, none] H := by
    refine ⟨_, rfl, a, xs, rfl, ha, for_it (walk_enumT (K := K) (a := a) (xs := xs)) (fun i σ H2 => ∃ o3 o4 : Option V, σ = [some (.ref a), some (.ref pl), some av, o3, o4] ∧ Same H H2) ⟨none, none, rfl, Same.refl _⟩ (fun i σ H2 _ h => ?_) ?_ ?_⟩
    · obtain ⟨_, _, _, s2⟩ := h
      exact Same.kt s2 _ _ ha
    · rintro i x σ H2 H3 hi ⟨o3, o4, rfl, s2⟩ ⟨T, x1, x2, rfl, nT, rfl, e1, e2⟩
      cases n with
      | zero =>
        have := l0 rfl
        omega
      | succ n =>
        cases eds
        have s3 : Same H2 (upd H2 T (.tup [x1, x2])) := same_upd nT
        cases e1
        obtain ⟨dx, ex, tx⟩ := ta.getV e2
        obtain ⟨qn, eq, rfl⟩ := map_at ex
        obtain ⟨qok, nok⟩ := hok.2 qn (List.mem_of_getElem? eq)
        refine ⟨T, _, rfl, .inl (.inl upd_same), rfl, _, _, rfl, _, _, rfl, rfl, ?_⟩
        refine ⟨_, rfl, _, rfl, _, rfl, (by show 1 ≤ sizeLine; decide), fun p np => ?_⟩
        have s4 : Same (upd H2 T (.tup [.int (i : Int), x2])) (upd (upd H2 T (.tup [.int (i : Int), x2])) p (.tup [.int (i : Int)])) := same_upd np
        have s24 := (s2.trans s3).trans s4
        refine ⟨pl, p, ps, _, rfl, rfl, Same.kt s24 _ _ hpl, .inl (.inl upd_same), by rw [lp]; exact small25 (by simp; omega), fun p2 H5 s5 q5 => ?_⟩
        have s25 := s24.trans s5
        refine ⟨_, rfl, W, d, x2, av, p2, _, ahead, qn, rfl, tx.keep (Same.kt s25), hav.keep (Same.kt s25), q5, by rw [List.length_append, lp]; rfl, by omega, hW1, hW5, hla, qok, nok, fun H6 s6 => ?_⟩
        exact ⟨_, _, rfl, s25.trans s6⟩
    · rintro σ H2 ⟨o3, o4, rfl, s2⟩
      exact q H2 s2
  refine ite2 (fun c => ?_) (fun c => ?_)
  · refine ⟨_, rfl, pl, _, rfl, .inr hpl, _, _, rfl, rfl, cmul_small (by decide) (by decide), _, _, rfl, rfl, _, rfl, ?_⟩
    have c0 : 0 < xs.length := by
      have := of_decide_eq_true c
      omega
    have n0 : n ≠ 0 := fun e => by
      have := l0 e
      omega
    rw [decide_eq_false (show ¬ ((ps.length : Nat) : Int) ≥ 2 * 8 by omega)]
    refine iteF ?_
    exact rest
  · refine iteF ?_
    exact rest
end
end Tl
namespace Tl
open PySem PySem.Spec PyProof.Rows L2 RZ
section
variable {P : Program} {w : World} {K : PySem.W.Frag} {mg : Str → Option Value} {base : Heap} {aN aO : Addr} {t1 t2 t3 t4 t5 t6 t7 : Tok}
theorem ok_check_question {n : Nat} {f f1 f2 f3 f4 : Addr} {fd fd1 fd2 fd3 fd4 : FuncData} (D : Dn K mg "check_question" s_check_question ["question", "place", "ahead"] f fd) (B : Blt mg) (C : Cst K mg aN aO t1 t2 t3 t4 t5 t6 t7) (D_check_node : Dn K mg "check_node" s_check_node ["node", "place", "ahead"] f1 fd1)
    (G_check_node : FnOk P w K mg base CX0 (6 + 2 * n) f1 fd1 ["node", "place", "ahead"] (spCkN K n)) (D_is_answer : Dn K mg "is_answer" s_is_answer ["thing", "worlds"] f2 fd2) (G_is_answer : FnOk P w K mg base CX0 5 f2 fd2 ["thing", "worlds"] (spAnswer K n))
    (D_is_ascending : Dn K mg "is_ascending" s_is_ascending ["rows"] f3 fd3) (G_is_ascending : FnOk P w K mg base CX0 1 f3 fd3 ["rows"] (spAsc K)) (D_total_weights : Dn K mg "total_weights" s_total_weights ["rows", "worlds"] f4 fd4) (G_total_weights : FnOk P w K mg base CX0 4 f4 fd4 ["rows", "worlds"] (spTotW K)) :
    FnOk P w K mg base CX0 (7 + 2 * n) f fd ["question", "place", "ahead"] (spCkQ K (n + 1)) := by
  rw [show 7 + 2 * n = (6 + 2 * n) + 1 by omega]
  refine D.F.ok sc_check_question (fun vs H Q E h => ?_) (fun cdv A outer s H vs Q E hr h => ?_)
  · obtain ⟨W, d, v, av, pl, ps, ahead, t, rfl, _⟩ := h
    rfl
  obtain ⟨W, d, v, av, pl, ps, ahead, qn, rfl, hv, hav, hpl, lp, hd, hW1, hW5, hla, qok, nok, q⟩ := h
  have nd := sc_check_question.nd
  refine ⟨_, (pss_cons (ps_if (PW.pt (pw_or (pt_not (pt_val (pe_callB (k_isi (K := K) rfl) (by rfl) B.isinstance (by decide +kernel) (pa_cons (pv 0) (pa_cons (pe_bltn (v := .ty "tuple") (u := .type "tuple") (by rfl) B.tuple (by decide +kernel) rfl) pa_nil))))) (pw_or1 (pt_not (pt_chain op_le op_le pe_int (pe_callB (k_len (K := K) rfl) (by rfl) B.len PySem.boot_len (pa_cons (pv 0) pa_nil)) (pe_glob (v := .int _) rfl C.MOST_WORDS ⟨_, rfl⟩)))))) (pss_one ps_never) pss_nil)
      (pss_cons (ps_for PassesOwn.never rfl (k_enum (K := K) rfl (by rfl) B.enumerate (pa_cons (pv 0) pa_nil)) (k_tup (K := K) (n := 2) rfl rfl (pgs_cons (pg_name (i := 3) nd rfl (.inl rfl)) (pgs_cons (pg_name (i := 4) nd rfl (.inl rfl)) pgs_nil))) (pss_one (ps_if (pt_not (pt_val (pe_call G_is_answer (hr.mono (by omega)) (by rfl) D_is_answer.m D_is_answer.F.kp D_is_answer.b .nil pass0 (pa_cons (pv 4) (pa_cons (pe_callB (k_len (K := K) rfl) (by rfl) B.len PySem.boot_len (pa_cons (pv 2) pa_nil)) pa_nil))))) (pss_one ps_never) pss_nil)))
      (pss_cons (ps_if (pt_not (pt_val (pe_call G_is_ascending (hr.mono (by omega)) (by rfl) D_is_ascending.m D_is_ascending.F.kp D_is_ascending.b .nil pass0 (pa_cons (pe_lc (own := [("answer", 4)]) rfl nd (k_iT (K := K) rfl (pv 0)) (blkOk_by (own := [("answer", 4)]) (by kernel_rfl)) (fun _ _ _ _ _ => (pg_name (i := 4) nd rfl (.inl rfl))) (fun _ _ _ _ _ => pts_nil) (fun _ _ _ _ _ => (pe_ix (k_ixT (K := K) rfl) (pv 4) pe_int (fun _ _ => rfl)))) pa_nil)))) (pss_one ps_never) pss_nil)
      (pss_cons (ps_if (pt_cmpR (k_neD (K := K) rfl hr.units) (pe_call G_total_weights (hr.mono (by omega)) (by rfl) D_total_weights.m D_total_weights.F.kp D_total_weights.b .nil pass0 (pa_cons (pe_lc (own := [("answer", 4)]) rfl nd (k_iT (K := K) rfl (pv 0)) (blkOk_by (own := [("answer", 4)]) (by kernel_rfl)) (fun _ _ _ _ _ => (pg_name (i := 4) nd rfl (.inl rfl))) (fun _ _ _ _ _ => pts_nil) (fun _ _ _ _ _ => (pe_ix (k_ixT (K := K) rfl) (pv 4) pe_int (fun _ _ => rfl)))) (pa_cons (pe_callB (k_len (K := K) rfl) (by rfl) B.len PySem.boot_len (pa_cons (pv 2) pa_nil)) pa_nil))) (pv 2) (nomark _)) (pss_one ps_never) pss_nil)
      (pss_one (ps_for PassesOwn.never rfl (k_enum (K := K) rfl (by rfl) B.enumerate (pa_cons (pv 0) pa_nil)) (k_tup (K := K) (n := 2) rfl rfl (pgs_cons (pg_name (i := 3) nd rfl (.inl rfl)) (pgs_cons (pg_name (i := 4) nd rfl (.inl rfl)) pgs_nil))) (pss_one (ps_expr (pe_call G_check_node (hr.mono (by omega)) (by rfl) D_check_node.m D_check_node.F.kp D_check_node.b .nil pass0 (pa_cons (pe_ix (k_ixT (K := K) rfl) (pv 4) pe_int (fun _ _ => rfl)) (pa_cons (pe_op (k_cat (K := K) rfl) (pv 1) (pe_tup (pa_cons (pv 3) pa_nil))) (pa_cons (pe_ix (k_ixT (K := K) rfl) (pv 4) pe_int (fun _ _ => rfl)) pa_nil)))))))))))), ?_⟩
  obtain ⟨a, xs, rfl, ha, ta⟩ := id hv.tupE
  obtain ⟨aa, axs, rfl, haa, taa⟩ := id hav.tupE
  have lx : xs.length = qn.length := by rw [ta.len, List.length_map]
  have la : axs.length = W := by rw [taa.len, List.length_map, hla]
  have o1 := qok.one
  have o12 := qok.most
  -- the answers at their places
  have at_ : ∀ {i : Nat} {x : V} {H2 : Hp}, xs[i]? = some x → Same H H2 → ∃ an, qn[i]? = some an ∧ an ∈ qn ∧ Td K H2 x (anD n an) ∧ ∃ p vw vs vt, x = .ref p ∧ SqT K H2 p [vw, vs, vt] ∧ Td K H2 vw (wdD an.1) ∧ Td K H2 vs (wsD an.2.1) ∧ Td K H2 vt (ndD n an.2.2) := by
    intro i x H2 e s2
    obtain ⟨dx, ex, tx⟩ := ta.getV e
    obtain ⟨an, ea, rfl⟩ := map_at ex
    have tx2 := tx.keep (Same.kt s2)
    obtain ⟨p, ys, rfl, hp, tp⟩ := id tx2.tupE
    cases tp with
    | cons h1 tp => cases tp with
      | cons h2 tp => cases tp with
        | cons h3 tp =>
          cases tp
          exact ⟨an, ea, List.mem_of_getElem? ea, tx2, p, _, _, _, rfl, hp, h1, h2, h3⟩
  refine ⟨_, rfl, _, _, _, _, true, rfl, .ty "tuple", tyx_tup ha, kit_ty (by decide +kernel), _, rfl, iteF ?_⟩
  refine ⟨_, rfl, a, _, rfl, .inr ha, _, _, rfl, rfl, _, rfl, ?_⟩
  rw [decide_eq_true (show (1 : Int) ≤ ((xs.length : Nat) : Int) by omega)]
  refine iteT ⟨_, _, rfl, rfl, _, rfl, ?_⟩
  rw [decide_eq_true (show ((xs.length : Nat) : Int) ≤ 12 by omega)]
  refine iteF ?_
  -- each answer
  refine ⟨_, rfl, a, xs, rfl, ha, for_it (walk_enumT (K := K) (a := a) (xs := xs)) (fun i σ H2 => ∃ o3 o4 : Option V, σ = [some (.ref a), some (.ref pl), some (.ref aa), o3, o4] ∧ Same H H2) ⟨none, none, rfl, Same.refl _⟩ (fun i σ H2 _ h => ?_) ?_ ?_⟩
  · obtain ⟨_, _, _, s2⟩ := h
    exact Same.kt s2 _ _ ha
  · rintro i x σ H2 H3 hi ⟨o3, o4, rfl, s2⟩ ⟨T, x1, x2, rfl, nT, rfl, e1, e2⟩
    have s3 : Same H2 (upd H2 T (.tup [x1, x2])) := same_upd nT
    have s23 := s2.trans s3
    obtain ⟨an, ea, ma, tan, _⟩ := at_ e2 s23
    refine ⟨T, _, rfl, .inl (.inl upd_same), rfl, _, _, rfl, _, _, rfl, rfl, ?_⟩
    refine ⟨_, rfl, _, rfl, aa, _, rfl, .inr (Same.kt s23 _ _ haa), x2, an, ?_, tan, qok.words _ ma, ?_, fun r hr => ?_, fun H4 s4 => ⟨_, rfl, iteF ⟨_, _, rfl, s23.trans s4⟩⟩⟩
    · rw [la, qok.wide _ ma]
      rfl
    · rw [qok.wide _ ma]
      omega
    · have := qok.chs _ ma r hr
      exact ⟨this.1, this.2.1⟩
  rintro σ H2 ⟨o3, o4, rfl, s2⟩
  -- ascending
  have ha2 := Same.kt s2 _ _ ha
  refine ⟨_, rfl, a, rfl, ⟨_, ha2⟩, fun T hT => ?_⟩
  refine lc_it (walk_tup (K := K) (a := a) (xs := xs)) (fun i H3 => ∃ us : List V, H3 T = some (.lst us) ∧ TdAll K H3 us ((qn.take i).map fun an => wdD an.1) ∧ Same H2 H3) ⟨[], upd_same, .nil, same_upd hT⟩ (fun i H3 _ h => ?_) ?_ ?_
  · obtain ⟨_, _, _, s3⟩ := h
    exact Same.kt s3 _ _ ha2
  · rintro i x H0 H3 hi ⟨us, h3, t3, s3⟩ ⟨rfl, e1⟩
    obtain ⟨an, ea, ma, tan, p, vw, vs, vt, rfl, hp, h1, h2, h4⟩ := at_ e1 (s2.trans s3)
    have kT : KT K H3 (upd H3 T (.lst (us ++ [vw]))) := KT.updL h3
    refine ⟨rfl, ?_⟩
    refine iteT (B := ∃ us : List V, H3 T = some (.lst us) ∧ TdAll K H3 us ((qn.take (i + 1)).map fun an => wdD an.1) ∧ Same H2 H3) ?_
    refine ⟨_, rfl, p, _, 0, vw, rfl, rfl, hp, at_of (j := 0) rfl rfl, us, h3, ?_, us ++ [vw], upd_same, ?_, fun c o y => ?_⟩
    · rw [t3.len, List.length_map, List.length_take]
      exact small1000 (by omega)
    · rw [List.take_add_one, ea, List.map_append]
      exact (t3.keep kT).app (.cons (h1.keep kT) .nil)
    · rw [upd_ne (ne_of_none y hT)]
      exact s3 _ _ y
  rintro H3 ⟨us, h3, t3, s3⟩
  rw [lx, List.take_length] at t3
  have s03 := s2.trans s3
  refine ⟨T, us, qn.map (fun an => an.1), rfl, SqL.of h3, by rw [List.map_map]; exact t3, by rw [List.length_map]; omega, ?_, fun H4 s4 => ⟨_, rfl, iteF ?_⟩⟩
  · intro i x y hx hy
    obtain ⟨ax, gx, rfl⟩ := map_at hx
    obtain ⟨ay, gy, rfl⟩ := map_at hy
    exact qok.asc i ax ay gx gy
  have s04 := s03.trans s4
  clear t3 h3 s3
  -- the weights
  have ha4 := Same.kt s04 _ _ ha
  refine ⟨_, rfl, a, rfl, ⟨_, ha4⟩, fun T2 hT2 => ?_⟩
  refine lc_it (walk_tup (K := K) (a := a) (xs := xs)) (fun i H3 => ∃ us : List V, H3 T2 = some (.lst us) ∧ TdAll K H3 us ((qn.take i).map fun an => wsD an.2.1) ∧ Same H4 H3) ⟨[], upd_same, .nil, same_upd hT2⟩ (fun i H3 _ h => ?_) ?_ ?_
  · obtain ⟨_, _, _, s3⟩ := h
    exact Same.kt s3 _ _ ha4
  · rintro i x H0 H5 hi ⟨us, h3, t3, s3⟩ ⟨rfl, e1⟩
    obtain ⟨an, ea, ma, tan, p, vw, vs, vt, rfl, hp, h1, h2, h4⟩ := at_ e1 (s04.trans s3)
    have kT : KT K H5 (upd H5 T2 (.lst (us ++ [vs]))) := KT.updL h3
    refine ⟨rfl, ?_⟩
    refine iteT (B := ∃ us : List V, H5 T2 = some (.lst us) ∧ TdAll K H5 us ((qn.take (i + 1)).map fun an => wsD an.2.1) ∧ Same H4 H5) ?_
    refine ⟨_, rfl, p, _, 1, vs, rfl, rfl, hp, at_of (j := 1) rfl rfl, us, h3, ?_, us ++ [vs], upd_same, ?_, fun c o y => ?_⟩
    · rw [t3.len, List.length_map, List.length_take]
      exact small1000 (by omega)
    · rw [List.take_add_one, ea, List.map_append]
      exact (t3.keep kT).app (.cons (h2.keep kT) .nil)
    · rw [upd_ne (ne_of_none y hT2)]
      exact s3 _ _ y
  rintro H5 ⟨us5, h5, t5, s5⟩
  rw [lx, List.take_length] at t5
  have s05 := s04.trans s5
  refine ⟨_, rfl, aa, _, rfl, .inr (Same.kt s05 _ _ haa), ?_⟩
  refine ⟨T2, us5, W, qn.map (fun an => an.2.1), by rw [la]; rfl, SqL.of h5, by rw [List.map_map]; exact t5, hW1, hW5, by rw [List.length_map]; omega, fun x hx => ?_, tot_cols qok, fun v6 H6 s6 t6 => ?_⟩
  · obtain ⟨an, ma, rfl⟩ := List.mem_map.mp hx
    exact qok.wide _ ma
  rw [tot_whole hla qok] at t6
  have s06 := s05.trans s6
  have g2 := good_wsD ahead
  refine ⟨_, rfl, wsD ahead, wsD ahead, t6.dp, (hav.keep (Same.kt s06)).dp, g2.shaped (by decide), g2.shaped (by decide), _, rfl, ?_⟩
  rw [g2.refl]
  refine iteF ?_
  clear t6 t5 h5 s5 s6 ha4 ha2 s4 s03 s2
  -- the nodes behind
  have ha6 := Same.kt s06 _ _ ha
  refine ⟨_, rfl, a, xs, rfl, ha6, for_it (walk_enumT (K := K) (a := a) (xs := xs)) (fun i σ H2 => ∃ o3 o4 : Option V, σ = [some (.ref a), some (.ref pl), some (.ref aa), o3, o4] ∧ Same H H2) ⟨_, _, rfl, s06⟩ (fun i σ H2 _ h => ?_) ?_ ?_⟩
  · obtain ⟨_, _, _, s2⟩ := h
    exact Same.kt s2 _ _ ha
  · rintro i x σ H2 H3 hi ⟨o3, o4, rfl, s2⟩ ⟨T, x1, x2, rfl, nT, rfl, e1, e2⟩
    have s3 : Same H2 (upd H2 T (.tup [x1, x2])) := same_upd nT
    cases e1
    have s23 := s2.trans s3
    obtain ⟨an, ea, ma, tan, p, vw, vs, vt, rfl, hp, h1, h2, h4⟩ := at_ e2 s23
    refine ⟨T, _, rfl, .inl (.inl upd_same), rfl, _, _, rfl, _, _, rfl, rfl, ?_⟩
    refine ⟨_, rfl, p, _, 2, vt, rfl, rfl, hp, at_of (j := 2) rfl rfl, ?_⟩
    refine ⟨_, rfl, _, rfl, (by show 1 ≤ sizeLine; decide), fun p3 np => ?_⟩
    have s4 : Same (upd H2 T (.tup [.int (i : Int), .ref p])) (upd (upd H2 T (.tup [.int (i : Int), .ref p])) p3 (.tup [.int (i : Int)])) := same_upd np
    have s24 := s23.trans s4
    refine ⟨pl, p3, ps, _, rfl, rfl, Same.kt s24 _ _ hpl, .inl (.inl upd_same), by rw [lp]; exact small25 (by simp; omega), fun p2 H5 s5 q5 => ?_⟩
    have s25 := s24.trans s5
    have k35 : KT K (upd H2 T (.tup [.int (i : Int), .ref p])) H5 := Same.kt (s4.trans s5)
    refine ⟨_, rfl, p, _, 1, vs, rfl, rfl, k35 _ _ hp, at_of (j := 1) rfl rfl, ?_⟩
    refine ⟨W, d + 1, vt, vs, p2, _, an.2.1, an.2.2, rfl, h4.keep k35, h2.keep k35, q5, by rw [List.length_append, lp]; show 2 * d + 1 + 1 = 2 * (d + 1); omega, by omega, hW1, hW5, qok.wide _ ma, nok _ ma, fun H6 s6 => ?_⟩
    exact ⟨_, _, rfl, s25.trans s6⟩
  · rintro σ H2 ⟨o3, o4, rfl, s2⟩
    exact q H2 s2
end
end Tl
namespace Tl
open PySem PySem.Spec PyProof.Rows L2 RZ
/-- a comprehension over two walks -/
theorem lc2_it {J : It} {n : Nat} {G : Hp → Prop} {Y : Nat → Hp → V → Hp → Prop} (w1 : Walk J n G Y) {wi1 : TI} {g g1 : TG} {tt tt1 : TT} {te : TE} {vs vs1 : List Nat} {σ : L2.St} {H1 : Hp} {D : Addr} {Qd : Hp → Prop} (Pv : Nat → Hp → Prop) (h0 : Pv 0 (upd H1 D (.lst []))) (hG : ∀ i H, i ≤ n → Pv i H → G H)
    (hs : ∀ i x H H', i < n → Pv i H → Y i H x H' → g x (wipe σ vs) H' fun σ2 H2 => wipe σ2 vs = wipe σ vs ∧ tt σ2 H2 fun b H3 => if b = true then wi1 σ2 H3 fun J1 H4 => ∃ (k : Nat) (G1 : Hp → Prop) (Y1 : Nat → Hp → V → Hp → Prop) (Pw : Nat → Hp → Prop), Walk J1 k G1 Y1 ∧ Pw 0 H4 ∧ (∀ j H, j ≤ k → Pw j H → G1 H) ∧ (∀ H, Pw k H → Pv (i + 1) H) ∧
        ∀ j y H H', j < k → Pw j H → Y1 j H y H' → g1 y (wipe σ2 vs1) H' fun σ3 H5 => wipe σ3 vs1 = wipe σ2 vs1 ∧ tt1 σ3 H5 fun b H6 => if b = true then te σ3 H6 fun z H7 => ∃ acc, H7 D = some (.lst acc) ∧ acc.length < sizeLine ∧ Pw (j + 1) (upd H7 D (.lst (acc ++ [z]))) else Pw (j + 1) H6 else Pv (i + 1) H3) (hd : ∀ H, Pv n H → Qd H)
    (mg1 : ∀ x σ H Q Q', (∀ σ' H', Q σ' H' → Q' σ' H') → g x σ H Q → g x σ H Q') (mt : ∀ σ H Q Q', (∀ b H', Q b H' → Q' b H') → tt σ H Q → tt σ H Q') (mw : ∀ σ H (Q Q' : It → Hp → Prop), (∀ J H', Q J H' → Q' J H') → wi1 σ H Q → wi1 σ H Q') :
    ∃ W : Nat → Nat → Hp → Prop, (∃ m, W 0 m (upd H1 D (.lst []))) ∧ ∀ i m H, W i m H →
      (J.stop i H ∧ Qd H) ∨ (J.go i H ∧ ∃ Nx : Hp → Prop, (∀ H', Nx H' → ∃ m', m' < m ∧ W (i + 1) m' H') ∧ ∀ x H', J.yld i H x H' → g x (wipe σ vs) H' fun σ2 H2 => wipe σ2 vs = wipe σ vs ∧ tt σ2 H2 fun b H3 =>
        if b = true then wi1 σ2 H3 fun J1 H4 => ∃ W1 : Nat → Nat → Hp → Prop, (∃ m, W1 0 m H4) ∧ ∀ j k H, W1 j k H →
          (J1.stop j H ∧ Nx H) ∨ (J1.go j H ∧ ∃ Nx1 : Hp → Prop, (∀ H', Nx1 H' → ∃ k', k' < k ∧ W1 (j + 1) k' H') ∧ ∀ x H', J1.yld j H x H' → g1 x (wipe σ2 vs1) H' fun σ3 H5 => wipe σ3 vs1 = wipe σ2 vs1 ∧ tt1 σ3 H5 fun b H6 =>
            if b = true then te σ3 H6 fun y H7 => ∃ acc, H7 D = some (.lst acc) ∧ acc.length < sizeLine ∧ Nx1 (upd H7 D (.lst (acc ++ [y]))) else Nx1 H6)
        else Nx H3) := by
  refine ⟨fun i m H => m = n - i ∧ i ≤ n ∧ Pv i H, ⟨n, by simp, Nat.zero_le _, h0⟩, ?_⟩
  rintro i m H ⟨rfl, hi, p⟩
  have q := hG i H hi p
  by_cases hlt : i < n
  · refine .inr ⟨w1.goes i H hlt q, Pv (i + 1), fun H' p' => ⟨n - (i + 1), by omega, rfl, hlt, p'⟩, fun x H' y => ?_⟩
    refine mg1 _ _ _ _ _ (fun σ2 H2 h => ⟨h.1, mt _ _ _ _ (fun b H3 h => ?_) h.2⟩) (hs i x H H' hlt p (w1.yields i H x H' hlt q y))
    cases b with
    | false => exact h
    | true =>
      refine mw _ _ _ _ (fun J1 H4 h => ?_) h
      obtain ⟨k, G1, Y1, Pw, v1, p0, pG, pe, ps⟩ := h
      refine ⟨fun j l H => l = k - j ∧ j ≤ k ∧ Pw j H, ⟨k, by simp, Nat.zero_le _, p0⟩, ?_⟩
      rintro j l H ⟨rfl, hj, pp⟩
      have q2 := pG j H hj pp
      by_cases hl2 : j < k
      · exact .inr ⟨v1.goes j H hl2 q2, Pw (j + 1), fun H' p' => ⟨k - (j + 1), by omega, rfl, hl2, p'⟩, fun x H' y => ps j x H H' hl2 pp (v1.yields j H x H' hl2 q2 y)⟩
      · obtain rfl : j = k := by omega
        exact .inl ⟨v1.stops H q2, pe H pp⟩
  · obtain rfl : i = n := by omega
    exact .inl ⟨w1.stops H q, hd H p⟩
def spCnt (K : PySem.W.Frag) (n : Nat) : Sp := fun vs H Q _ => ∃ (v : V) (t : Nd n), vs = [v] ∧ Td K H v (ndD n t) ∧ Q (.int ((cnt n t : Nat) : Int)) H
def spRnd (K : PySem.W.Frag) (n : Nat) : Sp := fun vs H Q _ => ∃ (v : V) (t : Nd n), vs = [v] ∧ Td K H v (ndD n t) ∧ cnt n t ≤ 10000 ∧ ∀ (r : Int) (H' : Hp), 0 ≤ r → r ≤ n → Same H H' → Q (.int r) H'
/-- the questions of a node at their places -/
theorem td_qs {K : PySem.W.Frag} {H : Hp} {n : Nat} {t : Nd n} {v : V} (h : Td K H v (ndD n t)) : ∃ (a : Addr) (xs : List V) (ds : List PyData), v = .ref a ∧ SqT K H a xs ∧ ndD n t = .tuple ds ∧ TdAll K H xs ds ∧ (n = 0 → xs = []) := by
  cases n with
  | zero =>
    obtain ⟨a, xs, e, hs, ht⟩ := Td.tupE (ds := []) h
    refine ⟨a, xs, [], e, hs, rfl, ht, fun _ => ?_⟩
    cases ht
    rfl
  | succ n =>
    obtain ⟨a, xs, e, hs, ht⟩ := Td.tupE h
    exact ⟨a, xs, _, e, hs, rfl, ht, fun z => by cases z⟩
theorem cntQ_take (n : Nat) (q : Qn n) (i : Nat) (an : An n) (h : q[i]? = some an) : cntQ n (q.take (i + 1)) = cntQ n (q.take i) + (1 + cnt n an.2.2) := by
  unfold cntQ
  rw [List.take_add_one, h, List.map_append, List.sum_append]
  rfl
theorem cnt_take (n : Nat) (qs : List (Qn n)) (i : Nat) (q : Qn n) (h : qs[i]? = some q) : cnt (n + 1) (qs.take (i + 1) : List (Qn n)) = cnt (n + 1) (qs.take i : List (Qn n)) + cntQ n q := by
  rw [List.take_add_one, h]
  exact cnt_snoc n _ q
section
variable {P : Program} {w : World} {K : PySem.W.Frag} {mg : Str → Option Value} {base : Heap} {aN aO : Addr} {t1 t2 t3 t4 t5 t6 t7 : Tok}
theorem ok_answers_in {f : Addr} {fd : FuncData} (D : Dn K mg "answers_in" s_answers_in ["node"] f fd) (B : Blt mg) : ∀ n : Nat, FnOk P w K mg base CX0 (1 + n) f fd ["node"] (spCnt K n) := by
  intro n
  have G_answers_in : n = 0 ∨ ∃ m, n = m + 1 ∧ FnOk P w K mg base CX0 n f fd ["node"] (spCnt K m) := by
    cases n with
    | zero => exact .inl rfl
    | succ m =>
      have := ok_answers_in D B m
      rw [show 1 + m = m + 1 by omega] at this
      exact .inr ⟨m, rfl, this⟩
  obtain ⟨sp0, G_answers_in, hsp⟩ : ∃ sp0, FnOk P w K mg base CX0 n f fd ["node"] sp0 ∧ (∀ m, n = m + 1 → sp0 = spCnt K m) := by
    rcases G_answers_in with h | ⟨m, h, G⟩
    · exact ⟨fun _ _ _ _ => False, ⟨fun vs H Q E h => h.elim, fun A outer s H args us vs Q E _ _ _ _ h => h.elim⟩, fun m e => by omega⟩
    · exact ⟨_, G, fun m' e => by rw [show m' = m by omega]⟩
  rw [show 1 + n = n + 1 by omega]
  refine D.F.ok sc_answers_in (fun vs H Q E h => ?_) (fun cdv A outer s H vs Q E hr h => ?_)
  · obtain ⟨v, t, rfl, _⟩ := h
    rfl
  obtain ⟨v, t, rfl, hv, q⟩ := h
  have nd := sc_answers_in.nd
  have D_answers_in := D
  refine ⟨_, (pss_cons (ps_set (i := 1) nd rfl (.inl rfl) pe_int)
      (pss_cons (ps_for PassesOwn.never rfl (k_iT (K := K) rfl (pv 0)) (pg_name (i := 2) nd rfl (.inl rfl)) (pss_one (ps_for PassesOwn.never rfl (k_iT (K := K) rfl (pv 2)) (pg_name (i := 3) nd rfl (.inl rfl)) (pss_one (ps_aug (i := 1) nd rfl (.inl rfl) (pe_op op_add pe_int (pe_call G_answers_in (hr.mono (by omega)) (by rfl) D_answers_in.m D_answers_in.F.kp D_answers_in.b .nil pass0 (pa_cons (pe_ix (k_ixT (K := K) rfl) (pv 3) pe_int (fun _ _ => rfl)) pa_nil))) ip_add)))))
      (pss_one (ps_ret (pv 1))))), ?_⟩
  obtain ⟨a, xs, ds, rfl, ha, ed, ta, l0⟩ := td_qs hv
  cases n with
  | zero =>
    have := l0 rfl
    subst this
    refine ⟨_, rfl, a, rfl, ⟨_, ha⟩, for_it (walk_tup (K := K) (a := a) (xs := [])) (fun i σ H2 => H2 = H ∧ σ = [some (.ref a), some (.int 0), none, none]) ⟨rfl, rfl⟩ (fun i σ H2 _ h => by rw [h.1]; exact ha) ?_ ?_⟩
    · rintro i x σ H2 H3 hi
      exact absurd hi (Nat.not_lt_zero _)
    · rintro σ H2 ⟨rfl, rfl⟩
      exact ⟨_, rfl, q⟩
  | succ n =>
    cases ed
    have hsp := hsp n rfl
    subst hsp
    have lx : xs.length = (show List (Qn n) from t).length := by rw [ta.len, List.length_map]
    refine ⟨_, rfl, a, rfl, ⟨_, ha⟩, for_it (walk_tup (K := K) (a := a) (xs := xs)) (fun i σ H2 => H2 = H ∧ ∃ o2 o3 : Option V, σ = [some (.ref a), some (.int ((cnt (n + 1) ((show List (Qn n) from t).take i : List (Qn n)) : Nat) : Int)), o2, o3]) ⟨rfl, none, none, rfl⟩ (fun i σ H2 _ h => by rw [h.1]; exact ha) ?_ ?_⟩
    · rintro i x σ H0 H2 hi ⟨rfl, o2, o3, rfl⟩ ⟨e0, e1⟩
      subst e0
      obtain ⟨dx, ex, tx⟩ := ta.getV e1
      obtain ⟨qn, eq, rfl⟩ := map_at ex
      obtain ⟨b, ys, rfl, hb, tb⟩ := id tx.tupE
      have ly : ys.length = qn.length := by rw [tb.len, List.length_map]
      refine ⟨_, rfl, b, rfl, ⟨_, hb⟩, for_it (walk_tup (K := K) (a := b) (xs := ys)) (fun j σ H3 => H3 = H2 ∧ ∃ o3 : Option V, σ = [some (.ref a), some (.int ((cnt (n + 1) ((show List (Qn n) from t).take i : List (Qn n)) + cntQ n (qn.take j) : Nat) : Int)), some (.ref b), o3]) ⟨rfl, _, rfl⟩ (fun j σ H3 _ h => by rw [h.1]; exact hb) ?_ ?_⟩
      · rintro j y σ H0 H3 hj ⟨rfl, o3, rfl⟩ ⟨e0, e2⟩
        subst e0
        obtain ⟨dy, ey, ty⟩ := tb.getV e2
        obtain ⟨an, ea, rfl⟩ := map_at ey
        obtain ⟨p, zs, rfl, hp, tp⟩ := id ty.tupE
        obtain ⟨vt, et, tt⟩ := tp.get (i := 2) rfl
        refine ⟨_, rfl, _, rfl, p, zs, 2, vt, rfl, rfl, hp, at_of (j := 2) rfl et, vt, an.2.2, rfl, tt, _, _, rfl, rfl, _, _, rfl, rfl, ?_⟩
        refine ⟨rfl, some (.ref p), ?_⟩
        rw [cntQ_take n qn j an ea]
        show [some (V.ref a), some (V.int (_ + (1 + ((cnt n an.2.2 : Nat) : Int)))), _, _] = _
        have e9 : (((cnt (n + 1) ((show List (Qn n) from t).take i : List (Qn n)) + cntQ n (qn.take j) : Nat) : Int)) + (1 + ((cnt n an.2.2 : Nat) : Int)) = ((cnt (n + 1) ((show List (Qn n) from t).take i : List (Qn n)) + (cntQ n (qn.take j) + (1 + cnt n an.2.2)) : Nat) : Int) := by omega
        rw [e9]
      · rintro σ H3 ⟨rfl, o3, rfl⟩
        refine ⟨rfl, some (.ref b), o3, ?_⟩
        rw [ly, List.take_length, cnt_take n _ i qn eq]
    · rintro σ H2 ⟨rfl, o2, o3, rfl⟩
      rw [lx, List.take_length]
      exact ⟨_, rfl, q⟩
end
end Tl
namespace Tl
open PySem PySem.Spec PyProof.Rows L2 RZ
theorem max_le {n : Int} : ∀ (l : List Int) (x : Int), 0 ≤ x → x ≤ n → (∀ y ∈ l, 0 ≤ y ∧ y ≤ n) → 0 ≤ l.foldl max x ∧ l.foldl max x ≤ n
  | [], x, h0, h1, _ => ⟨h0, h1⟩
  | y :: r, x, h0, h1, h => by
    obtain ⟨y0, y1⟩ := h y (List.mem_cons_self ..)
    exact max_le r (max x y) (by omega) (by omega) fun z hz => h z (List.mem_cons_of_mem _ hz)
theorem top_le {n : Int} (hn : 0 ≤ n) (l : List Int) (h : ∀ y ∈ l, 0 ≤ y ∧ y ≤ n) : 0 ≤ topOf 0 l ∧ topOf 0 l ≤ n := by
  cases l with
  | nil => exact ⟨Int.le_refl _, hn⟩
  | cons x r =>
    obtain ⟨x0, x1⟩ := h x (List.mem_cons_self ..)
    exact max_le r x x0 x1 fun z hz => h z (List.mem_cons_of_mem _ hz)
theorem cntQ_len (n : Nat) (q : Qn n) : q.length ≤ cntQ n q := by
  rw [cntQ_eq]
  omega
theorem cnt_le_of_mem {n : Nat} {q : Qn n} : ∀ {qs : List (Qn n)}, q ∈ qs → cntQ n q ≤ cnt (n + 1) qs
  | [], h => absurd h List.not_mem_nil
  | x :: r, h => by
    rw [cnt_succ, List.map_cons, List.sum_cons]
    rcases List.mem_cons.mp h with rfl | h
    · omega
    · have := cnt_le_of_mem h
      rw [cnt_succ] at this
      omega
theorem cnt_le_ans {n : Nat} {an : An n} : ∀ {q : Qn n}, an ∈ q → cnt n an.2.2 ≤ cntQ n q
  | [], h => absurd h List.not_mem_nil
  | x :: r, h => by
    unfold cntQ
    rw [List.map_cons, List.sum_cons]
    rcases List.mem_cons.mp h with rfl | h
    · omega
    · have := cnt_le_ans h
      unfold cntQ at this
      omega
theorem cnt_take_le {n : Nat} (qs : List (Qn n)) (i : Nat) : cnt (n + 1) (qs.take i : List (Qn n)) ≤ cnt (n + 1) qs := by
  have e : cnt (n + 1) (qs.take i ++ qs.drop i : List (Qn n)) = cnt (n + 1) (qs.take i : List (Qn n)) + cnt (n + 1) (qs.drop i : List (Qn n)) := by
    rw [cnt_succ, cnt_succ, cnt_succ, List.map_append, List.sum_append]
  rw [List.take_append_drop] at e
  omega
section
variable {P : Program} {w : World} {K : PySem.W.Frag} {mg : Str → Option Value} {base : Heap} {aN aO : Addr} {t1 t2 t3 t4 t5 t6 t7 : Tok}
end
end Tl
namespace Tl
open PySem PySem.Spec PyProof.Rows L2 RZ
/-- a method as it stands behind the top -/
structure Dm (K : PySem.W.Frag) (x q : Str) (st : Stmt) (ps : List Str) (f : Addr) (fd : FuncData) : Prop where
  F : Fun K x q st f fd
  b : Binds K fd ps []
/-- the class House -/
structure Hcl (K : PySem.W.Frag) (mg : Str → Option Value) (C fi fe : Addr) : Prop where
  cl : Cls K C
  nw : NoAttr K C "worlds"
  nt : NoAttr K C "tree"
  mkH : Mk K C fi
  eq : PySem.W.findIn K (.ref C) "__eq__" = some (some (.ref fe))
  eqf : PySem.W.isFn K (.ref fe) = true
  gHouse : mg "House" = some (.ref C)
  ha : PySem.W.findIn K (.ref C) "__class__" = some (some (.builtin "object.__class__"))
  hn : PySem.W.specialIn K (.builtin "object.__class__") "__get__" = some (some (.builtin "getset_descriptor.__get__"))
  htk : PySem.W.takesIn K (.builtin "object.__class__") = some true
  hm : PySem.W.mroIn K C (.type "object") = some true
def hf (W : Nat) (v : V) : List (Str × V) := putF "tree" v (putF "worlds" (.int (W : Int)) [])
theorem wt : ¬ (("worlds" : Str) = "tree") := by decide +kernel
theorem hf_eq (W : Nat) (v : V) : hf W v = ([("worlds", .int (W : Int)), ("tree", v)] : List (Str × V)) := by
  show (if ("worlds" : Str) = "tree" then [(("worlds" : Str), v)] else (("worlds" : Str), V.int (W : Int)) :: putF "tree" v []) = ([("worlds", V.int (W : Int)), ("tree", v)] : List (Str × V))
  rw [if_neg wt]
  all_goals rfl
theorem hf_w (W : Nat) (v : V) : (hf W v).lookup ("worlds" : Str) = some (.int (W : Int)) := by
  unfold hf
  rw [lookup_putF, if_neg wt, lookup_putF, if_pos rfl]
theorem hf_t (W : Nat) (v : V) : (hf W v).lookup ("tree" : Str) = some v := by
  unfold hf
  rw [lookup_putF, if_pos rfl]
theorem hf_putw (W : Nat) (v : V) (W' : Nat) : putF "worlds" (.int (W' : Int)) (hf W v) = hf W' v := by
  rw [hf_eq, hf_eq]
  show (if ("worlds" : Str) = "worlds" then (("worlds" : Str), V.int (W' : Int)) :: [(("tree" : Str), v)] else _) = _
  rw [if_pos rfl]
theorem hf_putt (W : Nat) (v v' : V) : putF "tree" v' (hf W v) = hf W v' := by
  rw [hf_eq, hf_eq]
  show (if ("worlds" : Str) = "tree" then _ else (("worlds" : Str), V.int (W : Int)) :: (if ("tree" : Str) = "tree" then [(("tree" : Str), v')] else _)) = _
  rw [if_neg wt, if_pos rfl]
/-- a house of W worlds stands at p, its tree is v -/
def HouseAt (C : Addr) (H : Hp) (p : Addr) (W : Nat) (v : V) : Prop := ∃ dx, H p = some (.ins C dx (hf W v))
theorem HouseAt.keep {C p : Addr} {H H' : Hp} {W : Nat} {v : V} (h : HouseAt C H p W v) (s : Same H H') : HouseAt C H' p W v := let ⟨dx, e⟩ := h; ⟨dx, s _ _ e⟩
/-- the tree of a right house -/
structure TreeOk (K : PySem.W.Frag) (H : Hp) (W n : Nat) (v : V) (t : Nd n) : Prop where
  td : Td K H v (ndD n t)
  ok : NdOk W n (ones W) t
  few : cnt n t ≤ 1500
  deep : n ≤ 8
  w1 : 1 ≤ W
  w5 : W ≤ 5
def spCkT (K : PySem.W.Frag) (n : Nat) : Sp := fun vs H Q _ => ∃ (W : Nat) (v : V) (t : Nd n), vs = [.int (W : Int), v] ∧ TreeOk K H W n v t ∧ ∀ H', Same H H' → Q .non H'
def spInit (K : PySem.W.Frag) (C : Addr) (n : Nat) : Sp := fun vs H Q _ => ∃ (p dx : Addr) (W : Nat) (v : V) (t : Nd n), vs = [.ref p, .int (W : Int), v] ∧ H p = some (.ins C dx []) ∧ TreeOk K H W n v t ∧ ∀ H', H' p = some (.ins C dx (hf W v)) → (∀ b o, H b = some o → b ≠ p → H' b = some o) → Q .non H'
def spMade (K : PySem.W.Frag) (C : Addr) (n : Nat) : Sp := fun vs H Q _ => ∃ (W : Nat) (v : V) (t : Nd n), vs = [.int (W : Int), v] ∧ Td K H v (ndD n t) ∧ n ≤ 12 ∧ cnt n t ≤ 3000 ∧ ∀ p H', Same H H' → HouseAt C H' p W v → Q (.ref p) H'
/-- two houses of equal worlds and trees -/
def HEq2 (K : PySem.W.Frag) (C : Addr) : Addr → Addr → Hp → Prop := fun a b H => ∃ (W : Nat) (v v' : V) (d : PyData) (k : Nat), HouseAt C H a W v ∧ HouseAt C H b W v' ∧ Td K H v d ∧ Td K H v' d ∧ Good k d ∧ k ≤ 64
section
variable {P : Program} {w : World} {K : PySem.W.Frag} {mg : Str → Option Value} {base : Heap} {aN aO : Addr} {t1 t2 t3 t4 t5 t6 t7 : Tok}
/-- both judges, by the rounds -/
theorem ok_checks {f1 f2 f3 f4 f5 f6 f7 f8 f9 g1 g2 g3 : Addr} {fd1 fd2 fd3 fd4 fd5 fd6 fd7 fd8 fd9 gd1 gd2 gd3 : FuncData} (B : Blt mg) (C : Cst K mg aN aO t1 t2 t3 t4 t5 t6 t7) (D_check_node : Dn K mg "check_node" s_check_node ["node", "place", "ahead"] f1 fd1) (D_check_question : Dn K mg "check_question" s_check_question ["question", "place", "ahead"] f2 fd2)
    (D_is_answer : Dn K mg "is_answer" s_is_answer ["thing", "worlds"] f3 fd3) (D_is_ascending : Dn K mg "is_ascending" s_is_ascending ["rows"] f4 fd4) (D_total_weights : Dn K mg "total_weights" s_total_weights ["rows", "worlds"] f5 fd5)
    (D_is_number : Dn K mg "is_number" s_is_number ["thing", "least", "most"] f6 fd6) (D_is_integral : Dn K mg "is_integral" s_is_integral ["thing"] f7 fd7) (D_is_word : Dn K mg "is_word" s_is_word ["thing"] f8 fd8) (D_is_fraction : Dn K mg "is_fraction" s_is_fraction ["thing"] f9 fd9) (D_is_chance : Dn K mg "is_chance" s_is_chance ["thing"] g1 gd1)
    (D_reduced : Dn K mg "reduced" s_reduced ["top", "bottom"] g2 gd2) (D_added : DTot K mg g3 gd3) {h1 h2 : Addr} {hd1 hd2 : FuncData} (D_total : Dn K mg "total" s_total ["fractions"] h1 hd1) (D_are_chances : Dn K mg "are_chances" s_are_chances ["thing", "many"] h2 hd2) :
    ∀ n : Nat, FnOk P w K mg base CX0 (5 + 2 * n) f2 fd2 ["question", "place", "ahead"] (spCkQ K n) ∧ FnOk P w K mg base CX0 (6 + 2 * n) f1 fd1 ["node", "place", "ahead"] (spCkN K n)
  | 0 => by
    have h0 : FnOk P w K mg base CX0 (5 + 2 * 0) f2 fd2 ["question", "place", "ahead"] (spCkQ K 0) := ⟨fun vs H Q E h => h.elim, fun A outer s H args us vs Q E _ _ _ _ h => h.elim⟩
    exact ⟨h0, ok_check_node D_check_node B C D_check_question h0⟩
  | n + 1 => by
    have ih := ok_checks B C D_check_node D_check_question D_is_answer D_is_ascending D_total_weights D_is_number D_is_integral D_is_word D_is_fraction D_is_chance D_reduced D_added D_total D_are_chances n
    have h1 : FnOk P w K mg base CX0 (5 + 2 * (n + 1)) f2 fd2 ["question", "place", "ahead"] (spCkQ K (n + 1)) := by
      have := ok_check_question D_check_question B C D_check_node ih.2 D_is_answer (ok_is_answer D_is_answer B C D_is_number D_is_integral D_is_word D_is_fraction D_is_chance D_are_chances) D_is_ascending (ok_is_ascending D_is_ascending B) D_total_weights (ok_total_weights D_total_weights B C D_reduced D_added D_total)
      rw [show 5 + 2 * (n + 1) = 7 + 2 * n by omega]
      exact this
    exact ⟨h1, ok_check_node D_check_node B C D_check_question h1⟩
theorem ok_check_tree {n : Nat} {f f1 f2 : Addr} {fd fd1 fd2 : FuncData} (D : Dn K mg "check_tree" s_check_tree ["worlds", "tree"] f fd) (B : Blt mg) (C : Cst K mg aN aO t1 t2 t3 t4 t5 t6 t7) (D_check_node : Dn K mg "check_node" s_check_node ["node", "place", "ahead"] f1 fd1) (G_check_node : FnOk P w K mg base CX0 (6 + 2 * n) f1 fd1 ["node", "place", "ahead"] (spCkN K n))
    (D_answers_in : Dn K mg "answers_in" s_answers_in ["node"] f2 fd2) : FnOk P w K mg base CX0 (7 + 2 * n) f fd ["worlds", "tree"] (spCkT K n) := by
  have G_answers_in : FnOk P w K mg base CX0 (1 + n) f2 fd2 ["node"] (spCnt K n) := ok_answers_in D_answers_in B n
  rw [show 7 + 2 * n = (6 + 2 * n) + 1 by omega]
  refine D.F.ok sc_check_tree (fun vs H Q E h => ?_) (fun cdv A outer s H vs Q E hr h => ?_)
  · obtain ⟨W, v, t, rfl, _⟩ := h
    rfl
  obtain ⟨W, v, t, rfl, T, q⟩ := h
  have nd := sc_check_tree.nd
  refine ⟨_, (pss_cons (ps_expr (pe_call G_check_node (hr.mono (by omega)) (by rfl) D_check_node.m D_check_node.F.kp D_check_node.b .nil pass0 (pa_cons (pv 1) (pa_cons (pe_tup pa_nil) (pa_cons (pe_op (k_rep (K := K) rfl) (pe_tup (pa_cons (pe_glob (v := .ref _) rfl C.ONE rfl) pa_nil)) (pv 0)) pa_nil)))))
      (pss_one (ps_if (pt_cmpR op_gt (pe_call G_answers_in (hr.mono (by omega)) (by rfl) D_answers_in.m D_answers_in.F.kp D_answers_in.b .nil pass0 (pa_cons (pv 1) pa_nil)) (pe_glob (v := .int _) rfl C.MOST_PASSED ⟨_, rfl⟩) (nomark _)) (pss_one ps_never) pss_nil))), ?_⟩
  have w1 := T.w1
  have w5 := T.w5
  refine ⟨_, rfl, Nat.zero_le _, fun p1 n1 => ⟨(by show 1 ≤ sizeLine; decide), fun p2 n2 => ?_⟩⟩
  have s2 : Same H (upd (upd H p1 (.tup [])) p2 (.tup [.ref aO])) := (same_upd n1).trans (same_upd n2)
  refine ⟨_, rfl, p2, (W : Int), _, rfl, rfl, .inl (.inl upd_same), by simp, by omega, by omega, by simp, fun pa H3 s3 q3 => ?_⟩
  have s03 := s2.trans s3
  have tO : Td K H3 (.ref aO) (rD 1) := by
    rw [rD_one]
    exact .tup (C.tO _) (tdAll_ints [1, 1])
  refine ⟨W, 0, v, .ref pa, p1, [], ones W, t, rfl, T.td.keep (Same.kt s03), ones_td tO q3, Same.kt (((same_upd n2)).trans s3) _ _ (.inl (.inl upd_same)), rfl, by have := T.deep; omega, w1, w5, by unfold ones; rw [List.length_replicate], T.ok, fun H4 s4 => ?_⟩
  have s04 := s03.trans s4
  refine ⟨_, rfl, v, t, rfl, T.td.keep (Same.kt s04), _, _, rfl, rfl, _, rfl, ?_⟩
  have few := T.few
  rw [decide_eq_false (show ¬ (1500 : Int) < ((cnt n t : Nat) : Int) by omega)]
  exact iteF (q H4 s04)
theorem ok_House_init {n : Nat} {Cc f fe f1 f2 f3 : Addr} {fd fd1 fd2 fd3 : FuncData} (D : Dm K "__init__" "House.__init__" s_House_init ["self", "worlds", "tree"] f fd) (B : Blt mg) (C : Cst K mg aN aO t1 t2 t3 t4 t5 t6 t7) (U : Hcl K mg Cc f fe) (D_check_tree : Dn K mg "check_tree" s_check_tree ["worlds", "tree"] f1 fd1) (G_check_tree : FnOk P w K mg base CX0 (7 + 2 * n) f1 fd1 ["worlds", "tree"] (spCkT K n))
    (D_is_number : Dn K mg "is_number" s_is_number ["thing", "least", "most"] f2 fd2) (D_is_integral : Dn K mg "is_integral" s_is_integral ["thing"] f3 fd3) : FnOk P w K mg base CX0 (8 + 2 * n) f fd ["self", "worlds", "tree"] (spInit K Cc n) := by
  have G_is_number : FnOk P w K mg base CX0 2 f2 fd2 ["thing", "least", "most"] spNumber := ok_is_number D_is_number B D_is_integral
  rw [show 8 + 2 * n = (7 + 2 * n) + 1 by omega]
  refine D.F.ok sc_House_init (fun vs H Q E h => ?_) (fun cdv A outer s H vs Q E hr h => ?_)
  · obtain ⟨p, dx, W, v, t, rfl, _⟩ := h
    rfl
  obtain ⟨p, dx, W, v, t, rfl, hp, T, q⟩ := h
  have nd := sc_House_init.nd
  refine ⟨_, (pss_cons (ps_if (pt_not (pt_val (pe_call G_is_number (hr.mono (by omega)) (by rfl) D_is_number.m D_is_number.F.kp D_is_number.b .nil pass0 (pa_cons (pv 1) (pa_cons pe_int (pa_cons pe_int pa_nil)))))) (pss_one ps_never) pss_nil)
      (pss_cons (ps_expr (pe_call G_check_tree (hr.mono (by omega)) (by rfl) D_check_tree.m D_check_tree.F.kp D_check_tree.b .nil pass0 (pa_cons (pv 1) (pa_cons (pv 2) pa_nil))))
      (pss_cons (ps_fld (pv 0) (pv 1) rfl)
      (pss_one (ps_fld (pv 0) (pv 2) rfl))))), ?_⟩
  have w1 := T.w1
  have w5 := T.w5
  refine ⟨_, rfl, _, _, _, rfl, _, rfl, ?_⟩
  rw [decide_eq_true (show (1 : Int) ≤ (W : Int) by omega), decide_eq_true (show (W : Int) ≤ 5 by omega)]
  refine iteF ?_
  refine ⟨_, rfl, _, rfl, W, v, t, rfl, T, fun H1 s1 => ?_⟩
  have h1 := s1 _ _ hp
  refine ⟨_, rfl, _, rfl, p, Cc, dx, [], rfl, h1, U.cl, U.nw, (by show 0 < 1000; decide), ?_⟩
  refine ⟨_, rfl, _, rfl, p, Cc, dx, _, rfl, upd_same, U.cl, U.nt, (by show 1 < 1000; decide), ?_⟩
  exact q _ upd_same fun b o e hb => by
    rw [upd_ne hb, upd_ne hb]
    exact s1 _ _ e
theorem ok_House_eq {Cc fi f : Addr} {fd : FuncData} (D : Dm K "__eq__" "House.__eq__" s_House_eq ["self", "other"] f fd) (B : Blt mg) (U : Hcl K mg Cc fi f) : FnOk P w K mg base CX0 1 f fd ["self", "other"] (spEq (HEq2 K Cc)) := by
  refine D.F.ok sc_House_eq (fun vs H Q E h => ?_) (fun cdv A outer s H vs Q E hr h => ?_)
  · obtain ⟨a, b, rfl, _⟩ := h
    rfl
  obtain ⟨a, b, rfl, ⟨W, v, v', d, k, ⟨dx, h1⟩, ⟨dy, h2⟩, e1, e2, g, hk⟩, q⟩ := h
  have nd := sc_House_eq.nd
  refine ⟨_, (pss_one (ps_ret (pe_and (pe_callB (k_isi (K := K) rfl) (by rfl) B.isinstance (by decide +kernel) (pa_cons (pv 1) (pa_cons (pe_glob (v := .ref _) rfl U.gHouse rfl) pa_nil))) (pe_and (pe_cmpR op_eq (k_fld (K := K) rfl (pv 0) rfl) (k_fld (K := K) rfl (pv 1) rfl) (nomark _)) (pe_one (pe_cmpR (k_eqD (K := K) rfl hr.units) (k_fld (K := K) rfl (pv 0) rfl) (k_fld (K := K) rfl (pv 1) rfl) (nomark _))))))), ?_⟩
  have kk : PySem.W.kitOne K (.ref Cc) (.ref Cc) = some true := by
    unfold PySem.W.kitOne
    rw [if_pos (beq_self_eq_true _)]
  refine ⟨_, rfl, _, .ref Cc, .ref Cc, .ref Cc, true, rfl, .own Cc, .base (.ins h2 U.cl U.ha U.hn U.htk U.hm), kk, _, rfl, iteT ?_⟩
  refine ⟨_, rfl, a, Cc, dx, _, _, rfl, h1, U.cl, U.nw, hf_w _ _, _, rfl, b, Cc, dy, _, _, rfl, h2, U.cl, U.nw, hf_w _ _, rfl, _, rfl, ?_⟩
  rw [decide_eq_true rfl]
  refine iteT ?_
  refine ⟨_, rfl, a, Cc, dx, _, _, rfl, h1, U.cl, U.nt, hf_t _ _, _, rfl, b, Cc, dy, _, _, rfl, h2, U.cl, U.nt, hf_t _ _, d, d, e1.dp, e2.dp, g.shaped hk, g.shaped hk, ?_⟩
  rw [g.refl]
  exact q H Ext.rfl'
end
end Tl
namespace Tl
open PySem PySem.Spec PyProof.Rows L2 RZ
/-! the house without hopeless answers -/
def hope : (n : Nat) → Nd n → Nd n
  | 0, t => t
  | n + 1, qs => (show List (Qn n) from qs).map fun q => (q.filter fun a => !isZ a.2.1).map fun a => (a.1, a.2.1, hope n a.2.2)
def hopeA (n : Nat) (a : An n) : An n := (a.1, a.2.1, hope n a.2.2)
def hopeQ (n : Nat) (q : Qn n) : Qn n := (q.filter fun a => !isZ a.2.1).map (hopeA n)
theorem hope_succ (n : Nat) (qs : List (Qn n)) : hope (n + 1) qs = (qs.map (hopeQ n) : List (Qn n)) := rfl
theorem cntQ_nil (n : Nat) : cntQ n [] = 0 := rfl
theorem cntQ_cons (n : Nat) (a : An n) (q : Qn n) : cntQ n (a :: q) = 1 + cnt n a.2.2 + cntQ n q := rfl
theorem cnt_cons (n : Nat) (q : Qn n) (qs : List (Qn n)) : cnt (n + 1) (q :: qs : List (Qn n)) = cntQ n q + cnt (n + 1) qs := rfl
theorem hopeQ_cons (n : Nat) (a : An n) (q : Qn n) : hopeQ n (a :: q) = if isZ a.2.1 = true then hopeQ n q else hopeA n a :: hopeQ n q := by
  unfold hopeQ
  rw [List.filter_cons]
  cases isZ a.2.1 <;> rfl
theorem cnt_hope : ∀ (n : Nat) (t : Nd n), cnt n (hope n t) ≤ cnt n t
  | 0, _ => Nat.le_refl _
  | n + 1, qs => by
    have hq : ∀ q : Qn n, cntQ n (hopeQ n q) ≤ cntQ n q := by
      intro q
      induction q with
      | nil => exact Nat.le_refl _
      | cons a r ih =>
        rw [hopeQ_cons, cntQ_cons]
        have := cnt_hope n a.2.2
        split
        · omega
        · rw [cntQ_cons]
          show 1 + cnt n (hope n a.2.2) + _ ≤ _
          omega
    have all : ∀ l : List (Qn n), cnt (n + 1) (l.map (hopeQ n) : List (Qn n)) ≤ cnt (n + 1) l := by
      intro l
      induction l with
      | nil => exact Nat.le_refl _
      | cons q r ih =>
        have := hq q
        rw [List.map_cons, cnt_cons, cnt_cons]
        omega
    exact all qs
theorem isZ_false {ws : List Rat} (h : isZ ws = true) {j : Nat} : ws.getD j 0 = 0 := by
  by_cases hj : j < ws.length
  · rw [getD_of (List.getElem?_eq_getElem hj)]
    unfold isZ at h
    exact of_decide_eq_true (List.all_eq_true.mp h _ (List.getElem_mem hj))
  · rw [List.getD_eq_getElem?_getD, List.getElem?_eq_none (by omega)]
    rfl
theorem isZ_of {W : Nat} {ws : List Rat} (hl : ws.length = W) (h : ∀ j, j < W → ws.getD j 0 = 0) : isZ ws = true := by
  unfold isZ
  refine List.all_eq_true.mpr fun x hx => ?_
  obtain ⟨j, hj, rfl⟩ := List.getElem_of_mem hx
  have := h j (by omega)
  rw [getD_of (List.getElem?_eq_getElem hj)] at this
  exact decide_eq_true this
theorem fsum_zero : ∀ l : List Rat, (∀ x ∈ l, x = 0) → fsum l = 0
  | [], _ => rfl
  | x :: r, h => by
    rw [fsum_cons, h x (List.mem_cons_self ..), fsum_zero r fun y hy => h y (List.mem_cons_of_mem _ hy), Rat.zero_add]
theorem col_cons {n : Nat} (a : An n) (q : Qn n) (j : Nat) : col (a :: q) j = a.2.1.getD j 0 :: col q j := rfl
theorem hope_sub {n : Nat} (j : Nat) (q : Qn n) : ∀ r ∈ col (hopeQ n q) j, r ∈ col q j := by
  intro r hr
  unfold col hopeQ at hr
  rw [List.map_map] at hr
  obtain ⟨a, ha, rfl⟩ := List.mem_map.mp hr
  exact List.mem_map.mpr ⟨a, (List.mem_filter.mp ha).1, rfl⟩
theorem hope_whole {n : Nat} (j : Nat) : ∀ q : Qn n, fsum (col (hopeQ n q) j) = fsum (col q j)
  | [] => rfl
  | a :: q => by
    rw [hopeQ_cons]
    by_cases h : isZ a.2.1 = true
    · rw [if_pos h, hope_whole j q, col_cons, fsum_cons, isZ_false h, Rat.zero_add]
    · rw [if_neg h, col_cons, col_cons, fsum_cons, fsum_cons, hope_whole j q]
      rfl
theorem lex_trans : ∀ {a b c : List Int}, HT.lexLt a b = true → HT.lexLt b c = true → HT.lexLt a c = true
  | [], [], _, h, _ => by cases h
  | [], _ :: _, [], _, h => by cases h
  | [], _ :: _, _ :: _, _, _ => rfl
  | _ :: _, [], _, h, _ => by cases h
  | _ :: _, _ :: _, [], _, h => by cases h
  | x :: xs, y :: ys, z :: zs, h1, h2 => by
    unfold HT.lexLt at h1 h2 ⊢
    by_cases e1 : x = y
    · subst e1
      rw [if_pos rfl] at h1
      by_cases e2 : x = z
      · subst e2
        rw [if_pos rfl] at h2 ⊢
        exact lex_trans h1 h2
      · rw [if_neg e2] at h2 ⊢
        exact h2
    · rw [if_neg e1] at h1
      have l1 := of_decide_eq_true h1
      by_cases e2 : y = z
      · subst e2
        rw [if_neg (by omega)]
        exact h1
      · rw [if_neg e2] at h2
        have l2 := of_decide_eq_true h2
        rw [if_neg (by omega)]
        exact decide_eq_true (by omega)
def AscP {n : Nat} (q : Qn n) : Prop := q.Pairwise fun x y => HT.lexLt x.1 y.1 = true
theorem asc_pair {n : Nat} : ∀ {q : Qn n}, (∀ i (x y : An n), q[i]? = some x → q[i + 1]? = some y → HT.lexLt x.1 y.1 = true) → AscP q
  | [], _ => List.Pairwise.nil
  | [a], _ => List.pairwise_singleton _ _
  | a :: b :: r, h => by
    have ih : AscP (b :: r) := asc_pair fun i x y hx hy => h (i + 1) x y hx hy
    have ab := h 0 a b rfl rfl
    refine List.Pairwise.cons (fun z hz => ?_) ih
    rcases List.mem_cons.mp hz with rfl | hz
    · exact ab
    · exact lex_trans ab (List.rel_of_pairwise_cons ih hz)
theorem pair_asc {n : Nat} {q : Qn n} (h : AscP q) (i : Nat) (x y : An n) (hx : q[i]? = some x) (hy : q[i + 1]? = some y) : HT.lexLt x.1 y.1 = true := by
  have h1 := (List.getElem?_eq_some_iff.mp hx)
  have h2 := (List.getElem?_eq_some_iff.mp hy)
  obtain ⟨l1, e1⟩ := h1
  obtain ⟨l2, e2⟩ := h2
  have := (List.pairwise_iff_getElem.mp h) i (i + 1) l1 l2 (by omega)
  rw [e1, e2] at this
  exact this
theorem hope_asc {n : Nat} {q : Qn n} (h : AscP q) : AscP (hopeQ n q) := by
  unfold AscP hopeQ
  rw [List.pairwise_map]
  exact List.Pairwise.filter _ h
theorem hope_ok : ∀ {W n : Nat} {ahead : List Rat} {t : Nd n}, ahead.length = W → isZ ahead = false → NdOk W n ahead t → NdOk W n ahead (hope n t)
  | _, 0, _, _, _, _, _ => trivial
  | W, n + 1, ahead, qs, hl, hz, h => by
    refine ⟨?_, ?_⟩
    · show (List.map _ _).length ≤ 5
      rw [List.length_map]
      exact h.1
    · intro q' hq'
      obtain ⟨q, hq, rfl⟩ := List.mem_map.mp hq'
      obtain ⟨ok, nok⟩ := h.2 q hq
      have mem : ∀ a' ∈ hopeQ n q, ∃ a ∈ q, isZ a.2.1 = false ∧ a' = hopeA n a := by
        intro a' ha'
        unfold hopeQ at ha'
        obtain ⟨a, ha, rfl⟩ := List.mem_map.mp ha'
        obtain ⟨h1, h2⟩ := List.mem_filter.mp ha
        exact ⟨a, h1, by simpa using h2, rfl⟩
      refine ⟨⟨?_, ?_, ?_, ?_, ?_, ?_, ?_⟩, ?_⟩
      · show 1 ≤ (hopeQ n q).length
        cases e : hopeQ n q with
        | cons a r => simp
        | nil =>
          have : isZ ahead = true := isZ_of hl fun j hj => by
            rw [← ok.whole j hj, ← hope_whole j q, e]
            rfl
          rw [hz] at this
          cases this
      · show (hopeQ n q).length ≤ 12
        unfold hopeQ
        rw [List.length_map]
        exact Nat.le_trans (List.length_filter_le _ _) ok.most
      · intro a' ha'
        obtain ⟨a, h1, h2, rfl⟩ := mem a' ha'
        exact ok.words a h1
      · exact fun i x y => pair_asc (hope_asc (asc_pair ok.asc)) i x y
      · intro a' ha'
        obtain ⟨a, h1, h2, rfl⟩ := mem a' ha'
        exact ok.wide a h1
      · intro a' ha'
        obtain ⟨a, h1, h2, rfl⟩ := mem a' ha'
        exact ok.chs a h1
      · intro j hj
        show fsum (col (hopeQ n q) j) = _
        rw [hope_whole]
        exact ok.whole j hj
      · intro a' ha'
        obtain ⟨a, h1, h2, rfl⟩ := mem a' ha'
        exact hope_ok (ok.wide a h1) h2 (nok a h1)
theorem ones_not {W : Nat} (h : 1 ≤ W) : isZ (ones W) = false := by
  cases W with
  | zero => omega
  | succ W =>
    unfold isZ ones
    rw [List.replicate_succ, List.all_cons]
    rfl
/-- without hopeless answers once more -/
theorem hope_hope : ∀ (n : Nat) (t : Nd n), hope n (hope n t) = hope n t
  | 0, _ => rfl
  | n + 1, qs => by
    have hq : ∀ q : Qn n, hopeQ n (hopeQ n q) = hopeQ n q := by
      intro q
      induction q with
      | nil => rfl
      | cons a r ih =>
        rw [hopeQ_cons]
        by_cases h : isZ a.2.1 = true
        · rw [if_pos h, ih]
        · rw [if_neg h, hopeQ_cons]
          have h2 : ¬ isZ (hopeA n a).2.1 = true := h
          rw [if_neg h2, ih]
          have e : hopeA n (hopeA n a) = hopeA n a := by
            unfold hopeA
            rw [hope_hope n a.2.2]
          rw [e]
    have all : ∀ l : List (Qn n), (l.map (hopeQ n)).map (hopeQ n) = l.map (hopeQ n) := by
      intro l
      rw [List.map_map]
      exact List.map_congr_left fun q _ => hq q
    exact all qs
end Tl
namespace Tl
open PySem PySem.Spec PyProof.Rows L2 RZ
def spHope (K : PySem.W.Frag) (n : Nat) : Sp := fun vs H Q _ => ∃ (W : Nat) (v : V) (ahead : List Rat) (t : Nd n), vs = [v] ∧ Td K H v (ndD n t) ∧ NdOk W n ahead t ∧ W ≤ 5 ∧ ∀ v' H', Same H H' → Td K H' v' (ndD n (hope n t)) → Q v' H'
theorem hopeQ_snoc {n : Nat} (q : Qn n) (i : Nat) (an : An n) (h : q[i]? = some an) : hopeQ n (q.take (i + 1)) = hopeQ n (q.take i) ++ (if isZ an.2.1 = true then [] else [hopeA n an]) := by
  unfold hopeQ
  rw [List.take_add_one, h, List.filter_append, List.map_append]
  congr 1
  show List.map (hopeA n) (List.filter _ [an]) = _
  rw [List.filter_cons]
  cases isZ an.2.1 <;> rfl
theorem hopeQ_len {n : Nat} (q : Qn n) : (hopeQ n q).length ≤ q.length := by
  unfold hopeQ
  rw [List.length_map]
  exact List.length_filter_le _ _
/-- an answer at its place -/
theorem td_an {K : PySem.W.Frag} {H : Hp} {n : Nat} {an : An n} {v : V} (h : Td K H v (anD n an)) : ∃ p vw vs vt, v = .ref p ∧ SqT K H p [vw, vs, vt] ∧ Td K H vw (wdD an.1) ∧ Td K H vs (wsD an.2.1) ∧ Td K H vt (ndD n an.2.2) := by
  obtain ⟨p, ys, rfl, hp, tp⟩ := id h.tupE
  cases tp with
  | cons h1 tp => cases tp with
    | cons h2 tp => cases tp with
      | cons h3 tp =>
        cases tp
        exact ⟨p, _, _, _, rfl, hp, h1, h2, h3⟩
section
variable {P : Program} {w : World} {K : PySem.W.Frag} {mg : Str → Option Value} {base : Heap} {aN aO : Addr} {t1 t2 t3 t4 t5 t6 t7 : Tok}
end
end Tl
namespace Tl
open PySem PySem.Spec PyProof.Rows L2 RZ
/-- how many questions -/
def nq : (n : Nat) → Nd n → Nat
  | 0, _ => 0
  | n + 1, qs => (show List (Qn n) from qs).length
/-- answers told by their numbers and by what is behind -/
def cntd : (n : Nat) → Nd n → Nd n
  | 0, t => t
  | n + 1, qs => (show List (Qn n) from qs).map fun q => q.mapIdx fun i a => ([(i : Int), (nq n a.2.2 : Int)], a.2.1, cntd n a.2.2)
def cntdA (n : Nat) (i : Nat) (a : An n) : An n := ([(i : Int), (nq n a.2.2 : Int)], a.2.1, cntd n a.2.2)
def cntdQ (n : Nat) (q : Qn n) : Qn n := q.mapIdx (cntdA n)
theorem cntdQ_snoc {n : Nat} (q : Qn n) (i : Nat) (an : An n) (h : q[i]? = some an) : cntdQ n (q.take (i + 1)) = cntdQ n (q.take i) ++ [cntdA n i an] := by
  unfold cntdQ
  have hi := (List.getElem?_eq_some_iff.mp h).1
  rw [List.take_add_one, h]
  show List.mapIdx _ (_ ++ [an]) = _
  rw [List.mapIdx_concat, List.length_take, Nat.min_eq_left (Nat.le_of_lt hi)]
theorem cnt_cntd : ∀ (n : Nat) (t : Nd n), cnt n (cntd n t) = cnt n t
  | 0, _ => rfl
  | n + 1, qs => by
    have hq : ∀ q : Qn n, cntQ n (cntdQ n q) = cntQ n q := by
      intro q
      unfold cntQ cntdQ
      congr 1
      refine List.ext_getElem? fun i => ?_
      rw [List.getElem?_map, List.getElem?_map, List.getElem?_mapIdx]
      cases q[i]? with
      | none => rfl
      | some a =>
        show some (1 + cnt n (cntd n a.2.2)) = some (1 + cnt n a.2.2)
        rw [cnt_cntd n]
    have all : ∀ l : List (Qn n), cnt (n + 1) (l.map (cntdQ n) : List (Qn n)) = cnt (n + 1) l := by
      intro l
      induction l with
      | nil => rfl
      | cons q r ih =>
        have := hq q
        rw [List.map_cons, cnt_cons, cnt_cons]
        omega
    exact all qs
theorem nq_td {K : PySem.W.Frag} {H : Hp} {n : Nat} {t : Nd n} {v : V} (h : Td K H v (ndD n t)) : ∃ (a : Addr) (xs : List V), v = .ref a ∧ SqT K H a xs ∧ xs.length = nq n t := by
  obtain ⟨a, xs, ds, rfl, ha, ed, ta, l0⟩ := td_qs h
  refine ⟨a, xs, rfl, ha, ?_⟩
  cases n with
  | zero => rw [l0 rfl]; rfl
  | succ n =>
    cases ed
    rw [ta.len, List.length_map]
    rfl
def spCntd (K : PySem.W.Frag) (n : Nat) : Sp := fun vs H Q _ => ∃ (W : Nat) (v : V) (ahead : List Rat) (t : Nd n), vs = [v] ∧ Td K H v (ndD n t) ∧ NdOk W n ahead t ∧ ∀ v' H', Same H H' → Td K H' v' (ndD n (cntd n t)) → Q v' H'
section
variable {P : Program} {w : World} {K : PySem.W.Frag} {mg : Str → Option Value} {base : Heap} {aN aO : Addr} {t1 t2 t3 t4 t5 t6 t7 : Tok}
end
end Tl
namespace Tl
open PySem PySem.Spec PyProof.Rows L2 RZ
section
variable {P : Program} {w : World} {K : PySem.W.Frag} {mg : Str → Option Value} {base : Heap} {aN aO : Addr} {t1 t2 t3 t4 t5 t6 t7 : Tok}
/-- a house and its tree -/
structure HsOk (K : PySem.W.Frag) (C : Addr) (H : Hp) (p : Addr) (W n : Nat) (t : Nd n) (v : V) : Prop where
  at_ : HouseAt C H p W v
  td : Td K H v (ndD n t)
  ok : NdOk W n (ones W) t
  few : cnt n t ≤ 1500
  deep : n ≤ 8
  w1 : 1 ≤ W
  w5 : W ≤ 5
theorem HsOk.tree {C p : Addr} {H : Hp} {W n : Nat} {t : Nd n} {v : V} (h : HsOk K C H p W n t v) : TreeOk K H W n v t := ⟨h.td, h.ok, h.few, h.deep, h.w1, h.w5⟩
theorem HsOk.keep {C p : Addr} {H H' : Hp} {W n : Nat} {t : Nd n} {v : V} (h : HsOk K C H p W n t v) (s : Same H H') : HsOk K C H' p W n t v := ⟨h.at_.keep s, h.td.keep (Same.kt s), h.ok, h.few, h.deep, h.w1, h.w5⟩
def spHopeful (K : PySem.W.Frag) (C : Addr) (n : Nat) : Sp := fun vs H Q _ => ∃ (p : Addr) (W : Nat) (t : Nd n) (v : V), vs = [.ref p] ∧ HsOk K C H p W n t v ∧ ∀ p' v' H', Same H H' → HsOk K C H' p' W n (hope n t) v' → Q (.ref p') H'
/-- the one answer with which a house begins -/
def beg (W n : Nat) (t : Nd n) : Nd (n + 1) := ([[([(nq n t : Int)], ones W, cntd n t)]] : List (Qn n))
theorem cnt_beg (W n : Nat) (t : Nd n) : cnt (n + 1) (beg W n t) = 1 + cnt n t := by
  show 1 + cnt n (cntd n t) + 0 + 0 = _
  rw [cnt_cntd]
  rfl
def spBegun (K : PySem.W.Frag) (C : Addr) (n : Nat) : Sp := fun vs H Q _ => ∃ (p : Addr) (W : Nat) (t : Nd n) (v : V), vs = [.ref p] ∧ HsOk K C H p W n t v ∧ ∀ p' v' H', Same H H' → HouseAt C H' p' W v' → Td K H' v' (ndD (n + 1) (beg W n t)) → Q (.ref p') H'
end
end Tl
namespace Tl
open PySem PySem.Spec PyProof.Rows L2 RZ
section
variable {P : Program} {w : World} {K : PySem.W.Frag} {mg : Str → Option Value} {base : Heap} {aN aO : Addr} {t1 t2 t3 t4 t5 t6 t7 : Tok}
end
end Tl
namespace Tl
open PySem PySem.Spec PyProof.Rows L2 RZ
def fq {n : Nat} (q : Qn n) : Qn n := q.filter fun a => !isZ a.2.1
theorem fq_snoc {n : Nat} (q : Qn n) (i : Nat) (an : An n) (h : q[i]? = some an) : fq (q.take (i + 1)) = fq (q.take i) ++ (if isZ an.2.1 = true then [] else [an]) := by
  unfold fq
  rw [List.take_add_one, h, List.filter_append]
  congr 1
  show List.filter _ [an] = _
  rw [List.filter_cons]
  cases isZ an.2.1 <;> rfl
theorem fq_len {n : Nat} (q : Qn n) : (fq q).length ≤ q.length := List.length_filter_le _ _
theorem hopeQ_fq {n : Nat} (q : Qn n) : hopeQ n q = (fq q).map (hopeA n) := rfl
theorem any_pos : ∀ ws : List Rat, (∀ r ∈ ws, 0 ≤ r) → (ws.map fun r => decide (0 < r.num)).any id = !isZ ws
  | [], _ => rfl
  | r :: l, h => by
    have ih := any_pos l fun x hx => h x (List.mem_cons_of_mem _ hx)
    have h0 := Rat.num_nonneg.mpr (h r (List.mem_cons_self ..))
    show (decide (0 < r.num) || ((l.map fun r => decide (0 < r.num)).any id)) = !(decide (r = 0) && isZ l)
    rw [ih]
    by_cases e : r = 0
    · subst e
      rw [decide_eq_false (show ¬ 0 < (0 : Rat).num by decide), decide_eq_true rfl]
      rfl
    · have hn : r.num ≠ 0 := fun z => e (Rat.num_eq_zero.mp z)
      rw [decide_eq_true (show 0 < r.num by omega), decide_eq_false e]
      rfl
section
variable {P : Program} {w : World} {K : PySem.W.Frag} {mg : Str → Option Value} {base : Heap} {aN aO : Addr} {t1 t2 t3 t4 t5 t6 t7 : Tok}
end
end Tl
namespace Tl
open PySem PySem.Spec PyProof.Rows L2 RZ
def key {n : Nat} (a : An n) : List Int × List Rat := (a.1, a.2.1)
theorem key_at {n m : Nat} {q : Qn n} {q' : Qn m} (e : q'.map key = q.map key) {i : Nat} {x : An m} (h : q'[i]? = some x) : ∃ y : An n, q[i]? = some y ∧ y.1 = x.1 ∧ y.2.1 = x.2.1 := by
  have h1 : (q'.map key)[i]? = some (key x) := by rw [List.getElem?_map, h]; rfl
  rw [e] at h1
  obtain ⟨y, ey, ky⟩ := map_at h1
  have k1 : x.1 = y.1 := congrArg Prod.fst ky
  have k2 : x.2.1 = y.2.1 := congrArg Prod.snd ky
  exact ⟨y, ey, k1.symm, k2.symm⟩
theorem key_col {n m : Nat} {q : Qn n} {q' : Qn m} (e : q'.map key = q.map key) (j : Nat) : col q' j = col q j := by
  have f : ∀ {k : Nat} (r : Qn k), col r j = (r.map key).map fun z => z.2.getD j 0 := fun r => by
    rw [List.map_map]
    rfl
  rw [f q', f q, e]
theorem qnOk_key {W n m : Nat} {ahead : List Rat} {q : Qn n} {q' : Qn m} (e : q'.map key = q.map key) (h : QnOk W ahead q) : QnOk W ahead q' := by
  have hl : q'.length = q.length := by
    have := congrArg List.length e
    rw [List.length_map, List.length_map] at this
    exact this
  have mem : ∀ a ∈ q', ∃ y ∈ q, y.1 = a.1 ∧ y.2.1 = a.2.1 := fun a ha => by
    obtain ⟨i, hi, rfl⟩ := List.getElem_of_mem ha
    obtain ⟨y, ey, k⟩ := key_at e (List.getElem?_eq_getElem hi)
    exact ⟨y, List.mem_of_getElem? ey, k⟩
  refine ⟨by have := h.one; omega, by have := h.most; omega, fun a ha => ?_, fun i x y hx hy => ?_, fun a ha => ?_, fun a ha => ?_, fun j hj => ?_⟩
  · obtain ⟨y, hy, k1, k2⟩ := mem a ha
    rw [← k1]
    exact h.words y hy
  · obtain ⟨x', ex, k1, _⟩ := key_at e hx
    obtain ⟨y', ey, k2, _⟩ := key_at e hy
    rw [← k1, ← k2]
    exact h.asc i x' y' ex ey
  · obtain ⟨y, hy, k1, k2⟩ := mem a ha
    rw [← k2]
    exact h.wide y hy
  · obtain ⟨y, hy, k1, k2⟩ := mem a ha
    rw [← k2]
    exact h.chs y hy
  · rw [key_col e]
    exact h.whole j hj
def zer (W : Nat) : List Rat := List.replicate W 0
theorem zer_at (W j : Nat) : (zer W).getD j 0 = 0 := by
  unfold zer
  by_cases h : j < W
  · exact getD_of (by rw [List.getElem?_replicate, if_pos h])
  · rw [List.getD_eq_getElem?_getD, List.getElem?_eq_none (by rw [List.length_replicate]; omega)]
    rfl
/-- a hopeless answer more at the end -/
theorem qnOk_more {W n : Nat} {ahead : List Rat} {q : Qn n} (h : QnOk W ahead q) (l : q.length ≤ 11) {wd : List Int} (hw : WordOk wd) {nd : Nd n} {x : An n} (hx : q[q.length - 1]? = some x) (hlt : HT.lexLt x.1 wd = true) : QnOk W ahead (q ++ [(wd, zer W, nd)]) := by
  have c : ∀ j, col (q ++ [((wd, zer W, nd) : An n)]) j = col q j ++ [0] := fun j => by
    unfold col
    rw [List.map_append]
    show _ ++ [(zer W).getD j 0] = _
    rw [zer_at]
  have o1 := h.one
  refine ⟨by rw [List.length_append]; omega, by rw [List.length_append]; show q.length + 1 ≤ 12; omega, fun a ha => ?_, fun i x' y' h1 h2 => ?_, fun a ha => ?_, fun a ha => ?_, fun j hj => ?_⟩
  · rcases List.mem_append.mp ha with z | z
    · exact h.words a z
    · rw [List.mem_singleton.mp z]
      exact hw
  · by_cases hi : i + 1 < q.length
    · rw [List.getElem?_append_left hi] at h2
      rw [List.getElem?_append_left (by omega)] at h1
      exact h.asc i x' y' h1 h2
    · have hb := (List.getElem?_eq_some_iff.mp h2).1
      rw [List.length_append] at hb
      have hb2 : i + 1 < q.length + 1 := hb
      have ei : i + 1 = q.length := by omega
      rw [ei, List.getElem?_append_right (Nat.le_refl _), Nat.sub_self] at h2
      rw [List.getElem?_append_left (by omega), show i = q.length - 1 by omega, hx] at h1
      cases h1
      cases h2
      exact hlt
  · rcases List.mem_append.mp ha with z | z
    · exact h.wide a z
    · rw [List.mem_singleton.mp z]
      show (zer W).length = W
      unfold zer
      rw [List.length_replicate]
  · rcases List.mem_append.mp ha with z | z
    · exact h.chs a z
    · rw [List.mem_singleton.mp z]
      intro r hr
      have : r = 0 := (List.mem_replicate.mp hr).2
      rw [this]
      exact ch_zero
  · rw [c, fsum_snoc, Rat.add_zero]
    exact h.whole j hj
/-- a node of one round where more may be -/
def upA (m : Nat) (a : An 0) : An m := (a.1, a.2.1, emptyNd m)
def upN (m : Nat) (qs : List (Qn 0)) : Nd (m + 1) := (qs.map fun q => q.map (upA m) : List (Qn m))
theorem upN_D (m : Nat) (qs : List (Qn 0)) : ndD (m + 1) (upN m qs) = ndD 1 (show Nd 1 from qs) := by
  show PyData.tuple _ = PyData.tuple _
  refine congrArg PyData.tuple ?_
  unfold upN
  show List.map _ (List.map _ qs) = _
  rw [List.map_map]
  refine List.map_congr_left fun q _ => ?_
  show PyData.tuple (List.map _ (List.map _ q)) = PyData.tuple _
  rw [List.map_map]
  refine congrArg PyData.tuple (List.map_congr_left fun a _ => ?_)
  show PyData.tuple [wdD a.1, wsD a.2.1, ndD m (emptyNd m)] = PyData.tuple [wdD a.1, wsD a.2.1, ndD 0 a.2.2]
  rw [ndD_empty]
  rfl
theorem upN_cnt (m : Nat) (qs : List (Qn 0)) : cnt (m + 1) (upN m qs) = cnt 1 (show Nd 1 from qs) := by
  show List.sum _ = List.sum _
  congr 1
  unfold upN
  show List.map _ (List.map _ qs) = _
  rw [List.map_map]
  refine List.map_congr_left fun q _ => ?_
  show List.sum (List.map _ (List.map _ q)) = List.sum _
  rw [List.map_map]
  congr 1
  refine List.map_congr_left fun a _ => ?_
  show 1 + cnt m (emptyNd m) = 1 + 0
  rw [cnt_empty]
theorem upN_ok {W m : Nat} {ws : List Rat} {qs : List (Qn 0)} (h : NdOk W 1 ws (show Nd 1 from qs)) : NdOk W (m + 1) ws (upN m qs) := by
  refine ⟨by show (List.map _ qs).length ≤ 5; rw [List.length_map]; exact h.1, fun q' hq' => ?_⟩
  obtain ⟨q, hq, rfl⟩ := List.mem_map.mp hq'
  refine ⟨qnOk_key (by rw [List.map_map]; rfl) (h.2 q hq).1, fun a' ha' => ?_⟩
  obtain ⟨a, ha, rfl⟩ := List.mem_map.mp ha'
  exact ndOk_empty _ _ _
theorem sharp_key {n m : Nat} {q : Qn n} {q' : Qn m} (e : q'.map key = q.map key) (h : Sharp q) : Sharp q' := fun a ha => by
  obtain ⟨i, hi, rfl⟩ := List.getElem_of_mem ha
  obtain ⟨y, ey, k1, k2⟩ := key_at e (List.getElem?_eq_getElem hi)
  rw [← k2]
  exact h y (List.mem_of_getElem? ey)
theorem sharp_more {n W : Nat} {q : Qn n} (h : Sharp q) {wd : List Int} {nd : Nd n} : Sharp (q ++ [(wd, zer W, nd)]) := fun a ha r hr => by
  rcases List.mem_append.mp ha with z | z
  · exact h a z r hr
  · rw [List.mem_singleton.mp z] at hr
    have : r = 0 := (List.mem_replicate.mp hr).2
    rw [this]
    exact ch_zero
theorem upN_g {W m : Nat} {ws : List Rat} {qs : List (Qn 0)} (h : NdG W 1 ws (show Nd 1 from qs)) : NdG W (m + 1) ws (upN m qs) := by
  refine ⟨by show (List.map _ qs).length ≤ 5; rw [List.length_map]; exact h.1, fun q' hq' => ?_⟩
  obtain ⟨q, hq, rfl⟩ := List.mem_map.mp hq'
  refine ⟨⟨qnOk_key (by rw [List.map_map]; rfl) (h.2 q hq).1.1, sharp_key (by rw [List.map_map]; rfl) (h.2 q hq).1.2⟩, fun a' ha' => ?_⟩
  obtain ⟨a, ha, rfl⟩ := List.mem_map.mp ha'
  exact ndG_empty _ _ _
end Tl
namespace Tl
open PySem PySem.Spec PyProof.Rows L2 RZ
theorem atI_neg1 {xs : List V} {v : V} (h : xs[xs.length - 1]? = some v) : atI xs (-1) = some v := by
  have hl := (List.getElem?_eq_some_iff.mp h).1
  have hne : xs ≠ [] := fun e => by subst e; exact absurd hl (Nat.not_lt_zero _)
  have e := List.dropLast_concat_getLast hne
  have g : xs.getLast hne = v := by
    rw [List.getLast_eq_getElem]
    exact (List.getElem?_eq_some_iff.mp h).2
  rw [g] at e
  rw [← e]
  exact atI_last _ _
theorem zer_td {K : PySem.W.Frag} {H : Hp} {p q : Addr} {W : Nat} (hq : Td K H (.ref q) (rD 0)) (hp : SqT K H p (List.replicate (W : Int).toNat [V.ref q]).flatten) : Td K H (.ref p) (wsD (zer W)) := by
  rw [flat_rep, Int.toNat_natCast] at hp
  refine .tup hp ?_
  unfold zer
  rw [List.map_replicate]
  exact tdAll_rep hq W
def spWH (K : PySem.W.Frag) (n : Nat) : Sp := fun vs H Q _ => ∃ (b g : Addr) (W : Nat) (v : V) (ahead : List Rat) (t : Nd n), vs = [.ref b, .int (W : Int), v] ∧ Bag H b g ∧ Td K H v (ndD n t) ∧ NdF W n ahead t ∧ 1 ≤ W ∧ W ≤ 5 ∧
  ∀ (v' : V) (t' : Nd (n + 1)) (H' : Hp), Td K H' v' (ndD (n + 1) t') → NdG W (n + 1) ahead t' → cnt (n + 1) t' ≤ 11 * cnt n t → Bag H' b g → Frm b g H H' → Q v' H'
/-- what stands when i questions are done -/
structure WhI (K : PySem.W.Frag) (b g T : Addr) (W n : Nat) (ahead : List Rat) (qs : List (Qn n)) (H : Hp) (i : Nat) (H2 : Hp) (us : List V) (qs' : List (Qn (n + 1))) : Prop where
  len : qs'.length = i
  h : H2 T = some (.lst us)
  t : TdAll K H2 us (qs'.map (qnD (n + 1)))
  ok : ∀ q ∈ qs', QnG W ahead q ∧ ∀ a ∈ q, NdG W (n + 1) a.2.1 a.2.2
  c : cnt (n + 2) (qs' : List (Qn (n + 1))) ≤ 11 * cnt (n + 1) (qs.take i : List (Qn n))
  B : Bag H2 b g
  F : Frm b g H H2
theorem wh_fin {K : PySem.W.Frag} {b g T : Addr} {W n : Nat} {ahead : List Rat} {qs : List (Qn n)} {H H2 H5 : Hp} {i : Nat} {us : List V} {qs' : List (Qn (n + 1))} {qn : Qn n} {qa : Qn (n + 1)} {l : Addr} (I : WhI K b g T W n ahead qs H i H2 us qs') (eq : qs[i]? = some qn) (F5 : Frm b g H2 H5) (B5 : Bag H5 b g) (t5 : Td K H5 (.ref l) (qnD (n + 1) qa)) (o1 : QnG W ahead qa)
    (o2 : ∀ a ∈ qa, NdG W (n + 1) a.2.1 a.2.2) (c5 : cntQ (n + 1) qa ≤ 11 * cntQ n qn) (Tb : T ≠ b) (Tg : T ≠ g) (T0 : H T = none) : H5 T = some (.lst us) ∧ WhI K b g T W n ahead qs H (i + 1) (upd H5 T (.lst (us ++ [.ref l]))) (us ++ [.ref l]) (qs' ++ [qa]) := by
  have h5 := F5 _ _ I.h Tb Tg
  have kT : KT K H5 (upd H5 T (.lst (us ++ [.ref l]))) := KT.updL h5
  refine ⟨h5, by rw [List.length_append, I.len]; rfl, upd_same, ?_, fun q hq => ?_, ?_, B5.updN Tb Tg, (I.F.trans F5).updN T0⟩
  · rw [List.map_append]
    exact (I.t.keep ((I.B.kt F5).trans kT)).app (.cons (t5.keep kT) .nil)
  · rcases List.mem_append.mp hq with z | z
    · exact I.ok q z
    · rw [List.mem_singleton.mp z]
      exact ⟨o1, o2⟩
  · rw [cnt_snoc, cnt_take n qs i qn eq]
    have := I.c
    show cnt (n + 2) (qs' : List (Qn (n + 1))) + _ ≤ _
    omega
section
variable {P : Program} {w : World} {K : PySem.W.Frag} {mg : Str → Option Value} {base : Heap}
end
end Tl
/-! dicts whose keys are tuples of tuples -/
namespace Tl
open PySem PySem.Spec PyProof.Rows L2 RZ
/-- the object of such a dict -/
def ndo (w : World) (d : Addr) (xs : List (NestedKey × Addr × Value)) : HO := .ext fun h => ∃ o es ep, h.get? d = some o ∧ o.ExactDict ∧ o.data = .dict es ep ∧ es.toList = xs.map (fun x => (⟨x.1.hash w, .ref x.2.1, x.2.2⟩ : DictEntry))
/-- at d a dict of at most n pairs, told by f -/
def NDc (K : PySem.W.Frag) (w : World) (H : Hp) (d : Addr) (n : Nat) (f : NestedKey → Option V) : Prop := ∃ xs : List (NestedKey × Addr × Value), H d = some (ndo w d xs) ∧ (d == sysModules) = false ∧ xs.length ≤ n ∧ (xs.map (·.1)).Nodup ∧
  (∀ x ∈ xs, Td K H (.ref x.2.1) x.1.data ∧ x.1.depth ≤ 8) ∧ ∀ k, RelO (f k) ((atKey xs k).map (·.2))
theorem NDc.keep {K : PySem.W.Frag} {w : World} {H H' : Hp} {d : Addr} {n : Nat} {f : NestedKey → Option V} (h : NDc K w H d n f) (k : KT K H H') (e : ∀ o, H d = some o → H' d = some o) : NDc K w H' d n f := by
  obtain ⟨xs, h1, h2, h3, h4, h5, h6⟩ := h
  exact ⟨xs, e _ h1, h2, h3, h4, fun x hx => ⟨(h5 x hx).1.keep k, (h5 x hx).2⟩, h6⟩
theorem NDc.mono {K : PySem.W.Frag} {w : World} {H : Hp} {d : Addr} {n m : Nat} {f : NestedKey → Option V} (h : NDc K w H d n f) (l : n ≤ m) : NDc K w H d m f := by
  obtain ⟨xs, h1, h2, h3, h4⟩ := h
  exact ⟨xs, h1, h2, Nat.le_trans h3 l, h4⟩
theorem NDc.at_ {K : PySem.W.Frag} {w : World} {H : Hp} {d : Addr} {n : Nat} {f : NestedKey → Option V} (h : NDc K w H d n f) : ∃ φ, H d = some (.ext φ) := let ⟨_, h1, _⟩ := h; ⟨_, h1⟩
section
variable {X : Cx} {pins : List (Addr × Obj)} {σ : L2.St} {H : Hp} {s : Shared}
mutual
theorem nested_is (I : Inv X pins σ H s) : ∀ (k : NestedKey) (v : V) (u : Value), Td X.K H v k.data → RelV v u → NestedIs s.heap k u
  | .none, _, u, h, r => by
    cases h
    cases (show u = Value.none from r)
    exact .none
  | .num i, _, u, h, r => by
    cases h
    obtain ⟨t, rfl⟩ := r
    exact .int i t
  | .text x, _, u, h, r => by
    cases h
    obtain ⟨t, rfl⟩ := r
    exact .text x t
  | .tup ks, _, u, h, r => by
    cases h with
    | tup hs ha =>
      rename_i a xs
      cases (show u = Value.ref a from r)
      obtain ⟨its, rv, ⟨o, h1, h2, n, h3⟩, _⟩ := I.tuple hs
      exact .tup h1 h2 h3 (by simpa using nested_all I ks xs its ha rv)
theorem nested_all (I : Inv X pins σ H s) : ∀ (ks : List NestedKey) (vs : List V) (us : List Value), TdAll X.K H vs (NestedKey.datas ks) → Vals vs us → NestedAll s.heap ks us
  | [], _, us, h, r => by
    cases h
    cases r
    exact .nil
  | k :: ks, _, us, h, r => by
    cases h with
    | cons h1 h2 =>
      cases r with
      | cons r1 r2 => exact .cons (nested_is I k _ _ h1 r1) (nested_all I ks _ _ h2 r2)
end
theorem NDc.of (I : Inv X pins σ H s) {d : Addr} {n : Nat} {f : NestedKey → Option V} (D : NDc X.K X.w H d n f) : ∃ xs, s.heap.DictOfH (nestedKind X.prog X.w) d xs ∧ H d = some (ndo X.w d xs) ∧ (d == sysModules) = false ∧ xs.length ≤ n ∧ (xs.map (·.1)).Nodup ∧ (∀ x ∈ xs, Td X.K H (.ref x.2.1) x.1.data ∧ x.1.depth ≤ 8) ∧ ∀ k, RelO (f k) ((atKey xs k).map (·.2)) := by
  obtain ⟨xs, h1, h2, h3, h4, h5, h6⟩ := D
  obtain ⟨⟨o, es, ep, e1, e2, e3, e4⟩, _⟩ := (show ObjOk X.prog X.w H s.heap d (ndo X.w d xs) from I.hok d _ h1)
  exact ⟨xs, ⟨o, es, ep, e1, e2, e3, e4, fun x hx => ⟨nested_is I _ _ _ (h5 x hx).1 rfl, (h5 x hx).2⟩, h4⟩, h1, h2, h3, h4, h5, h6⟩
theorem ndo_ok {P : Program} {w : World} {H : Hp} {h : Heap} {d : Addr} {xs : List (NestedKey × Addr × Value)} (e : ∃ o es ep, h.get? d = some o ∧ o.ExactDict ∧ o.data = .dict es ep ∧ es.toList = xs.map (fun x => (⟨x.1.hash w, .ref x.2.1, x.2.2⟩ : DictEntry))) : ObjOk P w H h d (ndo w d xs) := by
  refine ⟨e, ?_, fun h1 h2 q k => ?_⟩
  · obtain ⟨o, _, _, e1, _⟩ := e
    exact ⟨o, e1⟩
  · obtain ⟨o, es, ep, e1, e2⟩ := q
    exact ⟨o, es, ep, k _ e1, e2⟩
end
theorem atKey_nil {k : NestedKey} : atKey ([] : List (NestedKey × Addr × Value)) k = none := rfl
theorem atKey_cons (x : NestedKey × Addr × Value) (r : List (NestedKey × Addr × Value)) (k : NestedKey) : atKey (x :: r) k = if x.1 = k then some x.2 else atKey r k := by
  unfold atKey
  rw [List.find?_cons]
  by_cases e : x.1 = k
  · rw [if_pos e, decide_eq_true e]
    rfl
  · rw [if_neg e, decide_eq_false e]
theorem atKey_snoc (r : List (NestedKey × Addr × Value)) (x : NestedKey × Addr × Value) (k : NestedKey) : atKey (r ++ [x]) k = (atKey r k).or (if x.1 = k then some x.2 else none) := by
  induction r with
  | nil =>
    rw [List.nil_append, atKey_cons, atKey_nil]
    rfl
  | cons y r ih =>
    rw [List.cons_append, atKey_cons, atKey_cons, ih]
    by_cases e : y.1 = k
    · rw [if_pos e, if_pos e]
      rfl
    · rw [if_neg e, if_neg e]
theorem atKey_put (k : NestedKey) (v : Value) (j : NestedKey) : ∀ r : List (NestedKey × Addr × Value), (atKey (r.map (putAt k v)) j).map (·.2) = if j = k then (atKey r j).map (fun _ => v) else (atKey r j).map (·.2)
  | [] => by
    rw [List.map_nil, atKey_nil]
    split <;> rfl
  | x :: r => by
    have ih := atKey_put k v j r
    rw [List.map_cons, atKey_cons, atKey_cons]
    have e1 : (putAt k v x).1 = x.1 := by unfold putAt; split <;> rfl
    rw [e1]
    by_cases e : x.1 = j
    · rw [if_pos e, if_pos e]
      by_cases f : j = k
      · rw [if_pos f]
        unfold putAt
        rw [if_pos (e.trans f)]
        rfl
      · rw [if_neg f]
        unfold putAt
        rw [if_neg (fun z => f (e.symm.trans z))]
    · rw [if_neg e, if_neg e]
      exact ih
theorem atKey_stored (r : List (NestedKey × Addr × Value)) (k : NestedKey) (b : Addr) (v : Value) (j : NestedKey) : (atKey (storedH r k b v) j).map (·.2) = if j = k then some v else (atKey r j).map (·.2) := by
  cases h : atKey r k with
  | none =>
    rw [storedH_new h, atKey_snoc]
    by_cases e : j = k
    · rw [if_pos e, e, h]
      show Option.map _ (if k = k then _ else _) = _
      rw [if_pos rfl]
      rfl
    · rw [if_neg e]
      show Option.map _ ((atKey r j).or (if k = j then _ else _)) = _
      rw [if_neg (fun z => e z.symm), Option.or_none]
  | some p =>
    rw [storedH_old h, atKey_put]
    by_cases e : j = k
    · rw [if_pos e, if_pos e, e, h]
      rfl
    · rw [if_neg e, if_neg e]
theorem stored_keys (r : List (NestedKey × Addr × Value)) (k : NestedKey) (b : Addr) (v : Value) (x : NestedKey × Addr × Value) (h : x ∈ storedH r k b v) : (∃ y ∈ r, x.1 = y.1 ∧ x.2.1 = y.2.1) ∨ (x.1 = k ∧ x.2.1 = b) := by
  cases e : atKey r k with
  | none =>
    rw [storedH_new e] at h
    rcases List.mem_append.mp h with h | h
    · exact .inl ⟨x, h, rfl, rfl⟩
    · rw [List.mem_singleton.mp h]
      exact .inr ⟨rfl, rfl⟩
  | some p =>
    rw [storedH_old e] at h
    obtain ⟨y, hy, rfl⟩ := List.mem_map.mp h
    refine .inl ⟨y, hy, ?_, ?_⟩ <;> (unfold putAt; split <;> rfl)
theorem stored_len (r : List (NestedKey × Addr × Value)) (k : NestedKey) (b : Addr) (v : Value) : (storedH r k b v).length ≤ r.length + 1 := by
  cases e : atKey r k with
  | none =>
    rw [storedH_new e, List.length_append]
    exact Nat.le_refl _
  | some p =>
    rw [storedH_old e, List.length_map]
    omega
/-! the rules -/
def tDNewN (K : PySem.W.Frag) (w : World) : TE := fun _ H Q => ∀ p H', H p = none → Same H H' → NDc K w H' p 0 (fun _ => none) → Q (.ref p) H'
def tDGetN (K : PySem.W.Frag) (w : World) (td ty : TE) : TE := fun σ H Q => td σ H fun x H1 => ty σ H1 fun y H2 => ∃ d n f k v, x = .ref d ∧ NDc K w H2 d n f ∧ Td K H2 y (NestedKey.data k) ∧ (∃ b, y = .ref b) ∧ k.depth ≤ 8 ∧ f k = some v ∧ Q v H2
def sDPutN (K : PySem.W.Frag) (w : World) (td ty tv : TE) : TS := fun D σ H => tv σ H fun v H1 => td σ H1 fun x H2 => ty σ H2 fun y H3 => ∃ d n f k, x = .ref d ∧ NDc K w H3 d n f ∧ n ≤ 100000 ∧ Td K H3 y (NestedKey.data k) ∧ (∃ b, y = .ref b) ∧ k.depth ≤ 8 ∧
  ∀ H4, (∀ a o, H3 a = some o → a ≠ d → H4 a = some o) → KT K H3 H4 → NDc K w H4 d (n + 1) (fun j => if j = k then some v else f j) → D.nx σ H4
theorem ext_tup {φ : Heap → Prop} {xs : List V} : HO.ext φ ≠ .tup xs := fun z => by cases z
section
variable {X : Cx} {K : PySem.W.Frag} {w : World} (hK : X.K = K) (hw : X.w = w)
include hK hw
theorem k_dnewN {pos : Pos} : PE X (.Dict [] [] pos) (tDNewN K w) := by
  subst hK hw
  constructor
  intro pins s σ H Q I want
  have n0 := I.hok.fresh (Nat.le_refl s.heap.objs.size)
  have big : (s.heap.objs.size == sysModules) = false := beq_eq_false_iff_ne.mpr (Ne.symm (Nat.ne_of_lt I.big))
  refine wpAny_Dict_empty ⟨.ref s.heap.objs.size, _, I.laid (a := s.heap.objs.size) (o := ndo X.w s.heap.objs.size []) (t' := s.toks) (fun _ _ q => Heap.get?_push_of_some _ q) (Nat.le_refl _) ?_, rfl, want _ _ n0 (same_upd n0) ⟨[], upd_same, big, Nat.le_refl _, List.nodup_nil, fun x hx => absurd hx List.not_mem_nil, fun k => ?_⟩⟩
  · exact ndo_ok ⟨_, #[], 0, Heap.get?_push_size _ rfl, ⟨rfl, rfl, rfl⟩, rfl, rfl⟩
  · exact True.intro
theorem k_dgetN {o i : Expr} {td ty : TE} {pos : Pos} (hu : X.A.units + 64 < cLine) (eo : PE X o td) (ei : PE X i ty) (hs : NoSl i) : PE X (.Subscript o i pos) (tDGetN K w td ty) := by
  subst hK hw
  constructor
  intro pins s σ H Q I want
  refine subD_of PySem.F.slot_dict_getitem.lookup hs (thn (eo.run pins s σ H _ I want) fun u sa za => ?_)
  obtain ⟨x, Ha, Ia, rx, want⟩ := za
  refine thn (ei.run pins sa σ Ha _ Ia want) fun iv sb zb => ?_
  obtain ⟨y, Hb, Ib, ry, d, n, f, k, v, rfl, D, tk, ⟨b, rfl⟩, hd, hf, want⟩ := zb
  cases (show u = Value.ref d from rx)
  cases (show iv = Value.ref b from ry)
  obtain ⟨xs, dd, h1, h2, h3, h4, h5, h6⟩ := D.of Ib
  obtain ⟨w', hw', rw'⟩ := RelO.some_of (v := v) (o := (atKey xs k).map (·.2)) (by rw [← hf]; exact h6 k)
  obtain ⟨p, hp, hp2⟩ := Option.map_eq_some_iff.mp hw'
  refine ⟨dd.typeIs, wpAny_getItem_heap (knd := nestedKind X.prog X.w) (k := k) ?_ ⟨nested_is Ib k _ _ tk rfl, hd⟩ dd hp ?_⟩
  · show X.A.in1.units + 8 < cLine
    have : X.A.in1.units = X.A.units + 1 := rfl
    omega
  · rw [hp2]
    exact ⟨v, Hb, Ib.tok _, rw', want⟩
theorem k_dputN {o i value : Expr} {td ty tv : TE} {pos pos' : Pos} (hu : X.A.units + 64 < cLine) (eo : PE X o td) (ei : PE X i ty) (ev : PE X value tv) (hs : swapsWith value (some (.Subscript o i pos')) pos.line X.env = pure false) :
    PS X (.Assign [.Subscript o i pos'] value pos) (sDPutN K w td ty tv) := by
  subst hK hw
  constructor
  intro pins s σ H D I want
  refine wpAny_Assign_Subscript (thn (ev.run pins s σ H _ I want) fun r sa za => ?_) hs
  obtain ⟨v, Ha, Ia, rv, want⟩ := za
  refine thn (eo.run pins sa σ Ha _ Ia want) fun u sb zb => ?_
  obtain ⟨x, Hb, Ib, rx, want⟩ := zb
  refine thn (ei.run pins sb σ Hb _ Ib want) fun iv sc zc => ?_
  obtain ⟨y, Hc, Ic, ry, d, n, f, k, rfl, ND, hn, tk, ⟨b, rfl⟩, hd, want⟩ := zc
  cases (show u = Value.ref d from rx)
  cases (show iv = Value.ref b from ry)
  obtain ⟨xs, dd, h1, h2, h3, h4, h5, h6⟩ := ND.of Ic
  have hz : xs.length ≤ sizeLine := by rw [sizeLine_eq]; omega
  refine wpAny_setItem_heap (knd := nestedKind X.prog X.w) (k := k) (hsz := hz) ?_ ⟨nested_is Ic k _ _ tk rfl, hd⟩ dd fun h' dd' hsb => ?_
  · show X.A.in1.units + 8 < cLine
    have : X.A.in1.units = X.A.units + 1 := rfl
    omega
  obtain ⟨q, es, ep, q1, q2, q3, q4, q5, q6⟩ := dd'
  have Id := d_write (t' := sc.toks + (nestedKind X.prog X.w).draws k) (ob := ndo X.w d (storedH xs k b r)) Ic (by rw [h1]; exact True.intro) hsb ⟨q, q1⟩ (ndo_ok ⟨q, es, ep, q1, q2, q3, q4⟩)
  have kt : KT X.K Hc (upd Hc d (ndo X.w d (storedH xs k b r))) := fun a ys z => by
    rcases z with (z | ⟨oo, z⟩) | z
    · exact .inl (.inl (by rw [upd_ne (ne_of z h1 (fun e => by cases e))]; exact z))
    · exact .inl (.inr ⟨oo, by rw [upd_ne (ne_of z h1 (fun e => by cases e))]; exact z⟩)
    · exact .inr z
  refine ⟨σ, _, Id, want _ (fun a oo z ne => by rw [upd_ne ne]; exact z) kt ⟨storedH xs k b r, upd_same, h2, ?_, q6, fun x hx => ?_, fun j => ?_⟩⟩
  · have := stored_len xs k b r
    omega
  · rcases stored_keys xs k b r x hx with ⟨y, hy, e1, e2⟩ | ⟨e1, e2⟩
    · rw [e1, e2]
      exact ⟨(h5 y hy).1.keep kt, (h5 y hy).2⟩
    · rw [e1, e2]
      exact ⟨tk.keep kt, hd⟩
  · rw [atKey_stored]
    show RelO (if j = k then some v else f j) _
    by_cases e : j = k
    · rw [if_pos e, if_pos e]
      exact rv
    · rw [if_neg e, if_neg e]
      exact h6 j
end
end Tl
namespace Tl
open PySem PySem.Spec PyProof.Rows L2 RZ
/-! ### fractions of bounded size -/
def Bd (r : Rat) (m : Nat) : Prop := -(m : Rat) ≤ r ∧ r ≤ (m : Rat)
theorem le2 {a b c d : Rat} (h1 : a ≤ b) (h2 : c ≤ d) : a + c ≤ b + d := Rat.le_trans (Rat.add_le_add_right.mpr h1) (Rat.add_le_add_left.mpr h2)
theorem bd_add {r s : Rat} {m n : Nat} (h : Bd r m) (k : Bd s n) : Bd (r + s) (m + n) := by
  unfold Bd
  rw [Rat.natCast_add, Rat.neg_add]
  exact ⟨le2 h.1 k.1, le2 h.2 k.2⟩
theorem bd_mono {r : Rat} {m n : Nat} (h : Bd r m) (l : m ≤ n) : Bd r n := by
  have z : (m : Rat) ≤ (n : Rat) := Rat.natCast_le_natCast.mpr l
  exact ⟨Rat.le_trans (Rat.neg_le_neg z) h.1, Rat.le_trans h.2 z⟩
theorem bd_zero {m : Nat} : Bd 0 m := by
  have z : (0 : Rat) ≤ (m : Rat) := Rat.natCast_nonneg
  exact ⟨by have := Rat.neg_le_neg z; rw [Rat.neg_zero] at this; exact this, z⟩
theorem bd_mul {c r : Rat} {m : Nat} (h0 : 0 ≤ c) (h1 : c ≤ 1) (h : Bd r m) : Bd (c * r) m := by
  have z : (0 : Rat) ≤ (m : Rat) := Rat.natCast_nonneg
  have e1 : c * (m : Rat) ≤ m := by
    have := Rat.mul_le_mul_of_nonneg_right h1 z
    rw [Rat.one_mul] at this
    exact this
  have u := Rat.mul_le_mul_of_nonneg_left h.2 h0
  have l := Rat.mul_le_mul_of_nonneg_left h.1 h0
  rw [Rat.mul_neg] at l
  exact ⟨Rat.le_trans (Rat.neg_le_neg e1) l, Rat.le_trans u e1⟩
theorem bd_ch {e : Nat} {r : Rat} (h : Ch e r) : Bd r 1 := by
  have z : (((1 : Nat) : Rat)) = 1 := rfl
  refine ⟨?_, by rw [z]; exact h.2.1⟩
  rw [z]
  exact Rat.le_trans (by decide) h.1
theorem bd_num {r : Rat} {m : Nat} (h : Bd r m) : r.num.natAbs ≤ m * r.den := by
  have a := (Rat.le_iff _ _).mp h.1
  have b := (Rat.le_iff _ _).mp h.2
  rw [Rat.neg_num, Rat.neg_den, Rat.num_natCast, Rat.den_natCast] at a
  rw [Rat.num_natCast, Rat.den_natCast] at b
  have c : ((m * r.den : Nat) : Int) = (m : Int) * (r.den : Int) := Int.natCast_mul _ _
  rw [Int.neg_mul] at a
  omega
/-- the bottom divides the k-th power, at most m either way -/
def Fd (k m : Nat) (r : Rat) : Prop := r.den ∣ LL ^ k ∧ Bd r m
theorem add_den_dvd {a b : Rat} {D : Nat} (h1 : a.den ∣ D) (h2 : b.den ∣ D) (hD : 0 < D) : (a + b).den ∣ D := by
  rw [← fr_frN hD h1, ← fr_frN hD h2, fr_add hD]
  exact mk_den_dvd hD
theorem Fd.add {k m n : Nat} {r s : Rat} (h : Fd k m r) (g : Fd k n s) : Fd k (m + n) (r + s) := ⟨add_den_dvd h.1 g.1 (ll_pos k), bd_add h.2 g.2⟩
theorem Fd.mono {k k' m m' : Nat} {r : Rat} (h : Fd k m r) (l : k ≤ k') (l' : m ≤ m') : Fd k' m' r := ⟨Nat.dvd_trans h.1 (ll_mono l), bd_mono h.2 l'⟩
theorem Fd.mul {e k m : Nat} {c r : Rat} (hc : Ch e c) (h : Fd k m r) : Fd (e + k) m (c * r) := by
  refine ⟨Nat.dvd_trans (mul_den_dvd _ _) ?_, bd_mul hc.1 hc.2.1 h.2⟩
  rw [Nat.pow_add]
  exact Nat.mul_dvd_mul hc.2.2 h.1
theorem Ch.prod {e f : Nat} {c d : Rat} (hc : Ch e c) (hd : Ch f d) : Ch (e + f) (c * d) := by
  refine ⟨Rat.mul_nonneg hc.1 hd.1, ?_, ?_⟩
  · have := Rat.mul_le_mul_of_nonneg_left hd.2.1 hc.1
    rw [Rat.mul_one] at this
    exact Rat.le_trans this hc.2.1
  · rw [Nat.pow_add]
    exact Nat.dvd_trans (mul_den_dvd _ _) (Nat.mul_dvd_mul hc.2.2 hd.2.2)
theorem fd_zero {k m : Nat} : Fd k m 0 := ⟨Nat.one_dvd _, bd_zero⟩
theorem Ch.fd {e : Nat} {r : Rat} (h : Ch e r) : Fd e 1 r := ⟨h.2.2, bd_ch h⟩
theorem Fd.den {k m : Nat} {r : Rat} (h : Fd k m r) : r.den ≤ LL ^ k := Nat.le_of_dvd (ll_pos k) h.1
theorem Fd.num {k m : Nat} {r : Rat} (h : Fd k m r) : r.num.natAbs ≤ m * LL ^ k := Nat.le_trans (bd_num h.2) (Nat.mul_le_mul_left m h.den)
theorem ll_big {k m : Nat} (hk : k ≤ 15) (hm : m ≤ 2 ^ 100) : m * LL ^ k < 2 ^ 1500 := by
  have a : LL ^ k ≤ 2 ^ 1335 := ll_small (by omega)
  have b := Nat.mul_le_mul hm a
  rw [← Nat.pow_add] at b
  exact Nat.lt_of_le_of_lt b (Nat.pow_lt_pow_right (by decide) (by decide))
theorem Fd.sm {k m : Nat} {r : Rat} (h : Fd k m r) (hk : k ≤ 15) (hm : m ≤ 2 ^ 100) : Sm r := by
  refine ⟨?_, Nat.lt_of_le_of_lt h.num (ll_big hk hm)⟩
  have := ll_big (m := 1) hk (Nat.one_le_two_pow)
  rw [Nat.one_mul] at this
  exact Nat.lt_of_le_of_lt h.den this
theorem fd_sum {k m : Nat} : ∀ {rs : List Rat}, (∀ r ∈ rs, Fd k m r) → Fd k (rs.length * m) (fsum rs)
  | [], _ => fd_zero
  | r :: rs, h => by
    rw [fsum_cons, List.length_cons, Nat.add_mul, Nat.one_mul, Nat.add_comm]
    exact (h r (List.mem_cons_self ..)).add (fd_sum fun x hx => h x (List.mem_cons_of_mem _ hx))
theorem frN_absM {D m : Nat} {r : Rat} (h : r.den ∣ D) (hb : Bd r m) : (frN D r).natAbs ≤ m * D := by
  have n1 := bd_num hb
  unfold frN
  rw [Int.natAbs_mul, Int.natAbs_natCast]
  have := Nat.mul_le_mul_right (D / r.den) n1
  rw [Nat.mul_assoc, Nat.mul_div_cancel' h] at this
  exact this
theorem frNs_absM {D m : Nat} : ∀ {rs : List Rat}, (∀ r ∈ rs, r.den ∣ D ∧ Bd r m) → abssum (rs.map (frN D)) ≤ rs.length * (m * D)
  | [], _ => by
    rw [List.length_nil, Nat.zero_mul]
    exact Nat.le_refl 0
  | r :: rs, h => by
    rw [List.map_cons, abssum_cons, List.length_cons, Nat.add_mul, Nat.one_mul]
    obtain ⟨a, b⟩ := h r (List.mem_cons_self ..)
    have := frN_absM a b
    have := frNs_absM fun x hx => h x (List.mem_cons_of_mem _ hx)
    omega
/-- a sum of such fractions, as total wants it -/
theorem tot_fd {k m : Nat} {rs : List Rat} (h : ∀ r ∈ rs, Fd k m r) (hk : k ≤ 14) (hm : rs.length * m ≤ 2 ^ 100) : ((rs.map (frN (LL ^ k))).map (fr (LL ^ k)) = rs) ∧ 0 < LL ^ k ∧ LL ^ k < 2 ^ 1500 ∧ abssum (rs.map (frN (LL ^ k))) < 2 ^ 1500 := by
  refine ⟨frs_frN (ll_pos k) fun r hr => (h r hr).1, ll_pos k, ll_lt1500 (by omega), Nat.lt_of_le_of_lt (frNs_absM h) ?_⟩
  rw [← Nat.mul_assoc]
  exact ll_big (by omega) hm
/-! ### tables -/
def Tb : Nat → Type
  | 0 => Unit
  | n + 1 => List (Rat × List (List Rat × Tb n))
abbrev Rw (n : Nat) : Type := List Rat × Tb n
abbrev Ask (n : Nat) : Type := Rat × List (Rw n)
def tbD : (n : Nat) → Tb n → PyData
  | 0, _ => .tuple []
  | n + 1, xs => .tuple ((show List (Ask n) from xs).map fun x => .tuple [rD x.1, .tuple (x.2.map fun r => .tuple [wsD r.1, tbD n r.2])])
def rwD (n : Nat) (r : Rw n) : PyData := .tuple [wsD r.1, tbD n r.2]
def rwsD (n : Nat) (rs : List (Rw n)) : PyData := .tuple (rs.map (rwD n))
def askD (n : Nat) (x : Ask n) : PyData := .tuple [rD x.1, rwsD n x.2]
theorem tbD_succ (n : Nat) (xs : List (Ask n)) : tbD (n + 1) xs = .tuple (xs.map (askD n)) := rfl
structure PaysOk (W : Nat) (ps : List Rat) : Prop where
  len : ps.length = W
  fd : ∀ p ∈ ps, Fd 1 4 p
/-- two lists of one length, place by place -/
inductive Al {α β : Type} (R : α → β → Prop) : List α → List β → Prop
  | nil : Al R [] []
  | cons {a : α} {b : β} {as : List α} {bs : List β} : R a b → Al R as bs → Al R (a :: as) (b :: bs)
theorem Al.len {α β : Type} {R : α → β → Prop} : ∀ {as : List α} {bs : List β}, Al R as bs → as.length = bs.length
  | _, _, .nil => rfl
  | _, _, .cons _ t => congrArg (· + 1) (Al.len t)
theorem Al.get {α β : Type} {R : α → β → Prop} : ∀ {as : List α} {bs : List β} {i : Nat} {a : α}, Al R as bs → as[i]? = some a → ∃ b, bs[i]? = some b ∧ R a b
  | _, _, _, _, .nil, e => by simp at e
  | _, _, 0, _, .cons h _, e => by
    simp at e
    subst e
    exact ⟨_, rfl, h⟩
  | _, _, i + 1, a, .cons _ t, e => by
    obtain ⟨b, h1, h2⟩ := Al.get (i := i) (a := a) t (by simpa using e)
    exact ⟨b, by simpa using h1, h2⟩
theorem Al.imp {α β : Type} {R S : α → β → Prop} (h : ∀ a b, R a b → S a b) : ∀ {as : List α} {bs : List β}, Al R as bs → Al S as bs
  | _, _, .nil => .nil
  | _, _, .cons x t => .cons (h _ _ x) (Al.imp h t)
theorem Al.snoc {α β : Type} {R : α → β → Prop} {a : α} {b : β} (h : R a b) : ∀ {as : List α} {bs : List β}, Al R as bs → Al R (as ++ [a]) (bs ++ [b])
  | _, _, .nil => .cons h .nil
  | _, _, .cons x t => .cons x (Al.snoc h t)
theorem Al.of {α β : Type} {R : α → β → Prop} : ∀ {as : List α} {bs : List β}, as.length = bs.length → (∀ (i : Nat) (a : α) (b : β), as[i]? = some a → bs[i]? = some b → R a b) → Al R as bs
  | [], [], _, _ => .nil
  | [], _ :: _, e, _ => by simp at e
  | _ :: _, [], e, _ => by simp at e
  | a :: as, b :: bs, e, h => .cons (h 0 a b rfl rfl) (Al.of (by simpa using e) fun i x y h1 h2 => h (i + 1) x y (by simpa using h1) (by simpa using h2))
/-- a table for a node -/
def TbOk (W : Nat) : (n : Nat) → Nd n → Tb n → Prop
  | 0, _, _ => True
  | n + 1, qs, xs => (∀ x ∈ (show List (Ask n) from xs), Ch 1 x.1) ∧ fsum ((show List (Ask n) from xs).map (·.1)) ≤ 1 ∧ Al (fun (q : Qn n) (x : Ask n) => Al (fun (a : An n) (r : Rw n) => PaysOk W r.1 ∧ TbOk W n a.2.2 r.2) q x.2) qs xs
/-! ### what is paid -/
def dot3 : List Rat → List Rat → List Rat → List Rat
  | p :: ps, w :: ws, y :: ys => p * w * y :: dot3 ps ws ys
  | _, _, _ => []
def payF (prior ws ps : List Rat) : Rat := fsum (dot3 prior ws ps)
def paidT (prior : List Rat) : (n : Nat) → Nd n → Tb n → Rat
  | 0, _, _ => 0
  | n + 1, qs, xs => fsum (List.zipWith (fun (q : Qn n) (x : Ask n) => x.1 * fsum (List.zipWith (fun (a : An n) (r : Rw n) => payF prior a.2.1 r.1 + paidT prior n a.2.2 r.2) q x.2)) qs xs)
def paidA (prior : List Rat) (n : Nat) (a : An n) (r : Rw n) : Rat := payF prior a.2.1 r.1 + paidT prior n a.2.2 r.2
def paidQ (prior : List Rat) (n : Nat) (q : Qn n) (x : Ask n) : Rat := x.1 * fsum (List.zipWith (paidA prior n) q x.2)
theorem paidT_succ (prior : List Rat) (n : Nat) (qs : List (Qn n)) (xs : List (Ask n)) : paidT prior (n + 1) qs xs = fsum (List.zipWith (paidQ prior n) qs xs) := rfl
theorem dot3_len : ∀ {W : Nat} {a b c : List Rat}, a.length = W → b.length = W → c.length = W → (dot3 a b c).length = W
  | 0, [], [], [], _, _, _ => rfl
  | W + 1, x :: a, y :: b, z :: c, h1, h2, h3 => congrArg (· + 1) (dot3_len (W := W) (by simpa using h1) (by simpa using h2) (by simpa using h3))
theorem dot3_at : ∀ {a b c : List Rat} {i : Nat} {x y z : Rat}, a[i]? = some x → b[i]? = some y → c[i]? = some z → (dot3 a b c)[i]? = some (x * y * z)
  | [], _, _, _, _, _, _, h, _, _ => by simp at h
  | _ :: _, [], _, _, _, _, _, _, h, _ => by simp at h
  | _ :: _, _ :: _, [], _, _, _, _, _, _, h => by simp at h
  | x :: a, y :: b, z :: c, 0, _, _, _, h1, h2, h3 => by
    cases h1
    cases h2
    cases h3
    rfl
  | x :: a, y :: b, z :: c, i + 1, x', y', z', h1, h2, h3 => by
    have := dot3_at (a := a) (b := b) (c := c) (i := i) (x := x') (y := y') (z := z') (by simpa using h1) (by simpa using h2) (by simpa using h3)
    simpa [dot3] using this
theorem dot3_mem {a b c : List Rat} {r : Rat} (h : r ∈ dot3 a b c) : ∃ x ∈ a, ∃ y ∈ b, ∃ z ∈ c, r = x * y * z := by
  induction a generalizing b c with
  | nil => exact absurd h (by simp [dot3])
  | cons x a ih =>
    cases b with
    | nil => exact absurd h (by simp [dot3])
    | cons y b =>
      cases c with
      | nil => exact absurd h (by simp [dot3])
      | cons z c =>
        rcases List.mem_cons.mp h with rfl | h
        · exact ⟨x, List.mem_cons_self .., y, List.mem_cons_self .., z, List.mem_cons_self .., rfl⟩
        · obtain ⟨x', h1, y', h2, z', h3, e⟩ := ih h
          exact ⟨x', List.mem_cons_of_mem _ h1, y', List.mem_cons_of_mem _ h2, z', List.mem_cons_of_mem _ h3, e⟩
/-- a prior -/
structure PriorOk (W : Nat) (p : List Rat) : Prop where
  len : p.length = W
  ch : ∀ r ∈ p, Ch 1 r
  one : fsum p = 1
theorem dot3_fd {W : Nat} {p ws ps : List Rat} (hp : PriorOk W p) (hw : ∀ r ∈ ws, Ch 6 r) (hy : ∀ r ∈ ps, Fd 1 4 r) : ∀ r ∈ dot3 p ws ps, Fd 8 4 r := fun r hr => by
  obtain ⟨x, hx, y, hy', z, hz, rfl⟩ := dot3_mem hr
  exact Fd.mul ((hp.ch x hx).prod (hw y hy')) (hy z hz)
theorem payF_fd {W : Nat} {p ws ps : List Rat} (hp : PriorOk W p) (h5 : W ≤ 5) (hl : ws.length = W) (hw : ∀ r ∈ ws, Ch 6 r) (hy : PaysOk W ps) : Fd 8 20 (payF p ws ps) := by
  have z := fd_sum (dot3_fd hp hw hy.fd)
  rw [dot3_len hp.len hl hy.len] at z
  exact z.mono (Nat.le_refl _) (by omega)
/-- how much at most -/
def MB : Nat → Nat
  | 0 => 0
  | n + 1 => 60 * (20 + MB n)
theorem mb_le : ∀ n, n ≤ 9 → MB n ≤ 2 ^ 70 := by
  intro n h
  have h' : ∀ k : Fin 10, MB k.val ≤ 2 ^ 70 := by decide +kernel
  exact h' ⟨n, by omega⟩
theorem zip_fd {α β : Type} {f : α → β → Rat} {R : α → β → Prop} {k m : Nat} (h : ∀ a b, R a b → Fd k m (f a b)) : ∀ {as : List α} {bs : List β}, Al R as bs → ∀ r ∈ List.zipWith f as bs, Fd k m r
  | _, _, .nil, r, hr => by simp at hr
  | _, _, .cons x t, r, hr => by
    rw [List.zipWith_cons_cons] at hr
    rcases List.mem_cons.mp hr with rfl | hr
    · exact h _ _ x
    · exact zip_fd h t r hr
theorem zip_len {α β γ : Type} {f : α → β → γ} {R : α → β → Prop} : ∀ {as : List α} {bs : List β}, Al R as bs → (List.zipWith f as bs).length = as.length
  | _, _, .nil => rfl
  | _, _, .cons _ t => by
    rw [List.zipWith_cons_cons, List.length_cons, List.length_cons, zip_len t]
theorem zip_at {α β γ : Type} {f : α → β → γ} {as : List α} {bs : List β} {i : Nat} {a : α} {b : β} (h1 : as[i]? = some a) (h2 : bs[i]? = some b) : (List.zipWith f as bs)[i]? = some (f a b) := by
  rw [List.getElem?_zipWith, h1, h2]
theorem Al.mem {α β : Type} {R : α → β → Prop} {as : List α} {bs : List β} (h : Al R as bs) : Al (fun a b => a ∈ as ∧ b ∈ bs ∧ R a b) as bs := Al.of h.len fun i a b h1 h2 => by
  obtain ⟨b', e1, e2⟩ := h.get h1
  rw [h2] at e1
  cases e1
  exact ⟨List.mem_of_getElem? h1, List.mem_of_getElem? h2, e2⟩
/-- what each part is worth: in bounds -/
theorem paidA_fd0 {W : Nat} {prior : List Rat} (hp : PriorOk W prior) (h5 : W ≤ 5) {n : Nat} (ih : ∀ (ahead : List Rat) (t : Nd n) (tb : Tb n), NdOk W n ahead t → TbOk W n t tb → Fd (8 + n) (MB n) (paidT prior n t tb)) {ahead : List Rat} {q : Qn n} {rs : List (Rw n)} (qok : QnOk W ahead q) (nok : ∀ a ∈ q, NdOk W n a.2.1 a.2.2) (hal : Al (fun (a : An n) (r : Rw n) => PaysOk W r.1 ∧ TbOk W n a.2.2 r.2) q rs) : ∀ z ∈ List.zipWith (paidA prior n) q rs, Fd (8 + n) (20 + MB n) z := by
  refine zip_fd (fun a r ⟨ha, _, hpay, htb⟩ => ?_) hal.mem
  have f1 := payF_fd hp h5 (qok.wide a ha) (qok.chs a ha) hpay
  have f2 := ih _ _ _ (nok a ha) htb
  exact (f1.mono (by omega) (Nat.le_refl _)).add f2
theorem paidQ_fd0 {W : Nat} {prior : List Rat} (hp : PriorOk W prior) (h5 : W ≤ 5) {n : Nat} (ih : ∀ (ahead : List Rat) (t : Nd n) (tb : Tb n), NdOk W n ahead t → TbOk W n t tb → Fd (8 + n) (MB n) (paidT prior n t tb)) {ahead : List Rat} {qs : List (Qn n)} {xs : List (Ask n)} (ok : NdOk W (n + 1) ahead qs) (c1 : ∀ x ∈ xs, Ch 1 x.1) (al : Al (fun (q : Qn n) (x : Ask n) => Al (fun (a : An n) (r : Rw n) => PaysOk W r.1 ∧ TbOk W n a.2.2 r.2) q x.2) qs xs) : ∀ z ∈ List.zipWith (paidQ prior n) qs xs, Fd (8 + (n + 1)) (12 * (20 + MB n)) z := by
  refine zip_fd (fun q x ⟨hq, hx, hal⟩ => ?_) al.mem
  have s := fd_sum (paidA_fd0 hp h5 ih (ok.2 q hq).1 (ok.2 q hq).2 hal)
  rw [zip_len hal] at s
  have o12 := (ok.2 q hq).1.most
  have := Fd.mul (c1 x hx) (s.mono (Nat.le_refl _) (Nat.mul_le_mul_right _ o12))
  exact this.mono (by omega) (Nat.le_refl _)
theorem paid_fd {W : Nat} {prior : List Rat} (hp : PriorOk W prior) (h5 : W ≤ 5) : ∀ (n : Nat) (ahead : List Rat) (t : Nd n) (tb : Tb n), NdOk W n ahead t → TbOk W n t tb → Fd (8 + n) (MB n) (paidT prior n t tb)
  | 0, _, _, _, _, _ => fd_zero
  | n + 1, ahead, qs, xs, ok, tok => by
    show Fd (8 + (n + 1)) (MB (n + 1)) (fsum (List.zipWith (paidQ prior n) (show List (Qn n) from qs) (show List (Ask n) from xs)))
    have z := fd_sum (paidQ_fd0 hp h5 (paid_fd hp h5 n) ok tok.1 tok.2.2)
    rw [zip_len tok.2.2] at z
    refine z.mono (Nat.le_refl _) ?_
    have l5 : (show List (Qn n) from qs).length ≤ 5 := ok.1
    show (show List (Qn n) from qs).length * (12 * (20 + MB n)) ≤ 60 * (20 + MB n)
    have := Nat.mul_le_mul_right (12 * (20 + MB n)) l5
    omega
theorem paidA_fd {W : Nat} {prior : List Rat} (hp : PriorOk W prior) (h5 : W ≤ 5) {n : Nat} {ahead : List Rat} {q : Qn n} {rs : List (Rw n)} (qok : QnOk W ahead q) (nok : ∀ a ∈ q, NdOk W n a.2.1 a.2.2) (hal : Al (fun (a : An n) (r : Rw n) => PaysOk W r.1 ∧ TbOk W n a.2.2 r.2) q rs) : ∀ z ∈ List.zipWith (paidA prior n) q rs, Fd (8 + n) (20 + MB n) z := paidA_fd0 hp h5 (paid_fd hp h5 n) qok nok hal
theorem paidQ_fd {W : Nat} {prior : List Rat} (hp : PriorOk W prior) (h5 : W ≤ 5) {n : Nat} {ahead : List Rat} {qs : List (Qn n)} {xs : List (Ask n)} (ok : NdOk W (n + 1) ahead qs) (c1 : ∀ x ∈ xs, Ch 1 x.1) (al : Al (fun (q : Qn n) (x : Ask n) => Al (fun (a : An n) (r : Rw n) => PaysOk W r.1 ∧ TbOk W n a.2.2 r.2) q x.2) qs xs) : ∀ z ∈ List.zipWith (paidQ prior n) qs xs, Fd (8 + (n + 1)) (12 * (20 + MB n)) z := paidQ_fd0 hp h5 (paid_fd hp h5 n) ok c1 al
end Tl
/-! zip of three tuples -/
namespace Tl
open PySem PySem.Spec PyProof.Rows L2 RZ
/-- three tuples side by side, the items in new triples -/
def ItzT3 (K : PySem.W.Frag) (a b c : Addr) : It :=
  ⟨fun i H => ∃ (xs ys zs : List V) (x y z : V), SqT K H a xs ∧ SqT K H b ys ∧ SqT K H c zs ∧ xs[i]? = some x ∧ ys[i]? = some y ∧ zs[i]? = some z,
   fun i H v H' => ∃ T x y z, v = .ref T ∧ H T = none ∧ H' = upd H T (.tup [x, y, z]) ∧ (∀ xs, SqT K H a xs → xs[i]? = some x) ∧ (∀ ys, SqT K H b ys → ys[i]? = some y) ∧ ∀ zs, SqT K H c zs → zs[i]? = some z,
   fun i H => ∃ xs ys zs : List V, SqT K H a xs ∧ SqT K H b ys ∧ SqT K H c zs ∧ i = min (min xs.length ys.length) zs.length⟩
def Y3 (xs ys zs : Nat → Option V) : Nat → Hp → V → Hp → Prop := fun i H v H' => ∃ T x y z, v = .ref T ∧ H T = none ∧ H' = upd H T (.tup [x, y, z]) ∧ xs i = some x ∧ ys i = some y ∧ zs i = some z
theorem turn_zipT3 {P : Program} {w : World} {K : PySem.W.Frag} {elts : List Expr} {kk : Nat} {tpos : Pos} (N a b c : Addr) (la : a < N) (lb : b < N) (lc : c < N) :
    Turn P w K (.Tuple elts kk tpos) (ItzT3 K a b c) [(N + 5 : Nat), (N + 3 : Nat), (N + 4 : Nat), N, (N + 1 : Nat), (N + 2 : Nat)] (N + 5 : Nat) (fun i h => IsZip h (N + 5 : Nat) (N + 3 : Nat) (N + 4 : Nat) .none ∧ IsTupOf3 h (N + 3 : Nat) (.ref N) (.ref (N + 1 : Nat)) (.ref (N + 2 : Nat)) ∧ (∃ a1 a2 a3, IsTupOf3 h (N + 4 : Nat) a1 a2 a3) ∧ h.IsTupleIter N a i ∧ h.IsTupleIter (N + 1 : Nat) b i ∧ h.IsTupleIter (N + 2 : Nat) c i) where
  mem := List.mem_cons_self
  obj := by
    rintro i h ⟨g1, g2, ⟨a1, a2, a3, g3⟩, ⟨o1, e1, _, d1⟩, ⟨o2, e2, _, d2⟩, ⟨o3, e3, _, d3⟩⟩ q hq
    simp only [List.mem_cons, List.not_mem_nil, or_false] at hq
    rcases hq with z | z | z | z | z | z
    · rw [z]; exact ⟨_, g1, fun v y => nomatch y⟩
    · rw [z]; exact ⟨_, g2, fun v y => nomatch y⟩
    · rw [z]; exact ⟨_, g3, fun v y => nomatch y⟩
    · rw [z]; exact ⟨o1, e1, fun v y => by rw [d1] at y; cases y⟩
    · rw [z]; exact ⟨o2, e2, fun v y => by rw [d2] at y; cases y⟩
    · rw [z]; exact ⟨o3, e3, fun v y => by rw [d3] at y; cases y⟩
  keep := by
    rintro i h h' ⟨g1, g2, ⟨a1, a2, a3, g3⟩, i1, i2, i3⟩ k
    exact ⟨k _ (by simp) _ g1, k _ (by simp) _ g2, ⟨a1, a2, a3, k _ (by simp) _ g3⟩, i1.at fun o y => k _ (by simp) o y, i2.at fun o y => k _ (by simp) o y, i3.at fun o y => k _ (by simp) o y⟩
  item := by
    intro X hP hw hK hcalm i pins s σ H E I hf st hg
    subst hP hw hK
    obtain ⟨g1, g2, g3, i1, i2, i3⟩ := st
    obtain ⟨xs, ys, zs, x, y, z, q1, q2, q3, e1, e2, e3⟩ := hg
    obtain ⟨us1, rv1, p1, _⟩ := I.tuple q1
    obtain ⟨us2, rv2, p2, _⟩ := I.tuple q2
    obtain ⟨us3, rv3, p3, _⟩ := I.tuple q3
    obtain ⟨u1, f1, r1⟩ := rv1.get e1
    obtain ⟨u2, f2, r2⟩ := rv2.get e2
    obtain ⟨u3, f3, r3⟩ := rv3.get e3
    have n1 : i < us1.toArray.size := by rw [List.size_toArray]; exact (List.getElem?_eq_some_iff.mp f1).1
    have n2 : i < us2.toArray.size := by rw [List.size_toArray]; exact (List.getElem?_eq_some_iff.mp f2).1
    have n3 : i < us3.toArray.size := by rw [List.size_toArray]; exact (List.getElem?_eq_some_iff.mp f3).1
    have D1 := Draws.tuple (prog := X.prog) (w := X.w) (A := X.A.in1) (I.ok.hd hcalm) N a (Nat.ne_of_lt la) us1.toArray
    have D2 := Draws.tuple (prog := X.prog) (w := X.w) (A := X.A.in1) (I.ok.hd hcalm) (N + 1 : Nat) b (Nat.ne_of_lt (Nat.lt_succ_of_lt lb)) us2.toArray
    have D3 := Draws.tuple (prog := X.prog) (w := X.w) (A := X.A.in1) (I.ok.hd hcalm) (N + 2 : Nat) c (Nat.ne_of_lt (Nat.lt_succ_of_lt (Nat.lt_succ_of_lt lc))) us3.toArray
    have one : ∀ {t : Addr}, t < N → ∀ q ∈ [t], q < N := fun h q hq => by rw [List.mem_singleton.mp hq]; exact h
    have G := GoesN.zip3 (elts := elts) (x1 := kk) (pos := tpos) (zip_sep3 (one la) (one lb) (one lc)) D1 D2 D3
    refine G.goes i s (fun v s2 => ∃ x H', Inv X pins σ H' s2 ∧ RelV x v ∧ (ItzT3 X.K a b c).yld i H x H' ∧ _ ∧ ∀ q ∈ [(N + 5 : Nat), (N + 3 : Nat), (N + 4 : Nat), N, (N + 1 : Nat), (N + 2 : Nat)], H' q = none) E (by omega) ⟨g1, g2, g3, ⟨i1, p1⟩, ⟨i2, p2⟩, ⟨i3, p3⟩⟩ fun v h' tk hY st' hk htk => ?_
    obtain ⟨T, v1, v2, v3, rfl, hT, w1, w2, w3, hTt⟩ := hY
    have e1' : us1[i]? = some v1 := by simpa using w1
    have e2' : us2[i]? = some v2 := by simpa using w2
    have e3' : us3[i]? = some v3 := by simpa using w3
    rw [f1] at e1'
    rw [f2] at e2'
    rw [f3] at e3'
    cases e1'
    cases e2'
    cases e3'
    obtain ⟨k1, k2, k3, ⟨k4, _⟩, ⟨k5, _⟩, ⟨k6, _⟩⟩ := st'
    have new : ObjOk X.prog X.w (upd H T (.tup [x, y, z])) h' T (.tup [x, y, z]) := ⟨by show 3 ≤ sizeLine; decide, [u1, u2, u3], .cons r1 (.cons r2 (.cons r3 .nil)), hTt⟩
    have hlt : ∀ q ∈ [(N + 5 : Nat), (N + 3 : Nat), (N + 4 : Nat), N, (N + 1 : Nat), (N + 2 : Nat)], q < s.heap.objs.size := fun q hq => by
      simp only [List.mem_cons, List.not_mem_nil, or_false] at hq
      obtain ⟨a1, a2, a3, g3⟩ := g3
      rcases hq with z | z | z | z | z | z
      · rw [z]; exact Heap.lt_size g1
      · rw [z]; exact Heap.lt_size g2
      · rw [z]; exact Heap.lt_size g3
      · rw [z]; obtain ⟨_, y, _⟩ := i1; exact Heap.lt_size y
      · rw [z]; obtain ⟨_, y, _⟩ := i2; exact Heap.lt_size y
      · rw [z]; obtain ⟨_, y, _⟩ := i3; exact Heap.lt_size y
    refine ⟨.ref T, upd H T (.tup [x, y, z]), I.turnedNew (t' := tk) (ch := [(N + 5 : Nat), (N + 3 : Nat), (N + 4 : Nat), N, (N + 1 : Nat), (N + 2 : Nat)]) (fun q o hq e => hk q o (fun m => hq ?_) e) hf hT new, rfl, ⟨T, x, y, z, rfl, I.hok.fresh hT, rfl, fun l hl => ?_, fun l hl => ?_, fun l hl => ?_⟩, ⟨k1, k2, k3, k4, k5, k6⟩, fun q hq => ?_⟩
    · simp only [List.mem_cons, List.not_mem_nil, or_false] at m ⊢
      rcases m with m | m | m | m | m
      · exact .inl m
      · exact .inr (.inr (.inl m))
      · exact .inr (.inr (.inr (.inl m)))
      · exact .inr (.inr (.inr (.inr (.inl m))))
      · exact .inr (.inr (.inr (.inr (.inr m))))
    · rw [I.tuple_inj hl q1]
      exact e1
    · rw [I.tuple_inj hl q2]
      exact e2
    · rw [I.tuple_inj hl q3]
      exact e3
    · rw [upd_ne (Nat.ne_of_lt (Nat.lt_of_lt_of_le (hlt q hq) hT))]
      exact (hf q hq).1
  done := by
    intro X hP hw hK hcalm i pins s σ H E I hf st hg
    subst hP hw hK
    obtain ⟨g1, g2, g3, i1, i2, i3⟩ := st
    obtain ⟨xs, ys, zs, q1, q2, q3, hi⟩ := hg
    obtain ⟨us1, rv1, p1, _⟩ := I.tuple q1
    obtain ⟨us2, rv2, p2, _⟩ := I.tuple q2
    obtain ⟨us3, rv3, p3, _⟩ := I.tuple q3
    have D1 := Draws.tuple (prog := X.prog) (w := X.w) (A := X.A.in1) (I.ok.hd hcalm) N a (Nat.ne_of_lt la) us1.toArray
    have D2 := Draws.tuple (prog := X.prog) (w := X.w) (A := X.A.in1) (I.ok.hd hcalm) (N + 1 : Nat) b (Nat.ne_of_lt (Nat.lt_succ_of_lt lb)) us2.toArray
    have D3 := Draws.tuple (prog := X.prog) (w := X.w) (A := X.A.in1) (I.ok.hd hcalm) (N + 2 : Nat) c (Nat.ne_of_lt (Nat.lt_succ_of_lt (Nat.lt_succ_of_lt lc))) us3.toArray
    have one : ∀ {t : Addr}, t < N → ∀ q ∈ [t], q < N := fun h q hq => by rw [List.mem_singleton.mp hq]; exact h
    have G := GoesN.zip3 (elts := elts) (x1 := kk) (pos := tpos) (zip_sep3 (one la) (one lb) (one lc)) D1 D2 D3
    have hn : i = min (min us1.toArray.size us2.toArray.size) us3.toArray.size := by
      rw [hi, rv1.length, rv2.length, rv3.length, List.size_toArray, List.size_toArray, List.size_toArray]
    rw [hn] at i1 i2 i3
    refine G.stops s (fun s1 => Inv X pins σ H s1) E ⟨g1, g2, g3, ⟨i1, p1⟩, ⟨i2, p2⟩, ⟨i3, p3⟩⟩ fun h' tk hk htk => ?_
    refine I.turnedL (t' := tk) (ch := [(N + 5 : Nat), (N + 3 : Nat), (N + 4 : Nat), N, (N + 1 : Nat), (N + 2 : Nat)]) (fun q o hq e => hk q o (fun m => hq ?_) e) hf
    simp only [List.mem_cons, List.not_mem_nil, or_false] at m ⊢
    rcases m with m | m | m | m | m
    · exact .inl m
    · exact .inr (.inr (.inl m))
    · exact .inr (.inr (.inr (.inl m)))
    · exact .inr (.inr (.inr (.inr (.inl m))))
    · exact .inr (.inr (.inr (.inr (.inr m))))
  self := fun A i s Q E st h => wpAny_pyIter_zip st.1 h
def iZip3 (K : PySem.W.Frag) (ta : TA) : TI := fun σ H R => ta σ H fun vs H1 => ∃ a b c xs ys zs, vs = [.ref a, .ref b, .ref c] ∧ SqT K H1 a xs ∧ SqT K H1 b ys ∧ SqT K H1 c zs ∧ R (ItzT3 K a b c) H1
section
variable {X : Cx} {K : PySem.W.Frag} (hK : X.K = K)
include hK
theorem k_zip3 {e1 e2 e3 : Expr} {ta : TA} {p pos tpos : Pos} {elts : List Expr} {kk : Nat} (hg : Gl X "zip") (hm : X.mg "zip" = none) (ha : PA X [e1, e2, e3] ta)
    (hs : starEach [e1, e2, e3] X.env = (false, eval e1 X.env) :: starEach [e2, e3] X.env := by rfl) (hpl : (backTo pos (starEach [e2, e3] X.env)).any (·.1) = false := by rfl) :
    PI X (.Tuple elts kk tpos) (.Call (.Name "zip" p) [e1, e2, e3] [] pos) (iZip3 K ta) := by
  subst hK
  constructor
  intro pins s σ H R I want
  refine Call_ (ld_blt I hg hm PyProof.Rows.boot_zip (PyProof.Rows.callWith_type1 (thn (ha.run pos pins s σ H _ I want) fun us sa za => ?_) hs hpl))
  obtain ⟨vs, Ha, Ia, rs, a, b, c, xs, ys, zs, rfl, qa, qb, qc, want⟩ := za
  obtain ⟨u1, u2, u3, rfl, r1, r2, r3⟩ : ∃ u1 u2 u3, us = [u1, u2, u3] ∧ RelV (.ref a) u1 ∧ RelV (.ref b) u2 ∧ RelV (.ref c) u3 := by
    cases rs with
    | cons r1 rs =>
      cases rs with
      | cons r2 rs =>
        cases rs with
        | cons r3 rs =>
          cases rs
          exact ⟨_, _, _, rfl, r1, r2, r3⟩
  cases r1
  cases r2
  cases r3
  obtain ⟨us1, rv1, p1, _⟩ := Ia.tuple qa
  obtain ⟨us2, rv2, p2, _⟩ := Ia.tuple qb
  obtain ⟨us3, rv3, p3, _⟩ := Ia.tuple qc
  obtain ⟨o1, h1, _⟩ := id p1
  obtain ⟨o2, h2, _⟩ := id p2
  obtain ⟨o3, h3, _⟩ := id p3
  refine zip_begins3 (begins_tuple a us1.toArray) (begins_tuple b us2.toArray) (begins_tuple c us3.toArray) p1 p2 p3 fun h' gz gT gO g1 g2 g3 hsz hk => wpAny_pyIter_zip gz ?_
  have Ib : Inv X pins σ Ha { sa with heap := h' } := Ia.kept (t' := sa.toks) hk
  refine ⟨_, _, _, _, Ha, rfl, Ib, turn_zipT3 sa.heap.objs.size a b c (Heap.lt_size h1) (Heap.lt_size h2) (Heap.lt_size h3), ⟨gz, gT, ⟨_, _, _, gO⟩, ⟨_, g1, rfl, rfl⟩, ⟨_, g2, rfl, rfl⟩, ⟨_, g3, rfl, rfl⟩⟩, fun q hq => ?_, want⟩
  have hle : sa.heap.objs.size ≤ q := by
    simp only [List.mem_cons, List.not_mem_nil, or_false] at hq
    rcases hq with z | z | z | z | z | z
    · rw [z]; exact Nat.le_add_right _ _
    · rw [z]; exact Nat.le_add_right _ _
    · rw [z]; exact Nat.le_add_right _ _
    · rw [z]; exact Nat.le_refl _
    · rw [z]; exact Nat.le_add_right _ _
    · rw [z]; exact Nat.le_add_right _ _
  exact Ia.fpOk hle (Ia.hok.fresh hle)
end
theorem walk_zip3 {K : PySem.W.Frag} {a b c : Addr} {xs ys zs : List V} {n : Nat} (h1 : xs.length = n) (h2 : ys.length = n) (h3 : zs.length = n) : Walk (ItzT3 K a b c) n (fun H => SqT K H a xs ∧ SqT K H b ys ∧ SqT K H c zs) (Y3 (fun i => xs[i]?) (fun i => ys[i]?) (fun i => zs[i]?)) := by
  refine ⟨fun i _ hi q => ⟨xs, ys, zs, xs[i]'(by omega), ys[i]'(by omega), zs[i]'(by omega), q.1, q.2.1, q.2.2, List.getElem?_eq_getElem _, List.getElem?_eq_getElem _, List.getElem?_eq_getElem _⟩, fun _ q => ⟨xs, ys, zs, q.1, q.2.1, q.2.2, by omega⟩, fun i H v H' _ q y => ?_⟩
  obtain ⟨T, x, y, z, e1, e2, e3, f1, f2, f3⟩ := y
  exact ⟨T, x, y, z, e1, e2, e3, f1 xs q.1, f2 ys q.2.1, f3 zs q.2.2⟩
end Tl
namespace Tl
open PySem PySem.Spec PyProof.Rows L2 RZ
def spMul (K : PySem.W.Frag) : Sp := fun vs H Q _ => ∃ (x y : V) (p q : Rat), vs = [x, y] ∧ Td K H x (rD p) ∧ Td K H y (rD q) ∧ Sm p ∧ Sm q ∧ ∀ v H', Same H H' → Td K H' v (rD (p * q)) → Q v H'
def spFractions (K : PySem.W.Frag) : Sp := fun vs H Q _ => ∃ (v : V) (ws : List Rat), vs = [v, .int ((ws.length : Nat) : Int)] ∧ Td K H v (wsD ws) ∧ ws.length ≤ 100 ∧ ∀ H', Same H H' → Q (.bl true) H'
def spPrior (K : PySem.W.Frag) : Sp := fun vs H Q _ => ∃ (v : V) (p : List Rat) (W : Nat), vs = [v, .int (W : Int)] ∧ Td K H v (wsD p) ∧ PriorOk W p ∧ W ≤ 5 ∧ ∀ H', Same H H' → Q (.bl true) H'
def spTbl (K : PySem.W.Frag) (n : Nat) : Sp := fun vs H Q _ => ∃ (W : Nat) (v u : V) (ahead : List Rat) (t : Nd n) (tb : Tb n), vs = [v, u, .int (W : Int)] ∧ Td K H v (tbD n tb) ∧ Td K H u (ndD n t) ∧ W ≤ 5 ∧ NdOk W n ahead t ∧ TbOk W n t tb ∧ ∀ H', Same H H' → Q (.bl true) H'
def spPaying (K : PySem.W.Frag) (n : Nat) : Sp := fun vs H Q _ => ∃ (W : Nat) (v u : V) (a : An n) (r : Rw n), vs = [v, u, .int (W : Int)] ∧ Td K H v (rwD n r) ∧ Td K H u (anD n a) ∧ W ≤ 5 ∧ NdOk W n a.2.1 a.2.2 ∧ PaysOk W r.1 ∧ TbOk W n a.2.2 r.2 ∧ ∀ H', Same H H' → Q (.bl true) H'
def spAsking (K : PySem.W.Frag) : Nat → Sp
  | 0 => fun _ _ _ _ => False
  | n + 1 => fun vs H Q _ => ∃ (W : Nat) (v u : V) (q : Qn n) (x : Ask n), vs = [v, u, .int (W : Int)] ∧ Td K H v (askD n x) ∧ Td K H u (qnD n q) ∧ W ≤ 5 ∧ q.length ≤ 12 ∧ Ch 1 x.1 ∧ (∀ a ∈ q, NdOk W n a.2.1 a.2.2) ∧ Al (fun (a : An n) (r : Rw n) => PaysOk W r.1 ∧ TbOk W n a.2.2 r.2) q x.2 ∧ ∀ H', Same H H' → Q (.bl true) H'
def spPF (K : PySem.W.Frag) : Sp := fun vs H Q _ => ∃ (W : Nat) (vp vw vy : V) (prior ws ps : List Rat), vs = [vp, vw, vy] ∧ Td K H vp (wsD prior) ∧ Td K H vw (wsD ws) ∧ Td K H vy (wsD ps) ∧ PriorOk W prior ∧ W ≤ 5 ∧ ws.length = W ∧ (∀ r ∈ ws, Ch 6 r) ∧ PaysOk W ps ∧ ∀ v H', Same H H' → Td K H' v (rD (payF prior ws ps)) → Q v H'
def spPA (K : PySem.W.Frag) (n : Nat) : Sp := fun vs H Q _ => ∃ (W : Nat) (vp v u : V) (prior ahead : List Rat) (t : Nd n) (tb : Tb n), vs = [vp, v, u] ∧ Td K H vp (wsD prior) ∧ Td K H v (ndD n t) ∧ Td K H u (tbD n tb) ∧ PriorOk W prior ∧ W ≤ 5 ∧ NdOk W n ahead t ∧ TbOk W n t tb ∧ n ≤ 6 ∧ ∀ r H', Same H H' → Td K H' r (rD (paidT prior n t tb)) → Q r H'
theorem td_inj {K : PySem.W.Frag} {H : Hp} {a : Addr} (h : SqT K H a [.int 1, .int 1]) : Td K H (.ref a) (rD 1) := by
  rw [rD_one]
  exact .tup h (tdAll_ints [1, 1])
theorem rat_le_one {q : Rat} (h : q ≤ 1) : q.num ≤ (q.den : Int) := by
  have a := (Rat.le_iff q 1).mp h
  have c : (1 : Rat).num = 1 := rfl
  have d : (1 : Rat).den = 1 := rfl
  rw [c, d] at a
  omega
section
variable {P : Program} {w : World} {K : PySem.W.Frag} {mg : Str → Option Value} {base : Heap} {aN aO : Addr} {t1 t2 t3 t4 t5 t6 t7 : Tok}
end
end Tl
namespace Tl
open PySem PySem.Spec PyProof.Rows L2 RZ
def tsD (n : Nat) (prior : List Rat) (tb : Tb n) : PyData := .tuple [wsD prior, tbD n tb]
def spTest (K : PySem.W.Frag) (C : Addr) (n : Nat) : Sp := fun vs H Q _ => ∃ (p : Addr) (u v : V) (W : Nat) (t : Nd n) (prior : List Rat) (tb : Tb n), vs = [.ref p, u] ∧ HsOk K C H p W n t v ∧ Td K H u (tsD n prior tb) ∧ PriorOk W prior ∧ TbOk W n t tb ∧ ∀ H', Same H H' → Q (.bl true) H'
def spCkTest (K : PySem.W.Frag) (C : Addr) (n : Nat) : Sp := fun vs H Q _ => ∃ (p : Addr) (u v : V) (W : Nat) (t : Nd n) (prior : List Rat) (tb : Tb n), vs = [.ref p, u] ∧ HsOk K C H p W n t v ∧ Td K H u (tsD n prior tb) ∧ PriorOk W prior ∧ TbOk W n t tb ∧ ∀ H', Same H H' → Q .non H'
def spPaid (K : PySem.W.Frag) (C : Addr) (n : Nat) : Sp := fun vs H Q _ => ∃ (p : Addr) (u v : V) (W : Nat) (t : Nd n) (prior : List Rat) (tb : Tb n), vs = [.ref p, u] ∧ HsOk K C H p W n t v ∧ Td K H u (tsD n prior tb) ∧ PriorOk W prior ∧ TbOk W n t tb ∧ n ≤ 6 ∧ ∀ r H', Same H H' → Td K H' r (rD (paidT prior n t tb)) → Q r H'
theorem td_two {K : PySem.W.Frag} {H : Hp} {v : V} {d e : PyData} (h : Td K H v (.tuple [d, e])) : ∃ p x y, v = .ref p ∧ SqT K H p [x, y] ∧ Td K H x d ∧ Td K H y e := by
  obtain ⟨p, xs, rfl, hp, t⟩ := h.tupE
  cases t with
  | cons t1 t =>
    cases t with
    | cons t2 t =>
      cases t
      exact ⟨p, _, _, rfl, hp, t1, t2⟩
theorem take_zip_succ {α β γ : Type} {f : α → β → γ} {as : List α} {bs : List β} {i : Nat} {a : α} {b : β} (h1 : as[i]? = some a) (h2 : bs[i]? = some b) : (List.zipWith f as bs).take (i + 1) = (List.zipWith f as bs).take i ++ [f a b] := by
  rw [List.take_add_one, zip_at h1 h2]
  rfl
section
variable {P : Program} {w : World} {K : PySem.W.Frag} {mg : Str → Option Value} {base : Heap} {aN aO : Addr} {t1 t2 t3 t4 t5 t6 t7 : Tok}
end
end Tl
namespace Tl
open PySem PySem.Spec PyProof.Rows L2 RZ
/-! ### what the law draws for a test -/
theorem shares_ch {m : Nat} {rs : List Rat} (h : IsShares m rs) (hm : m ≤ 12) : ∀ r ∈ rs, Ch 1 r := by
  obtain ⟨ps, h1, h2, h3, rfl⟩ := h
  intro r hr
  obtain ⟨p, hp, rfl⟩ := List.mem_map.mp hr
  refine ch_share h2 (by omega) ?_
  have : ∀ (l : List Nat) (x : Nat), x ∈ l → x ≤ l.sum := fun l => by
    induction l with
    | nil =>
      intro x h
      exact absurd h List.not_mem_nil
    | cons y r ih =>
      intro x h
      rcases List.mem_cons.mp h with rfl | h
      · show x ≤ x + r.sum
        omega
      · have := ih x h
        show x ≤ y + r.sum
        omega
  exact this ps p hp
theorem shares_sum {m : Nat} {rs : List Rat} (h : IsShares m rs) : fsum rs = 1 ∧ rs.length = m ∧ ∀ i, fsum (rs.take i) ≤ 1 := by
  obtain ⟨ps, h1, h2, h3, rfl⟩ := h
  refine ⟨by rw [fsum_mk _ h2, mk_same _ h2], by rw [List.length_map, h1], fun i => ?_⟩
  rw [← List.map_take, fsum_mk _ h2]
  refine mk_le_one _ _ h2 ?_
  have e : (ps.take i ++ ps.drop i).sum = (ps.take i).sum + (ps.drop i).sum := List.sum_append
  rw [List.take_append_drop] at e
  omega
theorem shares_prior {W : Nat} {rs : List Rat} (h : IsShares W rs) (h5 : W ≤ 5) : PriorOk W rs := ⟨(shares_sum h).2.1, shares_ch h (by omega), (shares_sum h).1⟩
theorem pay_fd {t : Int} {b : Nat} (h1 : -4 ≤ t) (h2 : t ≤ 4) (b1 : 1 ≤ b) (b3 : b ≤ 3) : Fd 1 4 (mkRat t b) := by
  have hb : 0 < b := b1
  refine ⟨?_, ?_⟩
  · rw [Nat.pow_one]
    exact Nat.dvd_trans (mk_den_dvd hb) (ll_dvd b hb (by omega))
  · have dp : (1 : Int) ≤ ((mkRat t b).den : Int) := by
      have := Nat.pos_of_ne_zero (mkRat t b).den_nz
      omega
    have nl : (mkRat t b).num.natAbs ≤ 4 := by
      rw [(mkRat_parts t b hb).1]
      exact Nat.le_trans (Int.natAbs_ediv_le_natAbs _ _) (by omega)
    constructor
    · refine (Rat.le_iff _ _).mpr ?_
      rw [Rat.neg_num, Rat.neg_den, Rat.num_natCast, Rat.den_natCast]
      show -(4 : Int) * ((mkRat t b).den : Int) ≤ (mkRat t b).num * 1
      omega
    · refine (Rat.le_iff _ _).mpr ?_
      rw [Rat.num_natCast, Rat.den_natCast]
      show (mkRat t b).num * 1 ≤ 4 * ((mkRat t b).den : Int)
      omega
def spPlus (K : PySem.W.Frag) : Sp := fun vs H Q _ => ∃ (x y : V) (p q : Rat), vs = [x, y] ∧ Td K H x (rD p) ∧ Td K H y (rD q) ∧ Sm p ∧ Sm q ∧ ∀ v H', Same H H' → Td K H' v (rD (p + q)) → Q v H'
def spTab (K : PySem.W.Frag) (n : Nat) : Sp := fun vs H Q _ => ∃ (b g : Addr) (W : Nat) (v : V) (ahead : List Rat) (t : Nd n), vs = [.ref b, .int (W : Int), v] ∧ Bag H b g ∧ Td K H v (ndD n t) ∧ NdOk W n ahead t ∧ 1 ≤ W ∧ W ≤ 5 ∧
  ∀ (v' : V) (tb : Tb n) (H' : Hp), Td K H' v' (tbD n tb) → TbOk W n t tb → Bag H' b g → Frm b g H H' → Q v' H'
def spTst (K : PySem.W.Frag) (n : Nat) : Sp := fun vs H Q _ => ∃ (b g : Addr) (W : Nat) (v : V) (ahead : List Rat) (t : Nd n), vs = [.ref b, .int (W : Int), v] ∧ Bag H b g ∧ Td K H v (ndD n t) ∧ NdOk W n ahead t ∧ 1 ≤ W ∧ W ≤ 5 ∧
  ∀ (v' : V) (prior : List Rat) (tb : Tb n) (H' : Hp), Td K H' v' (tsD n prior tb) → PriorOk W prior → TbOk W n t tb → Bag H' b g → Frm b g H H' → Q v' H'
theorem Sm.big {q : Rat} (h : Sm q) : q.den < 2 ^ 2000 ∧ q.num.natAbs < 2 ^ 2000 := by
  have z : 2 ^ 1500 < 2 ^ 2000 := Nat.pow_lt_pow_right (by decide) (by decide)
  exact ⟨Nat.lt_trans h.1 z, Nat.lt_trans h.2 z⟩
section
variable {P : Program} {w : World} {K : PySem.W.Frag} {mg : Str → Option Value} {base : Heap}
end
end Tl
namespace Tl
open PySem PySem.Spec PyProof.Rows L2 RZ
/-! ### plans: moves for a question, by the depth of the stand -/
def MvT (A : Nat → Type) : Nat → Type
  | 0 => Nat × A 0
  | n + 1 => Sum (Nat × A (n + 1)) (Nat × List (MvT A n))
def Wt : Nat → Nat → Type
  | 0 => fun _ => Unit
  | m + 1 => fun n => List (MvT (Wt m) n)
abbrev Mv (m n : Nat) : Type := MvT (Wt m) n
def tellD (a : Nat) (d : PyData) : PyData := .tuple [.str "tell", .int (a : Int), d]
def askD2 (i : Nat) (ds : List PyData) : PyData := .tuple [.str "ask", .int (i : Int), .tuple ds]
def mvD {A : Nat → Type} (wD : (n : Nat) → A n → PyData) : (n : Nat) → MvT A n → PyData
  | 0, x => tellD x.1 (wD 0 x.2)
  | n + 1, .inl x => tellD x.1 (wD (n + 1) x.2)
  | n + 1, .inr x => askD2 x.1 (x.2.map (mvD wD n))
def waitD : (m n : Nat) → Wt m n → PyData
  | 0, _, _ => .tuple []
  | m + 1, n, ms => .tuple ((show List (Mv m n) from ms).map (mvD (waitD m) n))
/-- a move that is right for a question, at a stand -/
def MvOk {m : Nat} {A : Nat → Type} (wOk : (n : Nat) → Nd n → Nd m → A n → Prop) : (n : Nat) → Nd n → Qn m → MvT A n → Prop
  | 0, t, q, x => ∃ an, q[x.1]? = some an ∧ wOk 0 t an.2.2 x.2
  | n + 1, t, q, .inl x => ∃ an, q[x.1]? = some an ∧ wOk (n + 1) t an.2.2 x.2
  | n + 1, t, q, .inr x => ∃ qn, (show List (Qn n) from t)[x.1]? = some qn ∧ Al (fun (an : An n) (y : MvT A n) => MvOk wOk n an.2.2 q y) qn x.2
def WtOk : (m n : Nat) → Nd n → Nd m → Wt m n → Prop
  | 0, _, _, _, _ => True
  | m + 1, n, t, gs, ms => Al (fun (q : Qn m) (y : Mv m n) => MvOk (WtOk m) n t q y) gs ms
def tellM {A : Nat → Type} : (n : Nat) → Nat → A n → MvT A n
  | 0, a, w => (a, w)
  | _ + 1, a, w => .inl (a, w)
theorem tellM_D {A : Nat → Type} (wD : (n : Nat) → A n → PyData) : ∀ (n a : Nat) (w : A n), mvD wD n (tellM n a w) = tellD a (wD n w)
  | 0, _, _ => rfl
  | _ + 1, _, _ => rfl
theorem tellM_ok {m : Nat} {A : Nat → Type} {wOk : (n : Nat) → Nd n → Nd m → A n → Prop} : ∀ {n : Nat} {t : Nd n} {q : Qn m} {a : Nat} {w : A n} {an : An m}, q[a]? = some an → wOk n t an.2.2 w → MvOk wOk n t q (tellM n a w)
  | 0, _, _, _, _, _, h, k => ⟨_, h, k⟩
  | _ + 1, _, _, _, _, _, h, k => ⟨_, h, k⟩
def spWait (K : PySem.W.Frag) (m n : Nat) : Sp := fun vs H Q _ => ∃ (b g l : Addr) (W : Nat) (vh vg : V) (ahead ahead' : List Rat) (L : Int) (t : Nd n) (gs : Nd m), vs = [.ref b, vh, vg, .ref l] ∧ BagL H b g l L ∧ Td K H vh (ndD n t) ∧ Td K H vg (ndD m gs) ∧ n ≤ 6 ∧ NdOk W n ahead t ∧ NdOk W m ahead' gs ∧
  ∀ (v : V) (wt : Wt m n) (L' : Int) (H' : Hp), Td K H' v (waitD m n wt) → WtOk m n t gs wt → BagL H' b g l L' → Frl b g l H H' → Q v H'
def spMove (K : PySem.W.Frag) (m n : Nat) : Sp := fun vs H Q _ => ∃ (b g l : Addr) (W : Nat) (vh vq : V) (ahead ahead' : List Rat) (L : Int) (t : Nd n) (q : Qn m), vs = [.ref b, vh, vq, .ref l] ∧ BagL H b g l L ∧ Td K H vh (ndD n t) ∧ Td K H vq (qnD m q) ∧ n ≤ 6 ∧ NdOk W n ahead t ∧ QnOk W ahead' q ∧ (∀ a ∈ q, NdOk W m a.2.1 a.2.2) ∧
  ∀ (v : V) (mv : Mv m n) (L' : Int) (H' : Hp), Td K H' v (mvD (waitD m) n mv) → MvOk (WtOk m) n t q mv → BagL H' b g l L' → Frl b g l H H' → Q v H'
section
variable {P : Program} {w : World} {K : PySem.W.Frag} {mg : Str → Option Value} {base : Heap}
theorem ok_law_wait {m n : Nat} {f f1 : Addr} {fd fd1 : FuncData} {k : Nat} (D : Dn K mg "_law_wait" s_law_wait ["bag", "here", "goal", "left"] f fd) (B : Blt mg) (D_law_move : Dn K mg "_law_move" s_law_move ["bag", "here", "question", "left"] f1 fd1) {sp0 : Sp} (G_law_move : FnOk P w K mg base CX0 k f1 fd1 ["bag", "here", "question", "left"] sp0) (hsp : ∀ m', m = m' + 1 → sp0 = spMove K m' n) :
    FnOk P w K mg base CX0 (k + 1) f fd ["bag", "here", "goal", "left"] (spWait K m n) := by
  refine D.F.ok sc_law_wait (fun vs H Q E h => ?_) (fun cdv A outer s H vs Q E hr h => ?_)
  · obtain ⟨b, g, l, W, vh, vg, ahead, ahead', L, t, gs, rfl, _⟩ := h
    rfl
  obtain ⟨b, g, l, W, vh, vg, ahead, ahead', L, t, gs, rfl, hB, hvh, hvg, hn, hok, gok, q⟩ := h
  have nd := sc_law_wait.nd
  refine ⟨_, (pss_one (ps_ret (pe_callTy (k_tupOf (K := K) rfl) (by rfl) B.tuple (by decide +kernel) (pa_cons (pe_lc (own := [("question", 4)]) rfl nd (k_iT (K := K) rfl (pv 2)) (blkOk_by (own := [("question", 4)]) (by kernel_rfl)) (fun _ _ _ _ _ => (pg_name (i := 4) nd rfl (.inl rfl))) (fun _ _ _ _ _ => pts_nil) (fun _ _ _ _ _ => (pe_call G_law_move (hr.mono (by omega)) (by rfl) D_law_move.m D_law_move.F.kp D_law_move.b .nil pass0 (pa_cons (pv 0) (pa_cons (pv 1) (pa_cons (pv 4) (pa_cons (pv 3) pa_nil))))))) pa_nil)))), ?_⟩
  obtain ⟨a, xs, ds, rfl, ha, ed, ta, l0⟩ := td_qs hvg
  refine ⟨_, rfl, a, rfl, ⟨_, ha⟩, fun T hT => ?_⟩
  obtain ⟨Tb, Tg, Tl'⟩ := hB.neNew hT
  have sT := same_upd (o := .lst []) hT
  cases m with
  | zero =>
    have := l0 rfl
    subst this
    refine lc_it (walk_tup (K := K) (a := a) (xs := [])) (fun i H2 => H2 = upd H T (.lst [])) rfl (fun i H2 _ h => by rw [h]; exact Same.kt sT _ _ ha) ?_ ?_
    · rintro i x H2 H3 hi
      exact absurd hi (Nat.not_lt_zero _)
    · rintro H2 rfl
      exact ⟨T, [], rfl, SqL.of upd_same, fun v H3 s3 q3 => q (.ref v) () L H3 (.tup q3 .nil) trivial (hB.keep (sT.trans s3)) (.of (sT.trans s3))⟩
  | succ m =>
    have hsp := hsp m rfl
    subst hsp
    obtain ⟨qs, hqs⟩ : ∃ qs : List (Qn m), (qs : Nd (m + 1)) = gs := ⟨gs, rfl⟩
    subst hqs
    cases ed
    have lx : xs.length = qs.length := by rw [ta.len, List.length_map]
    have l5 : qs.length ≤ 5 := gok.1
    refine lc_it (walk_tup (K := K) (a := a) (xs := xs)) (fun i H2 => ∃ (us : List V) (ms : List (Mv m n)) (L2 : Int), H2 T = some (.lst us) ∧ TdAll K H2 us (ms.map (mvD (waitD m) n)) ∧ Al (fun (q : Qn m) (y : Mv m n) => MvOk (WtOk m) n t q y) (qs.take i) ms ∧ BagL H2 b g l L2 ∧ Frl b g l H H2) ⟨[], [], L, upd_same, .nil, .nil, hB.updN Tb Tg Tl', .of sT⟩ (fun i H2 _ h => ?_) ?_ ?_
    · obtain ⟨_, _, _, _, _, _, _, F2⟩ := h
      exact hB.kt F2 _ _ ha
    · rintro i x H2 H3 hi ⟨us, ms, L2, h2, t2, al, B2, F2⟩ ⟨rfl, e2⟩
      obtain ⟨dx, ex, tx⟩ := ta.getV e2
      obtain ⟨qn, eq, rfl⟩ := map_at ex
      obtain ⟨qok, nok⟩ := gok.2 qn (List.mem_of_getElem? eq)
      refine ⟨rfl, ?_⟩
      refine iteT (B := ∃ (us : List V) (ms : List (Mv m n)) (L2 : Int), H3 T = some (.lst us) ∧ TdAll K H3 us (ms.map (mvD (waitD m) n)) ∧ Al (fun (q : Qn m) (y : Mv m n) => MvOk (WtOk m) n t q y) (qs.take (i + 1)) ms ∧ BagL H3 b g l L2 ∧ Frl b g l H H3) ?_
      have k2 := hB.kt (K := K) F2
      refine ⟨_, rfl, _, rfl, _, rfl, _, rfl, b, g, l, W, vh, x, ahead, ahead', L2, t, qn, rfl, B2, hvh.keep k2, tx.keep k2, hn, hok, qok, nok, fun v mv L4 H4 tv ok4 B4 F4 => ?_⟩
      have k4 := B2.kt (K := K) F4
      have h4 := F4 T _ h2 Tb Tg Tl'
      have kT : KT K H4 (upd H4 T (.lst (us ++ [v]))) := KT.updL h4
      refine ⟨us, h4, ?_, us ++ [v], ms ++ [mv], L4, upd_same, ?_, ?_, B4.updN Tb Tg Tl', (F2.trans F4).updN hT⟩
      · rw [t2.len, List.length_map, ← al.len, List.length_take]
        exact small1000 (by omega)
      · rw [List.map_append]
        exact (t2.keep (k4.trans kT)).app (.cons (tv.keep kT) .nil)
      · rw [List.take_add_one, eq]
        exact Al.snoc (R := fun (q : Qn m) (y : Mv m n) => MvOk (WtOk m) n t q y) ok4 al
    · rintro H2 ⟨us, ms, L2, h2, t2, al, B2, F2⟩
      rw [lx, List.take_length] at al
      exact ⟨T, us, rfl, SqL.of h2, fun v H3 s3 q3 => q (.ref v) ms L2 H3 (.tup q3 (t2.keep (Same.kt s3))) al (B2.keep s3) (F2.trans (.of s3))⟩
theorem ok_law_move {m n : Nat} {f f1 f2 : Addr} {fd fd1 fd2 : FuncData} {k : Nat} (D : Dn K mg "_law_move" s_law_move ["bag", "here", "question", "left"] f fd) (B : Blt mg) (D_law_pick : Dn K mg "_law_pick" s_law_pick ["bag", "many"] f1 fd1) (D_law_wait : Dn K mg "_law_wait" s_law_wait ["bag", "here", "goal", "left"] f2 fd2)
    (G_law_wait : FnOk P w K mg base CX0 k f2 fd2 ["bag", "here", "goal", "left"] (spWait K m n)) {sp0 : Sp} (G_law_move : FnOk P w K mg base CX0 k f fd ["bag", "here", "question", "left"] sp0) (hsp : ∀ n', n = n' + 1 → sp0 = spMove K m n') (hk : 1 ≤ k) :
    FnOk P w K mg base CX0 (k + 1) f fd ["bag", "here", "question", "left"] (spMove K m n) := by
  have G_law_pick : FnOk P w K mg base CX0 1 f1 fd1 ["bag", "many"] spPick := ok_law_pick D_law_pick B
  refine D.F.ok sc_law_move (fun vs H Q E h => ?_) (fun cdv A outer s H vs Q E hr h => ?_)
  · obtain ⟨b, g, l, W, vh, vq, ahead, ahead', L, t, q, rfl, _⟩ := h
    rfl
  obtain ⟨b, g, l, W, vh, vq, ahead, ahead', L, t, qn, rfl, hB, hvh, hvq, hn, hok, qok, nok, q⟩ := h
  have nd := sc_law_move.nd
  have D_law_move := D
  refine ⟨_, (pss_cons (ps_augS (pv 3) pe_int (k_getL (K := K) rfl) pe_int ip_sub set_list)
      (pss_cons (ps_if (PW.pt (pw_and (pt_cmpR op_gt (pe_callB (k_len (K := K) rfl) (by rfl) B.len PySem.boot_len (pa_cons (pv 1) pa_nil)) pe_int (nomark _)) (pw_and (pt_cmpR op_gt (pe_ix (k_ixL (K := K) rfl) (pv 3) pe_int (fun _ _ => rfl)) pe_int (nomark _)) (pw_and1 (pt_cmpR op_gt (pe_call G_law_pick (hr.mono (by omega)) (by rfl) D_law_pick.m D_law_pick.F.kp D_law_pick.b .nil pass0 (pa_cons (pv 0) (pa_cons pe_int pa_nil))) pe_int (nomark _)))))) (pss_cons (ps_set (i := 4) nd rfl (.inl rfl) (pe_call G_law_pick (hr.mono (by omega)) (by rfl) D_law_pick.m D_law_pick.F.kp D_law_pick.b .nil pass0 (pa_cons (pv 0) (pa_cons (pe_callB (k_len (K := K) rfl) (by rfl) B.len PySem.boot_len (pa_cons (pv 1) pa_nil)) pa_nil))))
      (pss_one (ps_ret (pe_tup (pa_cons pe_str (pa_cons (pv 4) (pa_cons (pe_callTy (k_tupOf (K := K) rfl) (by rfl) B.tuple (by decide +kernel) (pa_cons (pe_lc (own := [("word", 5), ("weights", 6), ("behind", 7)]) rfl nd (k_iT (K := K) rfl (pe_ix (k_ixT (K := K) rfl) (pv 1) (pv 4) (fun _ _ => rfl))) (blkOk_by (own := [("word", 5), ("weights", 6), ("behind", 7)]) (by kernel_rfl)) (fun _ _ _ _ _ => (k_tup (K := K) (n := 3) rfl rfl (pgs_cons (pg_name (i := 5) nd rfl (.inl rfl)) (pgs_cons (pg_name (i := 6) nd rfl (.inl rfl)) (pgs_cons (pg_name (i := 7) nd rfl (.inl rfl)) pgs_nil))))) (fun _ _ _ _ _ => pts_nil) (fun _ _ _ _ _ => (pe_call G_law_move (hr.mono (by omega)) (by rfl) D_law_move.m D_law_move.F.kp D_law_move.b .nil pass0 (pa_cons (pv 0) (pa_cons (pv 7) (pa_cons (pv 2) (pa_cons (pv 3) pa_nil))))))) pa_nil)) pa_nil))))))) pss_nil)
      (pss_cons (ps_set (i := 8) nd rfl (.inl rfl) (pe_call G_law_pick (hr.mono (by omega)) (by rfl) D_law_pick.m D_law_pick.F.kp D_law_pick.b .nil pass0 (pa_cons (pv 0) (pa_cons (pe_callB (k_len (K := K) rfl) (by rfl) B.len PySem.boot_len (pa_cons (pv 2) pa_nil)) pa_nil))))
      (pss_one (ps_ret (pe_tup (pa_cons pe_str (pa_cons (pv 8) (pa_cons (pe_call G_law_wait (hr.mono (by omega)) (by rfl) D_law_wait.m D_law_wait.F.kp D_law_wait.b .nil pass0 (pa_cons (pv 0) (pa_cons (pv 1) (pa_cons (pe_ix (k_ixT (K := K) rfl) (pe_ix (k_ixT (K := K) rfl) (pv 2) (pv 8) (fun _ _ => rfl)) pe_int (fun _ _ => rfl)) (pa_cons (pv 3) pa_nil))))) pa_nil))))))))), ?_⟩
  obtain ⟨a, xs, ds, rfl, ha, ed, ta, l0⟩ := td_qs hvh
  obtain ⟨qa, qxs, rfl, hqa, tqa⟩ := hvq.tupE
  have lqx : qxs.length = qn.length := by rw [tqa.len, List.length_map]
  have q1 := qok.one
  have q12 := qok.most
  -- left[0] -= 1
  refine ⟨_, rfl, l, _, 0, _, rfl, rfl, SqL.of hB.hl, rfl, _, _, rfl, rfl, l, _, 0, 0, rfl, rfl, hB.hl, rfl, ?_⟩
  have B2 : BagL (upd H l (.lst ([V.int L].set 0 (.int (L - 1))))) b g l (L - 1) := hB.updL
  have F2 : Frl b g l H (upd H l (.lst ([V.int L].set 0 (.int (L - 1))))) := Frl.updL
  generalize upd H l (.lst ([V.int L].set 0 (.int (L - 1)))) = H2 at B2 F2
  have k2 := hB.kt (K := K) F2
  refine ⟨_, rfl, a, xs, rfl, .inr (k2 _ _ ha), _, _, rfl, rfl, _, rfl, ite2 (fun c1 => ?_) (fun c1 => ?_)⟩
  rotate_left
  · have B5 := B2
    have F5 := F2
    have k5 := hB.kt (K := K) F5
    refine ⟨_, rfl, _, rfl, qa, qxs, rfl, .inr (k5 _ _ hqa), b, g, qxs.length, rfl, B5.B, by omega, by rw [lqx]; omega, fun r H6 r0 r1 B6 F6 => ?_⟩
    obtain ⟨j, rfl⟩ : ∃ j : Nat, r = (j : Int) := ⟨r.toNat, by omega⟩
    have hj : j < qxs.length := by omega
    have B6 := B5.bag B6 F6
    have F6 := F5.trans (.ofF F6)
    have k6 := hB.kt (K := K) F6
    obtain ⟨dx, ex, tx⟩ := (tqa.keep k6).getV (List.getElem?_eq_getElem hj)
    obtain ⟨an, ean, rfl⟩ := map_at ex
    obtain ⟨pn, vw, vz, vt, evn, hpn, tw, tz, tt⟩ := td_an tx
    have gj : qxs[j]? = some (.ref pn) := by rw [List.getElem?_eq_getElem hj, evn]
    refine ⟨_, rfl, _, rfl, _, rfl, _, rfl, _, rfl, qa, qxs, (j : Int), _, rfl, rfl, k6 _ _ hqa, at_of (j := j) rfl gj, pn, _, 2, _, rfl, rfl, hpn, at_of (j := 2) rfl rfl, _, rfl, ?_⟩
    refine ⟨b, g, l, W, .ref a, vt, ahead, an.2.1, _, t, an.2.2, rfl, B6, hvh.keep k6, tt, hn, hok, nok an (List.mem_of_getElem? ean), fun v wt L7 H7 tv ok7 B7 F7 => ?_⟩
    refine ⟨by show 3 ≤ sizeLine; decide, fun p8 n8 => ?_⟩
    have s8 := same_upd (o := .tup [.str "tell", .int (j : Int), v]) n8
    refine q (.ref p8) (tellM n j wt) L7 _ ?_ (tellM_ok ean ok7) (B7.keep s8) ((F6.trans F7).trans (.of s8))
    rw [tellM_D]
    exact .tup (.inl (.inl upd_same)) (.cons (.str _) (.cons (.int _) (.cons (tv.keep (Same.kt s8)) .nil)))
  refine ⟨_, rfl, l, _, 0, _, rfl, rfl, SqL.of B2.hl, at_of (j := 0) rfl rfl, _, _, rfl, rfl, _, rfl, ite2 (fun c2 => ?_) (fun c2 => ?_)⟩
  rotate_left
  · have B5 := B2
    have F5 := F2
    have k5 := hB.kt (K := K) F5
    refine ⟨_, rfl, _, rfl, qa, qxs, rfl, .inr (k5 _ _ hqa), b, g, qxs.length, rfl, B5.B, by omega, by rw [lqx]; omega, fun r H6 r0 r1 B6 F6 => ?_⟩
    obtain ⟨j, rfl⟩ : ∃ j : Nat, r = (j : Int) := ⟨r.toNat, by omega⟩
    have hj : j < qxs.length := by omega
    have B6 := B5.bag B6 F6
    have F6 := F5.trans (.ofF F6)
    have k6 := hB.kt (K := K) F6
    obtain ⟨dx, ex, tx⟩ := (tqa.keep k6).getV (List.getElem?_eq_getElem hj)
    obtain ⟨an, ean, rfl⟩ := map_at ex
    obtain ⟨pn, vw, vz, vt, evn, hpn, tw, tz, tt⟩ := td_an tx
    have gj : qxs[j]? = some (.ref pn) := by rw [List.getElem?_eq_getElem hj, evn]
    refine ⟨_, rfl, _, rfl, _, rfl, _, rfl, _, rfl, qa, qxs, (j : Int), _, rfl, rfl, k6 _ _ hqa, at_of (j := j) rfl gj, pn, _, 2, _, rfl, rfl, hpn, at_of (j := 2) rfl rfl, _, rfl, ?_⟩
    refine ⟨b, g, l, W, .ref a, vt, ahead, an.2.1, _, t, an.2.2, rfl, B6, hvh.keep k6, tt, hn, hok, nok an (List.mem_of_getElem? ean), fun v wt L7 H7 tv ok7 B7 F7 => ?_⟩
    refine ⟨by show 3 ≤ sizeLine; decide, fun p8 n8 => ?_⟩
    have s8 := same_upd (o := .tup [.str "tell", .int (j : Int), v]) n8
    refine q (.ref p8) (tellM n j wt) L7 _ ?_ (tellM_ok ean ok7) (B7.keep s8) ((F6.trans F7).trans (.of s8))
    rw [tellM_D]
    exact .tup (.inl (.inl upd_same)) (.cons (.str _) (.cons (.int _) (.cons (tv.keep (Same.kt s8)) .nil)))
  refine ⟨_, rfl, b, g, 3, rfl, B2.B, by decide, by decide, fun r3 H3 r30 r31 B3 F3 => ⟨_, _, rfl, rfl, _, rfl, ?_⟩⟩
  have B5 := B2.bag B3 F3
  have F5 := F2.trans (.ofF F3)
  refine ite2 (fun c3 => ?_) (fun c3 => ?_)
  rotate_left
  · have k5 := hB.kt (K := K) F5
    refine ⟨_, rfl, _, rfl, qa, qxs, rfl, .inr (k5 _ _ hqa), b, g, qxs.length, rfl, B5.B, by omega, by rw [lqx]; omega, fun r H6 r0 r1 B6 F6 => ?_⟩
    obtain ⟨j, rfl⟩ : ∃ j : Nat, r = (j : Int) := ⟨r.toNat, by omega⟩
    have hj : j < qxs.length := by omega
    have B6 := B5.bag B6 F6
    have F6 := F5.trans (.ofF F6)
    have k6 := hB.kt (K := K) F6
    obtain ⟨dx, ex, tx⟩ := (tqa.keep k6).getV (List.getElem?_eq_getElem hj)
    obtain ⟨an, ean, rfl⟩ := map_at ex
    obtain ⟨pn, vw, vz, vt, evn, hpn, tw, tz, tt⟩ := td_an tx
    have gj : qxs[j]? = some (.ref pn) := by rw [List.getElem?_eq_getElem hj, evn]
    refine ⟨_, rfl, _, rfl, _, rfl, _, rfl, _, rfl, qa, qxs, (j : Int), _, rfl, rfl, k6 _ _ hqa, at_of (j := j) rfl gj, pn, _, 2, _, rfl, rfl, hpn, at_of (j := 2) rfl rfl, _, rfl, ?_⟩
    refine ⟨b, g, l, W, .ref a, vt, ahead, an.2.1, _, t, an.2.2, rfl, B6, hvh.keep k6, tt, hn, hok, nok an (List.mem_of_getElem? ean), fun v wt L7 H7 tv ok7 B7 F7 => ?_⟩
    refine ⟨by show 3 ≤ sizeLine; decide, fun p8 n8 => ?_⟩
    have s8 := same_upd (o := .tup [.str "tell", .int (j : Int), v]) n8
    refine q (.ref p8) (tellM n j wt) L7 _ ?_ (tellM_ok ean ok7) (B7.keep s8) ((F6.trans F7).trans (.of s8))
    rw [tellM_D]
    exact .tup (.inl (.inl upd_same)) (.cons (.str _) (.cons (.int _) (.cons (tv.keep (Same.kt s8)) .nil)))
  have k5 := hB.kt (K := K) F5
  have hxs : 0 < xs.length := by
    have := of_decide_eq_true c1
    omega
  cases n with
  | zero =>
    have := l0 rfl
    subst this
    exact absurd hxs (Nat.lt_irrefl 0)
  | succ n =>
    have hsp := hsp n rfl
    subst hsp
    obtain ⟨qs, hqs⟩ : ∃ qs : List (Qn n), (qs : Nd (n + 1)) = t := ⟨t, rfl⟩
    subst hqs
    cases ed
    have lx : xs.length = qs.length := by rw [ta.len, List.length_map]
    have l5 : qs.length ≤ 5 := hok.1
    refine ⟨_, rfl, _, rfl, a, xs, rfl, .inr (k5 _ _ ha), b, g, xs.length, rfl, B5.B, by omega, by omega, fun r H6 r0 r1 B6 F6 => ?_⟩
    obtain ⟨j, rfl⟩ : ∃ j : Nat, r = (j : Int) := ⟨r.toNat, by omega⟩
    have hj : j < xs.length := by omega
    have B6 := B5.bag B6 F6
    have F6 := F5.trans (.ofF F6)
    have k6 := hB.kt (K := K) F6
    obtain ⟨dx, ex, tx⟩ := (ta.keep k6).getV (List.getElem?_eq_getElem hj)
    obtain ⟨qj, eqj, rfl⟩ := map_at ex
    obtain ⟨qjok, njok⟩ := hok.2 qj (List.mem_of_getElem? eqj)
    have q12j := qjok.most
    obtain ⟨pj, jxs, evj, hpj, tpj⟩ := tx.tupE
    have ljx : jxs.length = qj.length := by rw [tpj.len, List.length_map]
    have gj : xs[j]? = some (.ref pj) := by rw [List.getElem?_eq_getElem hj, evj]
    refine ⟨_, rfl, _, rfl, _, rfl, a, xs, (j : Int), _, rfl, rfl, k6 _ _ ha, at_of (j := j) rfl gj, pj, rfl, ⟨_, hpj⟩, fun T hT => ?_⟩
    obtain ⟨Tb, Tg, Tl'⟩ := B6.neNew hT
    have sT := same_upd (o := .lst []) hT
    refine lc_it (walk_tup (K := K) (a := pj) (xs := jxs)) (fun i H7 => ∃ (us : List V) (ms : List (Mv m n)) (L7 : Int), H7 T = some (.lst us) ∧ TdAll K H7 us (ms.map (mvD (waitD m) n)) ∧ Al (fun (an : An n) (y : Mv m n) => MvOk (WtOk m) n an.2.2 qn y) (qj.take i) ms ∧ BagL H7 b g l L7 ∧ Frl b g l H6 H7) ⟨[], [], _, upd_same, .nil, .nil, B6.updN Tb Tg Tl', .of sT⟩ (fun i H7 _ h => ?_) ?_ ?_
    · obtain ⟨_, _, _, _, _, _, _, F7⟩ := h
      exact B6.kt F7 _ _ hpj
    · rintro i x H0 H7 hi ⟨us, ms, L7, h7, t7, al, B7, F7⟩ ⟨rfl, e7⟩
      obtain ⟨dx, ex, tx⟩ := tpj.getV e7
      obtain ⟨an, ean, rfl⟩ := map_at ex
      have k7 := B6.kt (K := K) F7
      obtain ⟨p, vw, vz, vt, rfl, hp, tw, tz, tt⟩ := td_an (tx.keep k7)
      refine ⟨p, _, rfl, hp, rfl, _, _, rfl, _, _, rfl, _, _, rfl, rfl, rfl, ?_⟩
      refine iteT (B := ∃ (us : List V) (ms : List (Mv m n)) (L7 : Int), H7 T = some (.lst us) ∧ TdAll K H7 us (ms.map (mvD (waitD m) n)) ∧ Al (fun (an : An n) (y : Mv m n) => MvOk (WtOk m) n an.2.2 qn y) (qj.take (i + 1)) ms ∧ BagL H7 b g l L7 ∧ Frl b g l H6 H7) ?_
      have k07 := hB.kt (K := K) (F6.trans F7)
      refine ⟨_, rfl, _, rfl, _, rfl, _, rfl, b, g, l, W, vt, .ref qa, an.2.1, ahead', L7, an.2.2, qn, rfl, B7, tt, hvq.keep k07, by omega, njok an (List.mem_of_getElem? ean), qok, nok, fun v mv L8 H8 tv ok8 B8 F8 => ?_⟩
      have k8 := B7.kt (K := K) F8
      have h8 := F8 T _ h7 Tb Tg Tl'
      have kT : KT K H8 (upd H8 T (.lst (us ++ [v]))) := KT.updL h8
      refine ⟨us, h8, ?_, us ++ [v], ms ++ [mv], L8, upd_same, ?_, ?_, B8.updN Tb Tg Tl', (F7.trans F8).updN hT⟩
      · rw [t7.len, List.length_map, ← al.len, List.length_take]
        exact small1000 (by omega)
      · rw [List.map_append]
        exact (t7.keep (k8.trans kT)).app (.cons (tv.keep kT) .nil)
      · rw [List.take_add_one, ean]
        exact Al.snoc (R := fun (an : An n) (y : Mv m n) => MvOk (WtOk m) n an.2.2 qn y) ok8 al
    · rintro H7 ⟨us, ms, L7, h7, t7, al, B7, F7⟩
      rw [ljx, List.take_length] at al
      refine ⟨T, us, rfl, SqL.of h7, fun v H8 s8 q8 => ?_⟩
      refine ⟨by show 3 ≤ sizeLine; decide, fun p9 n9 => ?_⟩
      have s9 := same_upd (o := .tup [.str "ask", .int (j : Int), .ref v]) n9
      have s79 := s8.trans s9
      refine q (.ref p9) (.inr (j, ms)) L7 _ ?_ ⟨qj, eqj, al⟩ (B7.keep s79) ((F6.trans F7).trans (.of s79))
      exact .tup (.inl (.inl upd_same)) (.cons (.str _) (.cons (.int _) (.cons (.tup (Same.kt s9 _ _ q8) (t7.keep (Same.kt s79))) .nil)))
def lvW (m : Nat) : Nat := 2 + 8 * m
theorem ok_law_plans {f f1 f2 : Addr} {fd fd1 fd2 : FuncData} (D_law_move : Dn K mg "_law_move" s_law_move ["bag", "here", "question", "left"] f fd) (B : Blt mg) (D_law_pick : Dn K mg "_law_pick" s_law_pick ["bag", "many"] f1 fd1) (D_law_wait : Dn K mg "_law_wait" s_law_wait ["bag", "here", "goal", "left"] f2 fd2) :
    ∀ m n : Nat, n ≤ 6 → FnOk P w K mg base CX0 (2 + 8 * m) f2 fd2 ["bag", "here", "goal", "left"] (spWait K m n) ∧ FnOk P w K mg base CX0 (3 + 8 * m + n) f fd ["bag", "here", "question", "left"] (spMove K m n) := by
  have no : ∀ k, FnOk P w K mg base CX0 k f fd ["bag", "here", "question", "left"] (fun _ _ _ _ => False) := fun k => ⟨fun vs H Q E h => h.elim, fun A outer s H args us vs Q E _ _ _ _ h => h.elim⟩
  have step : ∀ m : Nat, (∀ m', m = m' + 1 → ∀ n, n ≤ 6 → FnOk P w K mg base CX0 (3 + 8 * m' + n) f fd ["bag", "here", "question", "left"] (spMove K m' n)) → ∀ n : Nat, n ≤ 6 → FnOk P w K mg base CX0 (2 + 8 * m) f2 fd2 ["bag", "here", "goal", "left"] (spWait K m n) ∧ FnOk P w K mg base CX0 (3 + 8 * m + n) f fd ["bag", "here", "question", "left"] (spMove K m n) := by
    intro m IH
    have wait : ∀ n : Nat, n ≤ 6 → FnOk P w K mg base CX0 (2 + 8 * m) f2 fd2 ["bag", "here", "goal", "left"] (spWait K m n) := by
      intro n hn
      cases m with
      | zero => exact ok_law_wait (k := 1) D_law_wait B D_law_move (no 1) (fun m' e => by omega)
      | succ m' =>
        have G := IH m' rfl n hn
        rw [show 2 + 8 * (m' + 1) = (9 + 8 * m') + 1 by omega]
        exact ok_law_wait D_law_wait B D_law_move (G.mono (by omega)) (fun m2 e => by rw [show m2 = m' by omega])
    have move : ∀ n : Nat, n ≤ 6 → FnOk P w K mg base CX0 (3 + 8 * m + n) f fd ["bag", "here", "question", "left"] (spMove K m n) := by
      intro n
      induction n with
      | zero =>
        intro hn
        rw [show 3 + 8 * m + 0 = (2 + 8 * m) + 1 by omega]
        exact ok_law_move D_law_move B D_law_pick D_law_wait (wait 0 hn) (no _) (fun n' e => by omega) (by omega)
      | succ n ih =>
        intro hn
        rw [show 3 + 8 * m + (n + 1) = (3 + 8 * m + n) + 1 by omega]
        exact ok_law_move D_law_move B D_law_pick D_law_wait ((wait (n + 1) hn).mono (by omega)) (ih (by omega)) (fun n' e => by rw [show n' = n by omega]) (by omega)
    exact fun n hn => ⟨wait n hn, move n hn⟩
  intro m
  induction m with
  | zero => exact step 0 (fun m' e => by omega)
  | succ m ih => exact step (m + 1) (fun m' e n hn => by rw [show m' = m by omega]; exact (ih n hn).2)
end
end Tl
namespace Tl
open PySem PySem.Spec PyProof.Rows L2 RZ
theorem mk_pos {p s : Nat} (hp : 1 ≤ p) (hs : 0 < s) : (0 : Rat) < mkRat (p : Int) s := by
  have h1 : 0 < (mkRat (p : Int) s).num := by
    rw [(mkRat_parts (p : Int) s hs).1, Int.natAbs_natCast]
    have hg : 0 < Nat.gcd p s := Nat.gcd_pos_of_pos_right _ hs
    have hd : Nat.gcd p s ≤ p := Nat.le_of_dvd hp (Nat.gcd_dvd_left p s)
    have := Nat.div_pos hd hg
    rw [← Int.natCast_ediv]
    omega
  refine (Rat.lt_iff _ _).mpr ?_
  show (0 : Int) * _ < (mkRat (p : Int) s).num * ((1 : Nat) : Int)
  omega
theorem frm_new {b g p : Addr} {H H' : Hp} (f : Frm b g H H') (h : H' p = none) (h1 : p ≠ b) (h2 : p ≠ g) : H p = none := by
  cases e : H p with
  | none => rfl
  | some o =>
    rw [f p o e h1 h2] at h
    cases h
def spShares1 (K : PySem.W.Frag) : Sp := fun vs H Q _ => ∃ (b g : Addr) (m : Nat), vs = [.ref b, .int (m : Int), .int 1] ∧ Bag H b g ∧ 1 ≤ m ∧ m ≤ 12 ∧
  ∀ (r : Addr) (rs : List Rat) (us : List V) (H' : Hp), IsShares m rs → (∀ r ∈ rs, 0 < r) → H' r = some (.lst us) → TdAll K H' us (rs.map rD) → H r = none → Bag H' b g → Frm b g H H' → Q (.ref r) H'
/-! ### go-betweens -/
abbrev Bw (m n : Nat) : Type := List (Rat × Wt m n)
def bwI (m n : Nat) (x : Rat × Wt m n) : PyData := .tuple [rD x.1, waitD m n x.2]
def bwD (m n : Nat) (bs : Bw m n) : PyData := .tuple (bs.map (bwI m n))
structure BwOk (m n : Nat) (t : Nd n) (gs : Nd m) (bs : Bw m n) : Prop where
  one : 1 ≤ bs.length
  most : bs.length ≤ 3
  ch : ∀ x ∈ bs, Ch 1 x.1 ∧ 0 < x.1
  sum : fsum (bs.map (·.1)) = 1
  ok : ∀ x ∈ bs, WtOk m n t gs x.2
def spBw (K : PySem.W.Frag) (m n : Nat) : Sp := fun vs H Q _ => ∃ (b g : Addr) (W p : Nat) (vh vg : V) (ahead ahead' : List Rat) (t : Nd n) (gs : Nd m), vs = [.ref b, vh, vg, .int (p : Int)] ∧ Bag H b g ∧ Td K H vh (ndD n t) ∧ Td K H vg (ndD m gs) ∧ n ≤ 6 ∧ 1 ≤ p ∧ p ≤ 3 ∧ NdOk W n ahead t ∧ NdOk W m ahead' gs ∧
  ∀ (v : V) (bs : Bw m n) (H' : Hp), Td K H' v (bwD m n bs) → BwOk m n t gs bs → ((∀ x ∈ bs, Ch 1 x.1) ∧ bs.length ≤ p) → Bag H' b g → Frm b g H H' → Q v H'
section
variable {P : Program} {w : World} {K : PySem.W.Frag} {mg : Str → Option Value} {base : Heap}
theorem ok_law_shares1 {f f1 f2 f3 : Addr} {fd fd1 fd2 fd3 : FuncData} (D : Dn K mg "_law_shares" s_law_shares ["bag", "many", "least"] f fd) (B : Blt mg) (D_law_low : Dn K mg "_law_low" s_law_low ["top", "bottom"] f1 fd1) (D_law_common : Dn K mg "_law_common" s_law_common ["one", "other"] f2 fd2)
    (D_law_pick : Dn K mg "_law_pick" s_law_pick ["bag", "many"] f3 fd3) : FnOk P w K mg base CX0 3 f fd ["bag", "many", "least"] (spShares1 K) := by
  have G_law_low : FnOk P w K mg base CX0 2 f1 fd1 ["top", "bottom"] (spLow K) := ok_law_low D_law_low B D_law_common
  have G_law_pick : FnOk P w K mg base CX0 1 f3 fd3 ["bag", "many"] spPick := ok_law_pick D_law_pick B
  refine D.F.ok sc_law_shares (fun vs H Q E h => ?_) (fun cdv A outer s H vs Q E hr h => ?_)
  · obtain ⟨b, g, m, rfl, _⟩ := h
    rfl
  obtain ⟨b, g, m, rfl, hB, hm1, hm2, q⟩ := h
  have nd := sc_law_shares.nd
  refine ⟨_, (pss_cons (ps_set (i := 3) nd rfl (.inr rfl) (pe_lc (own := [("k", 4)]) rfl nd (pi_range1 (by rfl) B.range (pa_cons (pv 1) pa_nil)) (blkOk_by (own := [("k", 4)]) (by kernel_rfl)) (fun _ _ _ _ _ => (pg_name (i := 4) nd rfl (.inl rfl))) (fun _ _ _ _ _ => pts_nil) (fun _ _ _ _ _ => (pe_op op_add (pv 2) (pe_call G_law_pick (hr.mono (by omega)) (by rfl) D_law_pick.m D_law_pick.F.kp D_law_pick.b .nil pass0 (pa_cons (pv 0) (pa_cons pe_int pa_nil)))))))
      (pss_cons (ps_augS (pv 3) (pe_call G_law_pick (hr.mono (by omega)) (by rfl) D_law_pick.m D_law_pick.F.kp D_law_pick.b .nil pass0 (pa_cons (pv 0) (pa_cons (pv 1) pa_nil))) (k_getL (K := K) rfl) pe_int ip_add set_list)
      (pss_one (ps_ret (pe_lc (own := [("part", 5)]) rfl nd (k_iL (K := K) rfl (pv 3)) (blkOk_by (own := [("part", 5)]) (by kernel_rfl)) (fun _ _ _ _ _ => (pg_name (i := 5) nd rfl (.inl rfl))) (fun _ _ _ _ _ => pts_nil) (fun _ _ _ _ _ => (pe_call G_law_low (hr.mono (by omega)) (by rfl) D_law_low.m D_law_low.F.kp D_law_low.b .nil pass0 (pa_cons (pv 5) (pa_cons (pe_callB (k_sum (K := K) rfl rfl) (by rfl) B.sum (by decide +kernel) (pa_cons (pv 3) pa_nil)) pa_nil))))))))), ?_⟩
  -- parts = [least + _law_pick(bag, 4) for k in range(many)]
  refine ⟨_, rfl, _, rfl, by omega, by omega, fun d hd => ?_⟩
  obtain ⟨db, dg⟩ := hB.neNew hd
  refine lc_range (lo := 0) (n := m) (fun i H3 => ∃ ps : List Nat, ps.length = i ∧ (∀ p ∈ ps, 1 ≤ p ∧ p ≤ 4) ∧ H3 d = some (.lst ((nI ps).map V.int)) ∧ Bag H3 b g ∧ Frm b g H H3) ⟨[], rfl, fun _ h => absurd h List.not_mem_nil, upd_same, hB.updN db dg, (Frm.refl b g H).updN hd⟩ ?_ ?_
  · rintro i H3 hi ⟨ps, hp1, hp2, h3, B3, F3⟩
    refine ⟨rfl, ?_⟩
    refine iteT (B := ∃ ps : List Nat, ps.length = i + 1 ∧ (∀ p ∈ ps, 1 ≤ p ∧ p ≤ 4) ∧ H3 d = some (.lst ((nI ps).map V.int)) ∧ Bag H3 b g ∧ Frm b g H H3) ?_
    refine ⟨_, rfl, _, rfl, b, g, 4, rfl, B3, by decide, by decide, fun r H4 r0 r1 B4 F4 => ⟨_, _, rfl, rfl, ?_⟩⟩
    have h4 := F4 d _ h3 db dg
    refine ⟨_, h4, by rw [List.length_map, nI, List.length_map]; exact small1000 (by omega), ps ++ [((1 : Int) + r).toNat], by rw [List.length_append, hp1]; rfl, ?_, ?_, B4.updN db dg, (F3.trans F4).updN hd⟩
    · intro p hp
      rcases List.mem_append.mp hp with hp | hp
      · exact hp2 p hp
      · rw [List.mem_singleton.mp hp]
        omega
    · rw [upd_same, nI, nI, List.map_append, List.map_append]
      show some (HO.lst (_ ++ [V.int ((1 : Int) + r)])) = some (HO.lst (_ ++ [V.int ((((1 : Int) + r).toNat : Nat) : Int)]))
      rw [show ((((1 : Int) + r).toNat : Nat) : Int) = (1 : Int) + r by omega]
  rintro H3 ⟨ps, hp1, hp2, h3, B3, F3⟩
  -- parts[_law_pick(bag, many)] += 1
  refine ⟨_, rfl, _, rfl, _, rfl, b, g, (m : Int), rfl, B3, by omega, by omega, fun r H4 r0 r1 B4 F4 => ?_⟩
  have h4 := F4 d _ h3 db dg
  obtain ⟨j, ej⟩ : ∃ j : Nat, r = (j : Int) := ⟨r.toNat, by omega⟩
  have hj : j < ps.length := by omega
  have gj : ps[j]? = some ps[j] := List.getElem?_eq_getElem hj
  have gI : ((nI ps).map V.int)[j]? = some (.int ((ps[j] : Nat) : Int)) := by
    rw [List.getElem?_map, nI, List.getElem?_map, gj]
    rfl
  refine ⟨d, _, j, _, rfl, by rw [ej], SqL.of h4, gI, _, _, rfl, rfl, d, _, r, j, rfl, rfl, h4, ?_, ?_⟩
  · rw [List.length_map, nI, List.length_map]
    unfold ixN
    rw [if_pos r0, if_pos (by omega)]
    exact congrArg some (by omega)
  have h5 : (upd H4 d (.lst (((nI ps).map V.int).set j (.int (((ps[j] : Nat) : Int) + 1))))) d = some (.lst ((nI (ps.set j (ps[j] + 1))).map V.int)) := by
    rw [upd_same, nI, nI, List.map_set, List.map_set]
    rfl
  have B5 : Bag (upd H4 d (.lst (((nI ps).map V.int).set j (.int (((ps[j] : Nat) : Int) + 1))))) b g := B4.updN db dg
  have F5 : Frm b g H (upd H4 d (.lst (((nI ps).map V.int).set j (.int (((ps[j] : Nat) : Int) + 1))))) := (F3.trans F4).updN hd
  generalize upd H4 d (.lst (((nI ps).map V.int).set j (.int (((ps[j] : Nat) : Int) + 1)))) = H5 at h5 B5 F5
  have hsum := sum_bump ps j _ gj
  have hle := sum_le5 ps (fun x hx => (hp2 x hx).2)
  have hlen : (ps.set j (ps[j] + 1)).length = m := by rw [List.length_set]; exact hp1
  have hpos : ∀ p ∈ ps.set j (ps[j] + 1), 1 ≤ p := fun p hp => by
    rcases List.mem_or_eq_of_mem_set hp with z | z
    · exact (hp2 p z).1
    · omega
  generalize ps.set j (ps[j] + 1) = us at h5 hsum hlen hpos
  -- return [_law_low(part, sum(parts)) for part in parts]
  have hs0 : 0 < us.sum := by omega
  have hs1 : us.sum ≤ 5 * m + 1 := by omega
  refine ⟨_, rfl, d, rfl, ⟨_, SqL.of h5⟩, fun e he => ?_⟩
  obtain ⟨eb, eg⟩ := B5.neNew he
  have heH : H e = none := by
    cases z : H e with
    | none => rfl
    | some o =>
      rw [F5 e o z eb eg] at he
      cases he
  have hl5 : ((nI us).map V.int).length = m := by rw [List.length_map, nI, List.length_map, hlen]
  refine lc_list (K := K) (a := d) (xs := (nI us).map V.int) (fun i H6 => ∃ ws : List V, H6 e = some (.lst ws) ∧ TdAll K H6 ws ((us.take i).map fun (p : Nat) => rD (mkRat (p : Int) us.sum)) ∧ Same H5 H6) ⟨[], upd_same, .nil, same_upd he⟩ (fun i H6 _ h => by obtain ⟨_, _, _, s6⟩ := h; exact s6.seq (SqL.of h5)) ?_ ?_
  · rintro i y H6 hi ⟨ws, h6, t6, s6⟩
    obtain ⟨z, hz, rfl⟩ := int_at hi
    obtain ⟨p, hp, rfl⟩ : ∃ p : Nat, us[i]? = some p ∧ z = (p : Int) := by
      rw [nI, List.getElem?_map] at hz
      cases q2 : us[i]? with
      | none =>
        rw [q2] at hz
        cases hz
      | some p =>
        rw [q2] at hz
        exact ⟨p, rfl, (Option.some.inj hz).symm⟩
    have hi2 : i < us.length := (List.getElem?_eq_some_iff.mp hp).1
    refine ⟨rfl, ?_⟩
    refine iteT (B := ∃ ws : List V, H6 e = some (.lst ws) ∧ TdAll K H6 ws ((us.take (i + 1)).map fun (p : Nat) => rD (mkRat (p : Int) us.sum)) ∧ Same H5 H6) ?_
    refine ⟨_, rfl, _, rfl, d, nI us, rfl, SqL.of (s6 _ _ h5), (p : Int), us.sum, by rw [nI_sum]; rfl, hs0, ?_, fun v H7 s7 hv => ?_⟩
    · exact Nat.lt_of_le_of_lt (Nat.le_trans hs1 (show 5 * m + 1 ≤ 2 ^ 10 by omega)) (Nat.pow_lt_pow_right (by decide) (by decide))
    · have h7 := s7 _ _ h6
      have kt7 : KT K H7 (upd H7 e (.lst (ws ++ [v]))) := KT.updL h7
      have kt : KT K H6 (upd H7 e (.lst (ws ++ [v]))) := (Same.kt s7).trans kt7
      refine ⟨ws, h7, ?_, ws ++ [v], upd_same, ?_, fun a o q => ?_⟩
      · rw [t6.len, List.length_map, List.length_take]
        exact small1000 (by omega)
      · rw [List.take_add_one, hp, List.map_append]
        exact (t6.keep kt).app (.cons (hv.keep kt7) .nil)
      · rw [upd_ne (ne_of_none q he)]
        exact s7 _ _ (s6 _ _ q)
  · rintro H6 ⟨ws, h6, t6, s6⟩
    rw [hl5, ← hlen, List.take_length] at t6
    have t7 : TdAll K H6 ws ((us.map fun (p : Nat) => mkRat (p : Int) us.sum).map rD) := by
      rw [List.map_map]
      exact t6
    exact q e _ ws H6 ⟨us, hlen, hs0, hs1, rfl⟩ (fun r hr => by obtain ⟨p, hp, rfl⟩ := List.mem_map.mp hr; exact mk_pos (hpos p hp) hs0) h6 t7 heH (B5.keep s6) (F5.trans (Frm.of s6))
end
end Tl
namespace Tl
open PySem PySem.Spec PyProof.Rows L2 RZ
/-! ### plans judged: right ones -/
def spIsW (K : PySem.W.Frag) (m n : Nat) : Sp := fun vs H Q _ => ∃ (W : Nat) (vt vg vh : V) (ahead ahead' : List Rat) (t : Nd n) (gs : Nd m) (wt : Wt m n), vs = [vt, vg, vh] ∧ Td K H vt (waitD m n wt) ∧ Td K H vg (ndD m gs) ∧ Td K H vh (ndD n t) ∧ NdOk W n ahead t ∧ NdOk W m ahead' gs ∧ WtOk m n t gs wt ∧ ∀ H', Same H H' → Q (.bl true) H'
def spIsM (K : PySem.W.Frag) (m n : Nat) : Sp := fun vs H Q _ => ∃ (W : Nat) (vt vq vh : V) (ahead ahead' : List Rat) (t : Nd n) (q : Qn m) (mv : Mv m n), vs = [vt, vq, vh] ∧ Td K H vt (mvD (waitD m) n mv) ∧ Td K H vq (qnD m q) ∧ Td K H vh (ndD n t) ∧ NdOk W n ahead t ∧ QnOk W ahead' q ∧ (∀ a ∈ q, NdOk W m a.2.1 a.2.2) ∧ MvOk (WtOk m) n t q mv ∧ ∀ H', Same H H' → Q (.bl true) H'
theorem mv_cases {m n : Nat} {t : Nd n} {q : Qn m} {mv : Mv m n} (h : MvOk (WtOk m) n t q mv) : (∃ (a : Nat) (w : Wt m n) (an : An m), mvD (waitD m) n mv = tellD a (waitD m n w) ∧ q[a]? = some an ∧ WtOk m n t an.2.2 w) ∨
    (∃ (n' : Nat) (e : n = n' + 1) (i : Nat) (ms : List (Mv m n')) (qs : List (Qn n')) (qn : Qn n'), HEq t qs ∧ mvD (waitD m) n mv = askD2 i (ms.map (mvD (waitD m) n')) ∧ ndD n t = .tuple (qs.map (qnD n')) ∧ qs[i]? = some qn ∧ Al (fun (an : An n') (y : Mv m n') => MvOk (WtOk m) n' an.2.2 q y) qn ms) := by
  cases n with
  | zero =>
    obtain ⟨an, h1, h2⟩ := h
    exact .inl ⟨mv.1, mv.2, an, rfl, h1, h2⟩
  | succ n =>
    cases mv with
    | inl x =>
      obtain ⟨an, h1, h2⟩ := h
      exact .inl ⟨x.1, x.2, an, rfl, h1, h2⟩
    | inr x =>
      obtain ⟨qn, h1, h2⟩ := h
      exact .inr ⟨n, rfl, x.1, x.2, t, qn, HEq.rfl, rfl, rfl, h1, h2⟩
section
variable {P : Program} {w : World} {K : PySem.W.Frag} {mg : Str → Option Value} {base : Heap}
theorem ok_is_wait {m n : Nat} {f f1 : Addr} {fd fd1 : FuncData} {k : Nat} (D : Dn K mg "is_wait" s_is_wait ["thing", "waiting", "stand"] f fd) (B : Blt mg) (D_is_move : Dn K mg "is_move" s_is_move ["thing", "question", "stand"] f1 fd1) {sp0 : Sp} (G_is_move : FnOk P w K mg base CX0 k f1 fd1 ["thing", "question", "stand"] sp0) (hsp : ∀ m', m = m' + 1 → sp0 = spIsM K m' n) :
    FnOk P w K mg base CX0 (k + 1) f fd ["thing", "waiting", "stand"] (spIsW K m n) := by
  refine D.F.ok sc_is_wait (fun vs H Q E h => ?_) (fun cdv A outer s H vs Q E hr h => ?_)
  · obtain ⟨W, vt, vg, vh, ahead, ahead', t, gs, wt, rfl, _⟩ := h
    rfl
  obtain ⟨W, vt, vg, vh, ahead, ahead', t, gs, wt, rfl, hv, hg, hh, hok, gok, wok, q⟩ := h
  have nd := sc_is_wait.nd
  refine ⟨_, (pss_cons (ps_if (PW.pt (pw_or (pt_not (pt_val (pe_callB (k_isi (K := K) rfl) (by rfl) B.isinstance (by decide +kernel) (pa_cons (pv 0) (pa_cons (pe_bltn (v := .ty "tuple") (u := .type "tuple") (by rfl) B.tuple (by decide +kernel) rfl) pa_nil))))) (pw_or1 (pt_cmpR op_ne (pe_callB (k_len (K := K) rfl) (by rfl) B.len PySem.boot_len (pa_cons (pv 0) pa_nil)) (pe_callB (k_len (K := K) rfl) (by rfl) B.len PySem.boot_len (pa_cons (pv 1) pa_nil)) (nomark _))))) (pss_one (ps_ret pe_bl)) pss_nil)
      (pss_one (ps_ret (pe_callB (k_all (K := K) rfl rfl) (by rfl) B.all (by decide +kernel) (pa_cons (pe_lc (own := [("move", 3), ("question", 4)]) rfl nd (k_zip (K := K) rfl (by rfl) B.zip (pa_cons (pv 0) (pa_cons (pv 1) pa_nil))) (blkOk_by (own := [("move", 3), ("question", 4)]) (by kernel_rfl)) (fun _ _ _ _ _ => (k_tup (K := K) (n := 2) rfl rfl (pgs_cons (pg_name (i := 3) nd rfl (.inl rfl)) (pgs_cons (pg_name (i := 4) nd rfl (.inl rfl)) pgs_nil)))) (fun _ _ _ _ _ => pts_nil) (fun _ _ _ _ _ => (pe_call G_is_move (hr.mono (by omega)) (by rfl) D_is_move.m D_is_move.F.kp D_is_move.b .nil pass0 (pa_cons (pv 3) (pa_cons (pv 4) (pa_cons (pv 2) pa_nil)))))) pa_nil))))), ?_⟩
  obtain ⟨a, b, xs, ys, N, rfl, rfl, ha, hb, lx, ly, l5, each⟩ : ∃ (a b : Addr) (xs ys : List V) (N : Nat), vt = .ref a ∧ vg = .ref b ∧ SqT K H a xs ∧ SqT K H b ys ∧ xs.length = N ∧ ys.length = N ∧ N ≤ 5 ∧
      ∀ (i : Nat) (x y : V), xs[i]? = some x → ys[i]? = some y → ∀ (H2 : Hp) (Q' : VK) (E' : XK), Same H H2 → (∀ H3, Same H2 H3 → Q' (.bl true) H3) → sp0 [x, y, vh] H2 Q' E' := by
    cases m with
    | zero =>
      obtain ⟨a, xs, rfl, ha, ta⟩ := Td.tupE (show Td K H vt (.tuple []) from hv)
      obtain ⟨b, ys, rfl, hb, tb'⟩ := Td.tupE (show Td K H vg (.tuple []) from hg)
      cases ta
      cases tb'
      exact ⟨a, b, [], [], 0, rfl, rfl, ha, hb, rfl, rfl, by decide, fun i x y h => by simp at h⟩
    | succ m =>
      have hsp := hsp m rfl
      subst hsp
      obtain ⟨a, xs, rfl, ha, ta⟩ := Td.tupE (show Td K H vt (.tuple ((show List (Mv m n) from wt).map (mvD (waitD m) n))) from hv)
      obtain ⟨b, ys, rfl, hb, tb'⟩ := Td.tupE (show Td K H vg (.tuple ((show List (Qn m) from gs).map (qnD m))) from hg)
      have al : Al (fun (q : Qn m) (y : Mv m n) => MvOk (WtOk m) n t q y) (show List (Qn m) from gs) (show List (Mv m n) from wt) := wok
      have lal := al.len
      have lx : xs.length = (show List (Mv m n) from wt).length := by rw [ta.len, List.length_map]
      have ly : ys.length = (show List (Qn m) from gs).length := by rw [tb'.len, List.length_map]
      refine ⟨a, b, xs, ys, (show List (Qn m) from gs).length, rfl, rfl, ha, hb, lx.trans lal.symm, ly, gok.1, fun i x y h1 h2 H2 Q' E' s2 q' => ?_⟩
      obtain ⟨dx, ex, tx⟩ := ta.getV h1
      obtain ⟨dy, ey, ty⟩ := tb'.getV h2
      obtain ⟨mv, em, rfl⟩ := mapAt ex
      obtain ⟨qq, eq, rfl⟩ := mapAt ey
      obtain ⟨mv', em', okm⟩ := al.get eq
      rw [em] at em'
      cases em'
      obtain ⟨qok, nk⟩ := gok.2 qq (List.mem_of_getElem? eq)
      exact ⟨W, x, y, vh, ahead, ahead', t, qq, mv, rfl, tx.keep (Same.kt s2), ty.keep (Same.kt s2), hh.keep (Same.kt s2), hok, qok, nk, okm, q'⟩
  refine ⟨_, rfl, _, _, _, _, true, rfl, .ty "tuple", tyx_tup ha, kit_ty (by decide +kernel), _, rfl, iteF ?_⟩
  refine ⟨_, rfl, a, _, rfl, .inr ha, _, rfl, b, _, rfl, .inr hb, rfl, _, rfl, ?_⟩
  rw [lx, ly, decide_eq_true rfl]
  refine iteF ?_
  refine ⟨_, rfl, _, rfl, a, b, xs, ys, rfl, .inr ⟨ha, hb, fun T hT => ?_⟩⟩
  refine lc_it (walk_zipT (K := K) (a := a) (b := b) (xs := xs) (ys := ys) (n := N) (by omega)) (fun i H2 => H2 T = some (.lst ((List.replicate i true).map V.bl)) ∧ Same H H2) ⟨upd_same, same_upd hT⟩ (fun i H2 _ h => ⟨Same.kt h.2 _ _ ha, Same.kt h.2 _ _ hb⟩) ?_ ?_
  · rintro i y H2 H3 hi ⟨h2, s2⟩ ⟨T2, x', y', rfl, n2, rfl, g1, g2⟩
    have s3 : Same H2 (upd H2 T2 (.tup [x', y'])) := same_upd n2
    refine ⟨T2, _, rfl, .inl (.inl upd_same), rfl, _, _, rfl, _, _, rfl, rfl, ?_⟩
    refine ⟨rfl, ?_⟩
    refine iteT (B := (upd H2 T2 (.tup [x', y'])) T = some (.lst ((List.replicate (i + 1) true).map V.bl)) ∧ Same H (upd H2 T2 (.tup [x', y']))) ?_
    refine ⟨_, rfl, _, rfl, _, rfl, each i x' y' g1 g2 _ _ _ (s2.trans s3) fun H4 s4 => ?_⟩
    refine ⟨_, s4 _ _ (s3 _ _ h2), ?_, ?_, fun c o z => ?_⟩
    · rw [List.length_map, List.length_replicate]
      exact small1000 (by omega)
    · rw [upd_same, ← rep_snoc, List.map_append]
      rfl
    · rw [upd_ne (ne_of_none z hT)]
      exact s4 _ _ (s3 _ _ (s2 _ _ z))
  · rintro H2 ⟨h2, s2⟩
    refine ⟨T, _, rfl, SqL.of h2, ?_⟩
    rw [all_rep]
    exact q H2 s2
theorem and_true2 {a b : Prop} [Decidable a] [Decidable b] (h1 : a) (h2 : b) : (decide a && decide b) = true := by
  rw [decide_eq_true h1, decide_eq_true h2]
  rfl
theorem ok_is_move {m n : Nat} {f f1 f2 f3 : Addr} {fd fd1 fd2 fd3 : FuncData} {k : Nat} (D : Dn K mg "is_move" s_is_move ["thing", "question", "stand"] f fd) (B : Blt mg) (BS : mg "str" = none) (D_is_number : Dn K mg "is_number" s_is_number ["thing", "least", "most"] f1 fd1) (D_is_integral : Dn K mg "is_integral" s_is_integral ["thing"] f2 fd2)
    (D_is_wait : Dn K mg "is_wait" s_is_wait ["thing", "waiting", "stand"] f3 fd3) (G_is_wait : FnOk P w K mg base CX0 k f3 fd3 ["thing", "waiting", "stand"] (spIsW K m n)) {sp0 : Sp} (G_is_move : FnOk P w K mg base CX0 k f fd ["thing", "question", "stand"] sp0) (hsp : ∀ n', n = n' + 1 → sp0 = spIsM K m n') (hk : 2 ≤ k) :
    FnOk P w K mg base CX0 (k + 1) f fd ["thing", "question", "stand"] (spIsM K m n) := by
  have G_is_number : FnOk P w K mg base CX0 2 f1 fd1 ["thing", "least", "most"] spNumber := ok_is_number D_is_number B D_is_integral
  refine D.F.ok sc_is_move (fun vs H Q E h => ?_) (fun cdv A outer s H vs Q E hr h => ?_)
  · obtain ⟨W, vt, vq, vh, ahead, ahead', t, q, mv, rfl, _⟩ := h
    rfl
  obtain ⟨W, vt, vq, vh, ahead, ahead', t, qn, mv, rfl, hv, hq, hh, hok, qok, nok, mok, q⟩ := h
  have nd := sc_is_move.nd
  have D_is_move := D
  refine ⟨_, (pss_cons (ps_if (PW.pt (pw_or (pt_not (pt_val (pe_callB (k_isi (K := K) rfl) (by rfl) B.isinstance (by decide +kernel) (pa_cons (pv 0) (pa_cons (pe_bltn (v := .ty "tuple") (u := .type "tuple") (by rfl) B.tuple (by decide +kernel) rfl) pa_nil))))) (pw_or (pt_cmpR op_ne (pe_callB (k_len (K := K) rfl) (by rfl) B.len PySem.boot_len (pa_cons (pv 0) pa_nil)) pe_int (nomark _)) (pw_or1 (pt_not (pt_val (pe_callB (k_isi (K := K) rfl) (by rfl) B.isinstance (by decide +kernel) (pa_cons (pe_ix (k_ixT (K := K) rfl) (pv 0) pe_int (fun _ _ => rfl)) (pa_cons (pe_bltn (v := .ty "str") (u := .type "str") (by rfl) BS (by decide +kernel) rfl) pa_nil))))))))) (pss_one (ps_ret pe_bl)) pss_nil)
      (pss_cons (ps_asg (pv 0) (k_tup (K := K) (n := 3) rfl rfl (pgs_cons (pg_name (i := 3) nd rfl (.inl rfl)) (pgs_cons (pg_name (i := 4) nd rfl (.inl rfl)) (pgs_cons (pg_name (i := 5) nd rfl (.inl rfl)) pgs_nil)))))
      (pss_cons (ps_if (pt_cmpR op_eq (pv 3) pe_str (nomark _)) (pss_one (ps_ret (pe_and (pe_call G_is_number (hr.mono (by omega)) (by rfl) D_is_number.m D_is_number.F.kp D_is_number.b .nil pass0 (pa_cons (pv 4) (pa_cons pe_int (pa_cons (pe_op op_sub (pe_callB (k_len (K := K) rfl) (by rfl) B.len PySem.boot_len (pa_cons (pv 1) pa_nil)) pe_int) pa_nil)))) (pe_one (pe_call G_is_wait (hr.mono (by omega)) (by rfl) D_is_wait.m D_is_wait.F.kp D_is_wait.b .nil pass0 (pa_cons (pv 5) (pa_cons (pe_ix (k_ixT (K := K) rfl) (pe_ix (k_ixT (K := K) rfl) (pv 1) (pv 4) (fun _ _ => rfl)) pe_int (fun _ _ => rfl)) (pa_cons (pv 2) pa_nil)))))))) pss_nil)
      (pss_cons (ps_if (PW.pt (pw_or (pt_cmpR op_ne (pv 3) pe_str (nomark _)) (pw_or1 (pt_not (pt_val (pe_call G_is_number (hr.mono (by omega)) (by rfl) D_is_number.m D_is_number.F.kp D_is_number.b .nil pass0 (pa_cons (pv 4) (pa_cons pe_int (pa_cons (pe_op op_sub (pe_callB (k_len (K := K) rfl) (by rfl) B.len PySem.boot_len (pa_cons (pv 2) pa_nil)) pe_int) pa_nil))))))))) (pss_one (ps_ret pe_bl)) pss_nil)
      (pss_cons (ps_if (PW.pt (pw_or (pt_not (pt_val (pe_callB (k_isi (K := K) rfl) (by rfl) B.isinstance (by decide +kernel) (pa_cons (pv 5) (pa_cons (pe_bltn (v := .ty "tuple") (u := .type "tuple") (by rfl) B.tuple (by decide +kernel) rfl) pa_nil))))) (pw_or1 (pt_cmpR op_ne (pe_callB (k_len (K := K) rfl) (by rfl) B.len PySem.boot_len (pa_cons (pv 5) pa_nil)) (pe_callB (k_len (K := K) rfl) (by rfl) B.len PySem.boot_len (pa_cons (pe_ix (k_ixT (K := K) rfl) (pv 2) (pv 4) (fun _ _ => rfl)) pa_nil)) (nomark _))))) (pss_one (ps_ret pe_bl)) pss_nil)
      (pss_one (ps_ret (pe_callB (k_all (K := K) rfl rfl) (by rfl) B.all (by decide +kernel) (pa_cons (pe_lc (own := [("move", 6), ("answer", 7)]) rfl nd (k_zip (K := K) rfl (by rfl) B.zip (pa_cons (pv 5) (pa_cons (pe_ix (k_ixT (K := K) rfl) (pv 2) (pv 4) (fun _ _ => rfl)) pa_nil))) (blkOk_by (own := [("move", 6), ("answer", 7)]) (by kernel_rfl)) (fun _ _ _ _ _ => (k_tup (K := K) (n := 2) rfl rfl (pgs_cons (pg_name (i := 6) nd rfl (.inl rfl)) (pgs_cons (pg_name (i := 7) nd rfl (.inl rfl)) pgs_nil)))) (fun _ _ _ _ _ => pts_nil) (fun _ _ _ _ _ => (pe_call G_is_move (hr.mono (by omega)) (by rfl) D_is_move.m D_is_move.F.kp D_is_move.b .nil pass0 (pa_cons (pv 6) (pa_cons (pv 1) (pa_cons (pe_ix (k_ixT (K := K) rfl) (pv 7) pe_int (fun _ _ => rfl)) pa_nil)))))) pa_nil))))))))), ?_⟩
  obtain ⟨b, ys, rfl, hb, tb⟩ := id hq.tupE
  have ly : ys.length = qn.length := by rw [tb.len, List.length_map]
  rcases mv_cases mok with ⟨j, w', an, em, ea, wok⟩ | ⟨n', en, j, ms, qs, qj, ht, em, et, eq, al⟩
  · rw [em] at hv
    obtain ⟨a, xs, rfl, ha, ta⟩ := hv.tupE
    cases ta with
    | cons t0 ta1 =>
    rename_i v0 xs
    cases ta1 with
    | cons t1 ta2 =>
    rename_i v1 xs
    cases ta2 with
    | cons t2 ta3 =>
    rename_i v2 xs
    cases ta3
    cases t0
    cases t1
    have hj : j < ys.length := by
      rw [ly]
      exact (List.getElem?_eq_some_iff.mp ea).1
    refine ⟨_, rfl, _, _, _, _, true, rfl, .ty "tuple", tyx_tup ha, kit_ty (by decide +kernel), _, rfl, iteF ?_⟩
    refine ⟨_, rfl, a, _, rfl, .inr ha, rfl, _, rfl, iteF ?_⟩
    refine ⟨_, rfl, a, _, 0, _, rfl, rfl, ha, at_of (j := 0) rfl rfl, _, _, _, _, true, rfl, .ty "str", .base (.str _), kit_ty (by decide +kernel), _, rfl, iteF ?_⟩
    refine ⟨_, rfl, a, _, rfl, ha, rfl, _, _, rfl, _, _, rfl, _, _, rfl, rfl, ?_⟩
    refine ⟨_, rfl, rfl, _, rfl, ite2 (fun _ => ?_) (fun c => absurd (decide_eq_true rfl) c)⟩
    refine ⟨_, rfl, _, rfl, b, ys, rfl, .inr hb, _, _, rfl, rfl, (j : Int), 0, (ys.length : Int) - 1, rfl, _, rfl, ite2 (fun _ => ?_) (fun c => absurd (and_true2 (by omega) (by omega)) c)⟩
    obtain ⟨dx, ex, tx⟩ := tb.getV (List.getElem?_eq_getElem hj)
    obtain ⟨an', ea', rfl⟩ := mapAt ex
    rw [ea] at ea'
    cases ea'
    obtain ⟨pn, vw, vz, vt, evn, hpn, tw, tz, tt⟩ := td_an tx
    have gj : ys[j]? = some (.ref pn) := by rw [List.getElem?_eq_getElem hj, evn]
    exact ⟨_, rfl, _, rfl, _, rfl, b, ys, (j : Int), _, rfl, rfl, hb, at_of (j := j) rfl gj, pn, _, 2, _, rfl, rfl, hpn, at_of (j := 2) rfl rfl, _, rfl, W, v2, vt, vh, ahead, an.2.1, t, an.2.2, w', rfl, t2, tt, hh, hok, nok an (List.mem_of_getElem? ea), wok, q⟩
  · subst en
    cases ht
    have hsp := hsp n' rfl
    subst hsp
    rw [em] at hv
    rw [et] at hh
    obtain ⟨a, xs, rfl, ha, ta⟩ := hv.tupE
    cases ta with
    | cons t0 ta1 =>
    rename_i v0 xs
    cases ta1 with
    | cons t1 ta2 =>
    rename_i v1 xs
    cases ta2 with
    | cons t2 ta3 =>
    rename_i v2 xs
    cases ta3
    cases t0
    cases t1
    obtain ⟨pb, bs, rfl, hpb, tbs⟩ := t2.tupE
    obtain ⟨c, zs, rfl, hc, tz⟩ := hh.tupE
    have lz : zs.length = qs.length := by rw [tz.len, List.length_map]
    have lbs : bs.length = ms.length := by rw [tbs.len, List.length_map]
    have lal := al.len
    have hj : j < zs.length := by
      rw [lz]
      exact (List.getElem?_eq_some_iff.mp eq).1
    obtain ⟨qjok, njok⟩ := hok.2 qj (List.mem_of_getElem? eq)
    have q12 := qjok.most
    obtain ⟨dx, ex, tx⟩ := tz.getV (List.getElem?_eq_getElem hj)
    obtain ⟨qj', eq', rfl⟩ := mapAt ex
    rw [eq] at eq'
    cases eq'
    obtain ⟨pj, js, evj, hpj, tpj⟩ := tx.tupE
    have ljs : js.length = qj.length := by rw [tpj.len, List.length_map]
    have gj : zs[j]? = some (.ref pj) := by rw [List.getElem?_eq_getElem hj, evj]
    refine ⟨_, rfl, _, _, _, _, true, rfl, .ty "tuple", tyx_tup ha, kit_ty (by decide +kernel), _, rfl, iteF ?_⟩
    refine ⟨_, rfl, a, _, rfl, .inr ha, rfl, _, rfl, iteF ?_⟩
    refine ⟨_, rfl, a, _, 0, _, rfl, rfl, ha, at_of (j := 0) rfl rfl, _, _, _, _, true, rfl, .ty "str", .base (.str _), kit_ty (by decide +kernel), _, rfl, iteF ?_⟩
    refine ⟨_, rfl, a, _, rfl, ha, rfl, _, _, rfl, _, _, rfl, _, _, rfl, rfl, ?_⟩
    refine ⟨_, rfl, rfl, _, rfl, ite2 (fun c => absurd c (by decide)) (fun _ => ?_)⟩
    refine ⟨_, rfl, rfl, _, rfl, ite2 (fun c => absurd c (by decide)) (fun _ => ?_)⟩
    refine ⟨_, rfl, _, rfl, c, zs, rfl, .inr hc, _, _, rfl, rfl, (j : Int), 0, (zs.length : Int) - 1, rfl, _, rfl, ?_⟩
    rw [and_true2 (show (0 : Int) ≤ (j : Int) by omega) (show (j : Int) ≤ (zs.length : Int) - 1 by omega)]
    refine iteF ?_
    refine ⟨_, rfl, _, _, _, _, true, rfl, .ty "tuple", tyx_tup hpb, kit_ty (by decide +kernel), _, rfl, iteF ?_⟩
    refine ⟨_, rfl, pb, _, rfl, .inr hpb, _, rfl, _, rfl, c, zs, (j : Int), _, rfl, rfl, hc, at_of (j := j) rfl gj, pj, _, rfl, .inr hpj, rfl, _, rfl, ?_⟩
    rw [lbs, ljs, lal, decide_eq_true rfl]
    refine iteF ?_
    refine ⟨_, rfl, _, rfl, _, rfl, c, zs, (j : Int), _, rfl, rfl, hc, at_of (j := j) rfl gj, pb, pj, bs, js, rfl, .inr ⟨hpb, hpj, fun T hT => ?_⟩⟩
    refine lc_it (walk_zipT (K := K) (a := pb) (b := pj) (xs := bs) (ys := js) (n := qj.length) (by omega)) (fun i H2 => H2 T = some (.lst ((List.replicate i true).map V.bl)) ∧ Same H H2) ⟨upd_same, same_upd hT⟩ (fun i H2 _ h => ⟨Same.kt h.2 _ _ hpb, Same.kt h.2 _ _ hpj⟩) ?_ ?_
    · rintro i y H2 H3 hi ⟨h2, s2⟩ ⟨T2, x', y', rfl, n2, rfl, g1, g2⟩
      obtain ⟨dx, ex, tx'⟩ := tbs.getV g1
      obtain ⟨dy, ey, ty⟩ := tpj.getV g2
      obtain ⟨mv', em', rfl⟩ := mapAt ex
      obtain ⟨an, ean, rfl⟩ := mapAt ey
      obtain ⟨mv2, em2, okm⟩ := al.get ean
      rw [em'] at em2
      cases em2
      have s3 : Same H2 (upd H2 T2 (.tup [x', y'])) := same_upd n2
      have k3 := Same.kt (K := K) (s2.trans s3)
      obtain ⟨pn, vw, vz, vt, rfl, hpn, tw, tz', tt⟩ := td_an (ty.keep k3)
      refine ⟨T2, _, rfl, .inl (.inl upd_same), rfl, _, _, rfl, _, _, rfl, rfl, ?_⟩
      refine ⟨rfl, ?_⟩
      refine iteT (B := (upd H2 T2 (.tup [x', .ref pn])) T = some (.lst ((List.replicate (i + 1) true).map V.bl)) ∧ Same H (upd H2 T2 (.tup [x', .ref pn]))) ?_
      refine ⟨_, rfl, _, rfl, _, rfl, pn, _, 2, _, rfl, rfl, hpn, at_of (j := 2) rfl rfl, W, x', .ref b, vt, an.2.1, ahead', an.2.2, qn, mv', rfl, tx'.keep k3, hq.keep k3, tt, njok an (List.mem_of_getElem? ean), qok, nok, okm, fun H4 s4 => ?_⟩
      refine ⟨_, s4 _ _ (s3 _ _ h2), ?_, ?_, fun c o z => ?_⟩
      · rw [List.length_map, List.length_replicate]
        exact small1000 (by omega)
      · rw [upd_same, ← rep_snoc, List.map_append]
        rfl
      · rw [upd_ne (ne_of_none z hT)]
        exact s4 _ _ (s3 _ _ (s2 _ _ z))
    · rintro H2 ⟨h2, s2⟩
      refine ⟨T, _, rfl, SqL.of h2, ?_⟩
      rw [all_rep]
      exact q H2 s2
theorem ok_plans_judged {f f1 f2 f3 : Addr} {fd fd1 fd2 fd3 : FuncData} (D_is_move : Dn K mg "is_move" s_is_move ["thing", "question", "stand"] f fd) (B : Blt mg) (BS : mg "str" = none) (D_is_number : Dn K mg "is_number" s_is_number ["thing", "least", "most"] f1 fd1) (D_is_integral : Dn K mg "is_integral" s_is_integral ["thing"] f2 fd2)
    (D_is_wait : Dn K mg "is_wait" s_is_wait ["thing", "waiting", "stand"] f3 fd3) :
    ∀ m n : Nat, n ≤ 6 → FnOk P w K mg base CX0 (2 + 8 * m) f3 fd3 ["thing", "waiting", "stand"] (spIsW K m n) ∧ FnOk P w K mg base CX0 (3 + 8 * m + n) f fd ["thing", "question", "stand"] (spIsM K m n) := by
  have no : ∀ k, FnOk P w K mg base CX0 k f fd ["thing", "question", "stand"] (fun _ _ _ _ => False) := fun k => ⟨fun vs H Q E h => h.elim, fun A outer s H args us vs Q E _ _ _ _ h => h.elim⟩
  have step : ∀ m : Nat, (∀ m', m = m' + 1 → ∀ n, n ≤ 6 → FnOk P w K mg base CX0 (3 + 8 * m' + n) f fd ["thing", "question", "stand"] (spIsM K m' n)) → ∀ n : Nat, n ≤ 6 → FnOk P w K mg base CX0 (2 + 8 * m) f3 fd3 ["thing", "waiting", "stand"] (spIsW K m n) ∧ FnOk P w K mg base CX0 (3 + 8 * m + n) f fd ["thing", "question", "stand"] (spIsM K m n) := by
    intro m IH
    have wait : ∀ n : Nat, n ≤ 6 → FnOk P w K mg base CX0 (2 + 8 * m) f3 fd3 ["thing", "waiting", "stand"] (spIsW K m n) := by
      intro n hn
      cases m with
      | zero => exact ok_is_wait (k := 1) D_is_wait B D_is_move (no 1) (fun m' e => by omega)
      | succ m' =>
        have G := IH m' rfl n hn
        rw [show 2 + 8 * (m' + 1) = (9 + 8 * m') + 1 by omega]
        exact ok_is_wait D_is_wait B D_is_move (G.mono (by omega)) (fun m2 e => by rw [show m2 = m' by omega])
    have move : ∀ n : Nat, n ≤ 6 → FnOk P w K mg base CX0 (3 + 8 * m + n) f fd ["thing", "question", "stand"] (spIsM K m n) := by
      intro n
      induction n with
      | zero =>
        intro hn
        rw [show 3 + 8 * m + 0 = (2 + 8 * m) + 1 by omega]
        exact ok_is_move D_is_move B BS D_is_number D_is_integral D_is_wait (wait 0 hn) (no _) (fun n' e => by omega) (by omega)
      | succ n ih =>
        intro hn
        rw [show 3 + 8 * m + (n + 1) = (3 + 8 * m + n) + 1 by omega]
        exact ok_is_move D_is_move B BS D_is_number D_is_integral D_is_wait ((wait (n + 1) hn).mono (by omega)) (ih (by omega)) (fun n' e => by rw [show n' = n by omega]) (by omega)
    exact fun n hn => ⟨wait n hn, move n hn⟩
  intro m
  induction m with
  | zero => exact step 0 (fun m' e => by omega)
  | succ m ih => exact step (m + 1) (fun m' e n hn => by rw [show m' = m by omega]; exact (ih n hn).2)
end
end Tl
/-! dicts whose keys are tuples of tuples: get with a default, a walk over items() -/
namespace Tl
open PySem PySem.Spec PyProof.Rows L2 RZ
def tDGet2N (K : PySem.W.Frag) (w : World) (td ty tx : TE) : TE := fun σ H Q => td σ H fun x H1 => ∃ d n f, x = .ref d ∧ NDc K w H1 d n f ∧ ty σ H1 fun y H2 => tx σ H2 fun z H3 => ∃ k n3, NDc K w H3 d n3 f ∧ Td K H3 y (NestedKey.data k) ∧ (∃ b, y = .ref b) ∧ k.depth ≤ 8 ∧ Q ((f k).getD z) H3
section
variable {X : Cx} {K : PySem.W.Frag} {w : World} (hK : X.K = K) (hw : X.w = w)
include hK hw
theorem k_dget2N {o e e2 : Expr} {td ty tx : TE} {apos cpos : Pos} (hu : X.A.units + 64 < cLine) (ho : PE X o td) (he : PE X e ty) (hf : PE X e2 tx) (m : M2 X o "get" apos e e2 cpos) : PE X (.Call (.Attribute o "get" apos) [e, e2] [] cpos) (tDGet2N K w td ty tx) := by
  subst hK hw
  refine ⟨fun pins s σ H Q I h => ?_⟩
  refine wpAny_Call_method m.base m.few m.line PySem.F.plainAttrs_dict PySem.F.slot_dict_get PySem.F.type_dict_get (thn (ho.run pins s σ H _ I h) fun u s1 ⟨x, H1, I1, rx, d, n, f, ex, D, q1⟩ => ?_)
  subst ex
  obtain rfl : u = Value.ref d := rx
  obtain ⟨xs, dd, _, hsm, _⟩ := D.of I1
  refine ⟨dd.typeIs, fun b q => ?_, ?_⟩
  · cases q
    obtain ⟨ob, _, _, h1, h2, _⟩ := dd
    exact ⟨ob, h1, h2.2.1⟩
  rw [m.trees]
  refine Calls.callWith_builtin rfl (Calls.evalArgs_plain (Calls.spliced_cons (thn (he.run pins s1 σ H1 _ I1 q1) fun iv s2 ⟨y, H2, I2, ry, q2⟩ =>
    Calls.spliced_cons (thn (hf.run pins s2 σ H2 _ I2 q2) fun fv s3 ⟨z, H3, I3, rz, k, n3, D3, tk, hb, hd, q3⟩ => Calls.spliced_nil ?_))))
  obtain ⟨b, rfl⟩ := hb
  cases (show iv = Value.ref b from ry)
  obtain ⟨xs3, dd3, _, hsm3, _, _, _, h6⟩ := D3.of I3
  refine call_meetsIn PySem.F.slot_dict_get dd3.typeIs PySem.F.entry_dict_get (PySem.F.args_dict_get_3 _ _ _) (meetsH_dict_get_default (nestedKind X.prog X.w) d b hsm3 fv) ⟨?_, k, xs3, ⟨nested_is I3 k _ _ tk rfl, hd⟩, dd3, ?_⟩
  · show X.A.in1.units + 8 < cLine
    have : X.A.in1.units = X.A.units + 1 := rfl
    omega
  · exact ⟨_, H3, I3.tok _, (h6 k).getD rz, q3⟩
end
/-- the pairs of the locked dict at d, each a new tuple -/
def ItN (w : World) (d : Addr) (od : Obj) (xs : List (NestedKey × Addr × Value)) (f : NestedKey → Option V) : It :=
  ⟨fun i H => H d = some (.frz od (ndo w d xs)) ∧ i < xs.length, fun i H x H' => ∃ T y v, xs[i]? = some y ∧ f y.1 = some v ∧ x = .ref T ∧ H T = none ∧ H' = upd H T (.tup [.ref y.2.1, v]), fun i H => H d = some (.frz od (ndo w d xs)) ∧ xs.length ≤ i⟩
theorem walk_itemsN {w : World} {d : Addr} {od : Obj} {xs : List (NestedKey × Addr × Value)} {f : NestedKey → Option V} : Walk (ItN w d od xs f) xs.length (fun H => H d = some (.frz od (ndo w d xs))) (fun i H x H' => ∃ T y v, xs[i]? = some y ∧ f y.1 = some v ∧ x = .ref T ∧ H T = none ∧ H' = upd H T (.tup [.ref y.2.1, v])) :=
  ⟨fun i H hi h => ⟨h, hi⟩, fun H h => ⟨h, Nat.le_refl _⟩, fun i H x H' _ _ y => y⟩
theorem atKey_mem {xs : List (NestedKey × Addr × Value)} (nd : (xs.map (·.1)).Nodup) : ∀ {y}, y ∈ xs → atKey xs y.1 = some y.2 := by
  induction xs with
  | nil => intro y h; exact absurd h List.not_mem_nil
  | cons x r ih =>
    intro y h
    rw [List.map_cons, List.nodup_cons] at nd
    rw [atKey_cons]
    rcases List.mem_cons.mp h with rfl | h
    · rw [if_pos rfl]
    · rw [if_neg (fun z : x.1 = y.1 => nd.1 (by rw [z]; exact List.mem_map.mpr ⟨y, h, rfl⟩))]
      exact ih nd.2 h
theorem inv_frzN {X : Cx} {pins : List (Addr × Obj)} {σ : L2.St} {H : Hp} {s : Shared} {d : Addr} {od : Obj} {xs : List (NestedKey × Addr × Value)} (I : Inv X pins σ H s) (h : H d = some (.frz od (ndo X.w d xs))) :
    s.heap.get? d = some od ∧ od.ExactDict ∧ ∃ es ep, od.data = .dict es ep ∧ es.size = xs.length ∧ ∀ i y, xs[i]? = some y → ∃ hi : i < es.size, es[i].key = .ref y.2.1 ∧ es[i].val = y.2.2 := by
  obtain ⟨hd, ⟨o, es, ep, e1, e2, e3, e4⟩, _⟩ := I.hok d _ h
  rw [hd] at e1
  cases e1
  have hl : es.size = xs.length := by rw [← Array.length_toList, e4, List.length_map]
  refine ⟨hd, e2, es, ep, e3, hl, fun i y hy => ?_⟩
  have hi : i < es.size := by rw [hl]; exact (List.getElem?_eq_some_iff.mp hy).1
  have e := congrArg (fun l => l[i]?) e4
  simp only [List.getElem?_map, hy, Option.map_some, Array.getElem?_toList, Array.getElem?_eq_getElem hi] at e
  have e' := Option.some.inj e
  exact ⟨hi, by rw [e'], by rw [e']⟩
theorem turn_itemsN {P : Program} {w : World} {K : PySem.W.Frag} {d : Addr} {od : Obj} {xs : List (NestedKey × Addr × Value)} {f : NestedKey → Option V} {elts : List Expr} {kk : Nat} {tpos : Pos} {es : Array DictEntry} {ep : Nat} (it : Addr) (hod : od.data = .dict es ep) (nd : (xs.map (·.1)).Nodup) (hf6 : ∀ k, RelO (f k) ((atKey xs k).map (·.2))) :
    Turn P w K (.Tuple elts kk tpos) (ItN w d od xs f) [it] it (fun i h => ∃ ok ov, IsItemIter h it d i xs.length ep ok ov) where
  mem := by simp
  obj := fun i h st b hb => by
    have e : b = it := by simpa using hb
    subst e
    obtain ⟨ok, ov, e⟩ := st
    exact ⟨_, e, fun v z => nomatch z⟩
  keep := fun i h h' st k => let ⟨ok, ov, e⟩ := st; ⟨ok, ov, k it (by simp) _ e⟩
  item := by
    intro X hP hw hK hc i pins s σ H E I hf st hg
    subst hP hw hK
    obtain ⟨hd, hi⟩ := hg
    obtain ⟨hgd, hx, es', ep', hdt, hsz, ent⟩ := inv_frzN I hd
    obtain ⟨rfl, rfl⟩ := dict_ep hod hdt
    obtain ⟨y, hy⟩ : ∃ p, xs[i]? = some p := ⟨xs[i], List.getElem?_eq_getElem hi⟩
    obtain ⟨hi2, ek, ev⟩ := ent i y hy
    obtain ⟨v, hv, ru⟩ : ∃ v, f y.1 = some v ∧ RelV v y.2.2 := by
      have z := hf6 y.1
      rw [atKey_mem nd (List.mem_of_getElem? hy)] at z
      cases e : f y.1 with
      | none =>
        rw [e] at z
        exact absurd z id
      | some v =>
        rw [e] at z
        exact ⟨v, rfl, z⟩
    obtain ⟨ok, ov, he⟩ := st
    rw [← hsz] at he
    have hlt : it < s.heap.objs.size := Heap.lt_size he
    refine wpAny_pyNext_items_item_raw he ⟨od, hgd, hx, hod⟩ hi2 fun h' ho hT hz hk => ?_
    rw [ek, ev] at ho hT
    refine ⟨_, rfl, wpAny_letOwnedTupleGo_items (s := { s with heap := h' }) ho fun h'' he' sb => ?_⟩
    have hT2 : h''.get? s.heap.objs.size = some { cls := .type "tuple", data := .seq #[.ref y.2.1, y.2.2] } := (sb.2 _ (Nat.ne_of_gt hlt)).trans hT
    have new : ObjOk X.prog X.w (upd H s.heap.objs.size (.tup [.ref y.2.1, v])) h'' s.heap.objs.size (.tup [.ref y.2.1, v]) :=
      ⟨by show 2 ≤ sizeLine; decide, [.ref y.2.1, y.2.2], .cons rfl (.cons ru .nil), ⟨_, hT2, rfl, _, rfl⟩⟩
    have I1 : Inv X pins σ (upd H s.heap.objs.size (.tup [.ref y.2.1, v])) { s with heap := h'' } :=
      I.turnedNew (t' := s.toks) (ch := [it]) (fun b ob hb e => (sb.2 b (by simpa using hb)).trans (hk b ob (by simpa using hb) e)) hf (Nat.le_refl _) new
    refine ⟨.ref s.heap.objs.size, _, I1, rfl, ⟨_, y, v, hy, hv, rfl, I.hok.fresh (Nat.le_refl _), rfl⟩, ⟨.ref y.2.1, y.2.2, ?_⟩, fun b hb => ?_⟩
    · rw [← hsz]; exact he'
    · have e : b = it := by simpa using hb
      rw [e, upd_ne (Nat.ne_of_lt hlt)]
      exact (hf it (by simp)).1
  done := by
    intro X hP hw hK hc i pins s σ H E I hf st hg
    subst hP hw hK
    obtain ⟨hd, hi⟩ := hg
    obtain ⟨f0, f1, f2, f3, f4, f5⟩ := hf it (by simp)
    obtain ⟨hgd, hx, es', ep', hdt, hsz, ent⟩ := inv_frzN I hd
    obtain ⟨rfl, rfl⟩ := dict_ep hod hdt
    obtain ⟨ok, ov, he⟩ := st
    rw [← hsz] at he
    exact wpAny_pyNext_items_end_raw (I.ok.hd hc) he ⟨od, hgd, hx, hod⟩ (by omega) fun h' eb => ⟨rfl, I.turned (t' := s.toks) (fun b ob hb e => eb b ob hb e) f0 f1 f3 f4 f5⟩
  self := fun A i s Q E st h => let ⟨_, _, e⟩ := st; PySem.W.kcp_self e h
def iItemsN (w : World) (td : TE) : TI := fun σ H R => td σ H fun x H1 => ∃ d xs f, x = .ref d ∧ H1 d = some (ndo w d xs) ∧ (d == sysModules) = false ∧ (xs.map (·.1)).Nodup ∧ (∀ k, RelO (f k) ((atKey xs k).map (·.2))) ∧ ∀ od, R (ItN w d od xs f) (upd H1 d (.frz od (ndo w d xs)))
section
variable {X : Cx} {K : PySem.W.Frag} {w : World} (hK : X.K = K) (hw : X.w = w)
include hK hw
theorem k_itemsN {e : Expr} {td : TE} {apos cpos : Pos} {elts : List Expr} {kk : Nat} {tpos : Pos} (he : PE X e td) (hbase : attributeBase e "items" X.env (eval e X.env) = eval e X.env := by rfl) (hline : (apos.endLine == cpos.line) = true := by rfl) :
    PI X (.Tuple elts kk tpos) (.Call (.Attribute e "items" apos) [] [] cpos) (iItemsN w td) := by
  subst hK hw
  refine ⟨fun pins s σ H R I h => ?_⟩
  refine wpAny_Call_method (T := "dict") (id := "dict.items") hbase rfl hline F.plainAttrs_dict F.slot_dict_items F.type_dict_items (thn (he.run pins s σ H _ I h) fun u s1 ⟨x, H0, I0, rx, d, xs, f, ex, hd0, hs, nd, hf6, q0⟩ => ?_)
  subst ex
  obtain rfl : u = Value.ref d := rx
  obtain ⟨o, I1⟩ := I0.lock hd0 True.intro
  have q := q0 o
  have hd : upd H0 d (.frz o (ndo X.w d xs)) d = some (.frz o (ndo X.w d xs)) := upd_same
  generalize upd H0 d (.frz o (ndo X.w d xs)) = H1 at I1 q hd
  obtain ⟨hgd, hx, es, ep, hdt, hsz, ent⟩ := inv_frzN I1 hd
  have raw : s1.heap.DictRaw d es ep := ⟨o, hgd, hx, hdt⟩
  refine ⟨raw.typeIs, fun b q => by cases q; exact ⟨o, hgd, hx.2.1⟩, ?_⟩
  have I2 : Inv X pins σ H1 { s1 with heap := s1.heap.push { cls := .type "dict_items", data := .fields #[.ref d] } } := I1.kept (t' := s1.toks) fun b ob q => Heap.get?_push_of_some _ q
  have fin : wpAny (model X.prog X.w) X.A (pyIter (.ref s1.heap.objs.size)) (PIE X pins σ (.Tuple elts kk tpos) R) X.xe { s1 with heap := s1.heap.push { cls := .type "dict_items", data := .fields #[.ref d] } } := by
    refine wpAny_pyIter_items_raw (d := d) ⟨_, Heap.get?_push_size _ rfl, rfl, rfl⟩ (raw.at fun o q => Heap.get?_push_of_some _ q) (pi_one (tk := s1.toks) I2 _ (turn_itemsN _ hdt nd hf6) ⟨.none, .none, ?_⟩ q)
    rw [← hsz]
    exact Heap.get?_push_size _ rfl
  show wpAny _ _ (callWith cpos (.builtin "dict.items") [.ref d] [] []) _ X.xe s1
  exact method_meetsIn F.slot_dict_items F.entry_dict_items rfl (PySem.evalArgs_none ⟨rfl, raw.typeIs, F.args_dict_items_1 _, _, meets_dict_items_raw d hs, ⟨es, ep, raw⟩, fin⟩)
end
end Tl
/-! trees by their questions, walks along paths, the tree of two houses beside one another -/
namespace Tl
open PySem PySem.Spec PyProof.Rows L2 RZ
/-- the questions of a node -/
def qsOf : (m : Nat) → Nd m → List (Qn (m - 1))
  | 0, _ => []
  | m + 1, qs => (show List (Qn m) from qs)
theorem ndD_qs : ∀ (m : Nat) (t : Nd m), ndD m t = .tuple ((qsOf m t).map (qnD (m - 1)))
  | 0, _ => rfl
  | _ + 1, _ => rfl
theorem cnt_qs : ∀ (m : Nat) (t : Nd m), cnt m t = ((qsOf m t).map (cntQ (m - 1))).sum
  | 0, _ => rfl
  | _ + 1, _ => rfl
theorem qs_td {K : PySem.W.Frag} {H : Hp} {m : Nat} {t : Nd m} {v : V} (h : Td K H v (ndD m t)) : ∃ (a : Addr) (xs : List V), v = .ref a ∧ SqT K H a xs ∧ TdAll K H xs ((qsOf m t).map (qnD (m - 1))) := by
  rw [ndD_qs] at h
  exact h.tupE
theorem sum_mem {l : List Nat} {x : Nat} (h : x ∈ l) : x ≤ l.sum := by
  induction l with
  | nil => exact absurd h List.not_mem_nil
  | cons y r ih =>
    rw [List.sum_cons]
    rcases List.mem_cons.mp h with rfl | h
    · omega
    · have := ih h
      omega
theorem cntQ_le {m : Nat} {t : Nd m} {q : Qn (m - 1)} (h : q ∈ qsOf m t) : cntQ (m - 1) q ≤ cnt m t := by
  rw [cnt_qs]
  exact sum_mem (List.mem_map_of_mem h)
theorem cntA_le {n : Nat} {q : Qn n} {a : An n} (h : a ∈ q) : 1 + cnt n a.2.2 ≤ cntQ n q := sum_mem (List.mem_map_of_mem (f := fun a : An n => 1 + cnt n a.2.2) h)
/-- along a path of questions and answers -/
inductive Wk : (n : Nat) → Nd n → List Rat → List (Nat × Nat) → (m : Nat) → Nd m → List Rat → Prop
  | nil {n : Nat} {t : Nd n} {w : List Rat} : Wk n t w [] n t w
  | cons {n : Nat} {t : Nd n} {w : List Rat} {i j : Nat} {q : Qn (n - 1)} {a : An (n - 1)} {p : List (Nat × Nat)} {m : Nat} {t' : Nd m} {w' : List Rat} :
      (qsOf n t)[i]? = some q → q[j]? = some a → Wk (n - 1) a.2.2 a.2.1 p m t' w' → Wk n t w ((i, j) :: p) m t' w'
theorem Wk.snoc {n : Nat} {t : Nd n} {w : List Rat} {p : List (Nat × Nat)} {m : Nat} {t' : Nd m} {w' : List Rat} (h : Wk n t w p m t' w') {i j : Nat} {q : Qn (m - 1)} {a : An (m - 1)} (e1 : (qsOf m t')[i]? = some q) (e2 : q[j]? = some a) :
    Wk n t w (p ++ [(i, j)]) (m - 1) a.2.2 a.2.1 := by
  induction h with
  | nil => exact .cons e1 e2 .nil
  | cons a1 a2 _ ih => exact .cons a1 a2 (ih e1 e2)
theorem Wk.len {n : Nat} {t : Nd n} {w : List Rat} {p : List (Nat × Nat)} {m : Nat} {t' : Nd m} {w' : List Rat} (h : Wk n t w p m t' w') : p.length + m ≤ n := by
  induction h with
  | nil => simp
  | @cons n t w i j q a p m t' w' a1 a2 _ ih =>
    cases n with
    | zero =>
      have z : ([] : List (Qn (0 - 1)))[i]? = some q := a1
      cases z
    | succ n =>
      rw [List.length_cons]
      have : n + 1 - 1 = n := rfl
      omega
/-- a path as data -/
def ptD (p : List (Nat × Nat)) : PyData := .tuple (p.map fun x => .tuple [.int (x.1 : Int), .int (x.2 : Int)])
theorem ptD_snoc (p : List (Nat × Nat)) (x : Nat × Nat) : ptD (p ++ [x]) = .tuple ((p.map fun x => .tuple [.int (x.1 : Int), .int (x.2 : Int)]) ++ [.tuple [.int (x.1 : Int), .int (x.2 : Int)]]) := by
  unfold ptD
  rw [List.map_append]
  rfl
/-! ### right weights all over a tree -/
def WsAll (W e : Nat) : (n : Nat) → Nd n → Prop
  | 0, _ => True
  | n + 1, qs => ∀ q ∈ (show List (Qn n) from qs), ∀ a ∈ q, a.1.length ≤ 8 ∧ a.2.1.length = W ∧ (∀ r ∈ a.2.1, Ch e r) ∧ WsAll W e n a.2.2
theorem WsAll.at_ {W e : Nat} : ∀ {n : Nat} {t : Nd n}, WsAll W e n t → ∀ q ∈ qsOf n t, ∀ a ∈ q, a.1.length ≤ 8 ∧ a.2.1.length = W ∧ (∀ r ∈ a.2.1, Ch e r) ∧ WsAll W e (n - 1) a.2.2
  | 0, _, _ => fun q hq => absurd hq List.not_mem_nil
  | _ + 1, _, h => h
theorem wsAll_of {W : Nat} : ∀ {n : Nat} {ahead : List Rat} {t : Nd n}, NdOk W n ahead t → WsAll W 6 n t
  | 0, _, _, _ => trivial
  | n + 1, _, _, h => fun q hq a ha => ⟨((h.2 q hq).1.words a ha).1, (h.2 q hq).1.wide a ha, (h.2 q hq).1.chs a ha, wsAll_of ((h.2 q hq).2 a ha)⟩
theorem WsAll.walk {W e : Nat} {n : Nat} {t : Nd n} {w : List Rat} {p : List (Nat × Nat)} {m : Nat} {t' : Nd m} {w' : List Rat} (h : Wk n t w p m t' w') (o : WsAll W e n t) (hl : w.length = W) (hc : ∀ r ∈ w, Ch e r) : WsAll W e m t' ∧ w'.length = W ∧ ∀ r ∈ w', Ch e r := by
  induction h with
  | nil => exact ⟨o, hl, hc⟩
  | cons a1 a2 _ ih =>
    obtain ⟨_, h1, h2, h3⟩ := o.at_ _ (List.mem_of_getElem? a1) _ (List.mem_of_getElem? a2)
    exact ih h3 h1 h2
theorem ones_len (W : Nat) : (ones W).length = W := by
  unfold ones
  rw [List.length_replicate]
/-! ### beside one another -/
def mulW (a b : List Rat) : List Rat := List.zipWith (· * ·) a b
theorem mulW_ones (W : Nat) : mulW (ones W) (ones W) = ones W := by
  unfold mulW ones
  induction W with
  | zero => rfl
  | succ n ih =>
    rw [List.replicate_succ, List.zipWith_cons_cons, ih, Rat.one_mul]
theorem mulW_len {W : Nat} {a b : List Rat} (h1 : a.length = W) (h2 : b.length = W) : (mulW a b).length = W := by
  unfold mulW
  rw [List.length_zipWith]
  omega
/-- the one house's question first -/
def bsN : (k m n : Nat) → Nd m → Nd n → List Rat → List Rat → Nd k
  | 0, _, _, _, _, _, _ => ()
  | k + 1, m, n, t, o, w, ow => ((qsOf m t).map (fun q => q.map fun a => ((0 :: a.1, mulW a.2.1 ow, bsN k (m - 1) n a.2.2 o a.2.1 ow) : An k)) ++ (qsOf n o).map (fun q => q.map fun a => ((1 :: a.1, mulW w a.2.1, bsN k m (n - 1) t a.2.2 w a.2.1) : An k)) : List (Qn k))
def bs1 (k m n : Nat) (o : Nd n) (ow : List Rat) (a : An (m - 1)) : An k := (0 :: a.1, mulW a.2.1 ow, bsN k (m - 1) n a.2.2 o a.2.1 ow)
def bs2 (k m n : Nat) (t : Nd m) (w : List Rat) (a : An (n - 1)) : An k := (1 :: a.1, mulW w a.2.1, bsN k m (n - 1) t a.2.2 w a.2.1)
theorem bsN_succ (k m n : Nat) (t : Nd m) (o : Nd n) (w ow : List Rat) : bsN (k + 1) m n t o w ow = ((qsOf m t).map (fun q => q.map (bs1 k m n o ow)) ++ (qsOf n o).map (fun q => q.map (bs2 k m n t w)) : List (Qn k)) := rfl
theorem qs_bsN (k m n : Nat) (t : Nd m) (o : Nd n) (w ow : List Rat) (h : m + n ≤ k) : qsOf k (bsN k m n t o w ow) = (qsOf m t).map (fun q => q.map (bs1 (k - 1) m n o ow)) ++ (qsOf n o).map (fun q => q.map (bs2 (k - 1) m n t w)) := by
  cases k with
  | zero =>
    obtain rfl : m = 0 := by omega
    obtain rfl : n = 0 := by omega
    rfl
  | succ k => rfl
/-- both parts of a path -/
theorem bs_walk {k m n : Nat} {t : Nd m} {o : Nd n} {w ow : List Rat} (hk : m + n ≤ k) {i j : Nat} {q : Qn (k - 1)} {a : An (k - 1)} (e1 : (qsOf k (bsN k m n t o w ow))[i]? = some q) (e2 : q[j]? = some a) :
    (i < (qsOf m t).length ∧ 1 ≤ m ∧ ∃ q1 a1, (qsOf m t)[i]? = some q1 ∧ q1[j]? = some a1 ∧ a = bs1 (k - 1) m n o ow a1) ∨
    (¬ i < (qsOf m t).length ∧ 1 ≤ n ∧ ∃ q1 a1, (qsOf n o)[i - (qsOf m t).length]? = some q1 ∧ q1[j]? = some a1 ∧ a = bs2 (k - 1) m n t w a1) := by
  rw [qs_bsN k m n t o w ow hk] at e1
  by_cases hi : i < (qsOf m t).length
  · refine .inl ⟨hi, ?_, ?_⟩
    · cases m with
      | zero => exact absurd hi (Nat.not_lt_zero _)
      | succ m => omega
    · rw [List.getElem?_append_left (by rw [List.length_map]; exact hi), List.getElem?_map] at e1
      obtain ⟨q1, h1, rfl⟩ := Option.map_eq_some_iff.mp e1
      rw [List.getElem?_map] at e2
      obtain ⟨a1, h2, rfl⟩ := Option.map_eq_some_iff.mp e2
      exact ⟨q1, a1, h1, h2, rfl⟩
  · refine .inr ⟨hi, ?_, ?_⟩
    · cases n with
      | zero =>
        rw [List.getElem?_append_right (by rw [List.length_map]; omega)] at e1
        have z : ([] : List (Qn (k - 1)))[i - ((qsOf m t).map fun q => q.map (bs1 (k - 1) m 0 o ow)).length]? = some q := e1
        cases z
      | succ n => omega
    · rw [List.getElem?_append_right (by rw [List.length_map]; omega), List.length_map, List.getElem?_map] at e1
      obtain ⟨q1, h1, rfl⟩ := Option.map_eq_some_iff.mp e1
      rw [List.getElem?_map] at e2
      obtain ⟨a1, h2, rfl⟩ := Option.map_eq_some_iff.mp e2
      exact ⟨q1, a1, h1, h2, rfl⟩
/-! ### how many -/
def bnR (f : Nat → Nat) : Nat → Nat
  | 0 => 1
  | b + 1 => f (b + 1) + bnR f b
def bn : Nat → Nat → Nat
  | 0 => fun _ => 1
  | a + 1 => bnR (bn a)
theorem bn_pos : ∀ a b : Nat, 1 ≤ bn a b
  | 0, _ => Nat.le_refl _
  | _ + 1, 0 => Nat.le_refl _
  | a + 1, b + 1 => by
    have := bn_pos a (b + 1)
    show 1 ≤ bn a (b + 1) + bnR (bn a) b
    omega
theorem sum_map_le {α : Type} (f g : α → Nat) : ∀ l : List α, (∀ x ∈ l, f x ≤ g x) → (l.map f).sum ≤ (l.map g).sum
  | [], _ => Nat.le_refl _
  | x :: r, h => by
    rw [List.map_cons, List.map_cons, List.sum_cons, List.sum_cons]
    have h1 := h x (List.mem_cons_self ..)
    have h2 := sum_map_le f g r fun y hy => h y (List.mem_cons_of_mem _ hy)
    omega
theorem sum_map_mul {α : Type} (f : α → Nat) (c : Nat) : ∀ l : List α, (l.map fun x => f x * c).sum = (l.map f).sum * c
  | [] => by simp
  | x :: r => by rw [List.map_cons, List.map_cons, List.sum_cons, List.sum_cons, sum_map_mul f c r, Nat.add_mul]
theorem sum_map_congr {α : Type} (f g : α → Nat) : ∀ l : List α, (∀ x ∈ l, f x = g x) → (l.map f).sum = (l.map g).sum
  | [], _ => rfl
  | x :: r, h => by
    rw [List.map_cons, List.map_cons, List.sum_cons, List.sum_cons, h x (List.mem_cons_self ..), sum_map_congr f g r fun y hy => h y (List.mem_cons_of_mem _ hy)]
theorem cntQ_map_le {k n : Nat} (f : An n → An k) (c : Nat) (q : Qn n) (h : ∀ a ∈ q, 1 + cnt k (f a).2.2 ≤ (1 + cnt n a.2.2) * c) : cntQ k (q.map f) ≤ cntQ n q * c := by
  unfold cntQ
  rw [List.map_map, ← sum_map_mul]
  exact sum_map_le _ _ _ h
theorem cnt_bs : ∀ (k m n : Nat) (t : Nd m) (o : Nd n) (w ow : List Rat), m + n ≤ k → cnt k (bsN k m n t o w ow) + 1 ≤ (cnt m t + 1) * (cnt n o + 1) * bn m n
  | 0, m, n, t, o, w, ow, h => by
    have b := bn_pos m n
    have : 1 ≤ (cnt m t + 1) * (cnt n o + 1) * bn m n := Nat.mul_pos (Nat.mul_pos (Nat.succ_pos _) (Nat.succ_pos _)) b
    exact this
  | k + 1, m, n, t, o, w, ow, h => by
    rw [cnt_qs, qs_bsN _ _ _ _ _ _ _ h, List.map_append, List.sum_append, List.map_map, List.map_map]
    have l1 : ∀ m', m = m' + 1 → ((qsOf m t).map (cntQ (k + 1 - 1) ∘ fun q => q.map (bs1 (k + 1 - 1) m n o ow))).sum ≤ cnt m t * ((cnt n o + 1) * bn m' n) := by
      intro m' e
      subst e
      rw [cnt_qs (m' + 1), ← sum_map_mul]
      refine sum_map_le _ _ _ fun q hq => cntQ_map_le _ _ q fun a ha => ?_
      have := cnt_bs k m' n a.2.2 o a.2.1 ow (by omega)
      rw [Nat.mul_assoc] at this
      show 1 + cnt k (bsN k m' n a.2.2 o a.2.1 ow) ≤ _
      rw [Nat.add_comm, Nat.add_comm 1]
      exact this
    have l2 : ∀ n', n = n' + 1 → ((qsOf n o).map (cntQ (k + 1 - 1) ∘ fun q => q.map (bs2 (k + 1 - 1) m n t w))).sum ≤ cnt n o * ((cnt m t + 1) * bn m n') := by
      intro n' e
      subst e
      rw [cnt_qs (n' + 1), ← sum_map_mul]
      refine sum_map_le _ _ _ fun q hq => cntQ_map_le _ _ q fun a ha => ?_
      have := cnt_bs k m n' t a.2.2 w a.2.1 (by omega)
      rw [Nat.mul_comm (cnt m t + 1), Nat.mul_assoc] at this
      show 1 + cnt k (bsN k m n' t a.2.2 w a.2.1) ≤ _
      rw [Nat.add_comm, Nat.add_comm 1]
      exact this
    have z1 : m = 0 → ((qsOf m t).map (cntQ (k + 1 - 1) ∘ fun q => q.map (bs1 (k + 1 - 1) m n o ow))).sum = 0 ∧ cnt m t = 0 := by
      intro e
      subst e
      exact ⟨rfl, rfl⟩
    have z2 : n = 0 → ((qsOf n o).map (cntQ (k + 1 - 1) ∘ fun q => q.map (bs2 (k + 1 - 1) m n t w))).sum = 0 ∧ cnt n o = 0 := by
      intro e
      subst e
      exact ⟨rfl, rfl⟩
    generalize ((qsOf m t).map (cntQ (k + 1 - 1) ∘ fun q => q.map (bs1 (k + 1 - 1) m n o ow))).sum = x at l1 z1 ⊢
    generalize ((qsOf n o).map (cntQ (k + 1 - 1) ∘ fun q => q.map (bs2 (k + 1 - 1) m n t w))).sum = y at l2 z2 ⊢
    generalize cnt m t = c at l1 l2 z1 z2 ⊢
    generalize cnt n o = d at l1 l2 z1 z2 ⊢
    cases m with
    | zero =>
      obtain ⟨rfl, rfl⟩ := z1 rfl
      cases n with
      | zero =>
        obtain ⟨rfl, rfl⟩ := z2 rfl
        decide
      | succ n =>
        have := l2 n rfl
        rw [show bn 0 n = 1 by cases n <;> rfl] at this
        rw [show bn 0 (n + 1) = 1 from rfl]
        omega
    | succ m =>
      cases n with
      | zero =>
        obtain ⟨rfl, rfl⟩ := z2 rfl
        have := l1 m rfl
        have e : bn m 0 = 1 := by cases m <;> rfl
        rw [e] at this
        rw [show bn (m + 1) 0 = 1 from rfl]
        omega
      | succ n =>
        have h1 := l1 m rfl
        have h2 := l2 n rfl
        rw [show bn (m + 1) (n + 1) = bn m (n + 1) + bn (m + 1) n from rfl]
        have b1 := bn_pos m (n + 1)
        generalize bn m (n + 1) = B1 at h1 b1 ⊢
        generalize bn (m + 1) n = B2 at h2 ⊢
        have e : (c + 1) * (d + 1) * (B1 + B2) = c * ((d + 1) * B1) + (d + 1) * B1 + d * ((c + 1) * B2) + (c + 1) * B2 := by grind
        have : 1 ≤ (d + 1) * B1 := Nat.mul_pos (Nat.succ_pos _) b1
        omega
/-! ### chains -/
def chN (W : Nat) : (m : Nat) → Nd m
  | 0 => ()
  | m + 1 => ([[([(m : Int)], ones W, chN W m)]] : List (Qn m))
theorem cnt_ch (W : Nat) : ∀ m : Nat, cnt m (chN W m) = m
  | 0 => rfl
  | m + 1 => by
    show 1 + cnt m (chN W m) + 0 + 0 = _
    rw [cnt_ch W m]
    omega
/-- how many paths two chains beside one another have -/
def chR (f : Nat → Nat) : Nat → Nat
  | 0 => 1 + f 0
  | b + 1 => 1 + f (b + 1) + chR f b
def chs : Nat → Nat → Nat
  | 0 => fun b => b + 1
  | a + 1 => chR (chs a)
theorem qs_ch0 (W : Nat) : qsOf 0 (chN W 0) = [] := rfl
theorem qs_ch (W m : Nat) : qsOf (m + 1) (chN W (m + 1)) = [[([(m : Int)], ones W, chN W m)]] := rfl
theorem cnt_bs_ch (W : Nat) : ∀ (k m n : Nat) (w ow : List Rat), m + n ≤ k → cnt k (bsN k m n (chN W m) (chN W n) w ow) + 1 = chs m n
  | 0, m, n, w, ow, h => by
    obtain rfl : m = 0 := by omega
    obtain rfl : n = 0 := by omega
    rfl
  | k + 1, m, n, w, ow, h => by
    rw [cnt_qs, qs_bsN _ _ _ _ _ _ _ h, List.map_append, List.sum_append, List.map_map, List.map_map]
    cases m with
    | zero =>
      cases n with
      | zero => rfl
      | succ n =>
        have := cnt_bs_ch W k 0 n w (ones W) (by omega)
        show 0 + ((1 + cnt k (bsN k 0 n (chN W 0) (chN W n) w (ones W)) + 0) + 0) + 1 = n + 1 + 1
        have e : chs 0 n = n + 1 := rfl
        omega
    | succ m =>
      have h1 := cnt_bs_ch W k m n (ones W) ow (by omega)
      cases n with
      | zero =>
        show ((1 + cnt k (bsN k m 0 (chN W m) (chN W 0) (ones W) ow) + 0) + 0) + 0 + 1 = 1 + chs m 0
        omega
      | succ n =>
        have h2 := cnt_bs_ch W k (m + 1) n w (ones W) (by omega)
        show ((1 + cnt k (bsN k m (n + 1) (chN W m) (chN W (n + 1)) (ones W) ow) + 0) + 0) + ((1 + cnt k (bsN k (m + 1) n (chN W (m + 1)) (chN W n) w (ones W)) + 0) + 0) + 1 = 1 + chs m (n + 1) + chR (chs m) n
        have e : chs (m + 1) n = chR (chs m) n := rfl
        omega
theorem ch_ok (W : Nat) (w1 : 1 ≤ W) : ∀ m : Nat, m ≤ 99 → NdOk W m (ones W) (chN W m)
  | 0, _ => trivial
  | m + 1, hm => by
    refine ⟨by show 1 ≤ 5; decide, fun q hq => ?_⟩
    have e : q = [([(m : Int)], ones W, chN W m)] := List.mem_singleton.mp hq
    subst e
    have one : ∀ {a : An m}, a ∈ ([([(m : Int)], ones W, chN W m)] : Qn m) → a = ([(m : Int)], ones W, chN W m) := fun h => List.mem_singleton.mp h
    refine ⟨⟨Nat.le_refl _, by show 1 ≤ 12; decide, fun a ha => ?_, fun i x y e1 e2 => ?_, fun a ha => ?_, fun a ha r hr => ?_, fun j hj => ?_⟩, fun a ha => ?_⟩
    · rw [one ha]
      refine ⟨by show 1 ≤ 8; decide, fun x hx => ?_⟩
      rw [List.mem_singleton.mp hx]
      omega
    · have : i + 1 < 1 := (List.getElem?_eq_some_iff.mp e2).1
      omega
    · rw [one ha]
      exact ones_len W
    · rw [one ha] at hr
      exact ones_ch r hr
    · show fsum [(ones W).getD j 0] = _
      rw [fsum_cons, fsum_nil, Rat.add_zero]
    · rw [one ha]
      exact ch_ok W w1 m (by omega)
end Tl
/-! things of any kind, as far as judges look at them -/
namespace Tl
open PySem PySem.Spec PyProof.Rows L2 RZ
inductive AD where
  | int (i : Int)
  | tup (xs : List AD)
  | oth (s : Option Str)
/-- a value that is such a thing; its lists and dicts lie away from the bag -/
inductive Ad (K : PySem.W.Frag) (b g : Addr) (H : Hp) : V → AD → Prop
  | int (i : Int) : Ad K b g H (.int i) (.int i)
  | tup {a : Addr} {xs : List V} {ds : List AD} : SqT K H a xs → xs.length = ds.length → (∀ (i : Nat) (x : V) (d : AD), xs[i]? = some x → ds[i]? = some d → Ad K b g H x d) → Ad K b g H (.ref a) (.tup ds)
  | non : Ad K b g H .non (.oth none)
  | bl (c : Bool) : Ad K b g H (.bl c) (.oth none)
  | str (x : Str) : Ad K b g H (.str x) (.oth (some x))
  | lst {a : Addr} {xs : List V} : H a = some (.lst xs) → a ≠ b → a ≠ g → Ad K b g H (.ref a) (.oth none)
  | dk {a : Addr} {kvs : List (Key × V)} : H a = some (.dK kvs) → a ≠ b → a ≠ g → Ad K b g H (.ref a) (.oth none)
  | dt {a : Addr} {kvs : List (List Key × V)} : H a = some (.dT kvs) → a ≠ b → a ≠ g → Ad K b g H (.ref a) (.oth none)
theorem Ad.keep {K : PySem.W.Frag} {b g : Addr} {H H' : Hp} {v : V} {d : AD} (B : Bag H b g) (f : Frm b g H H') (h : Ad K b g H v d) : Ad K b g H' v d := by
  induction h with
  | int i => exact .int i
  | tup h l _ ih => exact .tup (B.kt f _ _ h) l ih
  | non => exact .non
  | bl c => exact .bl c
  | str x => exact .str x
  | lst h n m => exact .lst (f _ _ h n m) n m
  | dk h n m => exact .dk (f _ _ h n m) n m
  | dt h n m => exact .dt (f _ _ h n m) n m
theorem Ad.same {K : PySem.W.Frag} {b g : Addr} {H H' : Hp} {v : V} {d : AD} (f : Same H H') (h : Ad K b g H v d) : Ad K b g H' v d := by
  induction h with
  | int i => exact .int i
  | tup h l _ ih => exact .tup (Same.kt f _ _ h) l ih
  | non => exact .non
  | bl c => exact .bl c
  | str x => exact .str x
  | lst h n m => exact .lst (f _ _ h) n m
  | dk h n m => exact .dk (f _ _ h) n m
  | dt h n m => exact .dt (f _ _ h) n m
/-- what isinstance tells of it -/
theorem Ad.kind {K : PySem.W.Frag} {b g : Addr} {H : Hp} {v : V} {d : AD} (h : Ad K b g H v d) :
    (∃ i, v = .int i ∧ d = .int i) ∨ (∃ a xs ds, v = .ref a ∧ d = .tup ds ∧ SqT K H a xs ∧ xs.length = ds.length ∧ ∀ (i : Nat) (x : V) (e : AD), xs[i]? = some x → ds[i]? = some e → Ad K b g H x e) ∨
    (∃ s, d = .oth s ∧ ∃ t, TyX K H v t ∧ PySem.W.kitOne K t (.type "tuple") = some false ∧ (PySem.W.kitOne K t (.type "int") = some false ∨ (PySem.W.kitOne K t (.type "int") = some true ∧ PySem.W.kitOne K t (.type "bool") = some true))) := by
  cases h with
  | int i => exact .inl ⟨i, rfl, rfl⟩
  | tup h l k => exact .inr (.inl ⟨_, _, _, rfl, rfl, h, l, k⟩)
  | non => exact .inr (.inr ⟨_, rfl, _, .base .non, kit_ty (by decide +kernel), .inl (kit_ty (by decide +kernel))⟩)
  | bl c => exact .inr (.inr ⟨_, rfl, _, .base (.bl c), kit_ty (by decide +kernel), .inr ⟨kit_ty (by decide +kernel), kit_ty (by decide +kernel)⟩⟩)
  | str x => exact .inr (.inr ⟨_, rfl, _, .base (.str x), kit_ty (by decide +kernel), .inl (kit_ty (by decide +kernel))⟩)
  | lst h n m => exact .inr (.inr ⟨_, rfl, _, .base (.lst h), kit_ty (by decide +kernel), .inl (kit_ty (by decide +kernel))⟩)
  | dk h n m => exact .inr (.inr ⟨_, rfl, _, .base (.dK h), kit_ty (by decide +kernel), .inl (kit_ty (by decide +kernel))⟩)
  | dt h n m => exact .inr (.inr ⟨_, rfl, _, .base (.dT h), kit_ty (by decide +kernel), .inl (kit_ty (by decide +kernel))⟩)
/-- the text that it is -/
def strA : AD → Option Str
  | .oth s => s
  | _ => none
theorem Ad.is_str {K : PySem.W.Frag} {b g : Addr} {H : Hp} {v : V} {d : AD} (h : Ad K b g H v d) : ∃ t, TyX K H v t ∧ PySem.W.kitOne K t (.type "str") = some (strA d).isSome ∧ ∀ x, strA d = some x → v = .str x := by
  cases h with
  | int i => exact ⟨_, .base (.int i), kit_ty (show kitB "int" "str" = some false by decide +kernel), fun x e => by cases e⟩
  | tup h l k => exact ⟨_, tyx_tup h, kit_ty (show kitB "tuple" "str" = some false by decide +kernel), fun x e => by cases e⟩
  | non => exact ⟨_, .base .non, kit_ty (show kitB "NoneType" "str" = some false by decide +kernel), fun x e => by cases e⟩
  | bl c => exact ⟨_, .base (.bl c), kit_ty (show kitB "bool" "str" = some false by decide +kernel), fun x e => by cases e⟩
  | str x => exact ⟨_, .base (.str x), kit_ty (show kitB "str" "str" = some true by decide +kernel), fun y e => by cases e; rfl⟩
  | lst h n m => exact ⟨_, .base (.lst h), kit_ty (show kitB "list" "str" = some false by decide +kernel), fun x e => by cases e⟩
  | dk h n m => exact ⟨_, .base (.dK h), kit_ty (show kitB "dict" "str" = some false by decide +kernel), fun x e => by cases e⟩
  | dt h n m => exact ⟨_, .base (.dT h), kit_ty (show kitB "dict" "str" = some false by decide +kernel), fun x e => by cases e⟩
/-- right data are such things -/
def ofD : PyData → AD
  | .int i => .int i
  | .str x => .oth (some x)
  | .tuple xs => .tup (ofDs xs)
  | _ => .oth none
where ofDs : List PyData → List AD
  | [] => []
  | x :: r => ofD x :: ofDs r
theorem ofDs_map : ∀ xs : List PyData, ofD.ofDs xs = xs.map ofD
  | [] => rfl
  | x :: r => by
    show ofD x :: ofD.ofDs r = _
    rw [ofDs_map r]
    rfl
mutual
theorem Td.ad {K : PySem.W.Frag} {b g : Addr} {H : Hp} : ∀ {v : V} {d : PyData}, Td K H v d → Ad K b g H v (ofD d)
  | _, _, .non => .non
  | _, _, .bl c => .bl c
  | _, _, .int i => .int i
  | _, _, .str x => .str x
  | _, _, .tup h t => .tup h (by
    have e := TdAll.len t
    show _ = (ofD.ofDs _).length
    rw [ofDs_map, List.length_map]
    exact e) (TdAll.ad t)
theorem TdAll.ad {K : PySem.W.Frag} {b g : Addr} {H : Hp} : ∀ {vs : List V} {ds : List PyData}, TdAll K H vs ds → ∀ (i : Nat) (x : V) (e : AD), vs[i]? = some x → (ofD.ofDs ds)[i]? = some e → Ad K b g H x e
  | _, _, .nil, i, x, e, h, _ => by simp at h
  | _, _, .cons h t, 0, x, e, h1, h2 => by
    cases h1
    cases h2
    exact h.ad
  | _, _, .cons h t, i + 1, x, e, h1, h2 => t.ad i x e (by simpa using h1) h2
end
/-! ### what the judges find -/
def inA : AD → Bool
  | .int _ => true
  | _ => false
def frA : AD → Bool
  | .tup [.int x, .int y] => decide (1 ≤ y) && decide (Nat.gcd x.natAbs y.natAbs = 1)
  | _ => false
def chA : AD → Bool
  | .tup [.int x, .int y] => (decide (1 ≤ y) && decide (Nat.gcd x.natAbs y.natAbs = 1)) && (decide (0 ≤ x) && decide (x ≤ y))
  | _ => false
def arA (p : AD → Bool) (d : AD) (many : Nat) : Bool := match d with
  | .tup xs => decide (xs.length = many) && xs.all p
  | _ => false
theorem fr_pair {d : AD} (h : frA d = true) : ∃ x y, d = .tup [.int x, .int y] := by
  cases d with
  | int i => cases h
  | oth => cases h
  | tup ds =>
    match ds, h with
    | [], h => cases h
    | [x], h => cases x <;> cases h
    | [.int x, .int y], _ => exact ⟨x, y, rfl⟩
    | [.int x, .tup _], h => cases h
    | [.int x, .oth _], h => cases h
    | [.tup _, y], h => cases h
    | [.oth _, y], h => cases h
    | x :: y :: z :: r, h => cases x <;> cases y <;> cases h
theorem ch_fr {d : AD} (h : frA d = false) : chA d = false := by
  cases d with
  | int i => rfl
  | oth => rfl
  | tup ds =>
    match ds, h with
    | [], h => rfl
    | [x], h => cases x <;> rfl
    | [.int x, .int y], h =>
      show (frA (.tup [.int x, .int y]) && _) = false
      rw [h, Bool.false_and]
    | [.int x, .tup _], h => rfl
    | [.int x, .oth _], h => rfl
    | [.tup _, y], h => rfl
    | [.oth _, y], h => rfl
    | x :: y :: z :: r, h => cases x <;> cases y <;> rfl
/-- the fraction that a thing stands for -/
def ratA : AD → Rat
  | .tup [.int x, .int y] => mkRat x y.toNat
  | _ => 0
def spIn (K : PySem.W.Frag) : Sp := fun vs H Q _ => ∃ (b g : Addr) (v : V) (d : AD), vs = [v] ∧ Ad K b g H v d ∧ Q (.bl (inA d)) H
def spFrA (K : PySem.W.Frag) : Sp := fun vs H Q _ => ∃ (b g : Addr) (v : V) (d : AD), vs = [v] ∧ Ad K b g H v d ∧ Q (.bl (frA d)) H
def spChA (K : PySem.W.Frag) : Sp := fun vs H Q _ => ∃ (b g : Addr) (v : V) (d : AD), vs = [v] ∧ Ad K b g H v d ∧ Q (.bl (chA d)) H
def spArA (K : PySem.W.Frag) (p : AD → Bool) : Sp := fun vs H Q _ => ∃ (b g : Addr) (v : V) (d : AD) (m : Nat), vs = [v, .int (m : Int)] ∧ Ad K b g H v d ∧ m ≤ 100 ∧ ∀ H', Same H H' → Q (.bl (arA p d m)) H'
section
variable {P : Program} {w : World} {K : PySem.W.Frag} {mg : Str → Option Value} {base : Heap} {aN aO : Addr} {t1 t2 t3 t4 t5 t6 t7 : Tok}
theorem ok_is_integral_a {f : Addr} {fd : FuncData} (D : Dn K mg "is_integral" s_is_integral ["thing"] f fd) (B : Blt mg) (C : Cst K mg aN aO t1 t2 t3 t4 t5 t6 t7) : FnOk P w K mg base CX0 1 f fd ["thing"] (spIn K) := by
  refine D.F.ok sc_is_integral (fun vs H Q E h => ?_) (fun cdv A outer s H vs Q E hr h => ?_)
  · obtain ⟨b, g, v, d, rfl, _⟩ := h
    rfl
  obtain ⟨b, g, v, d, rfl, hv, q⟩ := h
  have nd := sc_is_integral.nd
  refine ⟨_, (pss_one (ps_ret (pe_and (pe_callB (k_isi (K := K) rfl) (by rfl) B.isinstance (by decide +kernel) (pa_cons (pv 0) (pa_cons (pe_bltn (v := .ty "int") (u := .type "int") (by rfl) B.int (by decide +kernel) rfl) pa_nil))) (pe_one (pe_not (pe_callB (k_isi (K := K) rfl) (by rfl) B.isinstance (by decide +kernel) (pa_cons (pv 0) (pa_cons (pe_bltn (v := .ty "bool") (u := .type "bool") (by rfl) B.bool (by decide +kernel) rfl) pa_nil)))))))), ?_⟩
  rcases hv.kind with ⟨i, rfl, rfl⟩ | ⟨a, xs, ds, rfl, rfl, hs, _, _⟩ | ⟨_, rfl, t, ty, k1, k2⟩
  · exact ⟨_, rfl, _, _, _, _, true, rfl, .ty "int", .base (.int i), kit_ty (by decide +kernel), _, rfl, iteT ⟨_, rfl, _, _, _, _, false, rfl, .ty "bool", .base (.int i), kit_ty (by decide +kernel), _, rfl, q⟩⟩
  · exact ⟨_, rfl, _, _, _, _, false, rfl, .ty "int", tyx_tup hs, kit_ty (by decide +kernel), _, rfl, iteF q⟩
  · rcases k2 with k2 | ⟨k2, k3⟩
    · exact ⟨_, rfl, _, _, _, _, false, rfl, .ty "int", ty, k2, _, rfl, iteF q⟩
    · exact ⟨_, rfl, _, _, _, _, true, rfl, .ty "int", ty, k2, _, rfl, iteT ⟨_, rfl, _, _, _, _, true, rfl, .ty "bool", ty, k3, _, rfl, q⟩⟩
theorem ok_is_fraction_a {f f1 : Addr} {fd fd1 : FuncData} (D : Dn K mg "is_fraction" s_is_fraction ["thing"] f fd) (B : Blt mg) (C : Cst K mg aN aO t1 t2 t3 t4 t5 t6 t7)
    (D_is_integral : Dn K mg "is_integral" s_is_integral ["thing"] f1 fd1) (G_is_integral : FnOk P w K mg base CX0 1 f1 fd1 ["thing"] (spIn K)) : FnOk P w K mg base CX0 2 f fd ["thing"] (spFrA K) := by
  refine D.F.ok sc_is_fraction (fun vs H Q E h => ?_) (fun cdv A outer s H vs Q E hr h => ?_)
  · obtain ⟨b, g, v, d, rfl, _⟩ := h
    rfl
  obtain ⟨b, g, v, d, rfl, hv, q⟩ := h
  have nd := sc_is_fraction.nd
  refine ⟨_, (pss_cons (ps_if (PW.pt (pw_or (pt_not (pt_val (pe_callB (k_isi (K := K) rfl) (by rfl) B.isinstance (by decide +kernel) (pa_cons (pv 0) (pa_cons (pe_bltn (v := .ty "tuple") (u := .type "tuple") (by rfl) B.tuple (by decide +kernel) rfl) pa_nil))))) (pw_or1 (pt_cmpR op_ne (pe_callB (k_len (K := K) rfl) (by rfl) B.len PySem.boot_len (pa_cons (pv 0) pa_nil)) pe_int (nomark _))))) (pss_one (ps_ret pe_bl)) pss_nil)
      (pss_cons (ps_asg (pv 0) (k_tup (K := K) (n := 2) rfl rfl (pgs_cons (pg_name (i := 1) nd rfl (.inl rfl)) (pgs_cons (pg_name (i := 2) nd rfl (.inl rfl)) pgs_nil))))
      (pss_one (ps_ret (pe_and (pe_call G_is_integral (hr.mono (by omega)) (by rfl) D_is_integral.m D_is_integral.F.kp D_is_integral.b .nil pass0 (pa_cons (pv 1) pa_nil)) (pe_and (pe_call G_is_integral (hr.mono (by omega)) (by rfl) D_is_integral.m D_is_integral.F.kp D_is_integral.b .nil pass0 (pa_cons (pv 2) pa_nil)) (pe_and (pe_cmpR op_ge (pv 2) pe_int (nomark _)) (pe_one (pe_cmpR op_eq (pe_callBfun cr_gcd (by rfl) C.gcd (pa_cons (pv 1) (pa_cons (pv 2) pa_nil))) pe_int (nomark _)))))))))), ?_⟩
  rcases hv.kind with ⟨i, rfl, rfl⟩ | ⟨a, xs, ds, rfl, rfl, hs, hl, hk⟩ | ⟨_, rfl, t, ty, k1, k2⟩
  · exact ⟨_, rfl, _, _, _, _, false, rfl, .ty "tuple", .base (.int i), kit_ty (by decide +kernel), _, rfl, iteT q⟩
  · refine ⟨_, rfl, _, _, _, _, true, rfl, .ty "tuple", tyx_tup hs, kit_ty (by decide +kernel), _, rfl, iteF ?_⟩
    by_cases l2 : ds.length = 2
    · obtain ⟨d1, d2, rfl⟩ : ∃ d1 d2, ds = [d1, d2] := by
        match ds, l2 with
        | [x, y], _ => exact ⟨x, y, rfl⟩
      obtain ⟨v1, v2, rfl⟩ : ∃ v1 v2, xs = [v1, v2] := by
        match xs, hl with
        | [x, y], _ => exact ⟨x, y, rfl⟩
      have h1 := hk 0 v1 d1 rfl rfl
      have h2 := hk 1 v2 d2 rfl rfl
      refine ⟨_, rfl, a, _, rfl, .inr hs, rfl, _, rfl, iteF ?_⟩
      refine ⟨_, rfl, a, _, rfl, hs, rfl, _, _, rfl, _, _, rfl, rfl, ?_⟩
      refine ⟨_, rfl, b, g, v1, d1, rfl, h1, _, rfl, ?_⟩
      cases e1 : inA d1 with
      | false =>
        refine iteF ?_
        have e : frA (.tup [d1, d2]) = false := by
          cases d1 with
          | int i => cases e1
          | tup _ => rfl
          | oth => rfl
        rw [e] at q
        exact q
      | true =>
        refine iteT ⟨_, rfl, b, g, v2, d2, rfl, h2, _, rfl, ?_⟩
        cases d1 with
        | tup _ => cases e1
        | oth => cases e1
        | int x =>
          cases h1
          cases e2 : inA d2 with
          | false =>
            refine iteF ?_
            have e : frA (.tup [.int x, d2]) = false := by
              cases d2 with
              | int i => cases e2
              | tup _ => rfl
              | oth => rfl
            rw [e] at q
            exact q
          | true =>
            cases d2 with
            | tup _ => cases e2
            | oth => cases e2
            | int y =>
              cases h2
              refine iteT ⟨_, rfl, _, _, rfl, rfl, _, rfl, ?_⟩
              by_cases hy : 1 ≤ y
              · rw [decide_eq_true (show y ≥ 1 from hy)]
                refine iteT ⟨_, rfl, _, rfl, _, _, rfl, rfl, ?_⟩
                show Q (.bl (decide (V.int ((Nat.gcd x.natAbs y.natAbs : Nat) : Int) = V.int 1))) H
                have e : decide (V.int ((Nat.gcd x.natAbs y.natAbs : Nat) : Int) = V.int 1) = frA (.tup [.int x, .int y]) := by
                  show _ = (decide (1 ≤ y) && decide (Nat.gcd x.natAbs y.natAbs = 1))
                  rw [decide_eq_true hy, Bool.true_and]
                  exact decide_eq_decide.mpr ⟨fun z => by have := V.int.inj z; omega, fun z => by rw [z]; rfl⟩
                rw [e]
                exact q
              · rw [decide_eq_false (show ¬ y ≥ 1 from hy)]
                refine iteF ?_
                have e : frA (.tup [.int x, .int y]) = false := by
                  show (decide (1 ≤ y) && decide (Nat.gcd x.natAbs y.natAbs = 1)) = false
                  rw [decide_eq_false hy, Bool.false_and]
                rw [e] at q
                exact q
    · refine ⟨_, rfl, a, _, rfl, .inr hs, rfl, _, rfl, ?_⟩
      rw [decide_eq_false (show ¬ (V.int ((xs.length : Nat) : Int)) = V.int 2 from fun z => l2 (by have := V.int.inj z; omega))]
      refine iteT ?_
      have e : frA (.tup ds) = false := by
        match ds, l2 with
        | [], _ => rfl
        | [x], _ => cases x <;> rfl
        | [x, y], h => exact absurd rfl h
        | x :: y :: z :: r, _ => cases x <;> cases y <;> rfl
      rw [e] at q
      exact q
  · exact ⟨_, rfl, _, _, _, _, false, rfl, .ty "tuple", ty, k1, _, rfl, iteT q⟩
theorem ok_is_chance_a {f f1 : Addr} {fd fd1 : FuncData} (D : Dn K mg "is_chance" s_is_chance ["thing"] f fd) (B : Blt mg) (C : Cst K mg aN aO t1 t2 t3 t4 t5 t6 t7)
    (D_is_fraction : Dn K mg "is_fraction" s_is_fraction ["thing"] f1 fd1) (G_is_fraction : FnOk P w K mg base CX0 2 f1 fd1 ["thing"] (spFrA K)) : FnOk P w K mg base CX0 3 f fd ["thing"] (spChA K) := by
  refine D.F.ok sc_is_chance (fun vs H Q E h => ?_) (fun cdv A outer s H vs Q E hr h => ?_)
  · obtain ⟨b, g, v, d, rfl, _⟩ := h
    rfl
  obtain ⟨b, g, v, d, rfl, hv, q⟩ := h
  have nd := sc_is_chance.nd
  refine ⟨_, (pss_one (ps_ret (pe_and (pe_call G_is_fraction (hr.mono (by omega)) (by rfl) D_is_fraction.m D_is_fraction.F.kp D_is_fraction.b .nil pass0 (pa_cons (pv 0) pa_nil)) (pe_one (pe_chain op_le op_le pe_int (pe_ix (k_ixT (K := K) rfl) (pv 0) pe_int (fun _ _ => rfl)) (pe_ix (k_ixT (K := K) rfl) (pv 0) pe_int (fun _ _ => rfl))))))), ?_⟩
  refine ⟨_, rfl, b, g, v, d, rfl, hv, _, rfl, ?_⟩
  cases hf : frA d with
  | false =>
    refine iteF ?_
    rw [ch_fr hf] at q
    exact q
  | true =>
    refine iteT ?_
    obtain ⟨x, y, rfl⟩ := fr_pair hf
    cases hv with
    | @tup a xs _ hs hl hk =>
    obtain ⟨v1, v2, rfl⟩ : ∃ v1 v2, xs = [v1, v2] := by
      match xs, hl with
      | [x, y], _ => exact ⟨x, y, rfl⟩
    cases hk 0 v1 _ rfl rfl
    cases hk 1 v2 _ rfl rfl
    have e : chA (.tup [.int x, .int y]) = (decide (0 ≤ x) && decide (x ≤ y)) := by
      show (frA (.tup [.int x, .int y]) && _) = _
      rw [hf, Bool.true_and]
    rw [e] at q
    refine ⟨_, rfl, a, _, 0, _, rfl, rfl, hs, at_of (j := 0) rfl rfl, _, _, rfl, rfl, _, rfl, ?_⟩
    by_cases h0 : 0 ≤ x
    · rw [decide_eq_true h0]
      rw [decide_eq_true h0, Bool.true_and] at q
      exact iteT ⟨_, rfl, a, _, 1, _, rfl, rfl, hs, at_of (j := 1) rfl rfl, _, _, rfl, rfl, q⟩
    · rw [decide_eq_false h0]
      rw [decide_eq_false h0, Bool.false_and] at q
      exact iteF q
end
end Tl
/-! rows of things; sums of them -/
namespace Tl
open PySem PySem.Spec PyProof.Rows L2 RZ
/-- all over a walk, with answers of any kind -/
theorem lc_bools {K : PySem.W.Frag} {J : It} {n : Nat} {G : Hp → Prop} {Y : Nat → Hp → V → Hp → Prop} (w : Walk J n G Y) {g : TG} {tt : TT} {te : TE} {vs : List Nat} {σ : L2.St} {H : Hp} {T : Addr} {Qd : Hp → Prop} (bs : List Bool) (hl : bs.length = n) (hn : n ≤ 900) (hT : H T = none) (hG : ∀ H', Same H H' → G H')
    (hs : ∀ (i : Nat) (x : V) (c : Bool) (H2 H3 : Hp) (Qy : V → Hp → Prop) (N : Hp → Prop), bs[i]? = some c → Same H H2 → Y i H2 x H3 → (∀ H5, Same H2 H5 → Qy (.bl c) H5) → g x (wipe σ vs) H3 fun σ2 H4 => wipe σ2 vs = wipe σ vs ∧ tt σ2 H4 fun b H5 => if b = true then te σ2 H5 Qy else N H5)
    (hd : ∀ H2, H2 T = some (.lst (bs.map V.bl)) → Same H H2 → Qd H2) :
    ∃ W : Nat → Nat → Hp → Prop, (∃ m, W 0 m (upd H T (.lst []))) ∧ ∀ i m H, W i m H →
      (J.stop i H ∧ Qd H) ∨ (J.go i H ∧ ∃ Nx : Hp → Prop, (∀ H', Nx H' → ∃ m', m' < m ∧ W (i + 1) m' H') ∧ ∀ x H', J.yld i H x H' → g x (wipe σ vs) H' fun σ2 H2 => wipe σ2 vs = wipe σ vs ∧ tt σ2 H2 fun b H3 =>
        if b = true then te σ2 H3 fun y H4 => ∃ acc, H4 T = some (.lst acc) ∧ acc.length < sizeLine ∧ Nx (upd H4 T (.lst (acc ++ [y]))) else Nx H3) := by
  refine lc_it w (fun i H2 => H2 T = some (.lst ((bs.take i).map V.bl)) ∧ Same H H2) ⟨upd_same, same_upd hT⟩ (fun i H2 _ h => hG _ h.2) ?_ ?_
  · rintro i x H2 H3 hi ⟨h2, s2⟩ y
    have he : bs[i]? = some (bs[i]'(by omega)) := List.getElem?_eq_getElem _
    refine hs i x _ H2 H3 _ _ he s2 y fun H5 s5 => ?_
    refine ⟨_, s5 _ _ h2, ?_, ?_, fun c o z => ?_⟩
    · rw [List.length_map, List.length_take]
      exact small1000 (by omega)
    · rw [upd_same, List.take_add_one, he, List.map_append]
      rfl
    · rw [upd_ne (ne_of_none z hT)]
      exact s5 _ _ (s2 _ _ z)
  · rintro H2 ⟨h2, s2⟩
    rw [List.take_of_length_le (by omega)] at h2
    exact hd H2 h2 s2
theorem all_id (xs : List AD) (p : AD → Bool) : (xs.map p).all id = xs.all p := by
  rw [List.all_map]
  rfl
section
variable {P : Program} {w : World} {K : PySem.W.Frag} {mg : Str → Option Value} {base : Heap} {aN aO : Addr} {t1 t2 t3 t4 t5 t6 t7 : Tok}
theorem ok_are_chances_a {f f1 : Addr} {fd fd1 : FuncData} (D : Dn K mg "are_chances" s_are_chances ["thing", "many"] f fd) (B : Blt mg) (C : Cst K mg aN aO t1 t2 t3 t4 t5 t6 t7)
    (D_is_chance : Dn K mg "is_chance" s_is_chance ["thing"] f1 fd1) (G_is_chance : FnOk P w K mg base CX0 3 f1 fd1 ["thing"] (spChA K)) : FnOk P w K mg base CX0 4 f fd ["thing", "many"] (spArA K chA) := by
  refine D.F.ok sc_are_chances (fun vs H Q E h => ?_) (fun cdv A outer s H vs Q E hr h => ?_)
  · obtain ⟨b, g, v, d, m, rfl, _⟩ := h
    rfl
  obtain ⟨b, g, v, d, m, rfl, hv, hm, q⟩ := h
  have nd := sc_are_chances.nd
  refine ⟨_, (pss_cons (ps_if (PW.pt (pw_or (pt_not (pt_val (pe_callB (k_isi (K := K) rfl) (by rfl) B.isinstance (by decide +kernel) (pa_cons (pv 0) (pa_cons (pe_bltn (v := .ty "tuple") (u := .type "tuple") (by rfl) B.tuple (by decide +kernel) rfl) pa_nil))))) (pw_or1 (pt_cmpR op_ne (pe_callB (k_len (K := K) rfl) (by rfl) B.len PySem.boot_len (pa_cons (pv 0) pa_nil)) (pv 1) (nomark _))))) (pss_one (ps_ret pe_bl)) pss_nil)
      (pss_one (ps_ret (pe_callB (k_all (K := K) rfl rfl) (by rfl) B.all (by decide +kernel) (pa_cons (pe_lc (own := [("chance", 2)]) rfl nd (k_iT (K := K) rfl (pv 0)) (blkOk_by (own := [("chance", 2)]) (by kernel_rfl)) (fun _ _ _ _ _ => (pg_name (i := 2) nd rfl (.inl rfl))) (fun _ _ _ _ _ => pts_nil) (fun _ _ _ _ _ => (pe_call G_is_chance (hr.mono (by omega)) (by rfl) D_is_chance.m D_is_chance.F.kp D_is_chance.b .nil pass0 (pa_cons (pv 2) pa_nil)))) pa_nil))))), ?_⟩
  rcases hv.kind with ⟨i, rfl, rfl⟩ | ⟨a, xs, ds, rfl, rfl, hs, hl, hk⟩ | ⟨_, rfl, t, ty, k1, k2⟩
  · exact ⟨_, rfl, _, _, _, _, false, rfl, .ty "tuple", .base (.int i), kit_ty (by decide +kernel), _, rfl, iteT (q H (Same.refl _))⟩
  · refine ⟨_, rfl, _, _, _, _, true, rfl, .ty "tuple", tyx_tup hs, kit_ty (by decide +kernel), _, rfl, iteF ?_⟩
    refine ⟨_, rfl, a, _, rfl, .inr hs, _, rfl, rfl, _, rfl, ?_⟩
    by_cases l2 : ds.length = m
    · rw [hl, l2, decide_eq_true rfl]
      refine iteF ?_
      refine ⟨_, rfl, a, rfl, ⟨_, hs⟩, fun T hT => ?_⟩
      refine lc_bools (K := K) (walk_tup (K := K) (a := a) (xs := xs)) (ds.map chA) (by rw [List.length_map, hl]) (by omega) hT (fun H' s => Same.kt s _ _ hs) ?_ ?_
      · rintro i x c H2 H3 Qy N hc s2 ⟨e3, g1⟩ hQ
        subst e3
        rw [List.getElem?_map] at hc
        obtain ⟨e, he, rfl⟩ := Option.map_eq_some_iff.mp hc
        refine ⟨rfl, ?_⟩
        refine iteT (B := N H3) ?_
        exact ⟨_, rfl, b, g, x, e, rfl, (hk i x e g1 he).same s2, hQ H3 (Same.refl _)⟩
      · intro H2 h2 s2
        refine ⟨T, _, rfl, SqL.of h2, ?_⟩
        rw [all_id]
        have z := q H2 s2
        have e : arA chA (.tup ds) m = ds.all chA := by
          show (decide (ds.length = m) && _) = _
          rw [decide_eq_true l2, Bool.true_and]
        rw [e] at z
        exact z
    · rw [hl, decide_eq_false (show ¬ V.int ((ds.length : Nat) : Int) = V.int (m : Int) from fun z => l2 (by have := V.int.inj z; omega))]
      refine iteT ?_
      have z := q H (Same.refl _)
      have e : arA chA (.tup ds) m = false := by
        show (decide (ds.length = m) && _) = _
        rw [decide_eq_false l2, Bool.false_and]
      rw [e] at z
      exact z
  · exact ⟨_, rfl, _, _, _, _, false, rfl, .ty "tuple", ty, k1, _, rfl, iteT (q H (Same.refl _))⟩
end
end Tl
/-! sums of things that are fractions; priors -/
namespace Tl
open PySem PySem.Spec PyProof.Rows L2 RZ
/-- not too great -/
inductive BdA : AD → Prop
  | int {i : Int} : i.natAbs < 2 ^ 200 → BdA (.int i)
  | tup {ds : List AD} : ds.length ≤ 1000 → (∀ d ∈ ds, BdA d) → BdA (.tup ds)
  | oth {s : Option Str} : BdA (.oth s)
theorem BdA.at_ {ds : List AD} (h : BdA (.tup ds)) : ds.length ≤ 1000 ∧ ∀ d ∈ ds, BdA d := by
  cases h with
  | tup h k => exact ⟨h, k⟩
theorem rat_of {d : AD} (h : frA d = true) : ∃ x y : Int, d = .tup [.int x, .int y] ∧ (ratA d).num = x ∧ ((ratA d).den : Int) = y := by
  obtain ⟨x, y, rfl⟩ := fr_pair h
  have h : (decide (1 ≤ y) && decide (Nat.gcd x.natAbs y.natAbs = 1)) = true := h
  rw [Bool.and_eq_true] at h
  have h1 := of_decide_eq_true h.1
  have h2 := of_decide_eq_true h.2
  refine ⟨x, y, rfl, ?_⟩
  show (mkRat x y.toNat).num = x ∧ ((mkRat x y.toNat).den : Int) = y
  have ey : y.natAbs = y.toNat := by omega
  rw [ey] at h2
  obtain ⟨e1, e2⟩ := mkRat_parts x y.toNat (by omega)
  rw [h2] at e1 e2
  exact ⟨by rw [e1]; omega, by rw [e2]; omega⟩
theorem td_rat {K : PySem.W.Frag} {b g : Addr} {H : Hp} {v : V} {d : AD} (h : Ad K b g H v d) (f : frA d = true) : Td K H v (rD (ratA d)) := by
  obtain ⟨x, y, rfl, e1, e2⟩ := rat_of f
  cases h with
  | @tup a xs _ hs hl hk =>
    obtain ⟨v1, v2, rfl⟩ : ∃ v1 v2, xs = [v1, v2] := by
      match xs, hl with
      | [x, y], _ => exact ⟨x, y, rfl⟩
    cases hk 0 v1 _ rfl rfl
    cases hk 1 v2 _ rfl rfl
    show Td K H _ (.tuple [.int (ratA _).num, .int ((ratA _).den : Int)])
    rw [e1, e2]
    exact .tup hs (.cons (.int _) (.cons (.int _) .nil))
theorem rat_bd {d : AD} (f : frA d = true) (bd : BdA d) : (ratA d).den < 2 ^ 200 ∧ (ratA d).num.natAbs < 2 ^ 200 := by
  obtain ⟨x, y, e, e1, e2⟩ := rat_of f
  rw [e] at bd
  obtain ⟨_, k⟩ := bd.at_
  have h1 := k (.int x) (by simp)
  have h2 := k (.int y) (by simp)
  cases h1 with
  | int h1 => cases h2 with
    | int h2 => exact ⟨by omega, by rw [e1]; exact h1⟩
theorem tds_of {K : PySem.W.Frag} {H : Hp} : ∀ {xs : List V} {rs : List Rat}, xs.length = rs.length → (∀ (i : Nat) (x : V) (r : Rat), xs[i]? = some x → rs[i]? = some r → Td K H x (rD r)) → TdAll K H xs (rs.map rD)
  | [], [], _, _ => .nil
  | [], _ :: _, l, _ => by simp at l
  | _ :: _, [], l, _ => by simp at l
  | x :: xs, r :: rs, l, h => .cons (h 0 x r rfl rfl) (tds_of (by simpa using l) fun i x r e1 e2 => h (i + 1) x r (by simpa using e1) (by simpa using e2))
/-- a common bottom -/
def prD : List Rat → Nat
  | [] => 1
  | r :: rs => r.den * prD rs
theorem prD_pos : ∀ rs : List Rat, 0 < prD rs
  | [] => Nat.one_pos
  | r :: rs => Nat.mul_pos (Nat.pos_of_ne_zero r.den_nz) (prD_pos rs)
theorem prD_dvd : ∀ {rs : List Rat}, ∀ r ∈ rs, r.den ∣ prD rs
  | r :: rs, x, h => by
    rcases List.mem_cons.mp h with rfl | h
    · exact Nat.dvd_mul_right _ _
    · exact Nat.dvd_trans (prD_dvd x h) (Nat.dvd_mul_left _ _)
theorem prD_lt : ∀ {rs : List Rat}, (∀ r ∈ rs, r.den < 2 ^ 200) → prD rs ≤ 2 ^ (200 * rs.length)
  | [], _ => Nat.le_refl _
  | r :: rs, h => by
    have h1 := h r (List.mem_cons_self ..)
    have h2 := prD_lt fun x hx => h x (List.mem_cons_of_mem _ hx)
    show r.den * prD rs ≤ _
    rw [List.length_cons, Nat.mul_succ, Nat.pow_add, Nat.mul_comm (2 ^ (200 * rs.length))]
    exact Nat.mul_le_mul (Nat.le_of_lt h1) h2
theorem bd_of_num {r : Rat} {m : Nat} (h : r.num.natAbs < m) : Bd r m := by
  have hd : 0 < r.den := Nat.pos_of_ne_zero r.den_nz
  have hm : (m : Int) ≤ (m : Int) * (r.den : Int) := by
    have := Nat.le_mul_of_pos_right m hd
    rw [← Int.natCast_mul]
    omega
  constructor
  · refine (Rat.le_iff _ _).mpr ?_
    show (-((m : Rat).num)) * (r.den : Int) ≤ r.num * (((m : Rat).den : Nat) : Int)
    rw [Rat.num_natCast, Rat.den_natCast, Int.neg_mul]
    omega
  · refine (Rat.le_iff _ _).mpr ?_
    rw [Rat.num_natCast, Rat.den_natCast]
    omega
theorem tot_any {rs : List Rat} (h : ∀ r ∈ rs, r.den < 2 ^ 200 ∧ r.num.natAbs < 2 ^ 200) (l : rs.length ≤ 5) : ((rs.map (frN (prD rs))).map (fr (prD rs)) = rs) ∧ 0 < prD rs ∧ prD rs < 2 ^ 1500 ∧ abssum (rs.map (frN (prD rs))) < 2 ^ 1500 := by
  have d0 := prD_pos rs
  have d1 := prD_lt fun r hr => (h r hr).1
  have d2 : prD rs ≤ 2 ^ 1000 := Nat.le_trans d1 (Nat.pow_le_pow_right (by decide) (by omega))
  refine ⟨frs_frN d0 prD_dvd, d0, Nat.lt_of_le_of_lt d2 (Nat.pow_lt_pow_right (by decide) (by decide)), Nat.lt_of_le_of_lt (frNs_absM (m := 2 ^ 200) fun r hr => ⟨prD_dvd r hr, bd_of_num (h r hr).2⟩) ?_⟩
  have a : rs.length * (2 ^ 200 * prD rs) ≤ 2 ^ 3 * (2 ^ 200 * 2 ^ 1000) := Nat.mul_le_mul (by omega) (Nat.mul_le_mul_left _ d2)
  rw [← Nat.pow_add, ← Nat.pow_add] at a
  exact Nat.lt_of_le_of_lt a (Nat.pow_lt_pow_right (by decide) (by decide))
/-- whether things add up to one -/
def prA (d : AD) (W : Nat) : Bool := arA chA d W && (match d with
  | .tup xs => decide (fsum (xs.map ratA) = 1)
  | _ => false)
theorem ch_is {d : AD} (h : chA d = true) : frA d = true := by
  cases e : frA d with
  | true => rfl
  | false =>
    rw [ch_fr e] at h
    cases h
def spPrA (K : PySem.W.Frag) : Sp := fun vs H Q _ => ∃ (b g : Addr) (v : V) (d : AD) (W : Nat), vs = [v, .int (W : Int)] ∧ Ad K b g H v d ∧ BdA d ∧ W ≤ 5 ∧ ∀ H', Same H H' → Q (.bl (prA d W)) H'
section
variable {P : Program} {w : World} {K : PySem.W.Frag} {mg : Str → Option Value} {base : Heap} {aN aO : Addr} {t1 t2 t3 t4 t5 t6 t7 : Tok}
end
end Tl
/-! tables and tests, judged at things of any kind -/
namespace Tl
open PySem PySem.Spec PyProof.Rows L2 RZ
def fstA : AD → AD
  | .tup (x :: _) => x
  | _ => .oth none
def payA (W : Nat) (tb : AD → Bool) : AD → Bool
  | .tup [ps, t] => arA frA ps W && tb t
  | _ => false
def askA {n : Nat} (pay : AD → An n → Bool) : AD → Qn n → Bool
  | .tup [c, .tup rows], q => chA c && (decide (rows.length = q.length) && (List.zipWith pay rows q).all id)
  | _, _ => false
def tbA (W : Nat) : (n : Nat) → Nd n → AD → Bool
  | 0, _, .tup xs => decide (xs.length = 0)
  | 0, _, _ => false
  | n + 1, qs, .tup xs => decide (xs.length = (show List (Qn n) from qs).length) && ((List.zipWith (askA fun r (a : An n) => payA W (tbA W n a.2.2) r) xs (show List (Qn n) from qs)).all id && decide (fsum (xs.map fun x => ratA (fstA x)) ≤ 1))
  | _ + 1, _, _ => false
def payAt (W n : Nat) (r : AD) (a : An n) : Bool := payA W (tbA W n a.2.2) r
theorem two_of {ds : List AD} (h : ds.length = 2) : ∃ x y, ds = [x, y] := by
  match ds, h with
  | [x, y], _ => exact ⟨x, y, rfl⟩
theorem two_v {xs : List V} (h : xs.length = 2) : ∃ x y, xs = [x, y] := by
  match xs, h with
  | [x, y], _ => exact ⟨x, y, rfl⟩
theorem payA_two {W : Nat} {tb : AD → Bool} {ds : List AD} (h : ds.length ≠ 2) : payA W tb (.tup ds) = false := by
  match ds, h with
  | [], _ => rfl
  | [_], _ => rfl
  | [_, _], h => exact absurd rfl h
  | _ :: _ :: _ :: _, _ => rfl
theorem askA_two {n : Nat} {pay : AD → An n → Bool} {q : Qn n} {ds : List AD} (h : ds.length ≠ 2) : askA pay (.tup ds) q = false := by
  match ds, h with
  | [], _ => rfl
  | [_], _ => rfl
  | [x, y], h => exact absurd rfl h
  | x :: y :: _ :: _, _ => cases y <;> rfl
def spPayA (K : PySem.W.Frag) (n : Nat) : Sp := fun vs H Q _ => ∃ (b g : Addr) (W : Nat) (v u : V) (d : AD) (a : An n), vs = [v, u, .int (W : Int)] ∧ Ad K b g H v d ∧ BdA d ∧ Td K H u (anD n a) ∧ W ≤ 5 ∧ NdOk W n a.2.1 a.2.2 ∧ ∀ H', Same H H' → Q (.bl (payAt W n d a)) H'
def spAskA (K : PySem.W.Frag) : Nat → Sp
  | 0 => fun _ _ _ _ => False
  | n + 1 => fun vs H Q _ => ∃ (b g : Addr) (W : Nat) (v u : V) (d : AD) (q : Qn n), vs = [v, u, .int (W : Int)] ∧ Ad K b g H v d ∧ BdA d ∧ Td K H u (qnD n q) ∧ W ≤ 5 ∧ q.length ≤ 12 ∧ (∀ a ∈ q, NdOk W n a.2.1 a.2.2) ∧ ∀ H', Same H H' → Q (.bl (askA (payAt W n) d q)) H'
def spTbA (K : PySem.W.Frag) (n : Nat) : Sp := fun vs H Q _ => ∃ (b g : Addr) (W : Nat) (v u : V) (d : AD) (ahead : List Rat) (t : Nd n), vs = [v, u, .int (W : Int)] ∧ Ad K b g H v d ∧ BdA d ∧ Td K H u (ndD n t) ∧ W ≤ 5 ∧ NdOk W n ahead t ∧ ∀ H', Same H H' → Q (.bl (tbA W n t d)) H'
section
variable {P : Program} {w : World} {K : PySem.W.Frag} {mg : Str → Option Value} {base : Heap} {aN aO : Addr} {t1 t2 t3 t4 t5 t6 t7 : Tok}
end
end Tl
/-! tables and tests at things of any kind -/
namespace Tl
open PySem PySem.Spec PyProof.Rows L2 RZ
theorem tbA_qs (W n : Nat) (t : Nd n) (ds : List AD) : tbA W n t (.tup ds) = (decide (ds.length = (qsOf n t).length) && ((List.zipWith (askA (payAt W (n - 1))) ds (qsOf n t)).all id && decide (fsum (ds.map fun x => ratA (fstA x)) ≤ 1))) := by
  cases n with
  | succ n => rfl
  | zero =>
    cases ds with
    | nil =>
      show true = (true && (true && decide (fsum [] ≤ 1)))
      rw [fsum_nil]
      decide
    | cons x r =>
      show decide (r.length + 1 = 0) = (decide (r.length + 1 = 0) && _)
      rw [decide_eq_false (by omega), Bool.false_and]
theorem askA_is {n : Nat} {pay : AD → An n → Bool} {d : AD} {q : Qn n} (h : askA pay d q = true) : ∃ c rows, d = .tup [c, .tup rows] ∧ chA c = true := by
  cases d with
  | int i => cases h
  | oth => cases h
  | tup ds =>
    by_cases l : ds.length = 2
    · obtain ⟨c, r, rfl⟩ := two_of l
      cases r with
      | int _ => cases h
      | oth => cases h
      | tup rows =>
        have h : (chA c && _) = true := h
        rw [Bool.and_eq_true] at h
        exact ⟨c, rows, rfl, h.1⟩
    · rw [askA_two l] at h
      cases h
theorem all_zip {α β : Type} {f : α → β → Bool} : ∀ {xs : List α} {ys : List β}, xs.length = ys.length → (List.zipWith f xs ys).all id = true → ∀ x ∈ xs, ∃ y ∈ ys, f x y = true
  | [], _, _, _, x, hx => absurd hx List.not_mem_nil
  | _ :: _, [], l, _, _, _ => by simp at l
  | a :: xs, b :: ys, l, h, x, hx => by
    rw [List.zipWith_cons_cons, List.all_cons, Bool.and_eq_true] at h
    rcases List.mem_cons.mp hx with rfl | hx
    · exact ⟨b, List.mem_cons_self .., h.1⟩
    · obtain ⟨y, hy, e⟩ := all_zip (by simpa using l) h.2 x hx
      exact ⟨y, List.mem_cons_of_mem _ hy, e⟩
theorem rat_le {q : Rat} : decide (q.num ≤ (q.den : Int)) = decide (q ≤ 1) := by
  refine decide_eq_decide.mpr ⟨fun h => (Rat.le_iff q 1).mpr ?_, rat_le_one⟩
  have c : (1 : Rat).num = 1 := rfl
  have d : (1 : Rat).den = 1 := rfl
  rw [c, d]
  omega
theorem qok_at {W n : Nat} {ahead : List Rat} {t : Nd n} (h : NdOk W n ahead t) : (qsOf n t).length ≤ 5 ∧ ∀ q ∈ qsOf n t, q.length ≤ 12 ∧ ∀ a ∈ q, NdOk W (n - 1) a.2.1 a.2.2 := by
  cases n with
  | zero => exact ⟨Nat.zero_le _, fun q hq => absurd hq List.not_mem_nil⟩
  | succ n => exact ⟨h.1, fun q hq => ⟨(h.2 q hq).1.most, (h.2 q hq).2⟩⟩
/-- the judge of tests -/
def tsA (W n : Nat) (t : Nd n) : AD → Bool
  | .tup [p, x] => prA p W && tbA W n t x
  | _ => false
theorem tsA_two {W n : Nat} {t : Nd n} {ds : List AD} (h : ds.length ≠ 2) : tsA W n t (.tup ds) = false := by
  match ds, h with
  | [], _ => rfl
  | [_], _ => rfl
  | [_, _], h => exact absurd rfl h
  | _ :: _ :: _ :: _, _ => rfl
def spTsA (K : PySem.W.Frag) (Cc : Addr) (n : Nat) : Sp := fun vs H Q _ => ∃ (b g p : Addr) (W : Nat) (v u : V) (d : AD) (ahead : List Rat) (t : Nd n), vs = [.ref p, v] ∧ HouseAt Cc H p W u ∧ Ad K b g H v d ∧ BdA d ∧ Td K H u (ndD n t) ∧ W ≤ 5 ∧ NdOk W n ahead t ∧ ∀ H', Same H H' → Q (.bl (tsA W n t d)) H'
section
variable {P : Program} {w : World} {K : PySem.W.Frag} {mg : Str → Option Value} {base : Heap} {aN aO : Addr} {t1 t2 t3 t4 t5 t6 t7 : Tok}
end
end Tl
/-! the law's own judges at things of any kind: fractions, totals -/
namespace Tl
open PySem PySem.Spec PyProof.Rows L2 RZ
def spLFr (K : PySem.W.Frag) : Sp := fun vs H Q _ => ∃ (b g : Addr) (v : V) (d : AD), vs = [v] ∧ Ad K b g H v d ∧ ∀ H', Same H H' → Q (.bl (frA d)) H'
/-- up to five fractions of any bottoms, in a list or a tuple -/
def spLTo (K : PySem.W.Frag) : Sp := fun vs H Q _ => ∃ (r : Addr) (us : List V) (rs : List Rat), vs = [.ref r] ∧ (SqL K H r us ∨ SqT K H r us) ∧ TdAll K H us (rs.map rD) ∧ rs.length ≤ 5 ∧ (∀ x ∈ rs, x.den < 2 ^ 200 ∧ x.num.natAbs < 2 ^ 200) ∧ ∀ v H', Same H H' → Td K H' v (rD (fsum rs)) → Q v H'
theorem inA_all {ds : List AD} (h : ds.length = 2) : (ds.map inA).all id = true ↔ ∃ x y, ds = [.int x, .int y] := by
  obtain ⟨d1, d2, rfl⟩ := two_of h
  constructor
  · intro z
    cases d1 <;> cases d2 <;> first | exact ⟨_, _, rfl⟩ | cases z
  · rintro ⟨x, y, e⟩
    rw [e]
    rfl
theorem fr_no {ds : List AD} (h : ¬ ∃ x y, ds = [.int x, .int y]) : frA (.tup ds) = false := by
  cases e : frA (.tup ds) with
  | false => rfl
  | true =>
    obtain ⟨x, y, z⟩ := fr_pair e
    cases z
    exact absurd ⟨x, y, rfl⟩ h
theorem fsum_den : ∀ {rs : List Rat} {D : Nat}, 0 < D → (∀ x ∈ rs, x.den ∣ D) → (fsum rs).den ∣ D
  | [], _, _, _ => by
    rw [fsum_nil]
    exact Nat.one_dvd _
  | r :: rs, D, hD, h => by
    rw [fsum_cons]
    exact add_den_dvd (h r (List.mem_cons_self ..)) (fsum_den hD fun x hx => h x (List.mem_cons_of_mem _ hx)) hD
theorem fsum_bd : ∀ {rs : List Rat} {m : Nat}, (∀ x ∈ rs, Bd x m) → Bd (fsum rs) (rs.length * m)
  | [], m, _ => by
    rw [fsum_nil]
    exact bd_zero
  | r :: rs, m, h => by
    rw [fsum_cons, List.length_cons, Nat.add_mul, Nat.one_mul, Nat.add_comm]
    exact bd_add (h r (List.mem_cons_self ..)) (fsum_bd fun x hx => h x (List.mem_cons_of_mem _ hx))
theorem fsum_sm {rs : List Rat} (l : rs.length ≤ 5) (h : ∀ x ∈ rs, x.den < 2 ^ 200 ∧ x.num.natAbs < 2 ^ 200) : Sm (fsum rs) := by
  have d1 := prD_lt fun r hr => (h r hr).1
  have d2 : prD rs ≤ 2 ^ 1000 := Nat.le_trans d1 (Nat.pow_le_pow_right (by decide) (by omega))
  have d3 : (fsum rs).den ≤ prD rs := Nat.le_of_dvd (prD_pos rs) (fsum_den (prD_pos rs) fun x hx => prD_dvd x hx)
  have b := bd_num (fsum_bd fun x hx => bd_of_num (h x hx).2)
  have c : rs.length * 2 ^ 200 * (fsum rs).den ≤ 2 ^ 3 * 2 ^ 200 * 2 ^ 1000 := Nat.mul_le_mul (Nat.mul_le_mul_right _ (by omega)) (Nat.le_trans d3 d2)
  rw [← Nat.pow_add, ← Nat.pow_add] at c
  exact ⟨Nat.lt_of_le_of_lt (Nat.le_trans d3 d2) (Nat.pow_lt_pow_right (by decide) (by decide)), Nat.lt_of_le_of_lt (Nat.le_trans b c) (Nat.pow_lt_pow_right (by decide) (by decide))⟩
section
variable {P : Program} {w : World} {K : PySem.W.Frag} {mg : Str → Option Value} {base : Heap} {aN aO : Addr} {t1 t2 t3 t4 t5 t6 t7 : Tok}
end
end Tl
/-! the law's own judge of tables at things of any kind -/
namespace Tl
open PySem PySem.Spec PyProof.Rows L2 RZ
theorem rat_lt_num' (p q : Rat) : decide (p.num * (q.den : Int) < q.num * (p.den : Int)) = decide (p < q) := decide_eq_decide.mpr (Rat.lt_iff p q).symm
def spLBe (K : PySem.W.Frag) : Sp := fun vs H Q _ => ∃ (x y : V) (p q : Rat), vs = [x, y] ∧ Td K H x (rD p) ∧ Td K H y (rD q) ∧ Sm p ∧ Sm q ∧ Q (.bl (decide (p < q))) H
def it1 : AD → Bool
  | .tup [c, _] => frA c
  | _ => false
theorem it1_is {d : AD} (h : it1 d = true) : ∃ c r, d = .tup [c, r] ∧ frA c = true := by
  cases d with
  | int i => cases h
  | oth => cases h
  | tup ds =>
    match ds, h with
    | [], h => cases h
    | [_], h => cases h
    | [c, r], h => exact ⟨c, r, rfl, h⟩
    | _ :: _ :: _ :: _, h => cases h
theorem it1_two {ds : List AD} (h : ds.length ≠ 2) : it1 (.tup ds) = false := by
  match ds, h with
  | [], _ => rfl
  | [_], _ => rfl
  | [_, _], h => exact absurd rfl h
  | _ :: _ :: _ :: _, _ => rfl
theorem no_all {α β : Type} {f : α → β → Bool} {p : α → Bool} (k : ∀ x y, f x y = true → p x = true) : ∀ {xs : List α} {ys : List β}, xs.length = ys.length → (xs.map p).all id = false → (List.zipWith f xs ys).all id = false
  | [], [], _, h => by cases h
  | [], _ :: _, l, _ => by simp at l
  | _ :: _, [], l, _ => by simp at l
  | x :: xs, y :: ys, l, h => by
    rw [List.zipWith_cons_cons, List.all_cons]
    rw [List.map_cons, List.all_cons] at h
    cases e : f x y with
    | false => rfl
    | true =>
      rw [show id (p x) = true from k x y e, Bool.true_and] at h
      rw [show id true = true from rfl, Bool.true_and]
      exact no_all k (by simpa using l) h
theorem no_at {α β : Type} {f : α → β → Bool} : ∀ {xs : List α} {ys : List β} {i : Nat} {x : α} {y : β}, xs[i]? = some x → ys[i]? = some y → f x y = false → (List.zipWith f xs ys).all id = false
  | [], _, i, x, y, h, _, _ => by simp at h
  | _ :: _, [], i, x, y, _, h, _ => by simp at h
  | a :: xs, b :: ys, 0, x, y, h1, h2, e => by
    simp at h1 h2
    rw [List.zipWith_cons_cons, List.all_cons, h1, h2, e]
    rfl
  | a :: xs, b :: ys, i + 1, x, y, h1, h2, e => by
    rw [List.zipWith_cons_cons, List.all_cons, no_at (by simpa using h1) (by simpa using h2) e, Bool.and_false]
theorem all_of {α β : Type} {f : α → β → Bool} : ∀ {xs : List α} {ys : List β}, (∀ (i : Nat) (x : α) (y : β), xs[i]? = some x → ys[i]? = some y → f x y = true) → (List.zipWith f xs ys).all id = true
  | [], _, _ => by simp
  | _ :: _, [], _ => by simp
  | x :: xs, y :: ys, h => by
    rw [List.zipWith_cons_cons, List.all_cons, h 0 x y rfl rfl, all_of fun i x y e1 e2 => h (i + 1) x y (by simpa using e1) (by simpa using e2)]
    rfl
theorem all_at {α : Type} {p : α → Bool} {xs : List α} (h : (xs.map p).all id = true) : ∀ x ∈ xs, p x = true := fun x hx => by
  have := List.all_eq_true.mp h (p x) (List.mem_map_of_mem hx)
  exact this
theorem ask_it1 {n : Nat} {pay : AD → An n → Bool} (x : AD) (q : Qn n) (h : askA pay x q = true) : it1 x = true := by
  obtain ⟨c, rows, rfl, hc⟩ := askA_is h
  exact ch_is hc
theorem ask_it2 {n : Nat} {pay : AD → An n → Bool} (x : AD) (q : Qn n) (h : askA pay x q = true) : chA (fstA x) = true := by
  obtain ⟨c, rows, rfl, hc⟩ := askA_is h
  exact hc
def spLTb (K : PySem.W.Frag) (n : Nat) : Sp := fun vs H Q _ => ∃ (b g : Addr) (W : Nat) (v u : V) (d : AD) (ahead : List Rat) (t : Nd n), vs = [.int (W : Int), u, v] ∧ Ad K b g H v d ∧ BdA d ∧ Td K H u (ndD n t) ∧ W ≤ 5 ∧ NdOk W n ahead t ∧ ∀ H', Same H H' → Q (.bl (tbA W n t d)) H'
section
variable {P : Program} {w : World} {K : PySem.W.Frag} {mg : Str → Option Value} {base : Heap} {aN aO : Addr} {t1 t2 t3 t4 t5 t6 t7 : Tok}
end
end Tl
/-! the law's own judge of tests at things of any kind -/
namespace Tl
open PySem PySem.Spec PyProof.Rows L2 RZ
def spLTs (K : PySem.W.Frag) (n : Nat) : Sp := fun vs H Q _ => ∃ (b g : Addr) (W : Nat) (v u : V) (d : AD) (ahead : List Rat) (t : Nd n), vs = [.int (W : Int), u, v] ∧ Ad K b g H v d ∧ BdA d ∧ Td K H u (ndD n t) ∧ W ≤ 5 ∧ NdOk W n ahead t ∧ ∀ H', Same H H' → Q (.bl (tsA W n t d)) H'
section
variable {P : Program} {w : World} {K : PySem.W.Frag} {mg : Str → Option Value} {base : Heap} {aN aO : Addr} {t1 t2 t3 t4 t5 t6 t7 : Tok}
end
end Tl
/-! try with several clauses, each with a name; raise X(); items() and list() of dicts of ints -/
namespace Tl
open PySem PySem.Spec PyProof.Rows L2 RZ
/-- what named clauses wish, one behind the other: the class, the slot, the suite -/
def wTry (K : PySem.W.Frag) (Wout : WX) (D : Ends) : List (Value × Nat × (Addr → Value → Option Addr → TS)) → WX
  | [] => Wout
  | x :: r => wAs K x.1 x.2.1 x.2.2 (wTry K Wout D r) D
inductive TryOk (X : Cx) : List ExceptHandler → List (Value × Nat × (Addr → Value → Option Addr → TS)) → Prop
  | nil : TryOk X [] []
  | cons {x n : Str} {c : Value} {i : Nat} {ts : Addr → Value → Option Addr → TS} {s0 : Stmt} {ss : List Stmt} {p p' : Pos} {hs : List ExceptHandler} {l : List (Value × Nat × (Addr → Value → Option Addr → TS))} :
      Names X x c → X.N[i]? = some n → X.env.kindOf n = some .local →
      (∀ (a : Addr) (oe : Obj) (cls : Value) (d : Option Addr) (pn : List (Addr × Obj)), Zc cls d oe → (∃ vs, oe.data = .fields vs) → PSs (X.suite a ((a, oe) :: pn)) (s0 :: ss) (ts a cls d)) →
      TryOk X hs l → TryOk X (.ExceptHandler (some (.Name x p)) (some n) (s0 :: ss) p' :: hs) ((c, i, ts) :: l)
section
variable {X : Cx} {Wout : WX} {D : Ends} {pins : List (Addr × Obj)} {σ : L2.St} {H : Hp} {s₀ : Shared} {e : Addr} {G : Heap} {cls : Value} {d : Option Addr}
/-- the clauses, the exception being on the ground -/
theorem tries_go (hst : X.stack = X.env :: X.outer) (hfm : X.env.frame = some X.env.locals) (nod : X.N.Nodup) (tk : Takes X Wout) (J : Inv X pins σ H s₀) (gr : ∀ b o, s₀.heap.get? b = some o → b ∉ frs X.stack → G.get? b = some o) (na : H e = none) :
    ∀ {hs : List ExceptHandler} {l : List (Value × Nat × (Addr → Value → Option Addr → TS))}, TryOk X hs l → wTry X.K Wout D l cls d σ H →
      ∀ st : Shared, HandSPX.FlyingZ G (X.env :: X.outer) e (Zc cls d) st.heap → s₀.heap.UpToSlots st.heap → st.os = s₀.os → AllBare st.gens →
        wpAny (model X.prog X.w) X.A (handleBy (.ref e) X.env hs) (SP X pins D) X.xe st := by
  intro hs l ok
  induction ok with
  | nil =>
    intro wish st fly up eos gb
    obtain ⟨_, _, _, obj, vals, T, _, _, atE, _, dat, one, _⟩ := id fly
    refine wpAny_handleBy_nil ?_
    unfold PySem.passOn
    refine wpAny_bind (wpAny_field atE dat one ?_)
    have nn : ¬ ((Value.ref T == Value.none) = true) := by simp
    rw [if_neg nn, hfm]
    have away : wpAny (model X.prog X.w) X.A (setFlight (.ref e) (some X.env.locals)) (fun _ s4 => wpAny (model X.prog X.w) X.A (throw (.ref e) : Sem Flow) (SP X pins D) X.xe s4) X.xe st :=
      HandSPX.setFlight_upZ fly fun h4 held up4 => wpAny_throw (tk _ _ ⟨e, G, s₀, pins, σ, H, cls, d, rfl, J, gr, up.trans up4, .inr (.inr (by rw [hst]; exact held)), na, eos, gb, wish⟩)
    first
      | exact wpAny_bind (wpAny_pure (wpAny_bind away))
      | exact wpAny_bind away
  | @cons x n c i ts s0 ss p p' hs l nam hi loc su rest ih =>
    intro wish st fly up eos gb
    obtain ⟨b, hb, yes, no⟩ := wish
    obtain ⟨obj, vals, atE, zc, dat⟩ := fly.there
    have J1 : Inv X pins σ H st := J.landed gr fly.1 up eos gb
    have far : e ∉ frs (X.env :: X.outer) := fun mem => by
      obtain ⟨_, obj', at', other⟩ := fly.2.2.1.mem mem
      rw [atE] at at'
      cases at'
      exact other _ dat
    have notL : e ≠ X.env.locals := fun z => far (List.mem_filterMap.mpr ⟨X.env, List.mem_cons_self, by rw [hfm, z]⟩)
    have notF : e ∉ X.fs := fun mem => by
      obtain ⟨env, h1, h2⟩ := List.mem_filterMap.mp mem
      exact far (List.mem_filterMap.mpr ⟨env, List.mem_cons_of_mem _ h1, h2⟩)
    have S1 := J1.suite atE dat na notL notF
    have ty : PySem.W.Looks (model X.prog X.w) st.heap (typeOf (.ref e)) cls := fun A Q E s k q => wpAny_typeOf_ref (k _ _ atE) (by rw [zc.1]; exact q)
    refine wpAny_handleBy_cons (codeAny_handlers_test ?_) (by intro q; cases q)
    have look : ∀ {Q : Value → Shared → Prop} {E : Value → Shared → Prop}, Q c st → wpAny (model X.prog X.w) (X.A.mark (some (.ref e))) (eval (.Name x p) X.env) Q E st := fun {Q E} q => by
      obtain ⟨g1, g2, g3 | ⟨g3, g4, g5⟩⟩ := nam
      · exact ld_glob (X := X.suite e ((e, obj) :: (X.pn ++ pins))) S1 g1 g3 q g2
      · exact ld_blt (X := X.suite e ((e, obj) :: (X.pn ++ pins))) S1 g1 g3 g4 q g5 g2
    refine look ((PySem.W.exm_one (M := model X.prog X.w) J1.kIn ty hb).here ?_)
    cases b with
    | false => exact ih (no rfl) st fly up eos gb
    | true =>
      refine codeAny_handlers_suite_as (HandSPX.lands_againZ fly fun h4 fly4 up4 => ?_)
      obtain ⟨obj4, vals4, at4, zc4, dat4⟩ := fly4.there
      have J4 : Inv X pins σ H { st with heap := h4 } := J.landed gr fly4.1 (up.trans up4) eos gb
      have S4 := J4.suite at4 dat4 na notL notF
      refine store_ok (X := X.suite e ((e, obj4) :: (X.pn ++ pins))) (v := .ref e) S4 nod hi (.inl loc) rfl (fun s5 S5 => ?_) (.inr loc)
      refine wpAny_mono ((su e obj4 cls d (X.pn ++ pins) zc4 ⟨_, dat4⟩).run [] s5 _ H _ S5 (yes rfl e na)) (fun f s6 hsp => ?_) fun _ _ z => z.elim
      have bye : ∀ {σ6 : L2.St} {H6 : Hp} {Q : Shared → Prop}, Inv (X.suite e ((e, obj4) :: (X.pn ++ pins))) [] σ6 H6 s6 → (∀ s7, Inv X pins (σ6.set i none) H6 s7 → Q s7) →
          wpAny (model X.prog X.w) X.A (do bindName X.env n .none; unbindBehindTheSuite X.env n p') (fun _ s7 => Q s7) X.xe s6 := fun S6 hq => gone_ok (S6.unsuite J.ok) nod hi loc hq
      cases f with
      | ret u =>
        obtain ⟨v6, σ6, H6, S6, r6, q6⟩ := hsp
        exact bye S6 fun s7 J7 => ⟨v6, _, _, J7, r6, q6⟩
      | next =>
        obtain ⟨_, _, S6, q6⟩ := hsp
        exact bye S6 fun s7 J7 => ⟨_, _, J7, q6⟩
      | brk =>
        obtain ⟨_, _, S6, q6⟩ := hsp
        exact bye S6 fun s7 J7 => ⟨_, _, J7, q6⟩
      | cont =>
        obtain ⟨_, _, S6, q6⟩ := hsp
        exact bye S6 fun s7 J7 => ⟨_, _, J7, q6⟩
end
section
variable {X : Cx} {body : List Stmt} {h₀ : ExceptHandler} {hs : List ExceptHandler} {l : List (Value × Nat × (Addr → Value → Option Addr → TS))} {pos : Pos} {tb : WX → TS} {Wout : WX}
theorem ps_tries (hst : X.stack = X.env :: X.outer) (hfm : X.env.frame = some X.env.locals) (nod : X.N.Nodup) (tk : Takes X Wout)
    (hb : ∀ (W : WX) (pn : List (Addr × Obj)) (xe : Value → Shared → Prop), Takes (X.tr pn xe) W → PassesOwn (model X.prog X.w) X.A X.env xe → PSs (X.tr pn xe) body (tb W)) (ok : TryOk X (h₀ :: hs) l) :
    PS X (.Try body (h₀ :: hs) [] [] pos) (fun D σ H => tb (wTry X.K Wout D l) D σ H) := by
  refine ⟨fun pins s σ H D I h => wpAny_Try_except ?_⟩
  have frm : X.A.frames = some (X.env :: X.outer) := by rw [I.ok.frames, hst]
  refine wpAny_mono ((hb (wTry X.K Wout D l) (X.pn ++ pins) (fun z t1 => wpAny (model X.prog X.w) X.A (noteFrame z X.env) (fun _ t2 => wpAny (model X.prog X.w) X.A (setFlight z none) (fun _ t3 =>
    wpAny (model X.prog X.w) X.A (handleBy z X.env (h₀ :: hs)) (SP X pins D) X.xe t3) X.xe t2) X.xe t1) (fun u t xx => ?_) PassesOwn.looking).run [] s σ H D (I.toTry _) h) (fun f t hsp => ?_) fun _ _ z => z
  · obtain ⟨e, G, s₀, _, σ', H', cls, d, rfl, J', gr, up, sky, na, eos, gb, wish⟩ := xx
    have sky' : Sky G (X.env :: X.outer) e (Zc cls d) X.env.locals t.heap := by rw [← hst]; exact sky
    show wpAny (model X.prog X.w) X.A (noteFrame (.ref e) X.env) _ _ _
    exact Sky.land Zc.steady frm hfm sky' fun h3 fly up3 => tries_go hst hfm nod tk (J'.ofTry I.ok) gr na ok wish _ fly (up.trans up3) eos gb
  · cases f with
    | ret u =>
      obtain ⟨v, _, _, J', r, q⟩ := hsp
      exact ⟨v, _, _, J'.ofTry I.ok, r, q⟩
    | next =>
      obtain ⟨_, _, J', q⟩ := hsp
      exact wpAny_execs_nil ⟨_, _, J'.ofTry I.ok, q⟩
    | brk =>
      obtain ⟨_, _, J', q⟩ := hsp
      exact ⟨_, _, J'.ofTry I.ok, q⟩
    | cont =>
      obtain ⟨_, _, J', q⟩ := hsp
      exact ⟨_, _, J'.ofTry I.ok, q⟩
/-- X(), to be raised -/
theorem pmk_own0 {C : Addr} {bmB : List Value} {B newId initId : String} {x : Str} {p pos : Pos} (F : ExcBaseFacts B newId initId bmB) (q : PySem.W.excIn X.K C bmB newId = true) (gC : X.mg x = some (.ref C)) (kC : PySem.W.keepIn X.K (.ref C) = true) (r : Raises X (.ref C)) (hg : Gl X x)
    (hdb : (x == ("__debug__" : Str)) = false := by decide) : PMk X (.Call (.Name x p) [] [] pos) (fun _ H Q => Q (.ref C) none H) := by
  intro pins s σ H Q I h
  refine wpAny_Call_Name_kw (ld_glob I hg gC (PySem.W.callWith_K0 I.kIn kC ?_) hdb)
  show wpAny _ _ (call (.ref C) []) _ _ _
  obtain ⟨bm, N, nm, qn, bs, hdct, sn, sub, ab, col, dd, k0, k1, k2, k3, k5, mN, hC, hN, hni, T⟩ := exc_obj I.kIn q
  exact wpAny_call_exc_subT F T hC hN hni (fun h' e hm => mk_of I hm r h (I.hok.gone hm.new)) (by show 0 ≤ sizeLine; omega)
/-- what a callee that never raises lets out -/
theorem passN {X : Cx} : Passes (CX X.prog X.w) X (fun _ _ _ => False) := fun pins σ H s e s' I c => by
  obtain ⟨_, _, _, _, _, _, _, _, _, _, _, _, q⟩ := c
  exact q.elim
end
end Tl
/-! exceptions that are made as values and kept -/
namespace Tl
open PySem PySem.Spec PyProof.Rows L2 RZ
section
variable {X : Cx} {C : Addr} {e : Expr} {es : List Expr} {ta : TA} {te : TE} {p pos : Pos}
/-- X(), a class without own __init__ -/
def tEx0 (C : Addr) : TE := fun _ H Q => ∀ a, H a = none → Q (.ref a) (upd H a (exo a C none))
theorem pe_ex0 {bmB : List Value} {B newId initId : String} {x : Str} (F : ExcBaseFacts B newId initId bmB) (q : PySem.W.excIn X.K C bmB newId = true) (gC : X.mg x = some (.ref C)) (kC : PySem.W.keepIn X.K (.ref C) = true) (hg : Gl X x)
    (hdb : (x == ("__debug__" : Str)) = false := by decide) : PE X (.Call (.Name x p) [] [] pos) (tEx0 C) := by
  refine ⟨fun pins s σ H Q I h => ?_⟩
  refine wpAny_Call_Name_kw (ld_glob I hg gC ?_ hdb)
  refine PySem.W.callWith_K0 I.kIn kC ?_
  show wpAny _ _ (call (.ref C) []) _ _ _
  obtain ⟨bm, N, nm, qn, bs, hdct, sn, sub, ab, col, dd, k0, k1, k2, k3, k5, mN, hC, hN, hni, T⟩ := exc_obj I.kIn q
  refine wpAny_call_exc_subT F T hC hN hni (fun h' a hm => ?_) (by show 0 ≤ sizeLine; omega)
  have hn : H a = none := I.hok.gone hm.new
  obtain ⟨t, ht, _, _⟩ := hm.there
  exact ⟨.ref a, upd H a (exo a C none), I.laidN hm.keeps hm.new hn (exo_ok ht), rfl, h a hn⟩
/-- X(e, ..), the class's own __init__ keeping sp -/
def tEx1 (C : Addr) (sp : Sp) (dvs : List V) (ta : TA) : TE := fun σ H Q => ta σ H fun vs H1 => vs.length ≤ 1000 ∧ ∀ a, H1 a = none → sp (.ref a :: (vs ++ dvs)) (upd H1 a (exo a C none)) (fun v H2 => v = .non ∧ Q (.ref a) H2) (fun _ _ _ => False)
theorem pe_ex1 {CX : CXT} {x : Str} {fI : Addr} {k : Nat} {fd : FuncData} {ps : List Str} {sp : Sp} {ds : List Value} {dvs : List V} (T : OexC X.K C) (iC : PySem.W.findIn X.K (.ref C) "__init__" = some (some (.ref fI))) (tI : PySem.W.typeIn X.K (.ref fI) = some (.type "function"))
    (F1 : FnOk X.prog X.w X.K X.mg X.base CX k fI fd ps sp) (hr : Room (k + 1) X.A) (hb : Binds X.K fd ps ds) (hd : Vals dvs ds) (hx : Passes CX X (fun _ _ _ => False)) (hg : Gl X x) (hm : X.mg x = some (.ref C)) (ha : PA X (e :: es) ta)
    (hdb : (x == ("__debug__" : Str)) = false := by decide) (he : starEach (e :: es) X.env = (false, eval e X.env) :: starEach es X.env := by rfl) (hpl : (backTo pos (starEach es X.env)).any (·.1) = false := by rfl) :
    PE X (.Call (.Name x p) (e :: es) [] pos) (tEx1 C sp dvs ta) := by
  refine ⟨fun pins s σ H Q I h => ?_⟩
  obtain ⟨nm, q, N, bs, bm, sn, sub, ab, col, dd, k0, k1, k2, k3, k5, hC, hbm⟩ := T.cls
  refine wpAny_Call_Name_kw (ld_glob I hg hm ?_ hdb)
  refine PySem.W.callWith_K (h₀ := X.base) I.ok.mod.kin T.kC (thn (ha.run pos pins s σ H _ I h) fun us s1 hh => ?_) he hpl
  obtain ⟨vs, H1, I1, r1, hz, q1⟩ := hh
  refine ⟨I1.kIn, ?_⟩
  show wpAny _ _ (call (.ref C) us) _ _ _
  obtain ⟨hp, g, dr, tk, os⟩ := s1
  have big : hp.objs.size ≤ hp.objs.size + 1 := Nat.le_succ _
  have hq := q1 (hp.objs.size + 1) (I1.hok.fresh big)
  have kk : ∀ b o, hp.get? b = some o → ((hp.push (PySem.W.kdv_tup us)).push (PySem.HandSPX.excO C hp.objs.size)).get? b = some o := fun b o y => Heap.get?_push_of_some _ (Heap.get?_push_of_some _ y)
  have there : ((hp.push (PySem.W.kdv_tup us)).push (PySem.HandSPX.excO C hp.objs.size)).get? (hp.objs.size + 1) = some (PySem.HandSPX.excO C hp.objs.size) := by heap_get
  have I2 := I1.laid (t' := tk) (a := hp.objs.size + 1) (o := exo (hp.objs.size + 1) C none) (h' := (hp.push (PySem.W.kdv_tup us)).push (PySem.HandSPX.excO C hp.objs.size)) kk big (exo_ok there)
  have r2 : Vals (V.ref (hp.objs.size + 1) :: (vs ++ dvs)) (Value.ref (hp.objs.size + 1) :: (us ++ ds)) := .cons rfl (r1.append hd)
  have many : (Value.ref (hp.objs.size + 1) :: us ++ ds).length = ps.length := by
    have y := r2.length
    rw [F1.len _ _ _ _ hq] at y
    exact y.symm
  have few : us.length ≤ sizeLine := by
    rw [← Paired.length r1, sizeLine_eq]
    omega
  refine wpAny_call (PySem.HandSPX.call_own F.excBase_ValueError (fun Y => PySem.HandSPX.refsVE_contains Y bm hbm) (I1.kIn _ _ hC) (PySem.W.looks_findIn I1.kIn iC) (fun self => PySem.W.bind_fn I1.kIn self tI) few (codeAny_mono (F1.run _ X.stack _ _ ⟨Value.ref (hp.objs.size + 1) :: us, []⟩ (Value.ref (hp.objs.size + 1) :: (us ++ ds)) _ _ (fun _ _ _ => False) (hr.make C us []) (I2.env0.make C us []) (hb _ (Value.ref (hp.objs.size + 1) :: us) I2.kIn many) r2 hq) fun r s' hq' => ?_))
  cases r with
  | error er => exact hx pins σ _ _ er s' I2 hq'
  | ok fl =>
    cases fl with
    | ret u =>
      obtain ⟨v, H', I3, rv, ev, q3⟩ := I2.after hq'
      subst ev
      exact ⟨rv, ⟨V.ref (hp.objs.size + 1), H', I3, rfl, q3⟩⟩
    | next => exact hq'.elim
    | brk => exact hq'.elim
    | cont => exact hq'.elim
end
section
variable {X : Cx} {K : PySem.W.Frag} (h : X.K = K)
include h
/-- e.f of a kept exception -/
def tFldX (K : PySem.W.Frag) (te : TE) (f : Str) : TE := fun σ H Q => te σ H fun x H1 => ∃ (a C dx : Addr) (fs : List (Str × V)) (v : V), x = .ref a ∧ H1 a = some (exo a C (some dx)) ∧ H1 dx = some (exd dx fs) ∧ XfC K C ∧ PySem.W.findIn K (.ref C) f = some none ∧ fs.lookup f = some v ∧ Q v H1
theorem k_fldX {e : Expr} {te : TE} {f : Str} {pos : Pos} (he : PE X e te) (hb : attributeBase e f X.env (eval e X.env) = eval e X.env) : PE X (.Attribute e f pos) (tFldX K te f) := by
  subst h
  refine ⟨fun pins s σ H Q I h => ?_⟩
  refine attr_of hb (thn (he.run pins s σ H _ I h) fun u s1 hh => ?_)
  obtain ⟨x, H1, I1, rx, a, C, dx, fs, v, ex, ea, ed, T, hno, l, q⟩ := hh
  subst ex
  obtain rfl : u = Value.ref a := rx
  obtain ⟨t1, ho⟩ := exo_at I1.hok ea
  obtain ⟨mA, hns, hr⟩ := exd_at I1.hok ed
  obtain ⟨od, hod, hl⟩ := lookIn_ns hns
  obtain ⟨u, hu, ru⟩ := RelO.some_of (v := v) (o := mA f) (by rw [← l]; exact hr f)
  have J : PySem.W.InstAt s1.heap a { cls := .ref C, dict := some dx, data := .fields #[.ref t1, .none, .none, .none, .bool false, .none] } C (some od) := ⟨ho, rfl, rfl, hod⟩
  exact HandSPX.exc_get I1.kIn J T.ga T.gg T.exC (PySem.W.findObj_own T.hdC hno rfl (by rw [hl, hu])) (handed_of ru) ⟨v, H1, I1.tok _, ru, q⟩
/-- isinstance(e, c), e a kept exception -/
def rIsX (K : PySem.W.Frag) : List V → Hp → VK → Prop := fun xs H Q => ∃ (a D : Addr) (d : Option Addr) (c : V) (cv : Value) (b : Bool), xs = [.ref a, c] ∧ H a = some (exo a D d) ∧ (∀ dx, d = some dx → ∃ fs, H dx = some (exd dx fs)) ∧ ExcC K D ∧ (∀ u, RelV c u → u = cv) ∧ PySem.W.kitOne K (.ref D) cv = some b ∧ Q (.bl b) H
theorem k_isX : CallR X (.builtin "isinstance") (rIsX K) := by
  subst h
  intro pins s σ H xs us Q I r h
  obtain ⟨a, D, d, c, cv, b, rfl, ea, hd, T, hcv, e, q⟩ := h
  obtain ⟨u1, u2, rfl, r1, r2⟩ := vals2 r
  cases r1
  have ec := hcv _ r2
  subst ec
  obtain ⟨t1, ho⟩ := exo_at I.hok ea
  have hcl : (PySem.W.clsIn X.K D).isSome = true := by
    obtain ⟨cd, hc, _⟩ := PySem.W.any_some T.hd
    rw [hc]
    rfl
  obtain ⟨od, J⟩ : ∃ od, PySem.W.InstAt s.heap a { cls := .ref D, dict := d, data := .fields #[.ref t1, .none, .none, .none, .bool false, .none] } D od := by
    cases d with
    | none => exact ⟨none, ho, rfl, rfl, trivial⟩
    | some dx =>
      obtain ⟨fs, ed⟩ := hd dx rfl
      obtain ⟨mA, hns, _⟩ := exd_at I.hok ed
      obtain ⟨od, hod, _⟩ := lookIn_ns hns
      exact ⟨some od, ho, rfl, rfl, hod⟩
  exact PySem.W.kia_one (PySem.W.kitx_exc hcl T.hg T.hk T.hs T.ha T.hn T.ht T.hm) I.kIn J e (fun z => nomatch z) fun tk => ⟨.bl b, H, I.kept (t' := tk) fun _ _ z => z, rfl, q⟩
end
end Tl
/-! dicts of ints locked where they are made; what is known of error classes; isinstance in a suite -/
namespace Tl
open PySem PySem.Spec PyProof.Rows L2 RZ
theorem hu1 {A : Around} (h : A.units + 64 < cLine) : A.units + 1 < cLine := by omega
def tLockd (td : TE) : TE := fun σ H Q => td σ H fun x H1 => Q x H1 ∨ ∃ d u, x = .ref d ∧ H1 d = some u ∧ Mut (some u) ∧ ∀ od, Q x (upd H1 d (.frz od u))
theorem pe_lockd {X : Cx} {e : Expr} {td : TE} (he : PE X e td) : PE X e (tLockd td) := by
  refine ⟨fun pins s σ H Q I h => wpAny_mono (he.run pins s σ H _ I h) (fun u s' z => ?_) fun _ _ x => x⟩
  obtain ⟨v, H1, I1, r, q⟩ := z
  rcases q with q | ⟨d, w, rfl, h1, mu, q⟩
  · exact ⟨v, H1, I1, r, q⟩
  · obtain ⟨od, I2⟩ := I1.lock h1 mu
    exact ⟨_, _, I2, r, q od⟩
theorem pe_rev1 {X : Cx} {e : Expr} {te : TE} {k : Nat} {p1 p2 p3 pos : Pos} (he : PE X e te) : PE X (.Subscript e (.Slice none none (some (.UnaryOp .USub (.Constant (.int 1) k p1) p2)) p3) pos) (tRevL X.K te) := pe_revL he
/-! ### error classes -/
def veMro : List Value := [.type "ValueError", .type "Exception", .type "BaseException", .type "object"]
/-- an error class of the program: x its name, C its place, bm what stands behind it -/
structure XFact (K : PySem.W.Frag) (mg : Str → Option Value) (x : Str) (C : Addr) (bm : List Value) : Prop where
  g : mg x = some (.ref C)
  cls : ∃ cd, PySem.W.clsIn K C = some cd ∧ cd.mro = .ref C :: bm
  T : OexC K C
  E : ExcC K C
theorem XFact.k {K : PySem.W.Frag} {mg : Str → Option Value} {x : Str} {C : Addr} {bm : List Value} (X : XFact K mg x C bm) : PySem.W.keepIn K (.ref C) = true := X.T.kC
theorem sub_of {K : PySem.W.Frag} {mg : Str → Option Value} {x : Str} {C : Addr} {bm : List Value} (X : XFact K mg x C bm) (v : Value) : PySem.W.mroIn K C v = some ((Value.ref C :: bm).contains v) := by
  obtain ⟨cd, h1, h2⟩ := X.cls
  unfold PySem.W.mroIn
  rw [h1, Option.bind_some, h2]
  rfl
theorem kit_base {K : PySem.W.Frag} {mg : Str → Option Value} {x y : Str} {C HE : Addr} {bm : List Value} (X : XFact K mg x C (.ref HE :: veMro)) (Y : XFact K mg y HE bm) : PySem.W.kitOne K (.ref C) (.ref HE) = some true := by
  unfold PySem.W.kitOne
  by_cases e : C = HE
  · subst e
    rw [if_pos (beq_self_eq_true _)]
  · have nb : (Value.ref C == Value.ref HE) = false := beq_eq_false_iff_ne.mpr fun z => e (Value.ref.inj z)
    rw [nb, if_neg (by decide)]
    obtain ⟨cd, h1, h2⟩ := Y.cls
    show (if ((PySem.W.clsIn K HE).isSome && PySem.W.typeIn K (.ref HE) == some (.type "type")) = true then PySem.W.mroIn K C (.ref HE) else none) = some true
    rw [h1, Y.T.tyC, if_pos (by rfl), sub_of X, List.contains_cons, List.contains_cons, beq_self_eq_true, Bool.true_or, Bool.or_true]
/-- an error class that the program raises -/
structure XRs (K : PySem.W.Frag) (mg : Str → Option Value) (HE : Addr) (x : Str) (C : Addr) : Prop where
  X : XFact K mg x C (.ref HE :: veMro)
  q : PySem.W.excIn K C veMro "ValueError.__new__" = true
  ne : C ≠ HE
/-- an error of the class C, and a clause that names D -/
theorem exm_cc {K : PySem.W.Frag} {mg : Str → Option Value} {x y : Str} {C D HE : Addr} (X : XRs K mg HE x C) (Y : XRs K mg HE y D) : PySem.W.exmOne K (.ref C) (.ref D) = some (decide (C = D)) := by
  have e1 : (PySem.W.subIn K (.ref D) (.type "BaseException") == some true) = true := by rw [Y.X.E.hs]; rfl
  obtain ⟨cd, h1, h2⟩ := Y.X.cls
  have e2 : ((PySem.W.clsIn K D).isSome && PySem.W.typeIn K (.ref D) == some (.type "type")) = true := by
    rw [h1, Y.X.T.tyC]
    rfl
  show (if (PySem.W.subIn K (.ref D) (.type "BaseException") == some true) = true then (if ((PySem.W.clsIn K D).isSome && PySem.W.typeIn K (.ref D) == some (.type "type")) = true then PySem.W.subIn K (.ref C) (.ref D) else none) else none) = _
  rw [if_pos e1, if_pos e2]
  have s : PySem.W.subIn K (.ref C) (.ref D) = some ((Value.ref C :: .ref HE :: veMro).contains (.ref D)) := sub_of X.X _
  rw [s]
  by_cases e : C = D
  · subst e
    rw [List.contains_cons, beq_self_eq_true, Bool.true_or, decide_eq_true rfl]
  · have nb2 : (Value.ref D == Value.ref C) = false := beq_eq_false_iff_ne.mpr fun z => e (Value.ref.inj z).symm
    have nb3 : (Value.ref D == Value.ref HE) = false := beq_eq_false_iff_ne.mpr fun z => Y.ne (Value.ref.inj z)
    rw [List.contains_cons, List.contains_cons, nb2, nb3, decide_eq_false e]
    rfl
theorem exc_cls {K : PySem.W.Frag} {mg : Str → Option Value} {x : Str} {nm q : Str} {C N : Addr} {bs bm : List Value} {sn : List Str} {sub : List Value} {ab : Bool} {col : Option Bool} {dd : Option Addr} {k0 k1 k2 k3 k5 : Option Value} (g : mg x = some (.ref C))
    (hl : K.lookup C = some (excClassObj nm q C N bs bm true sn sub ab col dd k0 k1 k2 k3 k5 "ValueError.__new__")) (rv : PySem.HandSPX.refsVE bm = true) (be : bm.contains (.type "BaseException") = true) (ob : bm.contains (.type "object") = true)
    (sa : PySem.W.findIn K (.ref C) "__setattr__" = some (some (.builtin "object.__setattr__"))) (kp : PySem.W.keepIn K (.ref C) = true) (hg : PySem.W.findIn K (.ref C) "__getattribute__" = some (some (.builtin "BaseException.__getattribute__")))
    (hk : PySem.W.findIn K (.ref C) "__getattr__" = some none) (ha : PySem.W.findIn K (.ref C) "__class__" = some (some (.builtin "object.__class__"))) (hn : PySem.W.specialIn K (.builtin "object.__class__") "__get__" = some (some (.builtin "getset_descriptor.__get__")))
    (ht : PySem.W.takesIn K (.builtin "object.__class__") = some true) : XFact K mg x C bm := by
  have hc : ∃ cd, PySem.W.clsIn K C = some cd ∧ cd.mro = .ref C :: bm ∧ cd.hasDict = true := by
    unfold PySem.W.clsIn
    rw [hl]
    exact ⟨_, rfl, rfl, rfl⟩
  obtain ⟨cd, c1, c2, c3⟩ := hc
  have hm : ∀ v, bm.contains v = true → PySem.W.mroIn K C v = some true := fun v h => by
    unfold PySem.W.mroIn
    rw [c1, Option.bind_some, c2]
    show (if false = true then none else some ((Value.ref C :: bm).contains v)) = some true
    rw [if_neg (by decide), List.contains_cons, h, Bool.or_true]
  have ty : PySem.W.typeIn K (.ref C) = some (.type "type") := by
    show (K.lookup C).map (fun o => o.cls) = some (.type "type")
    rw [hl]
    rfl
  have hd : PySem.W.hasDictIn K C = true := by
    unfold PySem.W.hasDictIn
    rw [c1]
    exact c3
  exact ⟨g, ⟨cd, c1, c2⟩, ⟨⟨nm, q, N, bs, bm, sn, sub, ab, col, dd, k0, k1, k2, k3, k5, hl, rv⟩, sa, hm _ be, ty, kp⟩, ⟨hg, hk, hm _ be, hd, ha, hn, ht, hm _ ob⟩⟩
theorem ve_in {HE : Addr} : (Value.ref HE :: veMro).contains (.type "BaseException") = true ∧ (Value.ref HE :: veMro).contains (.type "object") = true := by
  constructor
  · rw [List.contains_cons, show veMro.contains (.type "BaseException") = true from by decide +kernel, Bool.or_true]
  · rw [List.contains_cons, show veMro.contains (.type "object") = true from by decide +kernel, Bool.or_true]
/-- isinstance(e, c) in a suite, e the suite's -/
def rIsE2 (K : PySem.W.Frag) (a : Addr) (cls : Value) (d : Option Addr) : List V → Hp → VK → Prop := fun xs H Q => ∃ D, cls = .ref D ∧ d = none ∧ ExcC K D ∧ rIsE K D a xs H Q
theorem k_isE {X : Cx} {a : Addr} {oe : Obj} {cls : Value} {d : Option Addr} {pn : List (Addr × Obj)} (hz : Zc cls d oe) (hf : ∃ vs, oe.data = .fields vs) : CallR (X.suite a ((a, oe) :: pn)) (.builtin "isinstance") (rIsE2 X.K a cls d) := by
  intro pins s σ H xs us Q I r h
  obtain ⟨D, rfl, rfl, C, h⟩ := h
  exact call_isE C hz hf pins s σ H xs us Q I r h
end Tl
/-! slices of tuples of any kind, tuples times any number, tuples backwards -/
namespace Tl
open PySem PySem.Spec PyProof.Rows L2 RZ
theorem cutV_whole {xs : List V} {lo hi : Option Int} (h : HT.sIx xs.length 0 lo = 0 ∧ HT.sIx xs.length xs.length hi = xs.length) : cutV xs lo hi = xs := by
  unfold cutV
  rw [h.1, h.2, Nat.sub_zero, List.drop_zero, List.take_length]
def rSlP (K : PySem.W.Frag) : V → Option Int → Option Int → Hp → VK → Prop := fun x lo hi H Q => ∃ a xs, x = .ref a ∧ SqT K H a xs ∧ ∀ p H', Same H H' → SqT K H' p (cutV xs lo hi) → Q (.ref p) H'
theorem k_slT {X : Cx} {K : PySem.W.Frag} (hK : X.K = K) : SlR X (rSlP K) := by
  subst hK
  intro pins s σ H x v vl vu lo hi sl Q I rx hs pl pu h
  obtain ⟨a, xs, e, hx, q⟩ := h
  refine sl_tupA pins s σ H x v vl vu lo hi sl Q I rx hs pl pu ⟨a, xs, e, hx, fun z => q a H (Same.refl _) (by rw [cutV_whole z]; exact hx), fun _ p hp => q p _ (same_upd hp) (.inl (.inl upd_same))⟩
theorem cut_init (xs : List V) : cutV xs none (some (-1)) = xs.take (xs.length - 1) := by
  unfold cutV
  have e : HT.sIx xs.length xs.length (some (-1)) = xs.length - 1 := by
    show (if (-1 : Int) < 0 then ((-1 : Int) + (xs.length : Int)).toNat else min (-1 : Int).toNat xs.length) = _
    rw [if_pos (by decide)]
    omega
  rw [HT.sIx_none, e, List.drop_zero, Nat.sub_zero]
theorem cut_last (xs : List V) : cutV xs (some (-1)) none = xs.drop (xs.length - 1) := by
  unfold cutV
  have e : HT.sIx xs.length 0 (some (-1)) = xs.length - 1 := by
    show (if (-1 : Int) < 0 then ((-1 : Int) + (xs.length : Int)).toNat else min (-1 : Int).toNat xs.length) = _
    rw [if_pos (by decide)]
    omega
  rw [HT.sIx_none, e]
  exact List.take_of_length_le (Nat.le_of_eq List.length_drop)
theorem cut_to (xs : List V) (k : Nat) : cutV xs none (some (k : Int)) = xs.take k := by
  unfold cutV
  rw [HT.sIx_none, HT.sIx_nat, List.drop_zero, Nat.sub_zero]
  by_cases h : k ≤ xs.length
  · rw [Nat.min_eq_left h]
  · have h : xs.length ≤ k := by omega
    rw [Nat.min_eq_right h, List.take_of_length_le (Nat.le_refl _), List.take_of_length_le h]
theorem cut_from (xs : List V) (k : Nat) : cutV xs (some (k : Int)) none = xs.drop k := by
  unfold cutV
  rw [HT.sIx_none, HT.sIx_nat]
  by_cases h : k ≤ xs.length
  · rw [Nat.min_eq_left h]
    exact List.take_of_length_le (Nat.le_of_eq List.length_drop)
  · have h : xs.length ≤ k := by omega
    rw [Nat.min_eq_right h, List.drop_of_length_le (Nat.le_refl _), List.drop_of_length_le h, List.take_nil]
/-! ### a tuple times any number -/
theorem mul_none_tup (l : Addr) (items : Array Value) (n : Nat) (dd : Option Addr) (sl : Array (Option Value)) (x : Int) (u : Tok) (c0 : (decide (x < -(2 ^ 63)) || decide (x ≥ 2 ^ 63)) = false) (c1 : (items.isEmpty || x == 1) = false) (c2 : (decide (x ≤ 0) || items.isEmpty) = true) :
    Meets (Builtin.«tuple.__mul__» ⟨[.ref l, .int x u], []⟩) (fun _ R s => s.heap.get? l = some { cls := .type "tuple", dict := dd, data := .seq items n, slots := sl } ∧
      R (.ok (.ret (Value.ref s.heap.objs.size))) { s with heap := s.heap.push { cls := Value.type "tuple", data := Data.seq #[] }, toks := s.toks }) :=
  .of_wp fun prog w A R s h => by
    obtain ⟨hp, g, d, tk, os⟩ := s
    obtain ⟨hl, h⟩ := h
    have f1 := AutoSeq1.idx_int
    wp_walk using wpAny_loadPart' hl
    repeat (first
      | (refine wpAny_ite_false (decide_eq_false (by rw [c0]; exact Bool.false_ne_true)) ?_; wp_walk using wpAny_loadPart' hl)
      | (refine wpAny_ite_false (decide_eq_false (by rw [c1]; exact Bool.false_ne_true)) ?_; wp_walk using wpAny_loadPart' hl)
      | (refine wpAny_ite_true (decide_eq_true c2) ?_; wp_walk using wpAny_loadPart' hl))
    exact ⟨_, rfl, h⟩
def rRepZ (K : PySem.W.Frag) : R2 := fun x y H Q => ∃ l k xs, x = .ref l ∧ y = .int k ∧ SqT K H l xs ∧ xs ≠ [] ∧ -1000 ≤ k ∧ k ≤ 1000 ∧ xs.length ≤ 1000 ∧ ∀ p H', Same H H' → SqT K H' p (List.replicate k.toNat xs).flatten → Q (.ref p) H'
theorem k_repZ {X : Cx} {K : PySem.W.Frag} (hK : X.K = K) : OpR X (binaryOp .Mult) (rRepZ K) := by
  subst hK
  intro pins s σ H x y v u Q I rx ry h
  obtain ⟨l, k, xs, rfl, rfl, hT, hne, h1, h2, hz, q⟩ := h
  by_cases hk : 1 ≤ k
  · exact op_repP pins s σ H _ _ v u Q I rx ry ⟨l, k, xs, rfl, rfl, hT, hne, hk, h2, hz, q⟩
  · cases rx
    obtain ⟨t, rfl⟩ := ry
    obtain ⟨its, r, ⟨⟨cls, dd, data, sl⟩, ho, hc, n, hd⟩, hs⟩ := I.tuple hT
    simp only at hc hd
    subst hc hd
    have hn : its.toArray.isEmpty = false := by
      cases its with
      | nil =>
        cases r
        exact absurd rfl hne
      | cons a b => rfl
    have c0 : (decide (k < -(2 ^ 63)) || decide (k ≥ 2 ^ 63)) = false := by
      rw [decide_eq_false (by omega), decide_eq_false (by omega)] <;> rfl
    have c1 : (its.toArray.isEmpty || k == 1) = false := by
      rw [hn, Bool.false_or]
      exact beq_eq_false_iff_ne.mpr (by omega)
    have c2 : (decide (k ≤ 0) || its.toArray.isEmpty) = true := by
      rw [decide_eq_true (by omega), Bool.true_or]
    refine wpAny_binaryOp_repeat_ref (T := "tuple") (U := "int") (by decide) ⟨_, ho, rfl⟩ (fun s' => typeIs_int s' k t) noFill_tuple_mul F.fills_int_mul F.slot_int_rmul repeat_tuple F.slot_int_index.lookup
      (call_meets F.slot_int_rmul (typeIs_int s k t) F.entry_int_rmul (F.args_int_rmul_2 _ _) (int_rmul_tuple k t l its.toArray n dd sl)
        ⟨ho, rfl, ⟨_, ho, rfl⟩, call_meets F.slot_tuple_mul ⟨_, ho, rfl⟩ F.entry_tuple_mul (F.args_tuple_mul_2 _ _) (mul_none_tup l its.toArray n dd sl k t c0 c1 c2) ⟨ho, ?_⟩⟩)
    have hf : H s.heap.objs.size = none := I.hok.fresh (Nat.le_refl _)
    refine ⟨.ref s.heap.objs.size, _, I.laid (t' := s.toks) (o := .tup []) (fun b ob q => Heap.get?_push_of_some _ q) (Nat.le_refl _) ?_, rfl, q _ _ (same_upd hf) ?_⟩
    · exact ⟨by show 0 ≤ sizeLine; decide, [], .nil, IsTup.new _ _⟩
    · rw [show k.toNat = 0 by omega]
      exact .inl (.inl upd_same)
/-! ### t[::-1] -/
theorem fm_congr {α β : Type} {f g : α → Option β} : ∀ (l : List α), (∀ k ∈ l, f k = g k) → l.filterMap f = l.filterMap g
  | [], _ => rfl
  | a :: r, h => by
    rw [List.filterMap_cons, List.filterMap_cons, h a (List.mem_cons_self ..), fm_congr r fun k hk => h k (List.mem_cons_of_mem _ hk)]
theorem rev_pick : ∀ l : List Value, (List.range l.length).filterMap (fun k => l[l.length - 1 - k]?) = l.reverse
  | [] => rfl
  | a :: t => by
    rw [List.length_cons, List.range_succ, List.filterMap_append, List.reverse_cons, ← rev_pick t]
    congr 1
    · refine fm_congr _ fun k hk => ?_
      have hk := List.mem_range.mp hk
      rw [show t.length + 1 - 1 - k = (t.length - 1 - k) + 1 by omega, List.getElem?_cons_succ]
    · rw [List.filterMap_cons, show t.length + 1 - 1 - t.length = 0 by omega]
      rfl
section
variable {prog : Program} {w : World} {A : Around} {E : Value → Shared → Prop} {s : Shared}
theorem applied_rev {sl : Addr} {n : Nat} {vl vu : Value} {t : Tok} {Q : Int × Int × Nat → Shared → Prop} (hs : s.heap.IsSliceOf sl vl vu (.int (-1) t)) (pl : IsPart vl none) (pu : IsPart vu none) (h : Q ((n : Int) - 1, -1, n) s) : wpAny (model prog w) A (Builtin.Slice.sliceApplied (.ref sl) (pure (n : Int))) Q E s := by
  obtain ⟨os, hos, hcs, hds⟩ := id hs
  unfold Builtin.Slice.sliceApplied Builtin.Slice.sliceFields
  refine wpAny_bind (wpAny_bind (wpAny_field hos hds (x := vl) rfl (wpAny_bind (wpAny_field hos hds (x := vu) rfl (wpAny_bind (wpAny_field hos hds (x := .int (-1) t) rfl (wpAny_pure ?_)))))))
  refine wpAny_bind (HT.slicePart_ (.int (-1) t) ?_)
  show wpAny _ _ (if ((-1 : Int) == 0) = true then _ else _) _ _ s
  rw [if_neg (by decide)]
  refine wpAny_bind (HT.slicePart_ pl (wpAny_bind (HT.slicePart_ pu (wpAny_bind (wpAny_pure ?_)))))
  show wpAny _ _ (match Builtin.Slice.sliceAdjust none none (-1) (n : Int) with | (lo, hi) => pure (lo, (-1 : Int), Builtin.Slice.slicePlaces lo hi (-1))) _ _ s
  have ea : Builtin.Slice.sliceAdjust none none (-1) (n : Int) = ((n : Int) - 1, -1) := by
    unfold Builtin.Slice.sliceAdjust
    simp
  rw [ea]
  show wpAny _ _ (pure ((n : Int) - 1, (-1 : Int), Builtin.Slice.slicePlaces ((n : Int) - 1) (-1) (-1))) _ _ s
  have ep : Builtin.Slice.slicePlaces ((n : Int) - 1) (-1) (-1) = n := by
    unfold Builtin.Slice.slicePlaces
    rw [if_neg (by decide)]
    by_cases h0 : n = 0
    · subst h0
      rfl
    · rw [if_pos (by omega)]
      show ((((n : Int) - 1 - -1 - 1) / 1 + 1).toNat) = n
      omega
  rw [ep]
  exact wpAny_pure h
theorem getItem_tuple_rev {t sl : Addr} {items : Array Value} {vl vu : Value} {tk : Tok} {Q : Value → Shared → Prop} (ht : IsTup s.heap t items) (hs : s.heap.IsSliceOf sl vl vu (.int (-1) tk)) (pl : IsPart vl none) (pu : IsPart vu none)
    (h : Q (.ref s.heap.objs.size) { s with heap := s.heap.push { cls := .type "tuple", data := .seq items.toList.reverse.toArray } }) (hsz : items.size ≤ sizeLine) : wpAny (model prog w) A (getItem (.ref t) (.ref sl)) Q E s := by
  have htake : sizeOk (.seq items.toList.reverse.toArray) := by
    show items.toList.reverse.toArray.size ≤ sizeLine
    rw [List.size_toArray, List.length_reverse, Array.length_toList]
    exact hsz
  obtain ⟨os, hos, hcs, hds⟩ := id hs
  have hTs : s.TypeIs (.ref sl) "slice" := ⟨os, hos, hcs⟩
  unfold getItem
  try with_reducible refine wpAny_holding ?_
  first | refine wpAny_bind (wpAny_pure ?_) | skip
  refine wpAny_bind (wpAny_sequenceKey ht.typeIs (by decide) ?_)
  refine wpAny_bind (wpAny_callSpecial?_slot (name := Str.ofString "__getitem__") ht.typeIs PyProof.Rows.slot_tuple_getitem
    (wpAny_call_entry PyProof.Rows.slot_tuple_getitem ht.typeIs entry_tuple_getitem ?_ (args_tuple_getitem _ _)))
  show wpAny _ _ (Builtin.Tuple.tupleItemsOf (.ref t) >>= _) _ _ s
  refine wpAny_bind (tupleItemsOf_ ht ?_)
  refine wpAny_bind (wpAny_typeOf hTs ?_)
  rw [if_pos (by decide)]
  refine wpAny_bind (applied_rev (n := items.size) hs pl pu ?_)
  show wpAny _ _ (if ((((items.size : Nat) : Int) - 1 == 0) && ((-1 : Int) == 1) && (items.size == items.size)) = true then _ else _) _ _ s
  have hno : ¬ (((((items.size : Nat) : Int) - 1 == 0) && ((-1 : Int) == 1) && (items.size == items.size)) = true) := by
    rw [show ((-1 : Int) == 1) = false from rfl, Bool.and_false, Bool.false_and]
    exact Bool.false_ne_true
  rw [if_neg hno]
  have e : ((List.range items.size).filterMap fun (k : Nat) => items[(((items.size : Nat) : Int) - 1 + (k : Int) * -1).toNat]?).toArray = items.toList.reverse.toArray := by
    congr 1
    rw [← rev_pick items.toList, Array.length_toList]
    refine fm_congr _ fun k hk => ?_
    have hk := List.mem_range.mp hk
    rw [show (((items.size : Nat) : Int) - 1 + (k : Int) * -1).toNat = items.size - 1 - k by omega]
    exact (Array.getElem?_toList).symm
  rw [e]
  first
    | exact wpAny_bind (m := Builtin.Tuple.tupleExact _) (wpAny_newObj_type (wpAny_pure ⟨_, rfl, wpAny_pure h⟩) htake)
    | exact wpAny_bind (m := Builtin.Tuple.tupleExact _) (wpAny_newObj_type (wpAny_bind (wpAny_pure (wpAny_pure ⟨_, rfl, wpAny_pure h⟩))) htake)
    | exact wpAny_bind (wpAny_bind (m := Builtin.Tuple.tupleExact _) (wpAny_newObj_type (wpAny_pure (wpAny_pure ⟨_, rfl, wpAny_pure h⟩)) htake))
    | exact wpAny_bind (wpAny_bind (m := Builtin.Tuple.tupleExact _) (wpAny_newObj_type (wpAny_pure ⟨_, rfl, wpAny_pure h⟩) htake))
end
theorem vals_rev {xs : List V} {us : List Value} (r : Vals xs us) : Vals xs.reverse us.reverse := by
  induction r with
  | nil => exact .nil
  | cons a _ ih =>
    rw [List.reverse_cons, List.reverse_cons]
    exact ih.append (.cons a .nil)
def tRevT (K : PySem.W.Frag) (te : TE) : TE := fun σ H Q => te σ H fun x H1 => ∃ a xs, x = .ref a ∧ SqT K H1 a xs ∧ ∀ p H', Same H1 H' → SqT K H' p xs.reverse → Q (.ref p) H'
theorem pe_revT {X : Cx} {K : PySem.W.Frag} (hK : X.K = K) {e : Expr} {te : TE} {k : Nat} {p1 p2 p3 pos : Pos} (he : PE X e te) : PE X (.Subscript e (.Slice none none (some (.UnaryOp .USub (.Constant (.int 1) k p1) p2)) p3) pos) (tRevT K te) := by
  subst hK
  refine ⟨fun pins s σ H Q I h => ?_⟩
  refine Subscript_ (thn (he.run pins s σ H _ I h) fun v s1 ⟨x, H1, I1, r1, q1⟩ => ?_)
  obtain ⟨a, xs, ex, hx, q⟩ := q1
  subst ex
  cases r1
  have hst : PO X (some (.UnaryOp .USub (.Constant (.int 1) k p1) p2)) (tPart (tUn (rU fun i => .int (-i)) (tC (.int 1)))) := po_some (pe_un un_neg pe_int)
  refine wpAny_Slice (thn (po_none.run pins s1 σ H1 (fun o H2 => o = none ∧ H2 = H1) I1 ⟨rfl, rfl⟩) fun vl s2 ⟨l, H2, I2, pl, el, e2⟩ => ?_)
  subst el e2
  refine thn (po_none.run pins s2 σ H2 (fun o H3 => o = none ∧ H3 = H2) I2 ⟨rfl, rfl⟩) fun vu s3 ⟨u, H3, I3, pu, eu, e3⟩ => ?_
  subst eu e3
  refine thn (hst.run pins s3 σ H3 (fun o H4 => o = some (-1) ∧ H4 = H3) I3 ⟨1, rfl, -1, rfl, rfl, rfl⟩) fun vs s4 ⟨o, H4, I4, ps, eo, e4⟩ => ?_
  subst eo e4
  have I5 : Inv X pins σ H4 { s4 with heap := s4.heap.push { cls := .type "slice", data := .fields #[vl, vu, vs] } } := I4.kept (t' := s4.toks) fun b ob q => Heap.get?_push_of_some _ q
  obtain ⟨its, r, ht, hz⟩ := I5.tuple hx
  have hlen := r.length
  cases ps with
  | int _ tk =>
  show wpAny (model X.prog X.w) X.A (subscriptTail e (.Slice none none (some (.UnaryOp .USub (.Constant (.int 1) k p1) p2)) p3) (.ref a) (.ref s4.heap.objs.size)) (EP X pins σ Q) X.xe { s4 with heap := s4.heap.push { cls := .type "slice", data := .fields #[vl, vu, .int (-1) tk] } }
  refine tail_any (ops := [.ref a, .ref s4.heap.objs.size]) ht.typeIs PyProof.Rows.slot_tuple_getitem.lookup ?_ (by with_unfolding_all rfl)
  refine getItem_tuple_rev ht (Heap.IsSliceOf.new _ vl vu (.int (-1) tk)) pl pu ?_ (by rw [List.size_toArray]; omega)
  have hf : H4 (s4.heap.push { cls := .type "slice", data := .fields #[vl, vu, .int (-1) tk] }).objs.size = none := I5.hok.fresh (Nat.le_refl _)
  refine ⟨.ref _, _, I5.laid (t' := s4.toks) (o := .tup xs.reverse) (fun b ob q => Heap.get?_push_of_some _ q) (Nat.le_refl _) ?_, rfl, q _ _ (same_upd hf) (.inl (.inl upd_same))⟩
  exact ⟨by rw [List.length_reverse]; omega, _, vals_rev r, IsTup.new _ _⟩
end Tl
/-! odd things: also dicts -/
namespace Tl
open PySem PySem.Spec PyProof.Rows L2 RZ
section
variable {prog : Program} {w : World} {A : Around} {E : Value → Shared → Prop} {s : Shared} {T : Type} [DecidableEq T] {knd : HeapKind prog w T}
/-- a dict with tuples for keys has the same pairs as itself -/
theorem pairs_self {nm : String} {a : Addr} {xs : List (T × Addr × Value)} {Q : Bool → Shared → Prop} (hu0 : knd.room A) (ha : (a == sysModules) = false) (da : s.heap.DictOfH knd a xs) (hv : ∀ x ∈ xs, ∃ b, x.2.2 = .ref b) (h : Q true s) :
    wpAny (model prog w) A (Builtin.Dict.samePairs nm a a) Q E s := by
  obtain ⟨oa, es, ep, hoa, _, hda, he, his, hn⟩ := da
  have hl : es.size = xs.length := size_of_entries he
  unfold Builtin.Dict.samePairs Builtin.Dict.showsAll
  rw [if_neg (show ¬ (a == sysModules) = true by rw [ha]; exact Bool.false_ne_true)]
  refine wpAny_bind (wpAny_pure (wpAny_bind (wpAny_pure ?_)))
  refine wpAny_bind (wpAny_dictEntries hoa hda ?_)
  dsimp only
  refine wpAny_bind (wpAny_dictEntries hoa hda ?_)
  rw [if_neg (by simp)]
  refine wpAny_bind (wpAny_dictEpoch hoa hda ?_)
  refine wpAny_bind ?_
  rw [Std.Legacy.Range.forIn_eq_forIn_range']
  simp only [Std.Legacy.Range.size, Nat.sub_zero, Nat.add_sub_cancel, Nat.div_one]
  refine wpAny_forIn_list _ (fun rest q s' => s' = s ∧ q = (none, ()) ∧ ∃ i, rest = List.range' i (es.size - i) ∧ i ≤ es.size) _ ?_ ?_ _ _ ⟨rfl, rfl, 0, by simp, Nat.zero_le _⟩
  · rintro x rest q s' ⟨rfl, rfl, i, hr, hi⟩
    have hlt : i < es.size := by
      rcases Nat.lt_or_ge i es.size with h | h
      · exact h
      · rw [Nat.sub_eq_zero_of_le h] at hr
        simp at hr
    obtain ⟨rfl, hrest⟩ : x = i ∧ rest = List.range' (i + 1) (es.size - (i + 1)) := by
      have e : es.size - i = (es.size - (i + 1)) + 1 := by omega
      rw [e, List.range'_succ] at hr
      injection hr with h1 h2
      exact ⟨h1, h2⟩
    refine wpAny_bind (wpAny_dictEntries hoa hda ?_)
    have hx : xs[x]? = some (xs[x]'(by omega)) := List.getElem?_eq_getElem _
    generalize xs[x]'(by omega) = p at hx
    obtain ⟨k, ka, v⟩ := p
    have mx := List.mem_of_getElem? hx
    obtain ⟨b, eb⟩ := hv _ mx
    have eb2 : v = .ref b := eb
    subst eb2
    have ent : es[x]? = some ⟨knd.hash k, .ref ka, .ref b⟩ := by
      rw [entry_at he x, hx]
      rfl
    rw [ent]
    show wpAny _ _ (holding [Value.ref ka, Value.ref b] _ >>= _) _ _ _
    refine wpAny_bind (wpAny_holding (wpAny_bind (wpAny_dictFind_heap hu0 (his _ mx) hoa hda he his hn (fun no => absurd hx (no x _)) fun j p hj => ?_)))
    have ej : j = x := idxH_unique hn hj hx
    subst ej
    refine wpAny_bind (wpAny_dictEntries hoa hda ?_)
    rw [ent]
    show wpAny _ _ (holding [Value.ref b] (eqBool (Value.ref b) (Value.ref b))) _ _ _
    refine wpAny_holding ((SeqAt.EqAt.same _).eqP _ _ ?_)
    show wpAny _ _ (if (!true) = true then _ else _) _ _ _
    rw [if_neg (by decide)]
    refine wpAny_bind (wpAny_dictEpoch hoa hda ?_)
    rw [if_neg (by simp)]
    exact wpAny_pure ⟨rfl, rfl, j + 1, hrest, hlt⟩
  · rintro q s' ⟨rfl, rfl, i, hr, hi⟩
    exact wpAny_pure h
theorem rc_self {a : Addr} {xs : List (T × Addr × Value)} {Q : Value → Shared → Prop} (hr : knd.room A.in1) (ha : (a == sysModules) = false) (da : s.heap.DictOfH knd a xs) (hu : A.units < cLine) (hv : ∀ x ∈ xs, ∃ b, x.2.2 = .ref b) (h : Q (.bool true) s) :
    wpAny (model prog w) A (richCompare .Eq (.ref a) (.ref a)) Q E s := by
  refine wpAny_richCompare_same_room (op := .Eq) da.typeIs da.typeIs PySem.F.slot_dict_eq (wpAny_call_entry PySem.F.slot_dict_eq da.typeIs PySem.F.entry_dict_eq ?_ (PySem.F.args_dict_eq_2 _ _)) hu
  show wpAny _ _ (Builtin.Dict.dictSlotArgs "__eq__" ⟨[.ref a, .ref a], []⟩ >>= _) _ _ s
  refine wpAny_bind ?_
  unfold Builtin.Dict.dictSlotArgs
  refine wpAny_bind (wpAny_notOrdered_dict da.typeIs ?_)
  show wpAny _ _ (pure (Value.ref a, Value.ref a)) _ _ s
  refine wpAny_pure ?_
  refine wpAny_bind (wpAny_isInstance (T := "dict") da.typeIs PySem.F.sub_dict_dict ?_)
  simp only [Bool.not_true, Bool.false_eq_true, if_false]
  refine wpAny_bind (wpAny_pure (wpAny_bind (wpAny_pure ?_)))
  refine wpAny_bind (pairs_self hr ha da hv ?_)
  refine wpAny_pure ⟨_, rfl, ?_, ?_⟩
  · exact fun x => nomatch x
  · exact h
end
/-- a thing of any kind that the laws draw, by its datum -/
inductive Od (K : PySem.W.Frag) (H : Hp) : V → PyData → Prop
  | data {v : V} {d : PyData} : Dp K H v d → d.hasDict = false → Od K H v d
  | d0 {a : Addr} : H a = some (.dK []) → Od K H (.ref a) (.dict [])
  | d1 {a b : Addr} : H a = some (.dT [([], .ref b)]) → SqT K H b [] → Od K H (.ref a) (.dict [(.tuple [], .tuple [])])
section
variable {X : Cx} {pins : List (Addr × Obj)} {σ : L2.St} {H : Hp} {s : Shared}
theorem rd_unit (I : Inv X pins σ H s) {b : Addr} (hb : SqT X.K H b []) : Reads s.heap (.ref b) (.tuple []) [] := by
  obtain ⟨its, rv, ⟨o, h1, h2, n, h3⟩, _⟩ := I.tuple hb
  cases rv
  exact .tuple h1 h2 h3 .nil
theorem Od.reads (I : Inv X pins σ H s) {v : V} {d : PyData} {u : Value} (h : Od X.K H v d) (ru : RelV v u) : ∃ as, Reads s.heap u d as ∧ (d.hasDict = true → sysModules ∉ as) := by
  cases h with
  | data hd hn =>
    obtain ⟨as, r⟩ := Dp.reads I d v u hd ru
    exact ⟨as, r, fun z => by rw [hn] at z; cases z⟩
  | d0 ha =>
    rename_i a
    cases (show u = Value.ref a from ru)
    obtain ⟨_, ne, vs, kv, o, es, ep, h1, h2, h3, _, h5, _⟩ := dk_of I.hok ha
    cases kv
    have e : es.toList = [] := by
      cases q : es.toList with
      | nil => rfl
      | cons y ys =>
        rw [q] at h5
        cases h5
    refine ⟨[a], Reads.dict (kvs := []) (as := []) (bs := []) h1 h2.1 h3 (by rw [e]; exact .nil) (by rw [e]; exact .nil), fun _ z => ?_⟩
    have z2 := List.mem_singleton.mp z
    rw [← z2, beq_self_eq_true] at ne
    cases ne
  | d1 ha hb =>
    rename_i a b
    cases (show u = Value.ref a from ru)
    obtain ⟨_, ne, xs, kt, o, es, ep, h1, h2, h3, h4, his, _⟩ := dt_of I.hok ha
    cases kt with
    | @cons _ x _ _ r t =>
      cases t
      obtain ⟨k, ka, v⟩ := x
      obtain ⟨e1, e2, e3⟩ := r
      cases (show v = Value.ref b from e3)
      have rk := rd_unit I (b := ka) (.inl (.inl e2))
      have rb := rd_unit I hb
      refine ⟨[a], Reads.dict (kvs := [(.tuple [], .tuple [])]) (as := []) (bs := []) h1 h2.1 h3 (by rw [h4]; exact .cons rk .nil) (by rw [h4]; exact .cons rb .nil), fun _ z => ?_⟩
      have z2 := List.mem_singleton.mp z
      rw [← z2, beq_self_eq_true] at ne
      cases ne
theorem repr_none : PyData.shown .none = ("None" : Str) := rfl
/-- repr of such a thing -/
def rReprO (K : PySem.W.Frag) : List V → Hp → VK → Prop := fun xs H Q => ∃ (v : V) (d : PyData), xs = [v] ∧ Od K H v d ∧ d.showable = true ∧ d.depth ≤ 60 ∧ d.shown.length ≤ sizeLine ∧ Q (.str d.shown) H
theorem cr_reprO (hu : X.A.units + 64 < cLine) (hg : X.A.guards = some []) : CallR X (.builtin "repr") (rReprO X.K) := by
  intro pins s σ H xs us Q I r h
  obtain ⟨v, d, rfl, hd, h1, h3, h4, q⟩ := h
  obtain ⟨u, rfl, ru⟩ := vals1 r
  obtain ⟨as, rd, hs⟩ := hd.reads I ru
  cases rd with
  | none => exact PySem.P.repr_of_none ⟨.str _, H, I.tok _, ⟨_, rfl⟩, q⟩
  | bool b => exact PySem.P.repr_of_bool ⟨.str _, H, I.tok _, ⟨_, rfl⟩, q⟩
  | int i t => exact PySem.P.repr_of_int (of_decide_eq_true h1) ⟨.str _, H, I.tok _, ⟨_, rfl⟩, q⟩
  | str x t => exact PySem.P.repr_of_str ⟨.str _, H, I.tok _, ⟨_, rfl⟩, q⟩ h4
  | list e1 e2 e3 e4 => exact repr_of_reads' (.list e1 e2 e3 e4) h1 hs hg (by omega) (fun _ _ e => e) (fun h' u tk hk => ⟨.str _, H, I.kept (t' := tk) hk, ⟨_, rfl⟩, q⟩) h4
  | tuple e1 e2 e3 e4 => exact repr_of_reads' (.tuple e1 e2 e3 e4) h1 hs hg (by omega) (fun _ _ e => e) (fun h' u tk hk => ⟨.str _, H, I.kept (t' := tk) hk, ⟨_, rfl⟩, q⟩) h4
  | dict e1 e2 e3 e4 e5 => exact repr_of_reads' (.dict e1 e2 e3 e4 e5) h1 hs hg (by omega) (fun _ _ e => e) (fun h' u tk hk => ⟨.str _, H, I.kept (t' := tk) hk, ⟨_, rfl⟩, q⟩) h4
/-- == of such a thing with itself -/
def rEqO (K : PySem.W.Frag) : R2 := fun x y H Q => ∃ d, x = y ∧ Od K H x d ∧ (d.hasDict = false → d.canLay0 = true ∧ d.depth ≤ 64) ∧ Q (.bl true) H
theorem op_eqO (hu : X.A.units + 64 < cLine) : OpR X (compareOp .Eq) (rEqO X.K) := by
  intro pins s σ H x y v u Q I rx ry h
  obtain ⟨d, rfl, hd, hl, q⟩ := h
  cases hd with
  | data hd hn =>
    obtain ⟨l1, l2⟩ := hl hn
    refine op_eqD hu pins s σ H x x v u Q I rx ry ⟨d, d, hd, hd, ?_, ?_, ?_⟩
    · show (d.canLay0 && decide (d.depth ≤ 64)) = true
      rw [l1, decide_eq_true l2]
      rfl
    · show (d.canLay0 && decide (d.depth ≤ 64)) = true
      rw [l1, decide_eq_true l2]
      rfl
    · rw [SeqAt.eqv_refl d l1]
      exact q
  | d0 ha =>
    rename_i a
    cases (show v = Value.ref a from rx)
    cases (show u = Value.ref a from ry)
    show wpAny (model X.prog X.w) X.A (richCompare .Eq (.ref a) (.ref a)) (EP X pins σ Q) X.xe s
    obtain ⟨_, ne, vs, kv, da⟩ := dk_of I.hok ha
    cases kv
    exact PySem.W.rcP_dicts (knd := mixKind X.prog X.w) (r := true) ne ne da da (by omega) (fun _ => .nil) _ _ ⟨.bl true, H, I, rfl, q⟩
  | d1 ha hb =>
    rename_i a b
    cases (show v = Value.ref a from rx)
    cases (show u = Value.ref a from ry)
    show wpAny (model X.prog X.w) X.A (richCompare .Eq (.ref a) (.ref a)) (EP X pins σ Q) X.xe s
    obtain ⟨_, ne, xs, kt, da⟩ := dt_of I.hok ha
    refine rc_self (knd := tupleKind (mixKind X.prog X.w)) ?_ ne da (by omega) (fun x hx => ?_) ⟨.bl true, H, I, rfl, q⟩
    · show X.A.units + 1 < cLine
      omega
    · cases kt with
      | cons r t =>
        cases t
        rw [List.mem_singleton.mp hx]
        exact ⟨b, r.2.2⟩
/-- {k: v}, k the tuple of nothing -/
def tDisp1 (tk tv : TE) : TE := fun σ H Q => ∀ p, H p = none → tk σ (upd H p (.dT [])) fun x H1 => tv σ H1 fun y H2 => ∃ a b : Addr, x = .ref a ∧ y = .ref b ∧ H2 p = some (.dT []) ∧ H2 a = some (.tup []) ∧ Q (.ref p) (upd H2 p (.dT [([], .ref b)]))
theorem pe_disp1 {k v : Expr} {tk tv : TE} {pos : Pos} (hu : X.A.units < cLine) (hk : PE X k tk) (hv : PE X v tv) : PE X (.Dict [some k] [v] pos) (tDisp1 tk tv) := by
  refine ⟨fun pins s σ H Q I q => ?_⟩
  have q1 := q _ (I.hok.fresh (Nat.le_refl s.heap.objs.size))
  have I1 := I.laid (a := s.heap.objs.size) (o := .dT []) (h' := s.heap.push { cls := .type "dict", data := .dict #[] }) (t' := s.toks) (fun _ _ q => Heap.get?_push_of_some _ q) (Nat.le_refl _) (dt_empty s.heap I.big)
  have sh := zip_pairTrees [some k] [v] X.env pos (by rfl) (by rfl)
  have ln := pairTrees_length [some k] [v] X.env pos (by rfl) (by rfl)
  have ne : pairTrees [some k] [v] X.env pos ≠ [] := fun z => by
    rw [z] at ln
    cases ln
  rw [arm_eval_Dict, sh, dictDisplay_pairs _ ne (by rw [ln]; show 1 < 17; decide)]
  refine wpAny_bind (wpAny_standAt (wpAny_bind ?_))
  refine wpAny_subDictH (knd := tupleKind (mixKind X.prog X.w)) (show X.A.units < cLine from hu) (by rw [ln]; show 1 ≤ 15; decide) ?_
  refine pairTrees_cons_walk (thn (hk.run pins _ σ _ _ I1 q1) fun u s1 z1 => ?_)
  obtain ⟨x, H1, J1, rx, q2⟩ := z1
  refine thn (hv.run pins s1 σ H1 _ J1 q2) fun u2 s2 z2 => ?_
  obtain ⟨y, H2, J2, ry, a, b, rfl, rfl, ep, ea, q3⟩ := z2
  cases (show u = Value.ref a from rx)
  cases (show u2 = Value.ref b from ry)
  refine pairTrees_nil_walk ?_
  obtain ⟨_, hd, xs0, kt0, dd⟩ := dt_of J2.hok ep
  cases kt0
  refine ⟨[([], a, .ref b)], ⟨rfl, rfl, key_of (ks := []) J2.hok ea, trivial⟩, dd, fun h' tk dd' hs => wpAny_pure ?_⟩
  have tp : ∃ q, h'.get? s.heap.objs.size = some q := let ⟨q, _, _, hq, _⟩ := dd'; ⟨q, hq⟩
  obtain ⟨o, es, ep2, h1, h2, h3, h4, h5, h6⟩ := dd'
  have na : a ≠ s.heap.objs.size := fun z => by
    rw [z, ep] at ea
    cases ea
  have new : ObjOk X.prog X.w (upd H2 s.heap.objs.size (.dT [([], .ref b)])) h' s.heap.objs.size (.dT [([], .ref b)]) :=
    ⟨(by show 1 ≤ sizeLine; decide), hd, [([], a, .ref b)], .cons ⟨rfl, by rw [upd_ne na]; exact ea, rfl⟩ .nil, o, es, ep2, h1, h2, h3, h4, h6⟩
  exact ⟨.ref s.heap.objs.size, _, d_write (t' := tk) J2 (by rw [ep]; exact True.intro) hs tp new, rfl, q3⟩
end
section
variable {X : Cx} {K : PySem.W.Frag} (h : X.K = K)
include h
theorem k_eqO (hu : X.A.units + 64 < cLine) : OpR X (compareOp .Eq) (rEqO K) := by
  subst h
  exact op_eqO hu
theorem k_reprO (hu : X.A.units + 64 < cLine) (hg : X.A.guards = some []) : CallR X (.builtin "repr") (rReprO K) := by
  subst h
  exact cr_reprO hu hg
end
end Tl
/-! ways that lead to one state -/
namespace Tl
open PySem PySem.Spec PyProof.Rows L2 RZ
def tIfE (t : TT) (ta tb : TE) : TE := fun σ H Q => ∃ R : VK, (∀ v H', R v H' → Q v H') ∧ tIf t ta tb σ H R
theorem pe_ifExpE {X : Cx} {c a b : Expr} {pos : Pos} {tA : TT} {ta tb : TE} (hc : PT X c tA) (ha : PE X a ta) (hb : PE X b tb) : PE X (.IfExp c a b pos) (tIfE tA ta tb) := by
  refine ⟨fun pins s σ H Q I h => ?_⟩
  obtain ⟨R, hm, h'⟩ := h
  refine wpAny_mono ((pe_ifExp hc ha hb).run pins s σ H R I h') (fun u s' z => ?_) fun _ _ x => x
  obtain ⟨v, H', I', r, q⟩ := z
  exact ⟨v, H', I', r, hm v H' q⟩
/-- a statement whose ways lead to one state -/
def tJoin (t : TS) : TS := fun D σ H => ∃ R : L2.St → Hp → Prop, (∀ σ' H', R σ' H' → D.nx σ' H') ∧ t { nx := R, rt := D.rt, bk := D.bk, ct := D.ct } σ H
theorem ps_join {X : Cx} {st : Stmt} {t : TS} (h : PS X st t) : PS X st (tJoin t) := by
  refine ⟨fun pins s σ H D I h' => ?_⟩
  obtain ⟨R, hm, h'⟩ := h'
  refine wpAny_mono (h.run pins s σ H _ I h') (fun f s' z => ?_) fun _ _ x => x
  cases f with
  | ret u => exact z
  | next =>
    obtain ⟨σ', H', J, q⟩ := z
    exact ⟨σ', H', J, hm _ _ q⟩
  | brk => exact z
  | cont => exact z
end Tl
/-! odd things, drawn by displays -/
namespace Tl
open PySem PySem.Spec PyProof.Rows L2 RZ
/-- a named wish behind an expression -/
def tCut (te : TE) : TE := fun σ H Q => ∃ R : VK, te σ H R ∧ ∀ v H', R v H' → Q v H'
theorem pe_cut {X : Cx} {e : Expr} {te : TE} (h : PE X e te) : PE X e (tCut te) := by
  refine ⟨fun pins s σ H Q I h' => ?_⟩
  obtain ⟨R, h1, hm⟩ := h'
  refine wpAny_mono (h.run pins s σ H R I h1) (fun u s' z => ?_) fun _ _ x => x
  obtain ⟨v, H', I', r, q⟩ := z
  exact ⟨v, H', I', r, hm v H' q⟩
/-- a thing that is not too great -/
def Thing (K : PySem.W.Frag) (b g : Addr) (H : Hp) (v : V) : Prop := ∃ d, Ad K b g H v d ∧ BdA d
theorem Thing.keep {K : PySem.W.Frag} {b g : Addr} {H H' : Hp} {v : V} (B : Bag H b g) (f : Frm b g H H') (h : Thing K b g H v) : Thing K b g H' v := by
  obtain ⟨d, h, k⟩ := h
  exact ⟨d, h.keep B f, k⟩
theorem things_ds {K : PySem.W.Frag} {b g : Addr} {H : Hp} : ∀ {xs : List V}, (∀ x ∈ xs, Thing K b g H x) → ∃ ds : List AD, xs.length = ds.length ∧ (∀ (i : Nat) (x : V) (d : AD), xs[i]? = some x → ds[i]? = some d → Ad K b g H x d) ∧ ∀ d ∈ ds, BdA d
  | [], _ => ⟨[], rfl, fun i x d h => by simp at h, fun d h => absurd h List.not_mem_nil⟩
  | x :: xs, h => by
    obtain ⟨d, h1, h2⟩ := h x (List.mem_cons_self ..)
    obtain ⟨ds, l, k1, k2⟩ := things_ds fun y hy => h y (List.mem_cons_of_mem _ hy)
    refine ⟨d :: ds, by rw [List.length_cons, List.length_cons, l], fun i y e e1 e2 => ?_, fun e he => ?_⟩
    · match i, e1, e2 with
      | 0, e1, e2 =>
        cases e1
        cases e2
        exact h1
      | i + 1, e1, e2 => exact k1 i y e (by simpa using e1) (by simpa using e2)
    · rcases List.mem_cons.mp he with rfl | he
      · exact h2
      · exact k2 e he
theorem Thing.tup {K : PySem.W.Frag} {b g a : Addr} {H : Hp} {xs : List V} (h : SqT K H a xs) (l : xs.length ≤ 1000) (k : ∀ x ∈ xs, Thing K b g H x) : Thing K b g H (.ref a) := by
  obtain ⟨ds, l2, k1, k2⟩ := things_ds k
  exact ⟨.tup ds, .tup h l2 k1, .tup (by omega) k2⟩
theorem Thing.int {K : PySem.W.Frag} {b g : Addr} {H : Hp} {i : Int} (h : i.natAbs < 2 ^ 200) : Thing K b g H (.int i) := ⟨_, .int i, .int h⟩
theorem Thing.non {K : PySem.W.Frag} {b g : Addr} {H : Hp} : Thing K b g H .non := ⟨_, .non, .oth⟩
theorem Thing.bl {K : PySem.W.Frag} {b g : Addr} {H : Hp} {c : Bool} : Thing K b g H (.bl c) := ⟨_, .bl c, .oth⟩
theorem Thing.str {K : PySem.W.Frag} {b g : Addr} {H : Hp} {x : Str} : Thing K b g H (.str x) := ⟨_, .str x, .oth⟩
theorem Thing.lst {K : PySem.W.Frag} {b g a : Addr} {H : Hp} {xs : List V} (h : H a = some (.lst xs)) (n : a ≠ b) (m : a ≠ g) : Thing K b g H (.ref a) := ⟨_, .lst h n m, .oth⟩
/-- what else stands while a display is told -/
structure EnvOk (b g : Addr) (E : Hp → Prop) : Prop where
  bag : ∀ H, E H → Bag H b g
  keep : ∀ H H', E H → Frm b g H H' → Bag H' b g → E H'
theorem EnvOk.same {b g : Addr} {E : Hp → Prop} (e : EnvOk b g E) {H H' : Hp} (h : E H) (s : Same H H') : E H' := e.keep H H' h (.of s) ((e.bag H h).keep s)
/-- an expression tells a thing, whatever else stands -/
def Tel (K : PySem.W.Frag) (b g : Addr) (E : Hp → Prop) (te : TE) (σ : L2.St) : Prop := ∀ H Q, E H → (∀ v H', Thing K b g H' v → E H' → Frm b g H H' → Q v H') → te σ H Q
def Tels (K : PySem.W.Frag) (b g : Addr) (E : Hp → Prop) (n : Nat) (ta : TA) (σ : L2.St) : Prop := ∀ H R, E H → (∀ vs H', vs.length = n → (∀ x ∈ vs, Thing K b g H' x) → E H' → Frm b g H H' → R vs H') → ta σ H R
section
variable {K : PySem.W.Frag} {b g : Addr} {E : Hp → Prop} {σ : L2.St} {te : TE} {ta : TA} {n : Nat} (e : EnvOk b g E)
include e
theorem tel_c {v : V} (h : ∀ H, Thing K b g H v) : Tel K b g E (tC v) σ := fun H Q hE k => k v H (h H) hE (Frm.refl _ _ _)
theorem tel_int {i : Int} (h : i.natAbs < 2 ^ 200) : Tel K b g E (tC (.int i)) σ := tel_c e fun _ => .int h
theorem tel_non : Tel K b g E (tC .non) σ := tel_c e fun _ => .non
theorem tel_bl {c : Bool} : Tel K b g E (tC (.bl c)) σ := tel_c e fun _ => .bl
theorem tel_str {x : Str} : Tel K b g E (tC (.str x)) σ := tel_c e fun _ => .str
theorem tel_neg {i : Int} (h : i.natAbs < 2 ^ 200) : Tel K b g E (tUn (rU fun i => .int (-i)) (tC (.int i))) σ := fun H Q hE k => ⟨i, rfl, k _ H (.int (by rw [Int.natAbs_neg]; exact h)) hE (Frm.refl _ _ _)⟩
theorem tel_var {i : Nat} {v : V} (hv : σ[i]? = some (some v)) (h : ∀ H, E H → Thing K b g H v) : Tel K b g E (tVar i) σ := fun H Q hE k => ⟨v, hv, k v H (h H hE) hE (Frm.refl _ _ _)⟩
theorem tels_nil : Tels K b g E 0 tNil σ := fun H R hE k => k [] H rfl (fun x h => absurd h List.not_mem_nil) hE (Frm.refl _ _ _)
theorem tels_cons (h : Tel K b g E te σ) (t : Tels K b g E n ta σ) : Tels K b g E (n + 1) (tCons te ta) σ := fun H R hE k => h H _ hE fun v H1 tv hE1 f1 => t H1 _ hE1 fun vs H2 l hs hE2 f2 => k (v :: vs) H2 (by rw [List.length_cons, l]) (fun x hx => by
  rcases List.mem_cons.mp hx with rfl | hx
  · exact tv.keep (e.bag _ hE1) f2
  · exact hs x hx) hE2 (f1.trans f2)
theorem tel_tup (h : Tels K b g E n ta σ) (hn : n ≤ 1000) : Tel K b g E (tTup ta) σ := fun H Q hE k => h H _ hE fun vs H1 l hs hE1 f1 => by
  have : (1000 : Nat) < sizeLine := by decide
  refine ⟨by omega, fun p hp => ?_⟩
  have s := same_upd (o := .tup vs) hp
  exact k (.ref p) _ (.tup (.inl (.inl upd_same)) (by omega) fun x hx => (hs x hx).keep (e.bag _ hE1) (.of s)) (e.same hE1 s) (f1.trans (.of s))
theorem tel_lst (h : Tels K b g E n ta σ) (hn : n ≤ 1000) : Tel K b g E (tLst ta) σ := fun H Q hE k => h H _ hE fun vs H1 l hs hE1 f1 => by
  have : (1000 : Nat) < sizeLine := by decide
  refine ⟨by omega, fun p hp => ?_⟩
  have s := same_upd (o := .lst vs) hp
  obtain ⟨pb, pg⟩ := (e.bag _ hE1).neNew hp
  exact k (.ref p) _ (.lst upd_same pb pg) (e.same hE1 s) (f1.trans (.of s))
theorem tel_d0 : Tel K b g E tDNewK σ := fun H Q hE k p hp => by
  have s := same_upd (o := .dK []) hp
  obtain ⟨pb, pg⟩ := (e.bag _ hE).neNew hp
  exact k (.ref p) _ ⟨_, .dk upd_same pb pg, .oth⟩ (e.same hE s) (.of s)
theorem tel_d1 : Tel K b g E (tDisp1 (tTup tNil) (tTup tNil)) σ := fun H Q hE k p hp => by
  have s1 := same_upd (o := .dT []) hp
  obtain ⟨pb, pg⟩ := (e.bag _ hE).neNew hp
  refine ⟨by show 0 ≤ sizeLine; decide, fun a ha => ⟨by show 0 ≤ sizeLine; decide, fun c hc => ?_⟩⟩
  have s2 := same_upd (o := .tup []) ha
  have s3 := same_upd (o := .tup []) hc
  have ap : p ≠ a := fun z => by
    rw [← z, upd_same] at ha
    cases ha
  have cp : p ≠ c := fun z => by
    rw [← z, upd_ne ap, upd_same] at hc
    cases hc
  have ac : a ≠ c := fun z => by
    rw [← z, upd_same] at hc
    cases hc
  refine ⟨a, c, rfl, rfl, by rw [upd_ne cp, upd_ne ap, upd_same], by rw [upd_ne ac, upd_same], ?_⟩
  have s : Same H (upd (upd (upd (upd H p (.dT [])) a (.tup [])) c (.tup [])) p (.dT [([], .ref c)])) := fun z o hz => by
    rw [upd_ne (ne_of_none hz hp)]
    exact s3 _ _ (s2 _ _ (s1 _ _ hz))
  exact k (.ref p) _ ⟨_, .dt upd_same pb pg, .oth⟩ (e.same hE s) (.of s)
theorem tel_pow {i j : Int} {m : Nat} (h : CPow i j) (hb : (i ^ j.toNat).natAbs < 2 ^ 200) : Tel K b g E (tOp (rI CPow fun i j => .int (i ^ j.toNat)) (tC (.int i)) (tC (.int j))) σ := fun H Q hE k => ⟨i, j, rfl, rfl, h, k _ H (.int hb) hE (Frm.refl _ _ _)⟩
/-- what is drawn from a display of things -/
theorem tel_some {i : Nat} {E' : XK} (hv : σ[i]? = some (some (.ref b))) (h : Tels K b g E n ta σ) (h0 : 0 < n) (hn : n ≤ 1000) : Tel K b g E (tCall spSome [] E' (tCons (tVar i) (tCons (tLst ta) tNil))) σ := fun H Q hE k => ⟨_, hv, h H _ hE fun vs H1 l hs hE1 f1 => by
  have : (1000 : Nat) < sizeLine := by decide
  refine ⟨by omega, fun p hp => ?_⟩
  have s := same_upd (o := .lst vs) hp
  obtain ⟨pb, pg⟩ := (e.bag _ hE1).neNew hp
  refine ⟨b, g, p, vs, rfl, (e.bag _ hE1).keep s, upd_same, pb, pg, by omega, by omega, fun j y H' hj B' F' => ?_⟩
  have f := (Frm.of s).trans F'
  exact k y H' ((hs y (List.mem_of_getElem? hj)).keep (e.bag _ hE1) f) (e.keep _ _ hE1 f B') (f1.trans f)⟩
end
/-- what stood at H0 stands -/
def EnvAt (b g : Addr) (H0 : Hp) : Hp → Prop := fun H => Bag H b g ∧ Frm b g H0 H
theorem env_at {b g : Addr} {H0 : Hp} : EnvOk b g (EnvAt b g H0) := ⟨fun _ h => h.1, fun _ _ h f B => ⟨B, h.2.trans f⟩⟩
theorem EnvAt.now {b g : Addr} {H0 : Hp} (B : Bag H0 b g) : EnvAt b g H0 H0 := ⟨B, Frm.refl _ _ _⟩
/-- a tuple of things -/
def TupT (K : PySem.W.Frag) (b g : Addr) (m : Nat) (H : Hp) (a : Addr) : Prop := ∃ xs : List V, SqT K H a xs ∧ xs.length ≤ m ∧ ∀ x ∈ xs, Thing K b g H x
theorem TupT.keep {K : PySem.W.Frag} {b g a : Addr} {m : Nat} {H H' : Hp} (B : Bag H b g) (f : Frm b g H H') (h : TupT K b g m H a) : TupT K b g m H' a := by
  obtain ⟨xs, h1, l, h2⟩ := h
  exact ⟨xs, B.kt f _ _ h1, l, fun x hx => (h2 x hx).keep B f⟩
theorem TupT.thing {K : PySem.W.Frag} {b g a : Addr} {m : Nat} {H : Hp} (h : TupT K b g m H a) (hm : m ≤ 1000) : Thing K b g H (.ref a) := by
  obtain ⟨xs, h1, l, h2⟩ := h
  exact .tup h1 (by omega) h2
/-- a list of things -/
def LstT (K : PySem.W.Frag) (b g : Addr) (lo m : Nat) (H : Hp) (a : Addr) : Prop := ∃ xs : List V, H a = some (.lst xs) ∧ a ≠ b ∧ a ≠ g ∧ lo ≤ xs.length ∧ xs.length ≤ m ∧ ∀ x ∈ xs, Thing K b g H x
theorem LstT.keep {K : PySem.W.Frag} {b g a : Addr} {lo m : Nat} {H H' : Hp} (B : Bag H b g) (f : Frm b g H H') (h : LstT K b g lo m H a) : LstT K b g lo m H' a := by
  obtain ⟨xs, h1, n1, n2, l0, l, h2⟩ := h
  exact ⟨xs, f _ _ h1 n1 n2, n1, n2, l0, l, fun x hx => (h2 x hx).keep B f⟩
/-- an expression tells a tuple, a list of things, a small int -/
def TelT (K : PySem.W.Frag) (b g : Addr) (E : Hp → Prop) (m : Nat) (te : TE) (σ : L2.St) : Prop := ∀ H Q, E H → (∀ a H', TupT K b g m H' a → E H' → Frm b g H H' → Q (.ref a) H') → te σ H Q
def TelL (K : PySem.W.Frag) (b g : Addr) (E : Hp → Prop) (lo m : Nat) (te : TE) (σ : L2.St) : Prop := ∀ H Q, E H → (∀ a H', LstT K b g lo m H' a → E H' → Frm b g H H' → Q (.ref a) H') → te σ H Q
def TelI (E : Hp → Prop) (te : TE) (σ : L2.St) : Prop := ∀ H Q, E H → (∀ k : Int, -100 ≤ k → k ≤ 100 → Q (.int k) H) → te σ H Q
section
variable {K : PySem.W.Frag} {b g : Addr} {E : Hp → Prop} {σ : L2.St} {te te2 : TE} {ta : TA} {n m m2 lo lo2 : Nat} (e : EnvOk b g E)
include e
theorem TelT.tel (h : TelT K b g E m te σ) (hm : m ≤ 1000) : Tel K b g E te σ := fun H Q hE k => h H _ hE fun a H' t hE' f => k _ H' (t.thing hm) hE' f
theorem telT_tup (h : Tels K b g E n ta σ) (hn : n ≤ 1000) : TelT K b g E n (tTup ta) σ := fun H Q hE k => h H _ hE fun vs H1 l hs hE1 f1 => by
  have : (1000 : Nat) < sizeLine := by decide
  refine ⟨by omega, fun p hp => ?_⟩
  have s := same_upd (o := .tup vs) hp
  exact k p _ ⟨vs, .inl (.inl upd_same), by omega, fun x hx => (hs x hx).keep (e.bag _ hE1) (.of s)⟩ (e.same hE1 s) (f1.trans (.of s))
theorem telT_var {i : Nat} {a : Addr} (hv : σ[i]? = some (some (.ref a))) (h : ∀ H, E H → TupT K b g m H a) : TelT K b g E m (tVar i) σ := fun H Q hE k => ⟨_, hv, k a H (h H hE) hE (Frm.refl _ _ _)⟩
theorem telT_cat (h1 : TelT K b g E m te σ) (h2 : TelT K b g E m2 te2 σ) (hm : m + m2 ≤ 1000) : TelT K b g E (m + m2) (tOp (rCatP K) te te2) σ := fun H Q hE k => h1 H _ hE fun a H1 t1 hE1 f1 => h2 H1 _ hE1 fun c H2 t2 hE2 f2 => by
  obtain ⟨xs, s1, l1, k1⟩ := t1.keep (e.bag _ hE1) f2
  obtain ⟨ys, s2, l2, k2⟩ := t2
  have : (1000 : Nat) < sizeLine := by decide
  refine ⟨a, c, xs, ys, rfl, rfl, s1, s2, by omega, fun p H' s hp => k p H' ⟨xs ++ ys, hp, by rw [List.length_append]; omega, fun x hx => ?_⟩ (e.same hE2 s) ((f1.trans f2).trans (.of s))⟩
  rcases List.mem_append.mp hx with hx | hx
  · exact (k1 x hx).keep (e.bag _ hE2) (.of s)
  · exact (k2 x hx).keep (e.bag _ hE2) (.of s)
theorem telT_rep (h : TelT K b g E m te σ) (h0 : ∀ H, E H → True) (hi : TelI E te2 σ) (hn : ∀ H a, TupT K b g m H a → True) (ne : ∀ H Q, E H → (∀ a H', (∃ xs, SqT K H' a xs ∧ xs ≠ [] ∧ xs.length ≤ 2 ∧ ∀ x ∈ xs, Thing K b g H' x) → E H' → Frm b g H H' → Q (.ref a) H') → te σ H Q) : TelT K b g E 200 (tOp (rRepZ K) te te2) σ := fun H Q hE k => ne H _ hE fun a H1 t1 hE1 f1 => hi H1 _ hE1 fun j j0 j1 => by
  obtain ⟨xs, s1, n1, l1, k1⟩ := t1
  refine ⟨a, j, xs, rfl, rfl, s1, n1, by omega, by omega, by omega, fun p H' s hp => k p H' ⟨_, hp, ?_, fun x hx => ?_⟩ (e.same hE1 s) (f1.trans (.of s))⟩
  · rw [PyProof.Rows.lm_len_rep_flat]
    have : j.toNat * xs.length ≤ 100 * 2 := Nat.mul_le_mul (by omega) l1
    omega
  · obtain ⟨ys, hy, hx⟩ := List.mem_flatten.mp hx
    rw [List.eq_of_mem_replicate hy] at hx
    exact (k1 x hx).keep (e.bag _ hE1) (.of s)
theorem tup_ne (h : Tels K b g E (n + 1) ta σ) (hn : n + 1 ≤ 2) : ∀ H Q, E H → (∀ a H', (∃ xs, SqT K H' a xs ∧ xs ≠ [] ∧ xs.length ≤ 2 ∧ ∀ x ∈ xs, Thing K b g H' x) → E H' → Frm b g H H' → Q (.ref a) H') → tTup ta σ H Q := fun H Q hE k => h H _ hE fun vs H1 l hs hE1 f1 => by
  have : (1000 : Nat) < sizeLine := by decide
  refine ⟨by omega, fun p hp => ?_⟩
  have s := same_upd (o := .tup vs) hp
  exact k p _ ⟨vs, .inl (.inl upd_same), (fun z => by rw [z] at l; cases l), by omega, fun x hx => (hs x hx).keep (e.bag _ hE1) (.of s)⟩ (e.same hE1 s) (f1.trans (.of s))
theorem telT_repD (h : Tels K b g E (n + 1) ta σ) (hn : n + 1 ≤ 2) (hi : TelI E te2 σ) : TelT K b g E 200 (tOp (rRepZ K) (tTup ta) te2) σ := telT_rep (m := n + 1) e (telT_tup e h (by omega)) (fun _ _ => trivial) hi (fun _ _ _ => trivial) (tup_ne e h hn)
theorem telT_init (h : TelT K b g E m te σ) : TelT K b g E m (tSl (rSlP K) te tNoPart (tPart (tUn (rU fun i => .int (-i)) (tC (.int 1))))) σ := fun H Q hE k => h H _ hE fun a H1 t1 hE1 f1 => by
  obtain ⟨xs, s1, l1, k1⟩ := t1
  refine ⟨1, rfl, -1, rfl, a, xs, rfl, s1, fun p H' s hp => k p H' ⟨_, hp, Nat.le_trans (cutV_length _ _ _) l1, fun x hx => ?_⟩ (e.same hE1 s) (f1.trans (.of s))⟩
  exact (k1 x (List.mem_of_mem_drop (List.mem_of_mem_take hx))).keep (e.bag _ hE1) (.of s)
theorem telT_last (h : TelT K b g E m te σ) : TelT K b g E m (tSl (rSlP K) te (tPart (tUn (rU fun i => .int (-i)) (tC (.int 1)))) tNoPart) σ := fun H Q hE k => h H _ hE fun a H1 t1 hE1 f1 => by
  obtain ⟨xs, s1, l1, k1⟩ := t1
  refine ⟨1, rfl, -1, rfl, a, xs, rfl, s1, fun p H' s hp => k p H' ⟨_, hp, Nat.le_trans (cutV_length _ _ _) l1, fun x hx => ?_⟩ (e.same hE1 s) (f1.trans (.of s))⟩
  exact (k1 x (List.mem_of_mem_drop (List.mem_of_mem_take hx))).keep (e.bag _ hE1) (.of s)
theorem telT_to (h : TelT K b g E m te σ) (hi : TelI E te2 σ) : TelT K b g E m (tSl (rSlP K) te tNoPart (tPart te2)) σ := fun H Q hE k => h H _ hE fun a H1 t1 hE1 f1 => hi H1 _ hE1 fun j j0 j1 => by
  obtain ⟨xs, s1, l1, k1⟩ := t1
  refine ⟨j, rfl, a, xs, rfl, s1, fun p H' s hp => k p H' ⟨_, hp, Nat.le_trans (cutV_length _ _ _) l1, fun x hx => ?_⟩ (e.same hE1 s) (f1.trans (.of s))⟩
  exact (k1 x (List.mem_of_mem_drop (List.mem_of_mem_take hx))).keep (e.bag _ hE1) (.of s)
theorem telT_from (h : TelT K b g E m te σ) (hi : TelI E te2 σ) : TelT K b g E m (tSl (rSlP K) te (tPart te2) tNoPart) σ := fun H Q hE k => h H _ hE fun a H1 t1 hE1 f1 => hi H1 _ hE1 fun j j0 j1 => by
  obtain ⟨xs, s1, l1, k1⟩ := t1
  refine ⟨j, rfl, a, xs, rfl, s1, fun p H' s hp => k p H' ⟨_, hp, Nat.le_trans (cutV_length _ _ _) l1, fun x hx => ?_⟩ (e.same hE1 s) (f1.trans (.of s))⟩
  exact (k1 x (List.mem_of_mem_drop (List.mem_of_mem_take hx))).keep (e.bag _ hE1) (.of s)
theorem telT_rev (h : TelT K b g E m te σ) : TelT K b g E m (tRevT K te) σ := fun H Q hE k => h H _ hE fun a H1 t1 hE1 f1 => by
  obtain ⟨xs, s1, l1, k1⟩ := t1
  refine ⟨a, xs, rfl, s1, fun p H' s hp => k p H' ⟨_, hp, by rw [List.length_reverse]; exact l1, fun x hx => ?_⟩ (e.same hE1 s) (f1.trans (.of s))⟩
  exact (k1 x (List.mem_reverse.mp hx)).keep (e.bag _ hE1) (.of s)
theorem telI_c {i : Int} (h0 : -100 ≤ i) (h1 : i ≤ 100) : TelI E (tC (.int i)) σ := fun H Q hE k => k i h0 h1
theorem telI_var {i : Nat} {j : Int} (hv : σ[i]? = some (some (.int j))) (h0 : -100 ≤ j) (h1 : j ≤ 100) : TelI E (tVar i) σ := fun H Q hE k => ⟨_, hv, k j h0 h1⟩
theorem telL_lst (h : Tels K b g E n ta σ) (hn : n ≤ 1000) : TelL K b g E n n (tLst ta) σ := fun H Q hE k => h H _ hE fun vs H1 l hs hE1 f1 => by
  have : (1000 : Nat) < sizeLine := by decide
  refine ⟨by omega, fun p hp => ?_⟩
  have s := same_upd (o := .lst vs) hp
  obtain ⟨pb, pg⟩ := (e.bag _ hE1).neNew hp
  exact k p _ ⟨vs, upd_same, pb, pg, by omega, by omega, fun x hx => (hs x hx).keep (e.bag _ hE1) (.of s)⟩ (e.same hE1 s) (f1.trans (.of s))
theorem telL_var {i : Nat} {a : Addr} (hv : σ[i]? = some (some (.ref a))) (h : ∀ H, E H → LstT K b g lo m H a) : TelL K b g E lo m (tVar i) σ := fun H Q hE k => ⟨_, hv, k a H (h H hE) hE (Frm.refl _ _ _)⟩
theorem telL_cat (h1 : TelL K b g E lo m te σ) (h2 : TelL K b g E lo2 m2 te2 σ) (hm : m + m2 ≤ 1000) : TelL K b g E (lo + lo2) (m + m2) (tOp rCat te te2) σ := fun H Q hE k => h1 H _ hE fun a H1 t1 hE1 f1 => h2 H1 _ hE1 fun c H2 t2 hE2 f2 => by
  obtain ⟨xs, s1, n1, n2, l0, l1, k1⟩ := t1.keep (e.bag _ hE1) f2
  obtain ⟨ys, s2, n3, n4, l2, l3, k2⟩ := t2
  have : (1000 : Nat) < sizeLine := by decide
  refine ⟨a, c, xs, ys, rfl, rfl, s1, s2, by omega, fun p hp => ?_⟩
  have s := same_upd (o := .lst (xs ++ ys)) hp
  obtain ⟨pb, pg⟩ := (e.bag _ hE2).neNew hp
  refine k p _ ⟨_, upd_same, pb, pg, by rw [List.length_append]; omega, by rw [List.length_append]; omega, fun x hx => ?_⟩ (e.same hE2 s) ((f1.trans f2).trans (.of s))
  rcases List.mem_append.mp hx with hx | hx
  · exact (k1 x hx).keep (e.bag _ hE2) (.of s)
  · exact (k2 x hx).keep (e.bag _ hE2) (.of s)
theorem telL_rep (h1 : TelL K b g E lo m te σ) (hi : ∀ H Q, E H → (∀ k : Int, 0 ≤ k → k ≤ 2 → Q (.int k) H) → te2 σ H Q) (hm : m ≤ 400) : TelL K b g E 0 (m * 2) (tOp rRep te te2) σ := fun H Q hE k => h1 H _ hE fun a H1 t1 hE1 f1 => hi H1 _ hE1 fun j j0 j1 => by
  obtain ⟨xs, s1, n1, n2, l0, l1, k1⟩ := t1
  have : (1000 : Nat) < sizeLine := by decide
  have e2 : xs.length * j.toNat ≤ m * 2 := Nat.mul_le_mul l1 (by omega)
  refine ⟨a, j, xs, rfl, rfl, s1, by omega, by omega, by omega, fun p hp => ?_⟩
  have s := same_upd (o := .lst (List.replicate j.toNat xs).flatten) hp
  obtain ⟨pb, pg⟩ := (e.bag _ hE1).neNew hp
  refine k p _ ⟨_, upd_same, pb, pg, Nat.zero_le _, ?_, fun x hx => ?_⟩ (e.same hE1 s) (f1.trans (.of s))
  · rw [PyProof.Rows.lm_len_rep_flat, Nat.mul_comm]
    exact e2
  · obtain ⟨ys, hy, hx⟩ := List.mem_flatten.mp hx
    rw [List.eq_of_mem_replicate hy] at hx
    exact (k1 x hx).keep (e.bag _ hE1) (.of s)
/-- what is drawn from a list of things -/
theorem tel_someL {i : Nat} {E' : XK} (hv : σ[i]? = some (some (.ref b))) (h : TelL K b g E lo m te σ) (h0 : 0 < lo) (hm : m ≤ 1000) : Tel K b g E (tCall spSome [] E' (tCons (tVar i) (tCons te tNil))) σ := fun H Q hE k => ⟨_, hv, h H _ hE fun p H1 t1 hE1 f1 => by
  obtain ⟨vs, s1, n1, n2, l0, l1, k1⟩ := t1
  exact ⟨b, g, p, vs, rfl, e.bag _ hE1, s1, n1, n2, by omega, by omega, fun j y H' hj B' F' => k y H' ((k1 y (List.mem_of_getElem? hj)).keep (e.bag _ hE1) F') (e.keep _ _ hE1 F' B') (f1.trans F')⟩⟩
end
def spDeep0 (K : PySem.W.Frag) : Sp := fun vs H Q _ => ∃ _u : Unit, vs = [] ∧ ∀ (a : Addr) (xs : List V) (H' : Hp), Same H H' → H a = none → H' a = some (.lst xs) → Q (.ref a) H'
theorem tel_deep {K : PySem.W.Frag} {b g : Addr} {E : Hp → Prop} {σ : L2.St} {E' : XK} (e : EnvOk b g E) : Tel K b g E (tCall (spDeep0 K) [] E' tNil) σ := fun H Q hE k => ⟨(), rfl, fun a xs H' s n h => by
  obtain ⟨pb, pg⟩ := (e.bag _ hE).neNew n
  exact k _ H' (.lst h pb pg) (e.same hE s) (.of s)⟩
def spOdd (K : PySem.W.Frag) : Sp := fun vs H Q _ => ∃ (b g : Addr), vs = [.ref b] ∧ Bag H b g ∧ ∀ v H', Thing K b g H' v → Bag H' b g → Frm b g H H' → Q v H'
section
variable {P : Program} {w : World} {K : PySem.W.Frag} {mg : Str → Option Value} {base : Heap} {aN aO : Addr} {t1 t2 t3 t4 t5 t6 t7 : Tok}
theorem ok_law_deep0 {f : Addr} {fd : FuncData} (D : Dn K mg "_law_deep" s_law_deep [] f fd) (B : Blt mg) (C : Cst K mg aN aO t1 t2 t3 t4 t5 t6 t7) : FnOk P w K mg base CX0 1 f fd [] (spDeep0 K) := by
  refine D.F.ok sc_law_deep (fun vs H Q E h => ?_) (fun cdv A outer s H vs Q E hr h => ?_)
  · obtain ⟨_, rfl, _⟩ := h
    rfl
  obtain ⟨_, rfl, q⟩ := h
  have nd := sc_law_deep.nd
  refine ⟨_, (pss_cons (ps_set (i := 0) nd rfl (.inl rfl) (pe_lst (pa_cons pe_non pa_nil)))
      (pss_cons (ps_for PassesOwn.never rfl (pi_range1 (by rfl) B.range (pa_cons pe_int pa_nil)) (pg_name (i := 1) nd rfl (.inl rfl)) (pss_one (ps_set (i := 0) nd rfl (.inl rfl) (pe_ifExpE (pt_cmpR op_eq (pe_op op_mod (pv 1) pe_int) pe_int (nomark _)) (pe_lst (pa_cons (pv 0) pa_nil)) (pe_tup (pa_cons (pv 0) pa_nil))))))
      (pss_one (ps_ret (pv 0))))), ?_⟩
  refine ⟨by show 1 ≤ sizeLine; decide, fun p hp => ?_⟩
  have s0 := same_upd (o := .lst [.non]) hp
  refine ⟨35, rfl, by decide, by decide, for_range (lo := 0) (n := 35) (fun i σ H2 => ∃ (a : Addr) (xs : List V) (o2 : Option V), σ = [some (.ref a), o2] ∧ Same H H2 ∧ H a = none ∧ ((i = 0 ∨ i % 2 = 1) → H2 a = some (.lst xs))) ⟨p, [.non], none, rfl, s0, hp, fun _ => upd_same⟩ ?_ ?_⟩
  · rintro i σ H2 hi ⟨a, xs, o2, rfl, s2, na, h2⟩
    refine ⟨fun v' H9 => ∃ (c : Addr) (ys : List V), v' = .ref c ∧ Same H H9 ∧ H c = none ∧ ((i + 1 = 0 ∨ (i + 1) % 2 = 1) → H9 c = some (.lst ys)), fun v' H9 ⟨c, ys, e, h⟩ => by cases e; exact ⟨c, ys, _, rfl, h⟩, ?_⟩
    refine ⟨_, rfl, _, _, rfl, rfl, (by show (0 : Int) < 2; decide), rfl, _, rfl, ?_⟩
    refine ite2 (fun c => ?_) (fun c => ?_)
    · refine ⟨_, rfl, by show 1 ≤ sizeLine; decide, fun p5 n5 => ⟨p5, [.ref a], rfl, s2.trans (same_upd n5), s2.free n5, fun _ => upd_same⟩⟩
    · have c : ¬ (V.int ((0 + (i : Int)) % 2) = V.int 0) := fun z => c (decide_eq_true z)
      refine ⟨_, rfl, by show 1 ≤ sizeLine; decide, fun p5 n5 => ⟨p5, [.ref a], rfl, s2.trans (same_upd n5), s2.free n5, fun h => absurd ?_ c⟩⟩
      rw [show (0 + (i : Int)) % 2 = 0 by omega]
  · rintro σ H2 ⟨a, xs, o2, rfl, s2, na, h2⟩
    exact ⟨_, rfl, q a xs H2 s2 na (h2 (.inr rfl))⟩
theorem ok_law_odd {f f1 f2 : Addr} {fd fd1 fd2 : FuncData} (D : Dn K mg "_law_odd" s_law_odd ["bag"] f fd) (B : Blt mg) (C : Cst K mg aN aO t1 t2 t3 t4 t5 t6 t7)
    (D_law_deep : Dn K mg "_law_deep" s_law_deep [] f1 fd1) (G_law_deep : FnOk P w K mg base CX0 1 f1 fd1 [] (spDeep0 K))
    (D_law_some : Dn K mg "_law_some" s_law_some ["bag", "things"] f2 fd2) (G_law_some : FnOk P w K mg base CX0 2 f2 fd2 ["bag", "things"] spSome) : FnOk P w K mg base CX0 3 f fd ["bag"] (spOdd K) := by
  refine D.F.ok sc_law_odd (fun vs H Q E h => ?_) (fun cdv A outer s H vs Q E hr h => ?_)
  · obtain ⟨b, g, rfl, _⟩ := h
    rfl
  obtain ⟨b, g, rfl, hB, q⟩ := h
  have nd := sc_law_odd.nd
  refine ⟨_, (pss_cons (ps_set (i := 1) nd rfl (.inl rfl) (pe_cut (pe_lst (pa_cons pe_non (pa_cons pe_bl (pa_cons pe_bl (pa_cons pe_int (pa_cons pe_int (pa_cons (pe_un un_neg pe_int) (pa_cons pe_int (pa_cons (pe_op op_pow pe_int pe_int) (pa_cons pe_str (pa_cons pe_str (pa_cons pe_str (pa_cons (pe_tup pa_nil) (pa_cons (pe_lst pa_nil) (pa_cons pe_dnewK (pa_cons (pe_tup (pa_cons (pe_tup pa_nil) pa_nil)) (pa_cons (pe_tup (pa_cons pe_int pa_nil)) (pa_cons (pe_tup (pa_cons pe_int (pa_cons pe_int pa_nil))) (pa_cons (pe_tup (pa_cons pe_int (pa_cons pe_int pa_nil))) pa_nil)))))))))))))))))))))
      (pss_cons (ps_set (i := 1) nd rfl (.inl rfl) (pe_cut (pe_op op_cat (pv 1) (pe_lst (pa_cons (pe_tup (pa_cons pe_int (pa_cons pe_int pa_nil))) (pa_cons (pe_lst (pa_cons pe_int (pa_cons pe_int pa_nil))) (pa_cons (pe_tup (pa_cons pe_int (pa_cons pe_int pa_nil))) (pa_cons (pe_tup (pa_cons (pe_un un_neg pe_int) (pa_cons pe_int pa_nil))) (pa_cons (pe_tup (pa_cons pe_int (pa_cons pe_int pa_nil))) (pa_cons (pe_tup (pa_cons pe_bl (pa_cons pe_int pa_nil))) (pa_cons (pe_tup (pa_cons (pe_tup (pa_cons pe_int (pa_cons pe_int pa_nil))) pa_nil)) (pa_cons (pe_disp1 (Nat.lt_of_le_of_lt (Nat.le_add_right _ 64) hr.units) (pe_tup pa_nil) (pe_tup pa_nil)) (pa_cons (pe_tup (pa_cons pe_non (pa_cons pe_non pa_nil))) (pa_cons (pe_call0 G_law_deep (hr.mono (by omega)) (by rfl) D_law_deep.m D_law_deep.F.kp D_law_deep.b .nil pass0) pa_nil))))))))))))))
      (pss_one (ps_ret (pe_call G_law_some (hr.mono (by omega)) (by rfl) D_law_some.m D_law_some.F.kp D_law_some.b .nil pass0 (pa_cons (pv 0) (pa_cons (pv 1) pa_nil))))))), ?_⟩
  refine ⟨fun v H' => ∃ a, v = .ref a ∧ LstT K b g 18 18 H' a ∧ EnvAt b g H H', telL_lst env_at (n := 18) ?_ (by decide) H _ (.now hB) fun a H1 t1 hE1 f1 => ⟨a, rfl, t1, hE1⟩, ?_⟩
  · repeat' (first | exact tels_nil env_at | with_reducible apply tels_cons env_at | exact tel_int env_at (by decide) | exact tel_non env_at | exact tel_bl env_at | exact tel_str env_at | exact tel_neg env_at (by decide) | exact tel_pow (m := 0) env_at ⟨by decide, by decide, by decide⟩ (by decide +kernel) | exact tel_deep env_at | exact tel_d0 env_at | exact tel_d1 env_at | (refine tel_var env_at rfl ?_; assumption) | with_reducible apply tel_tup env_at | with_reducible apply tel_lst env_at | decide | omega)
  · rintro _ H1 ⟨a, rfl, t1, B1, F1⟩
    refine ⟨fun v H' => ∃ c, v = .ref c ∧ LstT K b g 28 28 H' c ∧ EnvAt b g H H', telL_cat (lo := 18) (m := 18) (lo2 := 10) (m2 := 10) (E := EnvAt b g H1) env_at (telL_var env_at rfl fun H' h => t1.keep B1 h.2) (telL_lst env_at (n := 10) ?_ (by decide)) (by decide) H1 _ (.now B1) fun c H2 t2 hE2 _ => ⟨c, rfl, t2, hE2.1, F1.trans hE2.2⟩, ?_⟩
    · repeat' (first | exact tels_nil env_at | with_reducible apply tels_cons env_at | exact tel_int env_at (by decide) | exact tel_non env_at | exact tel_bl env_at | exact tel_str env_at | exact tel_neg env_at (by decide) | exact tel_pow (m := 0) env_at ⟨by decide, by decide, by decide⟩ (by decide +kernel) | exact tel_deep env_at | exact tel_d0 env_at | exact tel_d1 env_at | (refine tel_var env_at rfl ?_; assumption) | with_reducible apply tel_tup env_at | with_reducible apply tel_lst env_at | decide | omega)
      trace_state
    · rintro _ H2 ⟨c, rfl, t2, B2, F2⟩
      exact tel_someL (lo := 28) (m := 28) (E := EnvAt b g H2) env_at rfl (telL_var env_at rfl fun H' h => t2.keep B2 h.2) (by decide) (by decide) H2 _ (.now B2) fun v H3 tv hE3 f3 => q v H3 tv hE3.1 (F2.trans f3)
end
end Tl
/-! plans judged at things of any kind -/
namespace Tl
open PySem PySem.Spec PyProof.Rows L2 RZ
def getI {α : Type} (xs : List α) (i : Int) : Option α := if 0 ≤ i then xs[i.toNat]? else none
def numA (lo hi : Int) : AD → Bool
  | .int i => decide (lo ≤ i) && decide (i ≤ hi)
  | _ => false
theorem getI_num {α : Type} {xs : List α} {i : Int} (h : numA 0 ((xs.length : Int) - 1) (.int i) = true) : ∃ (j : Nat) (x : α), i = (j : Int) ∧ xs[j]? = some x ∧ getI xs i = some x := by
  have h : (decide (0 ≤ i) && decide (i ≤ (xs.length : Int) - 1)) = true := h
  rw [Bool.and_eq_true] at h
  have h1 := of_decide_eq_true h.1
  have h2 := of_decide_eq_true h.2
  refine ⟨i.toNat, xs[i.toNat]'(by omega), by omega, List.getElem?_eq_getElem _, ?_⟩
  unfold getI
  rw [if_pos h1]
  exact List.getElem?_eq_getElem _
theorem getI_no {α : Type} {xs : List α} {i : Int} (h : numA 0 ((xs.length : Int) - 1) (.int i) = false) : getI xs i = none := by
  have h : (decide (0 ≤ i) && decide (i ≤ (xs.length : Int) - 1)) = false := h
  unfold getI
  by_cases h1 : 0 ≤ i
  · rw [decide_eq_true h1, Bool.true_and] at h
    have h2 := of_decide_eq_false h
    rw [if_pos h1]
    exact List.getElem?_eq_none (by omega)
  · rw [if_neg h1]
def tellA {m : Nat} (w : Nd m → AD → Bool) (q : Qn m) (d1 d2 : AD) : Bool := match d1 with
  | .int i => (match getI q i with
    | some an => w an.2.2 d2
    | none => false)
  | _ => false
def askA2 {n : Nat} (f : An n → AD → Bool) (t : List (Qn n)) (d1 d2 : AD) : Bool := match d1 with
  | .int i => (match getI t i with
    | some qn => (match d2 with
      | .tup ds => decide (ds.length = qn.length) && (List.zipWith f qn ds).all id
      | _ => false)
    | none => false)
  | _ => false
def mv3 (tl ak : AD → AD → Bool) : AD → Bool
  | .tup [d0, d1, d2] => (match strA d0 with
    | some x => if x = ("tell" : Str) then tl d1 d2 else if x = ("ask" : Str) then ak d1 d2 else false
    | none => false)
  | _ => false
def mvA {m : Nat} (wt : (n : Nat) → Nd n → Nd m → AD → Bool) : (n : Nat) → Nd n → Qn m → AD → Bool
  | 0, t, q, d => mv3 (tellA (wt 0 t) q) (fun _ _ => false) d
  | n + 1, t, q, d => mv3 (tellA (wt (n + 1) t) q) (askA2 (fun (an : An n) x => mvA wt n an.2.2 q x) (show List (Qn n) from t)) d
def wtA : (m n : Nat) → Nd n → Nd m → AD → Bool
  | 0, _, _, _, .tup ds => decide (ds.length = 0)
  | m + 1, n, t, gs, .tup ds => decide (ds.length = (show List (Qn m) from gs).length) && (List.zipWith (fun (q : Qn m) x => mvA (wtA m) n t q x) (show List (Qn m) from gs) ds).all id
  | _, _, _, _, _ => false
theorem mv3_no {tl ak ak' : AD → AD → Bool} (h : ∀ x y, ak x y = ak' x y) (d : AD) : mv3 tl ak d = mv3 tl ak' d := by
  have : ak = ak' := funext fun x => funext fun y => h x y
  rw [this]
theorem mvA_qs {m : Nat} (wt : (n : Nat) → Nd n → Nd m → AD → Bool) (n : Nat) (t : Nd n) (q : Qn m) (d : AD) : mvA wt n t q d = mv3 (tellA (wt n t) q) (askA2 (fun (an : An (n - 1)) x => mvA wt (n - 1) an.2.2 q x) (qsOf n t)) d := by
  cases n with
  | succ n => rfl
  | zero =>
    refine mv3_no (fun x y => ?_) d
    cases x with
    | int i =>
      have e : getI (qsOf 0 t) i = none := by
        show getI ([] : List (Qn (0 - 1))) i = none
        unfold getI
        split <;> rfl
      unfold askA2
      simp only [e]
    | tup _ => rfl
    | oth _ => rfl
theorem wtA_qs (m n : Nat) (t : Nd n) (gs : Nd m) (ds : List AD) : wtA m n t gs (.tup ds) = (decide (ds.length = (qsOf m gs).length) && (List.zipWith (fun (q : Qn (m - 1)) x => mvA (wtA (m - 1)) n t q x) (qsOf m gs) ds).all id) := by
  cases m with
  | succ m => rfl
  | zero =>
    show decide (ds.length = 0) = (decide (ds.length = 0) && true)
    rw [Bool.and_true]
theorem wtA_not {m n : Nat} {t : Nd n} {gs : Nd m} {d : AD} (h : ∀ ds, d ≠ .tup ds) : wtA m n t gs d = false := by
  cases d with
  | tup ds => exact absurd rfl (h ds)
  | int i => cases m <;> rfl
  | oth s => cases m <;> rfl
theorem mv3_three {tl ak : AD → AD → Bool} {ds : List AD} (h : ds.length ≠ 3) : mv3 tl ak (.tup ds) = false := by
  match ds, h with
  | [], _ => rfl
  | [_], _ => rfl
  | [_, _], _ => rfl
  | [_, _, _], h => exact absurd rfl h
  | _ :: _ :: _ :: _ :: _, _ => rfl
theorem three_of {α : Type} {ds : List α} (h : ds.length = 3) : ∃ x y z, ds = [x, y, z] := by
  match ds, h with
  | [x, y, z], _ => exact ⟨x, y, z, rfl⟩
def spNumA (K : PySem.W.Frag) : Sp := fun vs H Q _ => ∃ (b g : Addr) (v : V) (d : AD) (lo hi : Int), vs = [v, .int lo, .int hi] ∧ Ad K b g H v d ∧ Q (.bl (numA lo hi d)) H
def spWtA (K : PySem.W.Frag) (m n : Nat) : Sp := fun vs H Q _ => ∃ (b g : Addr) (W : Nat) (v vg vh : V) (d : AD) (ahead ahead' : List Rat) (t : Nd n) (gs : Nd m), vs = [v, vg, vh] ∧ Ad K b g H v d ∧ Td K H vg (ndD m gs) ∧ Td K H vh (ndD n t) ∧ NdOk W n ahead t ∧ NdOk W m ahead' gs ∧ ∀ H', Same H H' → Q (.bl (wtA m n t gs d)) H'
def spMvA (K : PySem.W.Frag) (m n : Nat) : Sp := fun vs H Q _ => ∃ (b g : Addr) (W : Nat) (v vq vh : V) (d : AD) (ahead ahead' : List Rat) (t : Nd n) (q : Qn m), vs = [v, vq, vh] ∧ Ad K b g H v d ∧ Td K H vq (qnD m q) ∧ Td K H vh (ndD n t) ∧ NdOk W n ahead t ∧ QnOk W ahead' q ∧ (∀ a ∈ q, NdOk W m a.2.1 a.2.2) ∧ ∀ H', Same H H' → Q (.bl (mvA (wtA m) n t q d)) H'
theorem ndok_qs {W n : Nat} {ahead : List Rat} {t : Nd n} (h : NdOk W n ahead t) : (qsOf n t).length ≤ 5 ∧ ∀ q ∈ qsOf n t, QnOk W ahead q ∧ ∀ a ∈ q, NdOk W (n - 1) a.2.1 a.2.2 := by
  cases n with
  | zero => exact ⟨Nat.zero_le _, fun q hq => absurd hq List.not_mem_nil⟩
  | succ n => exact h
section
variable {P : Program} {w : World} {K : PySem.W.Frag} {mg : Str → Option Value} {base : Heap} {aN aO : Addr} {t1 t2 t3 t4 t5 t6 t7 : Tok}
theorem ok_is_number_a {f f1 : Addr} {fd fd1 : FuncData} (D : Dn K mg "is_number" s_is_number ["thing", "least", "most"] f fd) (B : Blt mg) (C : Cst K mg aN aO t1 t2 t3 t4 t5 t6 t7)
    (D_is_integral : Dn K mg "is_integral" s_is_integral ["thing"] f1 fd1) (G_is_integral : FnOk P w K mg base CX0 1 f1 fd1 ["thing"] (spIn K)) : FnOk P w K mg base CX0 2 f fd ["thing", "least", "most"] (spNumA K) := by
  refine D.F.ok sc_is_number (fun vs H Q E h => ?_) (fun cdv A outer s H vs Q E hr h => ?_)
  · obtain ⟨b, g, v, d, lo, hi, rfl, _⟩ := h
    rfl
  obtain ⟨b, g, v, d, lo, hi, rfl, hv, q⟩ := h
  have nd := sc_is_number.nd
  refine ⟨_, (pss_one (ps_ret (pe_and (pe_call G_is_integral (hr.mono (by omega)) (by rfl) D_is_integral.m D_is_integral.F.kp D_is_integral.b .nil pass0 (pa_cons (pv 0) pa_nil)) (pe_one (pe_chain op_le op_le (pv 1) (pv 0) (pv 2)))))), ?_⟩
  refine ⟨_, rfl, b, g, v, d, rfl, hv, _, rfl, ?_⟩
  cases d with
  | int i =>
    cases hv
    refine iteT ⟨_, rfl, _, rfl, _, _, rfl, rfl, _, rfl, ?_⟩
    by_cases c : lo ≤ i
    · rw [decide_eq_true c]
      refine iteT ⟨_, rfl, _, _, rfl, rfl, ?_⟩
      have e : numA lo hi (.int i) = decide (i ≤ hi) := by
        show (decide (lo ≤ i) && _) = _
        rw [decide_eq_true c, Bool.true_and]
      rw [e] at q
      exact q
    · rw [decide_eq_false c]
      refine iteF ?_
      have e : numA lo hi (.int i) = false := by
        show (decide (lo ≤ i) && _) = _
        rw [decide_eq_false c, Bool.false_and]
      rw [e] at q
      exact q
  | tup _ => exact iteF q
  | oth _ => exact iteF q
theorem ok_is_wait_a {m n : Nat} {f f1 : Addr} {fd fd1 : FuncData} {k : Nat} (D : Dn K mg "is_wait" s_is_wait ["thing", "waiting", "stand"] f fd) (B : Blt mg) (D_is_move : Dn K mg "is_move" s_is_move ["thing", "question", "stand"] f1 fd1) {sp0 : Sp} (G_is_move : FnOk P w K mg base CX0 k f1 fd1 ["thing", "question", "stand"] sp0) (hsp : ∀ m', m = m' + 1 → sp0 = spMvA K m' n) :
    FnOk P w K mg base CX0 (k + 1) f fd ["thing", "waiting", "stand"] (spWtA K m n) := by
  refine D.F.ok sc_is_wait (fun vs H Q E h => ?_) (fun cdv A outer s H vs Q E hr h => ?_)
  · obtain ⟨b, g, W, v, vg, vh, d, ahead, ahead', t, gs, rfl, _⟩ := h
    rfl
  obtain ⟨b, g, W, v, vg, vh, d, ahead, ahead', t, gs, rfl, hv, hg, hh, hok, gok, q⟩ := h
  have nd := sc_is_wait.nd
  refine ⟨_, (pss_cons (ps_if (PW.pt (pw_or (pt_not (pt_val (pe_callB (k_isi (K := K) rfl) (by rfl) B.isinstance (by decide +kernel) (pa_cons (pv 0) (pa_cons (pe_bltn (v := .ty "tuple") (u := .type "tuple") (by rfl) B.tuple (by decide +kernel) rfl) pa_nil))))) (pw_or1 (pt_cmpR op_ne (pe_callB (k_len (K := K) rfl) (by rfl) B.len PySem.boot_len (pa_cons (pv 0) pa_nil)) (pe_callB (k_len (K := K) rfl) (by rfl) B.len PySem.boot_len (pa_cons (pv 1) pa_nil)) (nomark _))))) (pss_one (ps_ret pe_bl)) pss_nil)
      (pss_one (ps_ret (pe_callB (k_all (K := K) rfl rfl) (by rfl) B.all (by decide +kernel) (pa_cons (pe_lc (own := [("move", 3), ("question", 4)]) rfl nd (k_zip (K := K) rfl (by rfl) B.zip (pa_cons (pv 0) (pa_cons (pv 1) pa_nil))) (blkOk_by (own := [("move", 3), ("question", 4)]) (by kernel_rfl)) (fun _ _ _ _ _ => (k_tup (K := K) (n := 2) rfl rfl (pgs_cons (pg_name (i := 3) nd rfl (.inl rfl)) (pgs_cons (pg_name (i := 4) nd rfl (.inl rfl)) pgs_nil)))) (fun _ _ _ _ _ => pts_nil) (fun _ _ _ _ _ => (pe_call G_is_move (hr.mono (by omega)) (by rfl) D_is_move.m D_is_move.F.kp D_is_move.b .nil pass0 (pa_cons (pv 3) (pa_cons (pv 4) (pa_cons (pv 2) pa_nil)))))) pa_nil))))), ?_⟩
  rcases id hv.kind with ⟨i, rfl, rfl⟩ | ⟨a, xs, ds, rfl, rfl, hs, hl, hk⟩ | ⟨_, rfl, ty0, ty, k1, k2⟩
  · rw [wtA_not (fun ds e => by cases e)] at q
    exact ⟨_, rfl, _, _, _, _, false, rfl, .ty "tuple", .base (.int i), kit_ty (by decide +kernel), _, rfl, iteT (q H (Same.refl _))⟩
  · rw [wtA_qs] at q
    obtain ⟨c, ys, rfl, hc, tc⟩ := qs_td hg
    obtain ⟨g5, gk⟩ := ndok_qs gok
    have ly : ys.length = (qsOf m gs).length := by rw [tc.len, List.length_map]
    refine ⟨_, rfl, _, _, _, _, true, rfl, .ty "tuple", tyx_tup hs, kit_ty (by decide +kernel), _, rfl, iteF ?_⟩
    refine ⟨_, rfl, a, _, rfl, .inr hs, _, rfl, c, _, rfl, .inr hc, rfl, _, rfl, ?_⟩
    by_cases le : ds.length = (qsOf m gs).length
    · rw [hl, ly, le, decide_eq_true rfl]
      refine iteF ?_
      rw [decide_eq_true le, Bool.true_and] at q
      refine ⟨_, rfl, _, rfl, a, c, xs, ys, rfl, .inr ⟨hs, hc, fun T hT => ?_⟩⟩
      refine lc_bools (K := K) (walk_zipT (K := K) (a := a) (b := c) (xs := xs) (ys := ys) (n := (qsOf m gs).length) (by omega)) (List.zipWith (fun (q : Qn (m - 1)) x => mvA (wtA (m - 1)) n t q x) (qsOf m gs) ds) (by rw [List.length_zipWith]; omega) (by omega) hT (fun H' s => ⟨Same.kt s _ _ hs, Same.kt s _ _ hc⟩) ?_ ?_
      · rintro i y cc H2 H3 Qy N hcc s2 ⟨T2, x', y', rfl, n2, rfl, e1, e2⟩ hQ
        have s3 : Same H2 (upd H2 T2 (.tup [x', y'])) := same_upd n2
        obtain ⟨dy, ey, ty⟩ := tc.getV e2
        rw [List.getElem?_map] at ey
        obtain ⟨qn, eq, rfl⟩ := Option.map_eq_some_iff.mp ey
        obtain ⟨r, er⟩ : ∃ r, ds[i]? = some r := ⟨_, List.getElem?_eq_getElem (by
          have := (List.getElem?_eq_some_iff.mp e1).1
          omega)⟩
        rw [List.getElem?_zipWith, er, eq] at hcc
        cases hcc
        have mq := List.mem_of_getElem? eq
        obtain ⟨m', rfl⟩ : ∃ m', m = m' + 1 := by
          cases m with
          | zero => exact absurd mq List.not_mem_nil
          | succ m => exact ⟨m, rfl⟩
        have hsp := hsp m' rfl
        subst hsp
        have s23 := s2.trans s3
        refine ⟨T2, _, rfl, .inl (.inl upd_same), rfl, _, _, rfl, _, _, rfl, rfl, ?_⟩
        refine ⟨rfl, ?_⟩
        refine iteT (B := N (upd H2 T2 (.tup [x', y']))) ?_
        exact ⟨_, rfl, _, rfl, _, rfl, b, g, W, x', y', vh, r, ahead, ahead', t, qn, rfl, (hk i x' r e1 er).same s23, ty.keep (Same.kt s23), hh.keep (Same.kt s23), hok, (gk qn mq).1, (gk qn mq).2, fun H5 s5 => hQ H5 (s3.trans s5)⟩
      · intro H2 h2 s2
        exact ⟨T, _, rfl, SqL.of h2, q H2 s2⟩
    · rw [hl, ly, decide_eq_false (show ¬ V.int ((ds.length : Nat) : Int) = V.int (((qsOf m gs).length : Nat) : Int) from fun z => le (by have := V.int.inj z; omega))]
      refine iteT ?_
      rw [decide_eq_false le, Bool.false_and] at q
      exact q H (Same.refl _)
  · rw [wtA_not (fun ds e => by cases e)] at q
    exact ⟨_, rfl, _, _, _, _, false, rfl, .ty "tuple", ty, k1, _, rfl, iteT (q H (Same.refl _))⟩
theorem ok_is_move_a {m n : Nat} {f f1 f3 : Addr} {fd fd1 fd3 : FuncData} {k : Nat} (D : Dn K mg "is_move" s_is_move ["thing", "question", "stand"] f fd) (B : Blt mg) (BS : mg "str" = none) (D_is_number : Dn K mg "is_number" s_is_number ["thing", "least", "most"] f1 fd1) (G_is_number : FnOk P w K mg base CX0 2 f1 fd1 ["thing", "least", "most"] (spNumA K))
    (D_is_wait : Dn K mg "is_wait" s_is_wait ["thing", "waiting", "stand"] f3 fd3) (G_is_wait : FnOk P w K mg base CX0 k f3 fd3 ["thing", "waiting", "stand"] (spWtA K m n)) {sp0 : Sp} (G_is_move : FnOk P w K mg base CX0 k f fd ["thing", "question", "stand"] sp0) (hsp : ∀ n', n = n' + 1 → sp0 = spMvA K m n') (hk2 : 2 ≤ k) :
    FnOk P w K mg base CX0 (k + 1) f fd ["thing", "question", "stand"] (spMvA K m n) := by
  refine D.F.ok sc_is_move (fun vs H Q E h => ?_) (fun cdv A outer s H vs Q E hr h => ?_)
  · obtain ⟨b, g, W, v, vq, vh, d, ahead, ahead', t, q, rfl, _⟩ := h
    rfl
  obtain ⟨b, g, W, v, vq, vh, d, ahead, ahead', t, qn, rfl, hv, hq, hh, hok, qok, nok, q⟩ := h
  have nd := sc_is_move.nd
  have D_is_move := D
  refine ⟨_, (pss_cons (ps_if (PW.pt (pw_or (pt_not (pt_val (pe_callB (k_isi (K := K) rfl) (by rfl) B.isinstance (by decide +kernel) (pa_cons (pv 0) (pa_cons (pe_bltn (v := .ty "tuple") (u := .type "tuple") (by rfl) B.tuple (by decide +kernel) rfl) pa_nil))))) (pw_or (pt_cmpR op_ne (pe_callB (k_len (K := K) rfl) (by rfl) B.len PySem.boot_len (pa_cons (pv 0) pa_nil)) pe_int (nomark _)) (pw_or1 (pt_not (pt_val (pe_callB (k_isi (K := K) rfl) (by rfl) B.isinstance (by decide +kernel) (pa_cons (pe_ix (k_ixT (K := K) rfl) (pv 0) pe_int (fun _ _ => rfl)) (pa_cons (pe_bltn (v := .ty "str") (u := .type "str") (by rfl) BS (by decide +kernel) rfl) pa_nil))))))))) (pss_one (ps_ret pe_bl)) pss_nil)
      (pss_cons (ps_asg (pv 0) (k_tup (K := K) (n := 3) rfl rfl (pgs_cons (pg_name (i := 3) nd rfl (.inl rfl)) (pgs_cons (pg_name (i := 4) nd rfl (.inl rfl)) (pgs_cons (pg_name (i := 5) nd rfl (.inl rfl)) pgs_nil)))))
      (pss_cons (ps_if (pt_cmpR op_eq (pv 3) pe_str (nomark _)) (pss_one (ps_ret (pe_and (pe_call G_is_number (hr.mono (by omega)) (by rfl) D_is_number.m D_is_number.F.kp D_is_number.b .nil pass0 (pa_cons (pv 4) (pa_cons pe_int (pa_cons (pe_op op_sub (pe_callB (k_len (K := K) rfl) (by rfl) B.len PySem.boot_len (pa_cons (pv 1) pa_nil)) pe_int) pa_nil)))) (pe_one (pe_call G_is_wait (hr.mono (by omega)) (by rfl) D_is_wait.m D_is_wait.F.kp D_is_wait.b .nil pass0 (pa_cons (pv 5) (pa_cons (pe_ix (k_ixT (K := K) rfl) (pe_ix (k_ixT (K := K) rfl) (pv 1) (pv 4) (fun _ _ => rfl)) pe_int (fun _ _ => rfl)) (pa_cons (pv 2) pa_nil)))))))) pss_nil)
      (pss_cons (ps_if (PW.pt (pw_or (pt_cmpR op_ne (pv 3) pe_str (nomark _)) (pw_or1 (pt_not (pt_val (pe_call G_is_number (hr.mono (by omega)) (by rfl) D_is_number.m D_is_number.F.kp D_is_number.b .nil pass0 (pa_cons (pv 4) (pa_cons pe_int (pa_cons (pe_op op_sub (pe_callB (k_len (K := K) rfl) (by rfl) B.len PySem.boot_len (pa_cons (pv 2) pa_nil)) pe_int) pa_nil))))))))) (pss_one (ps_ret pe_bl)) pss_nil)
      (pss_cons (ps_if (PW.pt (pw_or (pt_not (pt_val (pe_callB (k_isi (K := K) rfl) (by rfl) B.isinstance (by decide +kernel) (pa_cons (pv 5) (pa_cons (pe_bltn (v := .ty "tuple") (u := .type "tuple") (by rfl) B.tuple (by decide +kernel) rfl) pa_nil))))) (pw_or1 (pt_cmpR op_ne (pe_callB (k_len (K := K) rfl) (by rfl) B.len PySem.boot_len (pa_cons (pv 5) pa_nil)) (pe_callB (k_len (K := K) rfl) (by rfl) B.len PySem.boot_len (pa_cons (pe_ix (k_ixT (K := K) rfl) (pv 2) (pv 4) (fun _ _ => rfl)) pa_nil)) (nomark _))))) (pss_one (ps_ret pe_bl)) pss_nil)
      (pss_one (ps_ret (pe_callB (k_all (K := K) rfl rfl) (by rfl) B.all (by decide +kernel) (pa_cons (pe_lc (own := [("move", 6), ("answer", 7)]) rfl nd (k_zip (K := K) rfl (by rfl) B.zip (pa_cons (pv 5) (pa_cons (pe_ix (k_ixT (K := K) rfl) (pv 2) (pv 4) (fun _ _ => rfl)) pa_nil))) (blkOk_by (own := [("move", 6), ("answer", 7)]) (by kernel_rfl)) (fun _ _ _ _ _ => (k_tup (K := K) (n := 2) rfl rfl (pgs_cons (pg_name (i := 6) nd rfl (.inl rfl)) (pgs_cons (pg_name (i := 7) nd rfl (.inl rfl)) pgs_nil)))) (fun _ _ _ _ _ => pts_nil) (fun _ _ _ _ _ => (pe_call G_is_move (hr.mono (by omega)) (by rfl) D_is_move.m D_is_move.F.kp D_is_move.b .nil pass0 (pa_cons (pv 6) (pa_cons (pv 1) (pa_cons (pe_ix (k_ixT (K := K) rfl) (pv 7) pe_int (fun _ _ => rfl)) pa_nil)))))) pa_nil))))))))), ?_⟩
  rw [mvA_qs] at q
  rcases id hv.kind with ⟨i, rfl, rfl⟩ | ⟨a, xs, ds, rfl, rfl, hs, hl, hk⟩ | ⟨_, rfl, ty0, ty, k1, k2⟩
  · exact ⟨_, rfl, _, _, _, _, false, rfl, .ty "tuple", .base (.int i), kit_ty (by decide +kernel), _, rfl, iteT (q H (Same.refl _))⟩
  rotate_left
  · exact ⟨_, rfl, _, _, _, _, false, rfl, .ty "tuple", ty, k1, _, rfl, iteT (q H (Same.refl _))⟩
  refine ⟨_, rfl, _, _, _, _, true, rfl, .ty "tuple", tyx_tup hs, kit_ty (by decide +kernel), _, rfl, iteF ?_⟩
  refine ⟨_, rfl, a, _, rfl, .inr hs, rfl, _, rfl, ?_⟩
  by_cases l3 : ds.length = 3
  rotate_left
  · rw [hl, decide_eq_false (show ¬ (V.int ((ds.length : Nat) : Int)) = V.int 3 from fun z => l3 (by have := V.int.inj z; omega))]
    rw [mv3_three l3] at q
    exact iteT (q H (Same.refl _))
  rw [hl, l3, decide_eq_true (show V.int ((3 : Nat) : Int) = V.int 3 from rfl)]
  refine iteF ?_
  obtain ⟨d0, d1, d2, rfl⟩ := three_of l3
  obtain ⟨v0, v1, v2, rfl⟩ := three_of (hl.trans l3)
  have h0 := hk 0 v0 d0 rfl rfl
  have h1 := hk 1 v1 d1 rfl rfl
  have h2 := hk 2 v2 d2 rfl rfl
  obtain ⟨st, sty, skt, sv⟩ := h0.is_str
  refine ⟨_, rfl, a, _, 0, v0, rfl, rfl, hs, at_of (j := 0) rfl rfl, _, _, _, _, _, rfl, .ty "str", sty, skt, _, rfl, ?_⟩
  have q : ∀ H', Same H H' → Q (.bl (match strA d0 with
    | some x => if x = ("tell" : Str) then tellA (wtA m n t) qn d1 d2 else if x = ("ask" : Str) then askA2 (fun (an : An (n - 1)) x => mvA (wtA m) (n - 1) an.2.2 qn x) (qsOf n t) d1 d2 else false
    | none => false)) H' := q
  cases es : strA d0 with
  | none =>
    rw [es] at q
    exact iteT (q H (Same.refl _))
  | some x =>
    rw [es] at q
    cases sv x es
    refine iteF ?_
    refine ⟨_, rfl, a, _, rfl, hs, rfl, _, _, rfl, _, _, rfl, _, _, rfl, rfl, ?_⟩
    obtain ⟨c, ys, rfl, hc, tc⟩ := id hq.tupE
    have ly : ys.length = qn.length := by rw [tc.len, List.length_map]
    obtain ⟨ch, zs, rfl, hch, tch⟩ := qs_td hh
    have lz : zs.length = (qsOf n t).length := by rw [tch.len, List.length_map]
    obtain ⟨t5, tk⟩ := ndok_qs hok
    refine ⟨_, rfl, rfl, _, rfl, ?_⟩
    by_cases hx : x = ("tell" : Str)
    · subst hx
      rw [decide_eq_true rfl]
      refine iteT ?_
      refine ⟨_, rfl, _, rfl, c, ys, rfl, .inr hc, _, _, rfl, rfl, b, g, v1, d1, 0, (ys.length : Int) - 1, rfl, h1, _, rfl, ?_⟩
      rw [ly]
      have q : ∀ H', Same H H' → Q (.bl (tellA (wtA m n t) qn d1 d2)) H' := q
      cases hn : numA 0 ((qn.length : Int) - 1) d1 with
      | false =>
        refine iteF ?_
        have e : tellA (wtA m n t) qn d1 d2 = false := by
          cases d1 with
          | int i =>
            unfold tellA
            simp only [getI_no hn]
          | tup _ => rfl
          | oth _ => rfl
        rw [e] at q
        exact q H (Same.refl _)
      | true =>
        cases d1 with
        | tup _ => cases hn
        | oth _ => cases hn
        | int i =>
        cases h1
        obtain ⟨j, an, rfl, ean, eg⟩ := getI_num hn
        refine iteT ?_
        have e : tellA (wtA m n t) qn (.int (j : Int)) d2 = wtA m n t an.2.2 d2 := by
          unfold tellA
          simp only [eg]
        rw [e] at q
        obtain ⟨y, ey, ty⟩ := tc.get (i := j) (d := anD m an) (by rw [List.getElem?_map, ean]; rfl)
        obtain ⟨pn, vw, vz, vt, rfl, hpn, tw, tz, tt⟩ := td_an ty
        exact ⟨_, rfl, _, rfl, _, rfl, c, ys, (j : Int), _, rfl, rfl, hc, at_of (j := j) rfl ey, pn, _, 2, _, rfl, rfl, hpn, at_of (j := 2) rfl rfl, _, rfl, b, g, W, v2, vt, .ref ch, d2, ahead, an.2.1, t, an.2.2, rfl, h2, tt, hh, hok, nok an (List.mem_of_getElem? ean), q⟩
    · rw [decide_eq_false (show ¬ V.str x = V.str "tell" from fun z => hx (V.str.inj z))]
      refine iteF ?_
      refine ⟨_, rfl, rfl, _, rfl, ?_⟩
      by_cases hx2 : x = ("ask" : Str)
      rotate_left
      · rw [decide_eq_false (show ¬ V.str x = V.str "ask" from fun z => hx2 (V.str.inj z))]
        have q : ∀ H', Same H H' → Q (.bl (if x = ("tell" : Str) then tellA (wtA m n t) qn d1 d2 else if x = ("ask" : Str) then askA2 (fun (an : An (n - 1)) x => mvA (wtA m) (n - 1) an.2.2 qn x) (qsOf n t) d1 d2 else false)) H' := q
        rw [if_neg hx, if_neg hx2] at q
        exact iteT (q H (Same.refl _))
      subst hx2
      rw [decide_eq_true rfl]
      refine iteF ?_
      have q : ∀ H', Same H H' → Q (.bl (askA2 (fun (an : An (n - 1)) x => mvA (wtA m) (n - 1) an.2.2 qn x) (qsOf n t) d1 d2)) H' := q
      refine ⟨_, rfl, _, rfl, ch, zs, rfl, .inr hch, _, _, rfl, rfl, b, g, v1, d1, 0, (zs.length : Int) - 1, rfl, h1, _, rfl, ?_⟩
      rw [lz]
      cases hn : numA 0 (((qsOf n t).length : Int) - 1) d1 with
      | false =>
        refine iteT ?_
        have e : askA2 (fun (an : An (n - 1)) x => mvA (wtA m) (n - 1) an.2.2 qn x) (qsOf n t) d1 d2 = false := by
          cases d1 with
          | int i =>
            unfold askA2
            simp only [getI_no hn]
          | tup _ => rfl
          | oth _ => rfl
        rw [e] at q
        exact q H (Same.refl _)
      | true =>
        cases d1 with
        | tup _ => cases hn
        | oth _ => cases hn
        | int i =>
        cases h1
        obtain ⟨j, qj, rfl, eqj, eg⟩ := getI_num hn
        refine iteF ?_
        obtain ⟨y, ey, ty⟩ := tch.get (i := j) (d := qnD (n - 1) qj) (by rw [List.getElem?_map, eqj]; rfl)
        obtain ⟨p', ww, rfl, hp', tp'⟩ := id ty.tupE
        have lww : ww.length = qj.length := by rw [tp'.len, List.length_map]
        obtain ⟨qjok, qjn⟩ := tk qj (List.mem_of_getElem? eqj)
        have q12 := qjok.most
        rcases id h2.kind with ⟨i, rfl, rfl⟩ | ⟨a2, xs2, ds2, rfl, rfl, hs2, hl2, hk2'⟩ | ⟨_, rfl, ty0, ty2, k1, k2⟩
        · have e : askA2 (fun (an : An (n - 1)) x => mvA (wtA m) (n - 1) an.2.2 qn x) (qsOf n t) (.int (j : Int)) (.int i) = false := by
            unfold askA2
            simp only [eg]
          rw [e] at q
          exact ⟨_, rfl, _, _, _, _, false, rfl, .ty "tuple", .base (.int i), kit_ty (by decide +kernel), _, rfl, iteT (q H (Same.refl _))⟩
        rotate_left
        · have e : ∀ s, askA2 (fun (an : An (n - 1)) x => mvA (wtA m) (n - 1) an.2.2 qn x) (qsOf n t) (.int (j : Int)) (.oth s) = false := fun s => by
            unfold askA2
            simp only [eg]
          rw [e] at q
          exact ⟨_, rfl, _, _, _, _, false, rfl, .ty "tuple", ty2, k1, _, rfl, iteT (q H (Same.refl _))⟩
        have e : askA2 (fun (an : An (n - 1)) x => mvA (wtA m) (n - 1) an.2.2 qn x) (qsOf n t) (.int (j : Int)) (.tup ds2) = (decide (ds2.length = qj.length) && (List.zipWith (fun (an : An (n - 1)) x => mvA (wtA m) (n - 1) an.2.2 qn x) qj ds2).all id) := by
          unfold askA2
          simp only [eg]
        rw [e] at q
        refine ⟨_, rfl, _, _, _, _, true, rfl, .ty "tuple", tyx_tup hs2, kit_ty (by decide +kernel), _, rfl, iteF ?_⟩
        refine ⟨_, rfl, a2, _, rfl, .inr hs2, _, rfl, _, rfl, ch, zs, (j : Int), _, rfl, rfl, hch, at_of (j := j) rfl ey, p', ww, rfl, .inr hp', rfl, _, rfl, ?_⟩
        by_cases le : ds2.length = qj.length
        rotate_left
        · rw [hl2, lww, decide_eq_false (show ¬ V.int ((ds2.length : Nat) : Int) = V.int ((qj.length : Nat) : Int) from fun z => le (by have := V.int.inj z; omega))]
          refine iteT ?_
          rw [decide_eq_false le, Bool.false_and] at q
          exact q H (Same.refl _)
        rw [hl2, lww, le, decide_eq_true rfl]
        refine iteF ?_
        rw [decide_eq_true le, Bool.true_and] at q
        obtain ⟨n', rfl⟩ : ∃ n', n = n' + 1 := by
          cases n with
          | zero => exact absurd (List.mem_of_getElem? eqj) List.not_mem_nil
          | succ n => exact ⟨n, rfl⟩
        have hsp := hsp n' rfl
        subst hsp
        refine ⟨_, rfl, _, rfl, _, rfl, ch, zs, (j : Int), _, rfl, rfl, hch, at_of (j := j) rfl ey, a2, p', xs2, ww, rfl, .inr ⟨hs2, hp', fun T hT => ?_⟩⟩
        refine lc_bools (K := K) (walk_zipT (K := K) (a := a2) (b := p') (xs := xs2) (ys := ww) (n := qj.length) (by omega)) (List.zipWith (fun (an : An n') x => mvA (wtA m) n' an.2.2 qn x) qj ds2) (by rw [List.length_zipWith]; omega) (by omega) hT (fun H' s => ⟨Same.kt s _ _ hs2, Same.kt s _ _ hp'⟩) ?_ ?_
        · rintro i y' cc H2 H3 Qy N hcc s2 ⟨T2, x', y2, rfl, n2, rfl, e1, e2⟩ hQ
          have s3 : Same H2 (upd H2 T2 (.tup [x', y2])) := same_upd n2
          obtain ⟨dy, ey2, ty2⟩ := tp'.getV e2
          rw [List.getElem?_map] at ey2
          obtain ⟨an, ean, rfl⟩ := Option.map_eq_some_iff.mp ey2
          obtain ⟨r, er⟩ : ∃ r, ds2[i]? = some r := ⟨_, List.getElem?_eq_getElem (by
            have := (List.getElem?_eq_some_iff.mp e1).1
            omega)⟩
          rw [List.getElem?_zipWith, er, ean] at hcc
          cases hcc
          have k23 := Same.kt (K := K) (s2.trans s3)
          obtain ⟨pn, vw, vz, vt, rfl, hpn, tw, tz, tt⟩ := td_an (ty2.keep k23)
          refine ⟨T2, _, rfl, .inl (.inl upd_same), rfl, _, _, rfl, _, _, rfl, rfl, ?_⟩
          refine ⟨rfl, ?_⟩
          refine iteT (B := N (upd H2 T2 (.tup [x', .ref pn]))) ?_
          exact ⟨_, rfl, _, rfl, _, rfl, pn, _, 2, _, rfl, rfl, hpn, at_of (j := 2) rfl rfl, b, g, W, x', .ref c, vt, r, an.2.1, ahead', an.2.2, qn, rfl, (hk2' i x' r e1 er).same (s2.trans s3), hq.keep k23, tt, qjn an (List.mem_of_getElem? ean), qok, nok, fun H5 s5 => hQ H5 (s3.trans s5)⟩
        · intro H2 h2' s2
          exact ⟨T, _, rfl, SqL.of h2', q H2 s2⟩
theorem ok_plans_any {f f1 f3 : Addr} {fd fd1 fd3 : FuncData} (D_is_move : Dn K mg "is_move" s_is_move ["thing", "question", "stand"] f fd) (B : Blt mg) (BS : mg "str" = none) (D_is_number : Dn K mg "is_number" s_is_number ["thing", "least", "most"] f1 fd1) (G_is_number : FnOk P w K mg base CX0 2 f1 fd1 ["thing", "least", "most"] (spNumA K))
    (D_is_wait : Dn K mg "is_wait" s_is_wait ["thing", "waiting", "stand"] f3 fd3) :
    ∀ m n : Nat, n ≤ 6 → FnOk P w K mg base CX0 (2 + 8 * m) f3 fd3 ["thing", "waiting", "stand"] (spWtA K m n) ∧ FnOk P w K mg base CX0 (3 + 8 * m + n) f fd ["thing", "question", "stand"] (spMvA K m n) := by
  have no : ∀ k, FnOk P w K mg base CX0 k f fd ["thing", "question", "stand"] (fun _ _ _ _ => False) := fun k => ⟨fun vs H Q E h => h.elim, fun A outer s H args us vs Q E _ _ _ _ h => h.elim⟩
  have step : ∀ m : Nat, (∀ m', m = m' + 1 → ∀ n, n ≤ 6 → FnOk P w K mg base CX0 (3 + 8 * m' + n) f fd ["thing", "question", "stand"] (spMvA K m' n)) → ∀ n : Nat, n ≤ 6 → FnOk P w K mg base CX0 (2 + 8 * m) f3 fd3 ["thing", "waiting", "stand"] (spWtA K m n) ∧ FnOk P w K mg base CX0 (3 + 8 * m + n) f fd ["thing", "question", "stand"] (spMvA K m n) := by
    intro m IH
    have wait : ∀ n : Nat, n ≤ 6 → FnOk P w K mg base CX0 (2 + 8 * m) f3 fd3 ["thing", "waiting", "stand"] (spWtA K m n) := by
      intro n hn
      cases m with
      | zero => exact ok_is_wait_a (k := 1) D_is_wait B D_is_move (no 1) (fun m' e => by omega)
      | succ m' =>
        have G := IH m' rfl n hn
        rw [show 2 + 8 * (m' + 1) = (9 + 8 * m') + 1 by omega]
        exact ok_is_wait_a D_is_wait B D_is_move (G.mono (by omega)) (fun m2 e => by rw [show m2 = m' by omega])
    have move : ∀ n : Nat, n ≤ 6 → FnOk P w K mg base CX0 (3 + 8 * m + n) f fd ["thing", "question", "stand"] (spMvA K m n) := by
      intro n
      induction n with
      | zero =>
        intro hn
        rw [show 3 + 8 * m + 0 = (2 + 8 * m) + 1 by omega]
        exact ok_is_move_a D_is_move B BS D_is_number G_is_number D_is_wait (wait 0 hn) (no _) (fun n' e => by omega) (by omega)
      | succ n ih =>
        intro hn
        rw [show 3 + 8 * m + (n + 1) = (3 + 8 * m + n) + 1 by omega]
        exact ok_is_move_a D_is_move B BS D_is_number G_is_number D_is_wait ((wait (n + 1) hn).mono (by omega)) (ih (by omega)) (fun n' e => by rw [show n' = n by omega]) (by omega)
    exact fun n hn => ⟨wait n hn, move n hn⟩
  intro m
  induction m with
  | zero => exact step 0 (fun m' e => by omega)
  | succ m ih => exact step (m + 1) (fun m' e n hn => by rw [show m' = m by omega]; exact (ih n hn).2)
end
end Tl
/-! plans judged by the law at things of any kind -/
namespace Tl
open PySem PySem.Spec PyProof.Rows L2 RZ
def spLWt (K : PySem.W.Frag) (m n : Nat) : Sp := fun vs H Q _ => ∃ (b g : Addr) (W : Nat) (v vg vh : V) (d : AD) (ahead ahead' : List Rat) (t : Nd n) (gs : Nd m), vs = [vh, vg, v] ∧ Ad K b g H v d ∧ Td K H vg (ndD m gs) ∧ Td K H vh (ndD n t) ∧ NdOk W n ahead t ∧ NdOk W m ahead' gs ∧ ∀ H', Same H H' → Q (.bl (wtA m n t gs d)) H'
def spLMv (K : PySem.W.Frag) (m n : Nat) : Sp := fun vs H Q _ => ∃ (b g : Addr) (W : Nat) (v vq vh : V) (d : AD) (ahead ahead' : List Rat) (t : Nd n) (q : Qn m), vs = [vh, vq, v] ∧ Ad K b g H v d ∧ Td K H vq (qnD m q) ∧ Td K H vh (ndD n t) ∧ NdOk W n ahead t ∧ QnOk W ahead' q ∧ (∀ a ∈ q, NdOk W m a.2.1 a.2.2) ∧ ∀ H', Same H H' → Q (.bl (mvA (wtA m) n t q d)) H'
section
variable {P : Program} {w : World} {K : PySem.W.Frag} {mg : Str → Option Value} {base : Heap} {aN aO : Addr} {t1 t2 t3 t4 t5 t6 t7 : Tok}
theorem ok_law_is_int_a {f : Addr} {fd : FuncData} (D : Dn K mg "_law_is_int" s_law_is_int ["thing", "least", "most"] f fd) (B : Blt mg) (C : Cst K mg aN aO t1 t2 t3 t4 t5 t6 t7) : FnOk P w K mg base CX0 1 f fd ["thing", "least", "most"] (spNumA K) := by
  refine D.F.ok sc_law_is_int (fun vs H Q E h => ?_) (fun cdv A outer s H vs Q E hr h => ?_)
  · obtain ⟨b, g, v, d, lo, hi, rfl, _⟩ := h
    rfl
  obtain ⟨b, g, v, d, lo, hi, rfl, hv, q⟩ := h
  have nd := sc_law_is_int.nd
  refine ⟨_, (pss_one (ps_ret (pe_and (pe_callB (k_isi (K := K) rfl) (by rfl) B.isinstance (by decide +kernel) (pa_cons (pv 0) (pa_cons (pe_bltn (v := .ty "int") (u := .type "int") (by rfl) B.int (by decide +kernel) rfl) pa_nil))) (pe_and (pe_not (pe_callB (k_isi (K := K) rfl) (by rfl) B.isinstance (by decide +kernel) (pa_cons (pv 0) (pa_cons (pe_bltn (v := .ty "bool") (u := .type "bool") (by rfl) B.bool (by decide +kernel) rfl) pa_nil)))) (pe_one (pe_chain op_le op_le (pv 1) (pv 0) (pv 2))))))), ?_⟩
  rcases id hv.kind with ⟨i, rfl, rfl⟩ | ⟨a, xs, ds, rfl, rfl, hs, hl, hk⟩ | ⟨_, rfl, ty0, ty, k1, k2⟩
  · refine ⟨_, rfl, _, _, _, _, true, rfl, .ty "int", .base (.int i), kit_ty (by decide +kernel), _, rfl, ?_⟩
    refine iteT ⟨_, rfl, _, _, _, _, false, rfl, .ty "bool", .base (.int i), kit_ty (by decide +kernel), ?_⟩
    refine ⟨false, rfl, true, rfl, ?_⟩
    refine iteT ⟨_, rfl, _, rfl, _, _, rfl, rfl, _, rfl, ?_⟩
    by_cases c : lo ≤ i
    · rw [decide_eq_true c]
      refine iteT ⟨_, rfl, _, _, rfl, rfl, ?_⟩
      have e : numA lo hi (.int i) = decide (i ≤ hi) := by
        show (decide (lo ≤ i) && _) = _
        rw [decide_eq_true c, Bool.true_and]
      rw [e] at q
      exact q
    · rw [decide_eq_false c]
      refine iteF ?_
      have e : numA lo hi (.int i) = false := by
        show (decide (lo ≤ i) && _) = _
        rw [decide_eq_false c, Bool.false_and]
      rw [e] at q
      exact q
  · exact ⟨_, rfl, _, _, _, _, false, rfl, .ty "int", tyx_tup hs, kit_ty (by decide +kernel), _, rfl, iteF q⟩
  · rcases k2 with k2 | ⟨k2, k3⟩
    · exact ⟨_, rfl, _, _, _, _, false, rfl, .ty "int", ty, k2, _, rfl, iteF q⟩
    · refine ⟨_, rfl, _, _, _, _, true, rfl, .ty "int", ty, k2, _, rfl, iteT ⟨_, rfl, _, _, _, _, true, rfl, .ty "bool", ty, k3, ?_⟩⟩
      exact ⟨true, rfl, false, rfl, iteF q⟩
theorem ok_law_is_wait {m n : Nat} {f f1 : Addr} {fd fd1 : FuncData} {k : Nat} (D : Dn K mg "_law_is_wait" s_law_is_wait ["here", "goal", "thing"] f fd) (B : Blt mg) (D_law_is_move : Dn K mg "_law_is_move" s_law_is_move ["here", "question", "thing"] f1 fd1) {sp0 : Sp} (G_law_is_move : FnOk P w K mg base CX0 k f1 fd1 ["here", "question", "thing"] sp0) (hsp : ∀ m', m = m' + 1 → sp0 = spLMv K m' n) :
    FnOk P w K mg base CX0 (k + 1) f fd ["here", "goal", "thing"] (spLWt K m n) := by
  refine D.F.ok sc_law_is_wait (fun vs H Q E h => ?_) (fun cdv A outer s H vs Q E hr h => ?_)
  · obtain ⟨b, g, W, v, vg, vh, d, ahead, ahead', t, gs, rfl, _⟩ := h
    rfl
  obtain ⟨b, g, W, v, vg, vh, d, ahead, ahead', t, gs, rfl, hv, hg, hh, hok, gok, q⟩ := h
  have nd := sc_law_is_wait.nd
  refine ⟨_, (pss_cons (ps_if (PW.pt (pw_or (pt_not (pt_val (pe_callB (k_isi (K := K) rfl) (by rfl) B.isinstance (by decide +kernel) (pa_cons (pv 2) (pa_cons (pe_bltn (v := .ty "tuple") (u := .type "tuple") (by rfl) B.tuple (by decide +kernel) rfl) pa_nil))))) (pw_or1 (pt_cmpR op_ne (pe_callB (k_len (K := K) rfl) (by rfl) B.len PySem.boot_len (pa_cons (pv 2) pa_nil)) (pe_callB (k_len (K := K) rfl) (by rfl) B.len PySem.boot_len (pa_cons (pv 1) pa_nil)) (nomark _))))) (pss_one (ps_ret pe_bl)) pss_nil)
      (pss_one (ps_ret (pe_callB (k_all (K := K) rfl rfl) (by rfl) B.all (by decide +kernel) (pa_cons (pe_lc (own := [("k", 3)]) rfl nd (pi_range1 (by rfl) B.range (pa_cons (pe_callB (k_len (K := K) rfl) (by rfl) B.len PySem.boot_len (pa_cons (pv 1) pa_nil)) pa_nil)) (blkOk_by (own := [("k", 3)]) (by kernel_rfl)) (fun _ _ _ _ _ => (pg_name (i := 3) nd rfl (.inl rfl))) (fun _ _ _ _ _ => pts_nil) (fun _ _ _ _ _ => (pe_call G_law_is_move (hr.mono (by omega)) (by rfl) D_law_is_move.m D_law_is_move.F.kp D_law_is_move.b .nil pass0 (pa_cons (pv 0) (pa_cons (pe_ix (k_ixT (K := K) rfl) (pv 1) (pv 3) (fun _ _ => rfl)) (pa_cons (pe_ix (k_ixT (K := K) rfl) (pv 2) (pv 3) (fun _ _ => rfl)) pa_nil)))))) pa_nil))))), ?_⟩
  rcases id hv.kind with ⟨i, rfl, rfl⟩ | ⟨a, xs, ds, rfl, rfl, hs, hl, hk⟩ | ⟨_, rfl, ty0, ty, k1, k2⟩
  · rw [wtA_not (fun ds e => by cases e)] at q
    exact ⟨_, rfl, _, _, _, _, false, rfl, .ty "tuple", .base (.int i), kit_ty (by decide +kernel), _, rfl, iteT (q H (Same.refl _))⟩
  · rw [wtA_qs] at q
    obtain ⟨c, ys, rfl, hc, tc⟩ := qs_td hg
    obtain ⟨g5, gk⟩ := ndok_qs gok
    have ly : ys.length = (qsOf m gs).length := by rw [tc.len, List.length_map]
    refine ⟨_, rfl, _, _, _, _, true, rfl, .ty "tuple", tyx_tup hs, kit_ty (by decide +kernel), _, rfl, iteF ?_⟩
    refine ⟨_, rfl, a, _, rfl, .inr hs, _, rfl, c, _, rfl, .inr hc, rfl, _, rfl, ?_⟩
    by_cases le : ds.length = (qsOf m gs).length
    · rw [hl, ly, le, decide_eq_true rfl]
      refine iteF ?_
      rw [decide_eq_true le, Bool.true_and] at q
      obtain ⟨bs, hbs⟩ : ∃ bs, bs = List.zipWith (fun (q : Qn (m - 1)) x => mvA (wtA (m - 1)) n t q x) (qsOf m gs) ds := ⟨_, rfl⟩
      have lbs : bs.length = ys.length := by rw [hbs, List.length_zipWith]; omega
      rw [← hbs] at q
      refine ⟨_, rfl, c, ys, rfl, .inr hc, ys.length, rfl, by omega, by omega, fun T hT => ?_⟩
      refine lc_range (lo := 0) (n := ys.length) (fun i H2 => H2 T = some (.lst ((bs.take i).map V.bl)) ∧ Same H H2) ⟨upd_same, same_upd hT⟩ ?_ ?_
      · rintro i H2 hi ⟨h2, s2⟩
        refine ⟨rfl, ?_⟩
        refine iteT (B := H2 T = some (.lst ((bs.take (i + 1)).map V.bl)) ∧ Same H H2) ?_
        refine iteT (A := tCall sp0 [] E0 (tCons (tVar 0) (tCons (tOp (rIxT K) (tVar 1) (tVar 3)) (tCons (tOp (rIxT K) (tVar 2) (tVar 3)) tNil))) _ H2 _) ?_
        have k2 := Same.kt (K := K) s2
        have gy := List.getElem?_eq_getElem hi
        have gx := List.getElem?_eq_getElem (show i < xs.length by omega)
        obtain ⟨dy, ey, ty⟩ := tc.getV gy
        rw [List.getElem?_map] at ey
        obtain ⟨qn, eq, rfl⟩ := Option.map_eq_some_iff.mp ey
        have gd := List.getElem?_eq_getElem (show i < ds.length by omega)
        have mq := List.mem_of_getElem? eq
        obtain ⟨m', rfl⟩ : ∃ m', m = m' + 1 := by
          cases m with
          | zero => exact absurd mq List.not_mem_nil
          | succ m => exact ⟨m, rfl⟩
        have hsp := hsp m' rfl
        subst hsp
        have eb : bs[i]? = some (mvA (wtA m') n t qn ds[i]) := by
          rw [hbs, List.getElem?_zipWith, eq, gd]
          rfl
        refine ⟨_, rfl, _, rfl, _, rfl, c, ys, 0 + (i : Int), ys[i], rfl, rfl, k2 _ _ hc, at_of (j := i) (by omega) gy, _, rfl, _, rfl, a, xs, 0 + (i : Int), xs[i], rfl, rfl, k2 _ _ hs, at_of (j := i) (by omega) gx, b, g, W, xs[i], ys[i], vh, ds[i], ahead, ahead', t, qn, rfl, (hk i _ _ gx gd).same s2, ty.keep k2, hh.keep k2, hok, (gk qn mq).1, (gk qn mq).2, fun H5 s5 => ?_⟩
        refine ⟨_, s5 _ _ h2, ?_, ?_, fun c o z => ?_⟩
        · rw [List.length_map, List.length_take]
          exact small1000 (by omega)
        · rw [upd_same, List.take_add_one, eb, List.map_append]
          rfl
        · rw [upd_ne (ne_of_none z hT)]
          exact s5 _ _ (s2 _ _ z)
      · rintro H2 ⟨h2, s2⟩
        rw [List.take_of_length_le (by omega)] at h2
        exact ⟨T, _, rfl, SqL.of h2, q H2 s2⟩
    · rw [hl, ly, decide_eq_false (show ¬ V.int ((ds.length : Nat) : Int) = V.int (((qsOf m gs).length : Nat) : Int) from fun z => le (by have := V.int.inj z; omega))]
      refine iteT ?_
      rw [decide_eq_false le, Bool.false_and] at q
      exact q H (Same.refl _)
  · rw [wtA_not (fun ds e => by cases e)] at q
    exact ⟨_, rfl, _, _, _, _, false, rfl, .ty "tuple", ty, k1, _, rfl, iteT (q H (Same.refl _))⟩
theorem ok_law_is_move {m n : Nat} {f f1 f3 : Addr} {fd fd1 fd3 : FuncData} {k : Nat} (D : Dn K mg "_law_is_move" s_law_is_move ["here", "question", "thing"] f fd) (B : Blt mg) (BS : mg "str" = none) (D_law_is_int : Dn K mg "_law_is_int" s_law_is_int ["thing", "least", "most"] f1 fd1) (G_law_is_int : FnOk P w K mg base CX0 1 f1 fd1 ["thing", "least", "most"] (spNumA K))
    (D_law_is_wait : Dn K mg "_law_is_wait" s_law_is_wait ["here", "goal", "thing"] f3 fd3) (G_law_is_wait : FnOk P w K mg base CX0 k f3 fd3 ["here", "goal", "thing"] (spLWt K m n)) {sp0 : Sp} (G_law_is_move : FnOk P w K mg base CX0 k f fd ["here", "question", "thing"] sp0) (hsp : ∀ n', n = n' + 1 → sp0 = spLMv K m n') (hk2 : 2 ≤ k) :
    FnOk P w K mg base CX0 (k + 1) f fd ["here", "question", "thing"] (spLMv K m n) := by
  refine D.F.ok sc_law_is_move (fun vs H Q E h => ?_) (fun cdv A outer s H vs Q E hr h => ?_)
  · obtain ⟨b, g, W, v, vq, vh, d, ahead, ahead', t, q, rfl, _⟩ := h
    rfl
  obtain ⟨b, g, W, v, vq, vh, d, ahead, ahead', t, qn, rfl, hv, hq, hh, hok, qok, nok, q⟩ := h
  have nd := sc_law_is_move.nd
  have D_law_is_move := D
  refine ⟨_, (pss_cons (ps_if (PW.pt (pw_or (pt_not (pt_val (pe_callB (k_isi (K := K) rfl) (by rfl) B.isinstance (by decide +kernel) (pa_cons (pv 2) (pa_cons (pe_bltn (v := .ty "tuple") (u := .type "tuple") (by rfl) B.tuple (by decide +kernel) rfl) pa_nil))))) (pw_or (pt_cmpR op_ne (pe_callB (k_len (K := K) rfl) (by rfl) B.len PySem.boot_len (pa_cons (pv 2) pa_nil)) pe_int (nomark _)) (pw_or1 (pt_not (pt_val (pe_callB (k_isi (K := K) rfl) (by rfl) B.isinstance (by decide +kernel) (pa_cons (pe_ix (k_ixT (K := K) rfl) (pv 2) pe_int (fun _ _ => rfl)) (pa_cons (pe_bltn (v := .ty "str") (u := .type "str") (by rfl) BS (by decide +kernel) rfl) pa_nil))))))))) (pss_one (ps_ret pe_bl)) pss_nil)
      (pss_cons (ps_if (pt_cmpR op_eq (pe_ix (k_ixT (K := K) rfl) (pv 2) pe_int (fun _ _ => rfl)) pe_str (nomark _)) (pss_one (ps_ret (pe_and (pe_call G_law_is_int (hr.mono (by omega)) (by rfl) D_law_is_int.m D_law_is_int.F.kp D_law_is_int.b .nil pass0 (pa_cons (pe_ix (k_ixT (K := K) rfl) (pv 2) pe_int (fun _ _ => rfl)) (pa_cons pe_int (pa_cons (pe_op op_sub (pe_callB (k_len (K := K) rfl) (by rfl) B.len PySem.boot_len (pa_cons (pv 1) pa_nil)) pe_int) pa_nil)))) (pe_one (pe_call G_law_is_wait (hr.mono (by omega)) (by rfl) D_law_is_wait.m D_law_is_wait.F.kp D_law_is_wait.b .nil pass0 (pa_cons (pv 0) (pa_cons (pe_ix (k_ixT (K := K) rfl) (pe_ix (k_ixT (K := K) rfl) (pv 1) (pe_ix (k_ixT (K := K) rfl) (pv 2) pe_int (fun _ _ => rfl)) (fun _ _ => rfl)) pe_int (fun _ _ => rfl)) (pa_cons (pe_ix (k_ixT (K := K) rfl) (pv 2) pe_int (fun _ _ => rfl)) pa_nil)))))))) pss_nil)
      (pss_cons (ps_if (PW.pt (pw_or (pt_cmpR op_ne (pe_ix (k_ixT (K := K) rfl) (pv 2) pe_int (fun _ _ => rfl)) pe_str (nomark _)) (pw_or1 (pt_not (pt_val (pe_call G_law_is_int (hr.mono (by omega)) (by rfl) D_law_is_int.m D_law_is_int.F.kp D_law_is_int.b .nil pass0 (pa_cons (pe_ix (k_ixT (K := K) rfl) (pv 2) pe_int (fun _ _ => rfl)) (pa_cons pe_int (pa_cons (pe_op op_sub (pe_callB (k_len (K := K) rfl) (by rfl) B.len PySem.boot_len (pa_cons (pv 0) pa_nil)) pe_int) pa_nil))))))))) (pss_one (ps_ret pe_bl)) pss_nil)
      (pss_cons (ps_set (i := 3) nd rfl (.inr rfl) (pe_ix (k_ixT (K := K) rfl) (pv 0) (pe_ix (k_ixT (K := K) rfl) (pv 2) pe_int (fun _ _ => rfl)) (fun _ _ => rfl)))
      (pss_cons (ps_if (PW.pt (pw_or (pt_not (pt_val (pe_callB (k_isi (K := K) rfl) (by rfl) B.isinstance (by decide +kernel) (pa_cons (pe_ix (k_ixT (K := K) rfl) (pv 2) pe_int (fun _ _ => rfl)) (pa_cons (pe_bltn (v := .ty "tuple") (u := .type "tuple") (by rfl) B.tuple (by decide +kernel) rfl) pa_nil))))) (pw_or1 (pt_cmpR op_ne (pe_callB (k_len (K := K) rfl) (by rfl) B.len PySem.boot_len (pa_cons (pe_ix (k_ixT (K := K) rfl) (pv 2) pe_int (fun _ _ => rfl)) pa_nil)) (pe_callB (k_len (K := K) rfl) (by rfl) B.len PySem.boot_len (pa_cons (pv 3) pa_nil)) (nomark _))))) (pss_one (ps_ret pe_bl)) pss_nil)
      (pss_one (ps_ret (pe_callB (k_all (K := K) rfl rfl) (by rfl) B.all (by decide +kernel) (pa_cons (pe_lc (own := [("k", 4)]) rfl nd (pi_range1 (by rfl) B.range (pa_cons (pe_callB (k_len (K := K) rfl) (by rfl) B.len PySem.boot_len (pa_cons (pv 3) pa_nil)) pa_nil)) (blkOk_by (own := [("k", 4)]) (by kernel_rfl)) (fun _ _ _ _ _ => (pg_name (i := 4) nd rfl (.inl rfl))) (fun _ _ _ _ _ => pts_nil) (fun _ _ _ _ _ => (pe_call G_law_is_move (hr.mono (by omega)) (by rfl) D_law_is_move.m D_law_is_move.F.kp D_law_is_move.b .nil pass0 (pa_cons (pe_ix (k_ixT (K := K) rfl) (pe_ix (k_ixT (K := K) rfl) (pv 3) (pv 4) (fun _ _ => rfl)) pe_int (fun _ _ => rfl)) (pa_cons (pv 1) (pa_cons (pe_ix (k_ixT (K := K) rfl) (pe_ix (k_ixT (K := K) rfl) (pv 2) pe_int (fun _ _ => rfl)) (pv 4) (fun _ _ => rfl)) pa_nil)))))) pa_nil))))))))), ?_⟩
  rw [mvA_qs] at q
  rcases id hv.kind with ⟨i, rfl, rfl⟩ | ⟨a, xs, ds, rfl, rfl, hs, hl, hk⟩ | ⟨_, rfl, ty0, ty, k1, k2⟩
  · exact ⟨_, rfl, _, _, _, _, false, rfl, .ty "tuple", .base (.int i), kit_ty (by decide +kernel), _, rfl, iteT (q H (Same.refl _))⟩
  rotate_left
  · exact ⟨_, rfl, _, _, _, _, false, rfl, .ty "tuple", ty, k1, _, rfl, iteT (q H (Same.refl _))⟩
  refine ⟨_, rfl, _, _, _, _, true, rfl, .ty "tuple", tyx_tup hs, kit_ty (by decide +kernel), _, rfl, iteF ?_⟩
  refine ⟨_, rfl, a, _, rfl, .inr hs, rfl, _, rfl, ?_⟩
  by_cases l3 : ds.length = 3
  rotate_left
  · rw [hl, decide_eq_false (show ¬ (V.int ((ds.length : Nat) : Int)) = V.int 3 from fun z => l3 (by have := V.int.inj z; omega))]
    rw [mv3_three l3] at q
    exact iteT (q H (Same.refl _))
  rw [hl, l3, decide_eq_true (show V.int ((3 : Nat) : Int) = V.int 3 from rfl)]
  refine iteF ?_
  obtain ⟨d0, d1, d2, rfl⟩ := three_of l3
  obtain ⟨v0, v1, v2, rfl⟩ := three_of (hl.trans l3)
  have h0 := hk 0 v0 d0 rfl rfl
  have h1 := hk 1 v1 d1 rfl rfl
  have h2 := hk 2 v2 d2 rfl rfl
  have i0 : atI [v0, v1, v2] 0 = some v0 := at_of (j := 0) rfl rfl
  have i1 : atI [v0, v1, v2] 1 = some v1 := at_of (j := 1) rfl rfl
  have i2 : atI [v0, v1, v2] 2 = some v2 := at_of (j := 2) rfl rfl
  obtain ⟨st, sty, skt, sv⟩ := h0.is_str
  refine ⟨_, rfl, a, _, 0, v0, rfl, rfl, hs, i0, _, _, _, _, _, rfl, .ty "str", sty, skt, _, rfl, ?_⟩
  have q : ∀ H', Same H H' → Q (.bl (match strA d0 with
    | some x => if x = ("tell" : Str) then tellA (wtA m n t) qn d1 d2 else if x = ("ask" : Str) then askA2 (fun (an : An (n - 1)) x => mvA (wtA m) (n - 1) an.2.2 qn x) (qsOf n t) d1 d2 else false
    | none => false)) H' := q
  cases es : strA d0 with
  | none =>
    rw [es] at q
    exact iteT (q H (Same.refl _))
  | some x =>
    rw [es] at q
    cases sv x es
    refine iteF ?_
    obtain ⟨c, ys, rfl, hc, tc⟩ := id hq.tupE
    have ly : ys.length = qn.length := by rw [tc.len, List.length_map]
    obtain ⟨ch, zs, rfl, hch, tch⟩ := qs_td hh
    have lz : zs.length = (qsOf n t).length := by rw [tch.len, List.length_map]
    obtain ⟨t5, tk⟩ := ndok_qs hok
    refine ⟨_, rfl, a, _, 0, _, rfl, rfl, hs, i0, rfl, _, rfl, ?_⟩
    by_cases hx : x = ("tell" : Str)
    · subst hx
      rw [decide_eq_true rfl]
      refine iteT ?_
      refine ⟨_, rfl, a, _, 1, _, rfl, rfl, hs, i1, _, rfl, c, ys, rfl, .inr hc, _, _, rfl, rfl, b, g, v1, d1, 0, (ys.length : Int) - 1, rfl, h1, _, rfl, ?_⟩
      rw [ly]
      have q : ∀ H', Same H H' → Q (.bl (tellA (wtA m n t) qn d1 d2)) H' := q
      cases hn : numA 0 ((qn.length : Int) - 1) d1 with
      | false =>
        refine iteF ?_
        have e : tellA (wtA m n t) qn d1 d2 = false := by
          cases d1 with
          | int i =>
            unfold tellA
            simp only [getI_no hn]
          | tup _ => rfl
          | oth _ => rfl
        rw [e] at q
        exact q H (Same.refl _)
      | true =>
        cases d1 with
        | tup _ => cases hn
        | oth _ => cases hn
        | int i =>
        cases h1
        obtain ⟨j, an, rfl, ean, eg⟩ := getI_num hn
        refine iteT ?_
        have e : tellA (wtA m n t) qn (.int (j : Int)) d2 = wtA m n t an.2.2 d2 := by
          unfold tellA
          simp only [eg]
        rw [e] at q
        obtain ⟨y, ey, ty⟩ := tc.get (i := j) (d := anD m an) (by rw [List.getElem?_map, ean]; rfl)
        obtain ⟨pn, vw, vz, vt, rfl, hpn, tw, tz, tt⟩ := td_an ty
        exact ⟨_, rfl, _, rfl, _, rfl, a, _, 1, _, rfl, rfl, hs, i1, c, ys, (j : Int), _, rfl, rfl, hc, at_of (j := j) rfl ey, pn, _, 2, _, rfl, rfl, hpn, at_of (j := 2) rfl rfl, _, rfl, a, _, 2, _, rfl, rfl, hs, i2, b, g, W, v2, vt, .ref ch, d2, ahead, an.2.1, t, an.2.2, rfl, h2, tt, hh, hok, nok an (List.mem_of_getElem? ean), q⟩
    · rw [decide_eq_false (show ¬ V.str x = V.str "tell" from fun z => hx (V.str.inj z))]
      refine iteF ?_
      refine ⟨_, rfl, a, _, 0, _, rfl, rfl, hs, i0, rfl, _, rfl, ?_⟩
      by_cases hx2 : x = ("ask" : Str)
      rotate_left
      · rw [decide_eq_false (show ¬ V.str x = V.str "ask" from fun z => hx2 (V.str.inj z))]
        have q : ∀ H', Same H H' → Q (.bl (if x = ("tell" : Str) then tellA (wtA m n t) qn d1 d2 else if x = ("ask" : Str) then askA2 (fun (an : An (n - 1)) x => mvA (wtA m) (n - 1) an.2.2 qn x) (qsOf n t) d1 d2 else false)) H' := q
        rw [if_neg hx, if_neg hx2] at q
        exact iteT (q H (Same.refl _))
      subst hx2
      rw [decide_eq_true rfl]
      refine iteF ?_
      have q : ∀ H', Same H H' → Q (.bl (askA2 (fun (an : An (n - 1)) x => mvA (wtA m) (n - 1) an.2.2 qn x) (qsOf n t) d1 d2)) H' := q
      refine ⟨_, rfl, a, _, 1, _, rfl, rfl, hs, i1, _, rfl, ch, zs, rfl, .inr hch, _, _, rfl, rfl, b, g, v1, d1, 0, (zs.length : Int) - 1, rfl, h1, _, rfl, ?_⟩
      rw [lz]
      cases hn : numA 0 (((qsOf n t).length : Int) - 1) d1 with
      | false =>
        refine iteT ?_
        have e : askA2 (fun (an : An (n - 1)) x => mvA (wtA m) (n - 1) an.2.2 qn x) (qsOf n t) d1 d2 = false := by
          cases d1 with
          | int i =>
            unfold askA2
            simp only [getI_no hn]
          | tup _ => rfl
          | oth _ => rfl
        rw [e] at q
        exact q H (Same.refl _)
      | true =>
        cases d1 with
        | tup _ => cases hn
        | oth _ => cases hn
        | int i =>
        cases h1
        obtain ⟨j, qj, rfl, eqj, eg⟩ := getI_num hn
        refine iteF ?_
        obtain ⟨y, ey, ty⟩ := tch.get (i := j) (d := qnD (n - 1) qj) (by rw [List.getElem?_map, eqj]; rfl)
        obtain ⟨p', ww, rfl, hp', tp'⟩ := id ty.tupE
        have lww : ww.length = qj.length := by rw [tp'.len, List.length_map]
        obtain ⟨qjok, qjn⟩ := tk qj (List.mem_of_getElem? eqj)
        have q12 := qjok.most
        refine ⟨_, rfl, _, rfl, a, _, 1, _, rfl, rfl, hs, i1, ch, zs, (j : Int), _, rfl, rfl, hch, at_of (j := j) rfl ey, ?_⟩
        rcases id h2.kind with ⟨i, rfl, rfl⟩ | ⟨a2, xs2, ds2, rfl, rfl, hs2, hl2, hk2'⟩ | ⟨_, rfl, ty0, ty2, k1, k2⟩
        · have e : askA2 (fun (an : An (n - 1)) x => mvA (wtA m) (n - 1) an.2.2 qn x) (qsOf n t) (.int (j : Int)) (.int i) = false := by
            unfold askA2
            simp only [eg]
          rw [e] at q
          exact ⟨_, rfl, a, _, 2, _, rfl, rfl, hs, i2, _, _, _, _, false, rfl, .ty "tuple", .base (.int i), kit_ty (by decide +kernel), _, rfl, iteT (q H (Same.refl _))⟩
        rotate_left
        · have e : ∀ s, askA2 (fun (an : An (n - 1)) x => mvA (wtA m) (n - 1) an.2.2 qn x) (qsOf n t) (.int (j : Int)) (.oth s) = false := fun s => by
            unfold askA2
            simp only [eg]
          rw [e] at q
          exact ⟨_, rfl, a, _, 2, _, rfl, rfl, hs, i2, _, _, _, _, false, rfl, .ty "tuple", ty2, k1, _, rfl, iteT (q H (Same.refl _))⟩
        have e : askA2 (fun (an : An (n - 1)) x => mvA (wtA m) (n - 1) an.2.2 qn x) (qsOf n t) (.int (j : Int)) (.tup ds2) = (decide (ds2.length = qj.length) && (List.zipWith (fun (an : An (n - 1)) x => mvA (wtA m) (n - 1) an.2.2 qn x) qj ds2).all id) := by
          unfold askA2
          simp only [eg]
        rw [e] at q
        refine ⟨_, rfl, a, _, 2, _, rfl, rfl, hs, i2, _, _, _, _, true, rfl, .ty "tuple", tyx_tup hs2, kit_ty (by decide +kernel), _, rfl, iteF ?_⟩
        refine ⟨_, rfl, a, _, 2, _, rfl, rfl, hs, i2, a2, _, rfl, .inr hs2, _, rfl, p', ww, rfl, .inr hp', rfl, _, rfl, ?_⟩
        by_cases le : ds2.length = qj.length
        rotate_left
        · rw [hl2, lww, decide_eq_false (show ¬ V.int ((ds2.length : Nat) : Int) = V.int ((qj.length : Nat) : Int) from fun z => le (by have := V.int.inj z; omega))]
          refine iteT ?_
          rw [decide_eq_false le, Bool.false_and] at q
          exact q H (Same.refl _)
        rw [hl2, lww, le, decide_eq_true rfl]
        refine iteF ?_
        rw [decide_eq_true le, Bool.true_and] at q
        obtain ⟨n', rfl⟩ : ∃ n', n = n' + 1 := by
          cases n with
          | zero => exact absurd (List.mem_of_getElem? eqj) List.not_mem_nil
          | succ n => exact ⟨n, rfl⟩
        have hsp := hsp n' rfl
        subst hsp
        obtain ⟨bs, hbs⟩ : ∃ bs, bs = List.zipWith (fun (an : An n') x => mvA (wtA m) n' an.2.2 qn x) qj ds2 := ⟨_, rfl⟩
        have lbs : bs.length = ww.length := by rw [hbs, List.length_zipWith]; omega
        have q : ∀ H', Same H H' → Q (.bl (bs.all id)) H' := by rw [hbs]; exact q
        refine ⟨_, rfl, p', ww, rfl, .inr hp', ww.length, rfl, by omega, by omega, fun T hT => ?_⟩
        refine lc_range (lo := 0) (n := ww.length) (fun i H2 => H2 T = some (.lst ((bs.take i).map V.bl)) ∧ Same H H2) ⟨upd_same, same_upd hT⟩ ?_ ?_
        · rintro i H2 hi ⟨h2', s2⟩
          refine ⟨rfl, ?_⟩
          refine iteT (B := H2 T = some (.lst ((bs.take (i + 1)).map V.bl)) ∧ Same H H2) ?_
          refine iteT (A := tCall (spLMv K m n') [] E0 (tCons (tOp (rIxT K) (tOp (rIxT K) (tVar 3) (tVar 4)) (tC (.int 2))) (tCons (tVar 1) (tCons (tOp (rIxT K) (tOp (rIxT K) (tVar 2) (tC (.int 2))) (tVar 4)) tNil))) _ H2 _) ?_
          have k2 := Same.kt (K := K) s2
          have gy := List.getElem?_eq_getElem hi
          have gx := List.getElem?_eq_getElem (show i < xs2.length by omega)
          obtain ⟨dy, ey2, ty2⟩ := tp'.getV gy
          rw [List.getElem?_map] at ey2
          obtain ⟨an, ean, rfl⟩ := Option.map_eq_some_iff.mp ey2
          obtain ⟨di, gd⟩ : ∃ di, ds2[i]? = some di := ⟨_, List.getElem?_eq_getElem (by omega)⟩
          have eb : bs[i]? = some (mvA (wtA m) n' an.2.2 qn di) := by
            rw [hbs, List.getElem?_zipWith, ean, gd]
          obtain ⟨pn, vw, vz, vt, evn, hpn, tw, tz, tt⟩ := td_an (ty2.keep k2)
          rw [evn] at gy
          refine ⟨_, rfl, _, rfl, p', ww, 0 + (i : Int), _, rfl, rfl, k2 _ _ hp', at_of (j := i) (by omega) gy, pn, _, 2, _, rfl, rfl, hpn, at_of (j := 2) rfl rfl, _, rfl, _, rfl, a, _, 2, _, rfl, rfl, k2 _ _ hs, i2, _, rfl, a2, xs2, 0 + (i : Int), xs2[i], rfl, rfl, k2 _ _ hs2, at_of (j := i) (by omega) gx, b, g, W, xs2[i], .ref c, vt, di, an.2.1, ahead', an.2.2, qn, rfl, (hk2' i _ _ gx gd).same s2, hq.keep k2, tt, qjn an (List.mem_of_getElem? ean), qok, nok, fun H5 s5 => ?_⟩
          refine ⟨_, s5 _ _ h2', ?_, ?_, fun c o z => ?_⟩
          · rw [List.length_map, List.length_take]
            exact small1000 (by omega)
          · rw [upd_same, List.take_add_one, eb, List.map_append]
            rfl
          · rw [upd_ne (ne_of_none z hT)]
            exact s5 _ _ (s2 _ _ z)
        · rintro H2 ⟨h2', s2⟩
          rw [List.take_of_length_le (by omega)] at h2'
          exact ⟨T, _, rfl, SqL.of h2', q H2 s2⟩
theorem ok_law_plans_any {f f1 f3 : Addr} {fd fd1 fd3 : FuncData} (D_law_is_move : Dn K mg "_law_is_move" s_law_is_move ["here", "question", "thing"] f fd) (B : Blt mg) (BS : mg "str" = none) (D_law_is_int : Dn K mg "_law_is_int" s_law_is_int ["thing", "least", "most"] f1 fd1) (G_law_is_int : FnOk P w K mg base CX0 1 f1 fd1 ["thing", "least", "most"] (spNumA K))
    (D_law_is_wait : Dn K mg "_law_is_wait" s_law_is_wait ["here", "goal", "thing"] f3 fd3) :
    ∀ m n : Nat, n ≤ 6 → FnOk P w K mg base CX0 (2 + 8 * m) f3 fd3 ["here", "goal", "thing"] (spLWt K m n) ∧ FnOk P w K mg base CX0 (3 + 8 * m + n) f fd ["here", "question", "thing"] (spLMv K m n) := by
  have no : ∀ k, FnOk P w K mg base CX0 k f fd ["here", "question", "thing"] (fun _ _ _ _ => False) := fun k => ⟨fun vs H Q E h => h.elim, fun A outer s H args us vs Q E _ _ _ _ h => h.elim⟩
  have step : ∀ m : Nat, (∀ m', m = m' + 1 → ∀ n, n ≤ 6 → FnOk P w K mg base CX0 (3 + 8 * m' + n) f fd ["here", "question", "thing"] (spLMv K m' n)) → ∀ n : Nat, n ≤ 6 → FnOk P w K mg base CX0 (2 + 8 * m) f3 fd3 ["here", "goal", "thing"] (spLWt K m n) ∧ FnOk P w K mg base CX0 (3 + 8 * m + n) f fd ["here", "question", "thing"] (spLMv K m n) := by
    intro m IH
    have wait : ∀ n : Nat, n ≤ 6 → FnOk P w K mg base CX0 (2 + 8 * m) f3 fd3 ["here", "goal", "thing"] (spLWt K m n) := by
      intro n hn
      cases m with
      | zero => exact ok_law_is_wait (k := 1) D_law_is_wait B D_law_is_move (no 1) (fun m' e => by omega)
      | succ m' =>
        have G := IH m' rfl n hn
        rw [show 2 + 8 * (m' + 1) = (9 + 8 * m') + 1 by omega]
        exact ok_law_is_wait D_law_is_wait B D_law_is_move (G.mono (by omega)) (fun m2 e => by rw [show m2 = m' by omega])
    have move : ∀ n : Nat, n ≤ 6 → FnOk P w K mg base CX0 (3 + 8 * m + n) f fd ["here", "question", "thing"] (spLMv K m n) := by
      intro n
      induction n with
      | zero =>
        intro hn
        rw [show 3 + 8 * m + 0 = (2 + 8 * m) + 1 by omega]
        exact ok_law_is_move D_law_is_move B BS D_law_is_int G_law_is_int D_law_is_wait (wait 0 hn) (no _) (fun n' e => by omega) (by omega)
      | succ n ih =>
        intro hn
        rw [show 3 + 8 * m + (n + 1) = (3 + 8 * m + n) + 1 by omega]
        exact ok_law_is_move D_law_is_move B BS D_law_is_int G_law_is_int D_law_is_wait ((wait (n + 1) hn).mono (by omega)) (ih (by omega)) (fun n' e => by rw [show n' = n by omega]) (by omega)
    exact fun n hn => ⟨wait n hn, move n hn⟩
  intro m
  induction m with
  | zero => exact step 0 (fun m' e => by omega)
  | succ m ih => exact step (m + 1) (fun m' e n hn => by rw [show m' = m by omega]; exact (ih n hn).2)
end
end Tl
/-! a nested tuple with one thing otherwise -/
namespace Tl
open PySem PySem.Spec PyProof.Rows L2 RZ
/-- how many things it holds -/
def szA : AD → Nat
  | .int _ => 1
  | .oth _ => 1
  | .tup ds => 1 + szs ds
where szs : List AD → Nat
  | [] => 0
  | d :: r => szA d + szs r
theorem sz_pos : ∀ d : AD, 1 ≤ szA d
  | .int _ => Nat.le_refl _
  | .oth _ => Nat.le_refl _
  | .tup ds => by
    show 1 ≤ 1 + szA.szs ds
    omega
theorem szs_len : ∀ ds : List AD, ds.length ≤ szA.szs ds
  | [] => Nat.le_refl _
  | d :: r => by
    have h1 := sz_pos d
    have h2 := szs_len r
    show r.length + 1 ≤ szA d + szA.szs r
    omega
theorem szs_mem : ∀ {ds : List AD} {d : AD}, d ∈ ds → szA d ≤ szA.szs ds
  | x :: r, d, h => by
    show szA d ≤ szA x + szA.szs r
    rcases List.mem_cons.mp h with rfl | h
    · omega
    · have := szs_mem h
      omega
theorem szs_app : ∀ (xs ys : List AD), szA.szs (xs ++ ys) = szA.szs xs + szA.szs ys
  | [], ys => (Nat.zero_add _).symm
  | x :: r, ys => by
    show szA x + szA.szs (r ++ ys) = szA x + szA.szs r + szA.szs ys
    rw [szs_app r ys]
    omega
theorem szs_take (ds : List AD) (i : Nat) : szA.szs (ds.take i) ≤ szA.szs ds := by
  have := szs_app (ds.take i) (ds.drop i)
  rw [List.take_append_drop] at this
  omega
/-- its ints -/
inductive MxA (m : Nat) : AD → Prop
  | int {i : Int} : i.natAbs < m → MxA m (.int i)
  | tup {ds : List AD} : (∀ d ∈ ds, MxA m d) → MxA m (.tup ds)
  | oth {s : Option Str} : MxA m (.oth s)
/-- its depth -/
inductive DpA : Nat → AD → Prop
  | int {n : Nat} {i : Int} : DpA n (.int i)
  | tup {n : Nat} {ds : List AD} : (∀ d ∈ ds, DpA n d) → DpA (n + 1) (.tup ds)
  | oth {n : Nat} {s : Option Str} : DpA n (.oth s)
theorem bdA_of {m : Nat} (hm : m ≤ 2 ^ 200) {d : AD} (h : MxA m d) (s : szA d ≤ 1001) : BdA d := by
  induction h with
  | int h => exact .int (by omega)
  | oth => exact .oth
  | @tup ds h ih =>
    have s : 1 + szA.szs ds ≤ 1001 := s
    exact .tup (Nat.le_trans (szs_len ds) (by omega)) fun d hd => ih d hd (by
      have := szs_mem hd
      omega)
/-- no tuple too long -/
inductive LnA : AD → Prop
  | int {i : Int} : LnA (.int i)
  | tup {ds : List AD} : ds.length ≤ 900 → (∀ d ∈ ds, LnA d) → LnA (.tup ds)
  | oth {s : Option Str} : LnA (.oth s)
theorem lnA_sz : ∀ {n : Nat} {d : AD}, szA d ≤ n → n ≤ 900 → LnA d
  | n, .int i, _, _ => .int
  | n, .oth s, _, _ => .oth
  | 0, .tup ds, h, _ => by
    have h : 1 + szA.szs ds ≤ 0 := h
    omega
  | n + 1, .tup ds, h, hn => by
    have h : 1 + szA.szs ds ≤ n + 1 := h
    have := szs_len ds
    exact .tup (by omega) fun d hd => lnA_sz (n := n) (by
      have := szs_mem hd
      omega) (by omega)
theorem bdA_ln {m : Nat} (hm : m ≤ 2 ^ 200) {d : AD} (h : MxA m d) (l : LnA d) : BdA d := by
  induction h with
  | int h => exact .int (by omega)
  | oth => exact .oth
  | @tup ds h ih =>
    cases l with
    | tup l1 l2 => exact .tup (by omega) fun d hd => ih d hd (l2 d hd)
/-- what stands at a place -/
def atA : AD → List Nat → Option AD
  | d, [] => some d
  | .tup ds, n :: ns => (ds[n]?).bind fun d => atA d ns
  | _, _ :: _ => none
theorem atA_bd {e : AD} : ∀ {ns : List Nat} {d : AD}, atA d ns = some e → BdA d → BdA e
  | [], d, h, k => by
    cases h
    exact k
  | n :: ns, .tup ds, h, k => by
    obtain ⟨x, hx, h⟩ := Option.bind_eq_some_iff.mp (show (ds[n]?).bind (fun d => atA d ns) = some e from h)
    exact atA_bd h (k.at_.2 x (List.mem_of_getElem? hx))
theorem atA_mx {m : Nat} {e : AD} : ∀ {ns : List Nat} {d : AD}, atA d ns = some e → MxA m d → MxA m e
  | [], d, h, k => by
    cases h
    exact k
  | n :: ns, .tup ds, h, k => by
    obtain ⟨x, hx, h⟩ := Option.bind_eq_some_iff.mp (show (ds[n]?).bind (fun d => atA d ns) = some e from h)
    cases k with
    | tup k => exact atA_mx h (k x (List.mem_of_getElem? hx))
theorem atA_ln {e : AD} : ∀ {ns : List Nat} {d : AD}, atA d ns = some e → LnA d → LnA e
  | [], d, h, k => by
    cases h
    exact k
  | n :: ns, .tup ds, h, k => by
    obtain ⟨x, hx, h⟩ := Option.bind_eq_some_iff.mp (show (ds[n]?).bind (fun d => atA d ns) = some e from h)
    cases k with
    | tup _ k => exact atA_ln h (k x (List.mem_of_getElem? hx))
theorem atA_sz {e : AD} : ∀ {ns : List Nat} {d : AD}, atA d ns = some e → szA e ≤ szA d
  | [], d, h => by
    cases h
    exact Nat.le_refl _
  | n :: ns, .tup ds, h => by
    obtain ⟨x, hx, h⟩ := Option.bind_eq_some_iff.mp (show (ds[n]?).bind (fun d => atA d ns) = some e from h)
    have h1 := atA_sz h
    have h2 := szs_mem (List.mem_of_getElem? hx)
    show szA e ≤ 1 + szA.szs ds
    omega
theorem atA_dp {e : AD} : ∀ {ns : List Nat} {d : AD} {k : Nat}, atA d ns = some e → DpA k d → ns.length ≤ k
  | [], d, k, h, _ => Nat.zero_le _
  | n :: ns, .tup ds, k, h, t => by
    obtain ⟨x, hx, h⟩ := Option.bind_eq_some_iff.mp (show (ds[n]?).bind (fun d => atA d ns) = some e from h)
    cases t with
    | tup t =>
      have := atA_dp h (t x (List.mem_of_getElem? hx))
      rw [List.length_cons]
      omega
theorem atA_snoc {ds : List AD} {e : AD} {n : Nat} {ns : List Nat} (h : ds[n]? = some e) : atA (.tup ds) (n :: ns) = atA e ns := by
  show (ds[n]?).bind (fun d => atA d ns) = _
  rw [h]
  rfl
def placeD (ns : List Nat) : PyData := .tuple (ns.map fun n : Nat => PyData.int (n : Int))
/-- a pair of a place and what stands there -/
def Part (K : PySem.W.Frag) (b g : Addr) (H : Hp) (d : AD) (pre : List Nat) (x : V) : Prop := ∃ (a : Addr) (pl u : V) (ns : List Nat) (e : AD), x = .ref a ∧ SqT K H a [pl, u] ∧ Td K H pl (placeD (pre ++ ns)) ∧ atA d ns = some e ∧ Ad K b g H u e
theorem Part.keep {K : PySem.W.Frag} {b g : Addr} {H H' : Hp} {d : AD} {pre : List Nat} {x : V} (s : Same H H') (h : Part K b g H d pre x) : Part K b g H' d pre x := by
  obtain ⟨a, pl, u, ns, e, h1, h2, h3, h4, h5⟩ := h
  exact ⟨a, pl, u, ns, e, h1, Same.kt s _ _ h2, h3.keep (Same.kt s), h4, h5.same s⟩
theorem Part.frm {K : PySem.W.Frag} {b g : Addr} {H H' : Hp} {d : AD} {pre : List Nat} {x : V} (B : Bag H b g) (s : Frm b g H H') (h : Part K b g H d pre x) : Part K b g H' d pre x := by
  obtain ⟨a, pl, u, ns, e, h1, h2, h3, h4, h5⟩ := h
  exact ⟨a, pl, u, ns, e, h1, B.kt s _ _ h2, h3.keep (B.kt s), h4, h5.keep B s⟩
def isTupA : AD → Bool
  | .tup _ => true
  | _ => false
theorem is_tup {K : PySem.W.Frag} {b g : Addr} {H : Hp} {v : V} {d : AD} (h : Ad K b g H v d) : ∃ t, TyX K H v t ∧ PySem.W.kitOne K t (.type "tuple") = some (isTupA d) := by
  rcases h.kind with ⟨i, rfl, rfl⟩ | ⟨a, xs, ds, rfl, rfl, hs, _, _⟩ | ⟨_, rfl, t, ty, k1, k2⟩
  · exact ⟨_, .base (.int i), kit_ty (show kitB "int" "tuple" = some false by decide +kernel)⟩
  · exact ⟨_, tyx_tup hs, kit_ty (show kitB "tuple" "tuple" = some true by decide +kernel)⟩
  · exact ⟨_, ty, k1⟩
def spSomeB : Sp := fun vs H Q _ => ∃ (b g t : Addr) (xs : List V), vs = [.ref b, .ref t] ∧ Bag H b g ∧ H t = some (.lst xs) ∧ t ≠ b ∧ t ≠ g ∧ 0 < xs.length ∧ xs.length ≤ 100000 ∧
  ∀ (i : Nat) (x : V) (H' : Hp), xs[i]? = some x → Bag H' b g → Frm b g H H' → Q x H'
def spParts (K : PySem.W.Frag) (n : Nat) : Sp := fun vs H Q _ => ∃ (b g : Addr) (v : V) (d : AD) (pl : V) (pre : List Nat), vs = [v, pl] ∧ Bag H b g ∧ Ad K b g H v d ∧ DpA n d ∧ szA d ≤ 30000 ∧ Td K H pl (placeD pre) ∧ pre.length + n ≤ 60 ∧
  ∀ (r : Addr) (ws : List V) (H' : Hp), Same H H' → H r = none → H' r = some (.lst ws) → 0 < ws.length → ws.length ≤ szA d → (∀ x ∈ ws, Part K b g H' d pre x) → Q (.ref r) H'
/-- a thing comes into the place of another one -/
def spPut (K : PySem.W.Frag) (n : Nat) : Sp := fun vs H Q _ => ∃ (b g : Addr) (v : V) (d : AD) (pl : V) (ns : List Nat) (u : V) (e : AD), vs = [v, pl, u] ∧ Bag H b g ∧ Ad K b g H v d ∧ BdA d ∧ Td K H pl (placeD ns) ∧ ns.length ≤ n ∧ (∃ e0, atA d ns = some e0) ∧ Ad K b g H u e ∧ BdA e ∧
  ∀ (v' : V) (H' : Hp), Thing K b g H' v' → Same H H' → Q v' H'
def spSpo (K : PySem.W.Frag) (n : Nat) : Sp := fun vs H Q _ => ∃ (b g : Addr) (v : V) (d : AD), vs = [.ref b, v] ∧ Bag H b g ∧ Ad K b g H v d ∧ DpA n d ∧ szA d ≤ 30000 ∧ LnA d ∧ MxA (2 ^ 199) d ∧ n ≤ 60 ∧
  ∀ (v' : V) (H' : Hp), Thing K b g H' v' → Bag H' b g → Frm b g H H' → Q v' H'
section
variable {P : Program} {w : World} {K : PySem.W.Frag} {mg : Str → Option Value} {base : Heap} {aN aO : Addr} {t1 t2 t3 t4 t5 t6 t7 : Tok}
theorem ok_law_some_b {f f1 : Addr} {fd fd1 : FuncData} (D : Dn K mg "_law_some" s_law_some ["bag", "things"] f fd) (B : Blt mg) (C : Cst K mg aN aO t1 t2 t3 t4 t5 t6 t7)
    (D_law_pick : Dn K mg "_law_pick" s_law_pick ["bag", "many"] f1 fd1) (G_law_pick : FnOk P w K mg base CX0 1 f1 fd1 ["bag", "many"] spPick) : FnOk P w K mg base CX0 2 f fd ["bag", "things"] spSomeB := by
  refine D.F.ok sc_law_some (fun vs H Q E h => ?_) (fun cdv A outer s H vs Q E hr h => ?_)
  · obtain ⟨b, g, t, xs, rfl, _⟩ := h
    rfl
  obtain ⟨b, g, t, xs, rfl, hB, ht, tb, tg, h1, h2, q⟩ := h
  have nd := sc_law_some.nd
  refine ⟨_, (pss_one (ps_ret (pe_ix (k_ixL (K := K) rfl) (pv 1) (pe_call G_law_pick (hr.mono (by omega)) (by rfl) D_law_pick.m D_law_pick.F.kp D_law_pick.b .nil pass0 (pa_cons (pv 0) (pa_cons (pe_callB (k_len (K := K) rfl) (by rfl) B.len PySem.boot_len (pa_cons (pv 1) pa_nil)) pa_nil))) (fun _ _ => rfl)))), ?_⟩
  refine ⟨_, rfl, _, rfl, _, rfl, t, _, rfl, .inl (SqL.of ht), b, g, _, rfl, hB, by omega, by omega, fun r H' r0 r1 B' F' => ?_⟩
  obtain ⟨j, ej⟩ : ∃ j : Nat, r = (j : Int) := ⟨r.toNat, by omega⟩
  have hj : j < xs.length := by omega
  have gj : xs[j]? = some xs[j] := List.getElem?_eq_getElem hj
  exact ⟨t, xs, r, xs[j], rfl, rfl, SqL.of (F' _ _ ht tb tg), at_of (j := j) ej gj, q j _ H' gj B' F'⟩
theorem ok_law_parts {f : Addr} {fd : FuncData} (D : Dn K mg "_law_parts" s_law_parts ["node", "place"] f fd) (B : Blt mg) (C : Cst K mg aN aO t1 t2 t3 t4 t5 t6 t7) : ∀ n : Nat, FnOk P w K mg base CX0 (1 + n) f fd ["node", "place"] ((spParts K) n) := by
  intro n
  obtain ⟨sp0, G_law_parts, hsp⟩ : ∃ sp0, FnOk P w K mg base CX0 (0 + n) f fd ["node", "place"] sp0 ∧ (∀ m, n = m + 1 → sp0 = (spParts K) m) := by
    cases n with
    | zero => exact ⟨fun _ _ _ _ => False, ⟨fun vs H Q E h => h.elim, fun A outer s H args us vs Q E _ _ _ _ h => h.elim⟩, fun m e => by omega⟩
    | succ m =>
      have G := ok_law_parts D B C m
      rw [show 1 + m = 0 + (m + 1) by omega] at G
      exact ⟨_, G, fun m' e => by rw [show m' = m by omega]⟩
  rw [show 1 + n = (0 + n) + 1 by omega]
  refine D.F.ok sc_law_parts (fun vs H Q E h => ?_) (fun cdv A outer s H vs Q E hr h => ?_)
  · obtain ⟨b, g, v, d, pl, pre, rfl, _⟩ := h
    rfl
  obtain ⟨b, g, v, d, pl, pre, rfl, hB, hv, hd, hsz, hp, lp, q⟩ := h
  have nd := sc_law_parts.nd
  have D_law_parts := D
  refine ⟨_, (pss_cons (ps_set (i := 2) nd rfl (.inl rfl) (pe_lst (pa_cons (pe_tup (pa_cons (pv 1) (pa_cons (pv 0) pa_nil))) pa_nil)))
      (pss_cons (ps_if (pt_val (pe_callB (k_isi (K := K) rfl) (by rfl) B.isinstance (by decide +kernel) (pa_cons (pv 0) (pa_cons (pe_bltn (v := .ty "tuple") (u := .type "tuple") (by rfl) B.tuple (by decide +kernel) rfl) pa_nil)))) (pss_one (ps_for PassesOwn.never rfl (k_enum (K := K) rfl (by rfl) B.enumerate (pa_cons (pv 0) pa_nil)) (k_tup (K := K) (n := 2) rfl rfl (pgs_cons (pg_name (i := 3) nd rfl (.inl rfl)) (pgs_cons (pg_name (i := 4) nd rfl (.inl rfl)) pgs_nil))) (pss_one (ps_set (i := 2) nd rfl (.inl rfl) (pe_op op_cat (pv 2) (pe_call G_law_parts (hr.mono (by omega)) (by rfl) D_law_parts.m D_law_parts.F.kp D_law_parts.b .nil pass0 (pa_cons (pv 4) (pa_cons (pe_op (k_cat (K := K) rfl) (pv 1) (pe_tup (pa_cons (pv 3) pa_nil))) pa_nil)))))))) pss_nil)
      (pss_one (ps_ret (pv 2))))), ?_⟩
  refine ⟨_, rfl, _, rfl, by show 2 ≤ sizeLine; decide, fun p1 n1 => ⟨by show 1 ≤ sizeLine; decide, fun r0 nr => ?_⟩⟩
  have s1 := same_upd (o := .tup [pl, v]) n1
  have s2 := same_upd (o := .lst [.ref p1]) nr
  have nr0 : H r0 = none := s1.free nr
  have part0 : Part K b g (upd (upd H p1 (.tup [pl, v])) r0 (.lst [.ref p1])) d pre (.ref p1) := ⟨p1, pl, v, [], d, rfl, Same.kt s2 _ _ (.inl (.inl upd_same)), by rw [List.append_nil]; exact hp.keep (Same.kt (s1.trans s2)), rfl, hv.same (s1.trans s2)⟩
  have hr0 : (upd (upd H p1 (.tup [pl, v])) r0 (.lst [.ref p1])) r0 = some (.lst [.ref p1]) := upd_same
  have s12 := s1.trans s2
  generalize upd (upd H p1 (.tup [pl, v])) r0 (.lst [.ref p1]) = H1 at part0 hr0 s12 ⊢
  clear s1 s2
  have one : ∀ x ∈ [V.ref p1], Part K b g H1 d pre x := fun x hx => by rw [List.mem_singleton.mp hx]; exact part0
  have l1v : 0 < [V.ref p1].length := Nat.one_pos
  have hv := hv.same s12
  have hp := hp.keep (Same.kt s12)
  have hB := hB.keep s12
  rcases id hv.kind with ⟨i, rfl, rfl⟩ | ⟨a, xs, ds, rfl, rfl, hs, hl, hk⟩ | ⟨_, rfl, t, ty, k1, k2⟩
  · exact ⟨_, rfl, _, _, _, _, false, rfl, .ty "tuple", .base (.int i), kit_ty (by decide +kernel), _, rfl, iteF ⟨_, rfl, q r0 _ H1 s12 nr0 hr0 l1v (Nat.le_refl _) one⟩⟩
  · refine ⟨_, rfl, _, _, _, _, true, rfl, .ty "tuple", tyx_tup hs, kit_ty (by decide +kernel), _, rfl, iteT ?_⟩
    obtain ⟨m, rfl, hd2⟩ : ∃ m, n = m + 1 ∧ ∀ d ∈ ds, DpA m d := by
      cases hd with
      | tup h => exact ⟨_, rfl, h⟩
    have hsp := hsp m rfl
    subst hsp
    obtain ⟨ap, ys, rfl, hap, tap⟩ := id hp.tupE
    have lys : ys.length = pre.length := by rw [tap.len, List.length_map]
    have hsz' : 1 + szA.szs ds ≤ 30000 := hsz
    refine ⟨_, rfl, a, xs, rfl, hs, for_it (walk_enumT (K := K) (a := a) (xs := xs)) (fun i σ H2 => ∃ (r : Addr) (ws : List V) (o3 o4 : Option V), σ = [some (.ref a), some (.ref ap), some (.ref r), o3, o4] ∧ H r = none ∧ H2 r = some (.lst ws) ∧ 0 < ws.length ∧ ws.length ≤ 1 + szA.szs (ds.take i) ∧ (∀ x ∈ ws, Part K b g H2 (.tup ds) pre x) ∧ Same H1 H2) ⟨r0, _, none, none, rfl, nr0, hr0, l1v, Nat.le_refl _, one, Same.refl _⟩ (fun i σ H2 _ h => ?_) ?_ ?_⟩
    · obtain ⟨_, _, _, _, _, _, _, _, _, _, s2⟩ := h
      exact Same.kt s2 _ _ hs
    · rintro i x σ H2 H3 hi ⟨r, ws, o3, o4, rfl, hr2, h2, l0, l1, parts, s2⟩ ⟨T2, x1, x2, rfl, n2, rfl, e1, e2⟩
      cases e1
      have s3 := same_upd (o := .tup [.int (i : Int), x2]) n2
      have e3 : SqT K (upd H2 T2 (.tup [.int (i : Int), x2])) T2 [.int (i : Int), x2] := .inl (.inl upd_same)
      have h3 := s3 _ _ h2
      have s13 := s2.trans s3
      have parts := fun x hx => (parts x hx).keep s3
      generalize upd H2 T2 (.tup [.int (i : Int), x2]) = H3 at s3 e3 h3 s13 parts ⊢
      obtain ⟨dx, edx⟩ : ∃ dx, ds[i]? = some dx := ⟨_, List.getElem?_eq_getElem (by omega)⟩
      have mdx := List.mem_of_getElem? edx
      have sdx := szs_mem mdx
      have stk : szA.szs (ds.take (i + 1)) = szA.szs (ds.take i) + szA dx := by
        rw [List.take_add_one, edx, szs_app]
        rfl
      have stl := szs_take ds (i + 1)
      have line : (70000 : Nat) < sizeLine := by decide
      refine ⟨T2, _, rfl, e3, rfl, _, _, rfl, _, _, rfl, rfl, ?_⟩
      refine ⟨_, rfl, _, rfl, _, rfl, _, rfl, by show 1 ≤ sizeLine; decide, fun p4 n4 => ⟨ap, p4, ys, [.int (i : Int)], rfl, rfl, ?_, .inl (.inl upd_same), ?_, fun p5 H5 s5 h5 => ?_⟩⟩
      · exact Same.kt (s13.trans (same_upd n4)) _ _ hap
      · show ys.length + 1 ≤ sizeLine
        omega
      have s4 := same_upd (o := .tup [.int (i : Int)]) n4
      have s15 := s13.trans (s4.trans s5)
      have s35 := s4.trans s5
      have tp5 : Td K H5 (.ref p5) (placeD (pre ++ [i])) := by
        unfold placeD
        rw [List.map_append]
        exact .tup h5 ((tap.keep (Same.kt s15)).app (.cons (.int _) .nil))
      refine ⟨b, g, x2, dx, .ref p5, pre ++ [i], rfl, hB.keep s15, (hk i x2 dx e2 edx).same s15, hd2 dx mdx, by omega, tp5, by rw [List.length_append, List.length_singleton]; omega, fun r' ws' H6 s6 nr' hr' l0' l1' parts' => ?_⟩
      have s36 := s35.trans s6
      refine ⟨r, r', ws, ws', rfl, rfl, s36 _ _ h3, hr', by omega, fun p7 n7 => ?_⟩
      have s7 := same_upd (o := .lst (ws ++ ws')) n7
      have s17 := (s13.trans s36).trans s7
      refine ⟨p7, ws ++ ws', _, _, rfl, (s12.trans (s13.trans s36)).free n7, upd_same, by rw [List.length_append]; omega, by rw [List.length_append, stk]; omega, fun y hy => ?_, s17⟩
      rcases List.mem_append.mp hy with hy | hy
      · exact (parts y hy).keep (s36.trans s7)
      · obtain ⟨a', pl', u', ns', e', q1, q2, q3, q4, q5⟩ := (parts' y hy).keep s7
        refine ⟨a', pl', u', i :: ns', e', q1, q2, ?_, by rw [atA_snoc edx]; exact q4, q5⟩
        rw [List.append_assoc] at q3
        exact q3
    · rintro σ H2 ⟨r, ws, o3, o4, rfl, hr2, h2, l0, l1, parts, s2⟩
      rw [List.take_of_length_le (by omega)] at l1
      exact ⟨_, rfl, q r ws H2 (s12.trans s2) hr2 h2 l0 l1 parts⟩
  · exact ⟨_, rfl, _, _, _, _, false, rfl, .ty "tuple", ty, k1, _, rfl, iteF ⟨_, rfl, q r0 _ H1 s12 nr0 hr0 l1v (Nat.le_refl _) one⟩⟩
theorem ok_law_put {f : Addr} {fd : FuncData} (D : Dn K mg "_law_put" s_law_put ["thing", "place", "other"] f fd) (B : Blt mg) (C : Cst K mg aN aO t1 t2 t3 t4 t5 t6 t7) : ∀ n : Nat, FnOk P w K mg base CX0 (1 + n) f fd ["thing", "place", "other"] ((spPut K) n) := by
  intro n
  obtain ⟨sp0, G_law_put, hsp⟩ : ∃ sp0, FnOk P w K mg base CX0 (0 + n) f fd ["thing", "place", "other"] sp0 ∧ (∀ m, n = m + 1 → sp0 = (spPut K) m) := by
    cases n with
    | zero => exact ⟨fun _ _ _ _ => False, ⟨fun vs H Q E h => h.elim, fun A outer s H args us vs Q E _ _ _ _ h => h.elim⟩, fun m e => by omega⟩
    | succ m =>
      have G := ok_law_put D B C m
      rw [show 1 + m = 0 + (m + 1) by omega] at G
      exact ⟨_, G, fun m' e => by rw [show m' = m by omega]⟩
  rw [show 1 + n = (0 + n) + 1 by omega]
  refine D.F.ok sc_law_put (fun vs H Q E h => ?_) (fun cdv A outer s H vs Q E hr h => ?_)
  · obtain ⟨b, g, v, d, pl, ns, u, e, rfl, _⟩ := h
    rfl
  obtain ⟨b, g, v, d, pl, ns, u, e, rfl, hB, hv, bd, hp, ln, ⟨e0, he0⟩, hu, be, q⟩ := h
  have nd := sc_law_put.nd
  have D_law_put := D
  refine ⟨_, (pss_cons (ps_if (pt_cmpR (k_eqD (K := K) rfl hr.units) (pv 1) (pe_tup pa_nil) (nomark _)) (pss_one (ps_ret (pv 2))) pss_nil)
      (pss_one (ps_ret (pe_op (k_cat (K := K) rfl) (pe_op (k_cat (K := K) rfl) (pe_slice (k_slT (K := K) rfl) (pv 0) po_none (po_some (pe_ix (k_ixT (K := K) rfl) (pv 1) pe_int (fun _ _ => rfl)))) (pe_tup (pa_cons (pe_call G_law_put (hr.mono (by omega)) (by rfl) D_law_put.m D_law_put.F.kp D_law_put.b .nil pass0 (pa_cons (pe_ix (k_ixT (K := K) rfl) (pv 0) (pe_ix (k_ixT (K := K) rfl) (pv 1) pe_int (fun _ _ => rfl)) (fun _ _ => rfl)) (pa_cons (pe_slice (k_slT (K := K) rfl) (pv 1) (po_some pe_int) po_none) (pa_cons (pv 2) pa_nil)))) pa_nil))) (pe_slice (k_slT (K := K) rfl) (pv 0) (po_some (pe_op op_add (pe_ix (k_ixT (K := K) rfl) (pv 1) pe_int (fun _ _ => rfl)) pe_int)) po_none))))), ?_⟩
  have gd : ∀ ms : List Nat, Good 1 (placeD ms) := fun ms => by
    have z := good_ints (ms.map fun n : Nat => (n : Int))
    rw [List.map_map] at z
    exact z
  refine ⟨_, rfl, by show 0 ≤ sizeLine; decide, fun p0 n0 => ⟨placeD ns, .tuple [], (hp.keep (Same.kt (same_upd n0))).dp, (Td.tup (.inl (.inl upd_same)) .nil).dp, (gd ns).shaped (by decide), (gd []).shaped (by decide), ?_⟩⟩
  have s0 := same_upd (o := .tup []) n0
  have hv := hv.same s0
  have hp := hp.keep (Same.kt s0)
  have hB := hB.keep s0
  have hu := hu.same s0
  generalize upd H p0 (.tup []) = H1 at s0 hv hp hB hu ⊢
  cases ns with
  | nil =>
    refine ⟨true, rfl, iteT ?_⟩
    exact ⟨_, rfl, q u H1 ⟨e, hu, be⟩ s0⟩
  | cons k ns =>
    refine ⟨false, rfl, iteF ?_⟩
    obtain ⟨m, rfl⟩ : ∃ m, n = m + 1 := by
      cases n with
      | zero => exact absurd ln (Nat.not_succ_le_zero _)
      | succ m => exact ⟨m, rfl⟩
    have hsp := hsp m rfl
    subst hsp
    cases hv with
    | int i => cases he0
    | non => cases he0
    | bl c => cases he0
    | str x => cases he0
    | lst _ _ _ => cases he0
    | dk _ _ _ => cases he0
    | dt _ _ _ => cases he0
    | @tup a xs ds hs hl hk =>
    obtain ⟨dx, edx, he0⟩ := Option.bind_eq_some_iff.mp (show (ds[k]?).bind (fun d => atA d ns) = some e0 from he0)
    have kl := (List.getElem?_eq_some_iff.mp edx).1
    obtain ⟨x, ex⟩ : ∃ x, xs[k]? = some x := ⟨_, List.getElem?_eq_getElem (by omega)⟩
    obtain ⟨ap, ys, rfl, hap, tap⟩ := id hp.tupE
    obtain ⟨y0, ys, rfl⟩ : ∃ y0 r, ys = y0 :: r := by
      cases tap with
      | cons _ _ => exact ⟨_, _, rfl⟩
    obtain ⟨t0, tap2⟩ : Td K H1 y0 (.int (k : Int)) ∧ TdAll K H1 ys (ns.map fun n : Nat => PyData.int (n : Int)) := by
      cases tap with
      | cons h t => exact ⟨h, t⟩
    cases t0
    obtain ⟨b1, b2⟩ := bd.at_
    have line : (2000 : Nat) < sizeLine := by decide
    have i0 : atI (V.int (k : Int) :: ys) 0 = some (.int (k : Int)) := at_of (j := 0) rfl rfl
    refine ⟨_, rfl, _, rfl, ap, _, 0, _, rfl, rfl, hap, i0, _, rfl, a, xs, rfl, hs, fun p2 H2 s2 h2 => ?_⟩
    rw [cut_to] at h2
    have k2 := Same.kt (K := K) s2
    refine ⟨_, rfl, _, rfl, ap, _, 0, _, rfl, rfl, k2 _ _ hap, i0, a, xs, (k : Int), x, rfl, rfl, k2 _ _ hs, at_of (j := k) rfl ex, ?_⟩
    refine ⟨_, rfl, 1, rfl, ap, _, rfl, k2 _ _ hap, fun p3 H3 s3 h3 => ?_⟩
    have h3 : SqT K H3 p3 ys := by
      have z := cut_from (V.int (k : Int) :: ys) 1
      rw [show ((1 : Nat) : Int) = 1 from rfl] at z
      rw [z] at h3
      exact h3
    have s13 := s2.trans s3
    refine ⟨_, rfl, b, g, x, dx, .ref p3, ns, u, e, rfl, hB.keep s13, (hk k x dx ex edx).same s13, b2 dx (List.mem_of_getElem? edx), .tup h3 (tap2.keep (Same.kt s13)), by rw [List.length_cons] at ln; omega, ⟨e0, he0⟩, hu.same s13, be, fun v4 H4 tv4 s4 => ?_⟩
    refine ⟨by show 1 ≤ sizeLine; decide, fun p5 n5 => ?_⟩
    have s5 := same_upd (o := .tup [v4]) n5
    have h5 : SqT K (upd H4 p5 (.tup [v4])) p5 [v4] := .inl (.inl upd_same)
    have s25 := s3.trans (s4.trans s5)
    have s15 := s13.trans (s4.trans s5)
    have tv4 := tv4.keep (hB.keep (s13.trans s4)) (.of s5)
    generalize upd H4 p5 (.tup [v4]) = H5 at s5 h5 s25 s15 tv4 ⊢
    refine ⟨p2, p5, _, _, rfl, rfl, Same.kt s25 _ _ h2, h5, by rw [List.length_take]; show min k xs.length + 1 ≤ sizeLine; omega, fun p6 H6 s6 h6 => ?_⟩
    have k16 := Same.kt (K := K) (s15.trans s6)
    refine ⟨_, rfl, _, rfl, ap, _, 0, _, rfl, rfl, k16 _ _ hap, i0, _, _, rfl, rfl, _, rfl, a, xs, rfl, k16 _ _ hs, fun p7 H7 s7 h7 => ?_⟩
    have h7 : SqT K H7 p7 (xs.drop (k + 1)) := by
      rw [← cut_from]
      exact h7
    refine ⟨p6, p7, _, _, rfl, rfl, Same.kt s7 _ _ h6, h7, by rw [List.length_append, List.length_take, List.length_drop]; show min k xs.length + 1 + _ ≤ sizeLine; omega, fun p8 H8 s8 h8 => ?_⟩
    have s58 := s6.trans (s7.trans s8)
    refine q (.ref p8) H8 (.tup h8 ?_ fun z hz => ?_) (s0.trans (s15.trans s58))
    · rw [List.length_append, List.length_append, List.length_take, List.length_drop]
      show min k xs.length + 1 + _ ≤ 1000
      omega
    · have old : ∀ z ∈ xs, Thing K b g H8 z := fun z hz => by
        obtain ⟨j, hj⟩ := List.getElem?_of_mem hz
        obtain ⟨dz, edz⟩ : ∃ dz, ds[j]? = some dz := ⟨_, List.getElem?_eq_getElem (by
          have := (List.getElem?_eq_some_iff.mp hj).1
          omega)⟩
        exact ⟨dz, (hk j z dz hj edz).same (s15.trans s58), b2 dz (List.mem_of_getElem? edz)⟩
      rcases List.mem_append.mp hz with hz | hz
      · rcases List.mem_append.mp hz with hz | hz
        · exact old z (List.mem_of_mem_take hz)
        · rw [List.mem_singleton.mp hz]
          exact tv4.keep (hB.keep s15) (.of s58)
      · exact old z (List.mem_of_mem_drop hz)
theorem ok_law_spoilt {n : Nat} {f f1 f2 f3 f4 f5 : Addr} {fd fd1 fd2 fd3 fd4 fd5 : FuncData} (D : Dn K mg "_law_spoilt" s_law_spoilt ["bag", "thing"] f fd) (B : Blt mg) (C : Cst K mg aN aO t1 t2 t3 t4 t5 t6 t7)
    (D_law_parts : Dn K mg "_law_parts" s_law_parts ["node", "place"] f1 fd1) (G_law_parts : FnOk P w K mg base CX0 (1 + n) f1 fd1 ["node", "place"] (spParts K n))
    (D_law_some : Dn K mg "_law_some" s_law_some ["bag", "things"] f2 fd2) (G_law_some : FnOk P w K mg base CX0 2 f2 fd2 ["bag", "things"] spSomeB)
    (D_law_pick : Dn K mg "_law_pick" s_law_pick ["bag", "many"] f3 fd3) (G_law_pick : FnOk P w K mg base CX0 1 f3 fd3 ["bag", "many"] spPick)
    (D_law_put : Dn K mg "_law_put" s_law_put ["thing", "place", "other"] f4 fd4) (G_law_put : FnOk P w K mg base CX0 (1 + n) f4 fd4 ["thing", "place", "other"] (spPut K n))
    (D_law_odd : Dn K mg "_law_odd" s_law_odd ["bag"] f5 fd5) (G_law_odd : FnOk P w K mg base CX0 3 f5 fd5 ["bag"] (spOdd K)) : FnOk P w K mg base CX0 (4 + n) f fd ["bag", "thing"] (spSpo K n) := by
  rw [show 4 + n = (3 + n) + 1 by omega]
  refine D.F.ok sc_law_spoilt (fun vs H Q E h => ?_) (fun cdv A outer s H vs Q E hr h => ?_)
  · obtain ⟨b, g, v, d, rfl, _⟩ := h
    rfl
  obtain ⟨b, g, v, d, rfl, hB, hv, hd, hsz, hln, hmx, hn, q⟩ := h
  have nd := sc_law_spoilt.nd
  refine ⟨_, (pss_cons (ps_asg (pe_call G_law_some (hr.mono (by omega)) (by rfl) D_law_some.m D_law_some.F.kp D_law_some.b .nil pass0 (pa_cons (pv 0) (pa_cons (pe_call G_law_parts (hr.mono (by omega)) (by rfl) D_law_parts.m D_law_parts.F.kp D_law_parts.b .nil pass0 (pa_cons (pv 1) (pa_cons (pe_tup pa_nil) pa_nil))) pa_nil))) (k_tup (K := K) (n := 2) rfl rfl (pgs_cons (pg_name (i := 2) nd rfl (.inl rfl)) (pgs_cons (pg_name (i := 3) nd rfl (.inl rfl)) pgs_nil))))
      (pss_cons (ps_set (i := 4) nd rfl (.inl rfl) (pe_call G_law_pick (hr.mono (by omega)) (by rfl) D_law_pick.m D_law_pick.F.kp D_law_pick.b .nil pass0 (pa_cons (pv 0) (pa_cons pe_int pa_nil))))
      (pss_cons (ps_join (ps_if (PW.pt (pw_and (pt_cmpR op_eq (pv 4) pe_int (nomark _)) (pw_and1 (pt_val (pe_callB (k_isi (K := K) rfl) (by rfl) B.isinstance (by decide +kernel) (pa_cons (pv 3) (pa_cons (pe_bltn (v := .ty "tuple") (u := .type "tuple") (by rfl) B.tuple (by decide +kernel) rfl) pa_nil))))))) (pss_one (ps_ret (pe_call G_law_put (hr.mono (by omega)) (by rfl) D_law_put.m D_law_put.F.kp D_law_put.b .nil pass0 (pa_cons (pv 1) (pa_cons (pv 2) (pa_cons (pe_callTy (k_listOf (K := K) rfl) (by rfl) B.list (by decide +kernel) (pa_cons (pv 3) pa_nil)) pa_nil)))))) pss_nil))
      (pss_cons (ps_join (ps_if (PW.pt (pw_and (pt_cmpR op_eq (pv 4) pe_int (nomark _)) (pw_and (pt_val (pe_callB (k_isi (K := K) rfl) (by rfl) B.isinstance (by decide +kernel) (pa_cons (pv 3) (pa_cons (pe_bltn (v := .ty "tuple") (u := .type "tuple") (by rfl) B.tuple (by decide +kernel) rfl) pa_nil)))) (pw_and1 (pt_cmpR op_gt (pe_callB (k_len (K := K) rfl) (by rfl) B.len PySem.boot_len (pa_cons (pv 3) pa_nil)) pe_int (nomark _)))))) (pss_one (ps_ret (pe_call G_law_put (hr.mono (by omega)) (by rfl) D_law_put.m D_law_put.F.kp D_law_put.b .nil pass0 (pa_cons (pv 1) (pa_cons (pv 2) (pa_cons (pe_slice (k_slT (K := K) rfl) (pv 3) po_none (po_some (pe_un un_neg pe_int))) pa_nil)))))) pss_nil))
      (pss_cons (ps_join (ps_if (PW.pt (pw_and (pt_cmpR op_eq (pv 4) pe_int (nomark _)) (pw_and (pt_val (pe_callB (k_isi (K := K) rfl) (by rfl) B.isinstance (by decide +kernel) (pa_cons (pv 3) (pa_cons (pe_bltn (v := .ty "tuple") (u := .type "tuple") (by rfl) B.tuple (by decide +kernel) rfl) pa_nil)))) (pw_and1 (pt_cmpR op_gt (pe_callB (k_len (K := K) rfl) (by rfl) B.len PySem.boot_len (pa_cons (pv 3) pa_nil)) pe_int (nomark _)))))) (pss_one (ps_ret (pe_call G_law_put (hr.mono (by omega)) (by rfl) D_law_put.m D_law_put.F.kp D_law_put.b .nil pass0 (pa_cons (pv 1) (pa_cons (pv 2) (pa_cons (pe_op (k_cat (K := K) rfl) (pv 3) (pe_slice (k_slT (K := K) rfl) (pv 3) (po_some (pe_un un_neg pe_int)) po_none)) pa_nil)))))) pss_nil))
      (pss_cons (ps_join (ps_if (PW.pt (pw_and (pt_cmpR op_eq (pv 4) pe_int (nomark _)) (pw_and (pt_val (pe_callB (k_isi (K := K) rfl) (by rfl) B.isinstance (by decide +kernel) (pa_cons (pv 3) (pa_cons (pe_bltn (v := .ty "int") (u := .type "int") (by rfl) B.int (by decide +kernel) rfl) pa_nil)))) (pw_and1 (pt_not (pt_val (pe_callB (k_isi (K := K) rfl) (by rfl) B.isinstance (by decide +kernel) (pa_cons (pv 3) (pa_cons (pe_bltn (v := .ty "bool") (u := .type "bool") (by rfl) B.bool (by decide +kernel) rfl) pa_nil))))))))) (pss_one (ps_ret (pe_call G_law_put (hr.mono (by omega)) (by rfl) D_law_put.m D_law_put.F.kp D_law_put.b .nil pass0 (pa_cons (pv 1) (pa_cons (pv 2) (pa_cons (pe_op op_add (pv 3) (pe_call G_law_some (hr.mono (by omega)) (by rfl) D_law_some.m D_law_some.F.kp D_law_some.b .nil pass0 (pa_cons (pv 0) (pa_cons (pe_lst (pa_cons pe_int (pa_cons (pe_un un_neg pe_int) (pa_cons pe_int pa_nil)))) pa_nil)))) pa_nil)))))) pss_nil))
      (pss_cons (ps_join (ps_if (PW.pt (pw_and (pt_cmpR op_eq (pv 4) pe_int (nomark _)) (pw_and (pt_val (pe_callB (k_isi (K := K) rfl) (by rfl) B.isinstance (by decide +kernel) (pa_cons (pv 3) (pa_cons (pe_bltn (v := .ty "tuple") (u := .type "tuple") (by rfl) B.tuple (by decide +kernel) rfl) pa_nil)))) (pw_and1 (pt_cmpR op_gt (pe_callB (k_len (K := K) rfl) (by rfl) B.len PySem.boot_len (pa_cons (pv 3) pa_nil)) pe_int (nomark _)))))) (pss_one (ps_ret (pe_call G_law_put (hr.mono (by omega)) (by rfl) D_law_put.m D_law_put.F.kp D_law_put.b .nil pass0 (pa_cons (pv 1) (pa_cons (pv 2) (pa_cons (pe_revT (K := K) rfl (pv 3)) pa_nil)))))) pss_nil))
      (pss_one (ps_ret (pe_call G_law_put (hr.mono (by omega)) (by rfl) D_law_put.m D_law_put.F.kp D_law_put.b .nil pass0 (pa_cons (pv 1) (pa_cons (pv 2) (pa_cons (pe_call G_law_odd (hr.mono (by omega)) (by rfl) D_law_odd.m D_law_odd.F.kp D_law_odd.b .nil pass0 (pa_cons (pv 0) pa_nil)) pa_nil))))))))))))), ?_⟩
  refine ⟨_, rfl, _, rfl, by show 0 ≤ sizeLine; decide, fun p0 n0 => ?_⟩
  have s0 := same_upd (o := .tup []) n0
  have t0 : Td K (upd H p0 (.tup [])) (.ref p0) (placeD []) := .tup (.inl (.inl upd_same)) .nil
  refine ⟨b, g, v, d, .ref p0, [], rfl, hB.keep s0, hv.same s0, hd, hsz, t0, by show 0 + n ≤ 60; omega, fun r ws H2 s2 nr hr l0 l1 parts => ?_⟩
  obtain ⟨rb, rg⟩ := (hB.keep s0).neNew nr
  have B2 := hB.keep (s0.trans s2)
  refine ⟨b, g, r, ws, rfl, B2, hr, rb, rg, l0, by omega, fun j y H3 hj B3 F3 => ?_⟩
  obtain ⟨a, pl, u, ns, e, rfl, hpa, tpl, hat, hu⟩ := (parts y (List.mem_of_getElem? hj)).frm B2 F3
  have F03 := (Frm.of (s0.trans s2)).trans F3
  have tpl : Td K H3 pl (placeD ns) := tpl
  clear parts hr nr l0 l1 hj F3 s2 s0 t0 n0 B2
  refine ⟨a, _, rfl, hpa, rfl, _, _, rfl, _, _, rfl, rfl, ?_⟩
  refine ⟨_, rfl, b, g, 6, rfl, B3, by decide, by decide, fun way H4 r40 r41 B4 F4 => ?_⟩
  have hu := hu.keep B3 F4
  have hpl := tpl.keep (B3.kt F4)
  have F := F03.trans F4
  have hv := hv.keep hB F
  have bd : BdA d := bdA_ln (m := 2 ^ 199) (Nat.pow_le_pow_right (by decide) (by decide)) hmx hln
  have be : BdA e := atA_bd hat bd
  have se := atA_sz hat
  have me := atA_mx hat hmx
  have put : ∀ (u' : V) (H5 : Hp), Thing K b g H5 u' → Bag H5 b g → Frm b g H4 H5 → spPut K n [v, pl, u'] H5 Q E0 := fun u' H5 ⟨e', h1, h2⟩ B5 F5 => ⟨b, g, v, d, pl, ns, u', e', rfl, B5, hv.keep B4 F5, bd, hpl.keep (B4.kt F5), atA_dp hat hd, ⟨e, hat⟩, h1, h2, fun v' H' tv s => q v' H' tv (B5.keep s) (F.trans (F5.trans (.of s)))⟩
  obtain ⟨W, eW⟩ : ∃ W : V, W = .int way := ⟨_, rfl⟩
  have TU : isTupA e = true → ∃ c zs, u = .ref c ∧ SqT K H4 c zs ∧ zs.length ≤ 900 ∧ ∀ z ∈ zs, Thing K b g H4 z := fun he => by
    cases hu with
    | int i => cases he
    | non => cases he
    | bl c => cases he
    | str x => cases he
    | lst _ _ _ => cases he
    | dk _ _ _ => cases he
    | dt _ _ _ => cases he
    | @tup c zs es hc lc kc =>
      have les : es.length ≤ 900 := by
        cases atA_ln hat hln with
        | tup l _ => exact l
      refine ⟨c, zs, rfl, hc, by omega, fun z hz => ?_⟩
      obtain ⟨j, hj⟩ := List.getElem?_of_mem hz
      obtain ⟨dz, edz⟩ : ∃ dz, es[j]? = some dz := ⟨_, List.getElem?_eq_getElem (by
        have := (List.getElem?_eq_some_iff.mp hj).1
        omega)⟩
      exact ⟨dz, kc j z dz hj edz, be.at_.2 dz (List.mem_of_getElem? edz)⟩
  have line : (2000 : Nat) < sizeLine := by decide
  obtain ⟨ut, uty, ukt⟩ := is_tup hu
  -- way == 0
  refine ⟨fun σ' H' => σ' = [some (.ref b), some v, some pl, some u, some (.int way)] ∧ H4 = H', fun σ' H' ⟨e1, e2⟩ => ?_, ?_⟩
  rotate_left
  · refine ⟨_, rfl, rfl, _, rfl, ?_⟩
    refine ite2 (fun _ => ?_) (fun _ => ⟨rfl, rfl⟩)
    refine ⟨_, rfl, _, _, _, _, _, rfl, .ty "tuple", uty, ukt, _, rfl, ?_⟩
    cases et : isTupA e with
    | false => exact iteF ⟨rfl, rfl⟩
    | true =>
      obtain ⟨c, zs, rfl, hc, lc, kc⟩ := TU et
      refine iteT ⟨_, rfl, _, rfl, _, rfl, c, zs, rfl, .inr hc, fun l hl => ?_⟩
      have s5 := same_upd (o := .lst zs) hl
      obtain ⟨lb, lg⟩ := B4.neNew hl
      exact put _ _ (.lst upd_same lb lg) (B4.keep s5) (.of s5)
  subst e1 e2
  -- way == 1
  refine ⟨fun σ' H' => σ' = [some (.ref b), some v, some pl, some u, some (.int way)] ∧ H4 = H', fun σ' H' ⟨e1, e2⟩ => ?_, ?_⟩
  rotate_left
  · refine ⟨_, rfl, rfl, _, rfl, ?_⟩
    refine ite2 (fun _ => ?_) (fun _ => ⟨rfl, rfl⟩)
    refine ⟨_, rfl, _, _, _, _, _, rfl, .ty "tuple", uty, ukt, _, rfl, ?_⟩
    cases et : isTupA e with
    | false => exact iteF ⟨rfl, rfl⟩
    | true =>
      obtain ⟨c, zs, rfl, hc, lc, kc⟩ := TU et
      refine iteT ⟨_, rfl, c, zs, rfl, .inr hc, _, _, rfl, rfl, _, rfl, ?_⟩
      refine ite2 (fun _ => ?_) (fun _ => ⟨rfl, rfl⟩)
      exact ⟨_, rfl, _, rfl, _, rfl, 1, rfl, -1, rfl, c, zs, rfl, hc, fun p H5 s5 h5 => put _ _ (.tup h5 (Nat.le_trans (cutV_length _ _ _) (by omega)) fun z hz => (kc z (List.mem_of_mem_drop (List.mem_of_mem_take hz))).keep B4 (.of s5)) (B4.keep s5) (.of s5)⟩
  subst e1 e2
  -- way == 2
  refine ⟨fun σ' H' => σ' = [some (.ref b), some v, some pl, some u, some (.int way)] ∧ H4 = H', fun σ' H' ⟨e1, e2⟩ => ?_, ?_⟩
  rotate_left
  · refine ⟨_, rfl, rfl, _, rfl, ?_⟩
    refine ite2 (fun _ => ?_) (fun _ => ⟨rfl, rfl⟩)
    refine ⟨_, rfl, _, _, _, _, _, rfl, .ty "tuple", uty, ukt, _, rfl, ?_⟩
    cases et : isTupA e with
    | false => exact iteF ⟨rfl, rfl⟩
    | true =>
      obtain ⟨c, zs, rfl, hc, lc, kc⟩ := TU et
      refine iteT ⟨_, rfl, c, zs, rfl, .inr hc, _, _, rfl, rfl, _, rfl, ?_⟩
      refine ite2 (fun _ => ?_) (fun _ => ⟨rfl, rfl⟩)
      refine ⟨_, rfl, _, rfl, _, rfl, _, rfl, 1, rfl, -1, rfl, c, zs, rfl, hc, fun p H5 s5 h5 => ?_⟩
      rw [cut_last] at h5
      have l5 : (zs.drop (zs.length - 1)).length ≤ 1 := by
        rw [List.length_drop]
        omega
      refine ⟨c, p, zs, _, rfl, rfl, Same.kt s5 _ _ hc, h5, by omega, fun p6 H6 s6 h6 => ?_⟩
      have s56 := s5.trans s6
      refine put _ _ (.tup h6 (by rw [List.length_append]; omega) fun z hz => ?_) (B4.keep s56) (.of s56)
      refine Thing.keep B4 (.of s56) (kc z ?_)
      rcases List.mem_append.mp hz with hz | hz
      · exact hz
      · exact List.mem_of_mem_drop hz
  subst e1 e2
  -- way == 3
  refine ⟨fun σ' H' => σ' = [some (.ref b), some v, some pl, some u, some (.int way)] ∧ H4 = H', fun σ' H' ⟨e1, e2⟩ => ?_, ?_⟩
  rotate_left
  · refine ⟨_, rfl, rfl, _, rfl, ?_⟩
    refine ite2 (fun _ => ?_) (fun _ => ⟨rfl, rfl⟩)
    rcases id hu.kind with ⟨i, rfl, rfl⟩ | ⟨c, zs, es, rfl, rfl, hc, _, _⟩ | ⟨_, rfl, t, ty, k1, k2⟩
    · refine ⟨_, rfl, _, _, _, _, true, rfl, .ty "int", .base (.int i), kit_ty (by decide +kernel), _, rfl, iteT ⟨_, rfl, _, _, _, _, false, rfl, .ty "bool", .base (.int i), kit_ty (by decide +kernel), _, rfl, iteT ?_⟩⟩
      have mi : i.natAbs < 2 ^ 199 := by
        cases me with
        | int h => exact h
      refine ⟨_, rfl, _, rfl, _, rfl, _, rfl, 1, rfl, by show 3 ≤ sizeLine; decide, fun p5 n5 => ?_⟩
      have s5 := same_upd (o := .lst [.int 1, .int (-1), .int 5]) n5
      obtain ⟨pb, pg⟩ := B4.neNew n5
      refine ⟨b, g, p5, _, rfl, B4.keep s5, upd_same, pb, pg, by decide, by decide, fun jj y H6 hj B6 F6 => ?_⟩
      obtain ⟨j, rfl, hj5⟩ : ∃ j : Int, y = .int j ∧ j.natAbs ≤ 5 := by
        have m := List.mem_of_getElem? hj
        simp only [List.mem_cons, List.not_mem_nil, or_false] at m
        rcases m with rfl | rfl | rfl
        · exact ⟨1, rfl, by decide⟩
        · exact ⟨-1, rfl, by decide⟩
        · exact ⟨5, rfl, by decide⟩
      have e200 : (2 : Nat) ^ 200 = 2 ^ 199 * 2 := Nat.pow_succ ..
      have big : (5 : Nat) < 2 ^ 199 := by decide +kernel
      exact ⟨i, j, rfl, rfl, put _ _ (.int (by
        generalize (2 : Nat) ^ 199 = Z at mi e200 big
        omega)) B6 ((Frm.of s5).trans F6)⟩
    · exact ⟨_, rfl, _, _, _, _, false, rfl, .ty "int", tyx_tup hc, kit_ty (by decide +kernel), _, rfl, iteF ⟨rfl, rfl⟩⟩
    · rcases k2 with k2 | ⟨k2, k3⟩
      · exact ⟨_, rfl, _, _, _, _, false, rfl, .ty "int", ty, k2, _, rfl, iteF ⟨rfl, rfl⟩⟩
      · exact ⟨_, rfl, _, _, _, _, true, rfl, .ty "int", ty, k2, _, rfl, iteT ⟨_, rfl, _, _, _, _, true, rfl, .ty "bool", ty, k3, _, rfl, iteF ⟨rfl, rfl⟩⟩⟩
  subst e1 e2
  -- way == 4
  refine ⟨fun σ' H' => σ' = [some (.ref b), some v, some pl, some u, some (.int way)] ∧ H4 = H', fun σ' H' ⟨e1, e2⟩ => ?_, ?_⟩
  rotate_left
  · refine ⟨_, rfl, rfl, _, rfl, ?_⟩
    refine ite2 (fun _ => ?_) (fun _ => ⟨rfl, rfl⟩)
    refine ⟨_, rfl, _, _, _, _, _, rfl, .ty "tuple", uty, ukt, _, rfl, ?_⟩
    cases et : isTupA e with
    | false => exact iteF ⟨rfl, rfl⟩
    | true =>
      obtain ⟨c, zs, rfl, hc, lc, kc⟩ := TU et
      refine iteT ⟨_, rfl, c, zs, rfl, .inr hc, _, _, rfl, rfl, _, rfl, ?_⟩
      refine ite2 (fun _ => ?_) (fun _ => ⟨rfl, rfl⟩)
      exact ⟨_, rfl, _, rfl, _, rfl, c, zs, rfl, hc, fun p H5 s5 h5 => put _ _ (.tup h5 (by rw [List.length_reverse]; omega) fun z hz => (kc z (List.mem_reverse.mp hz)).keep B4 (.of s5)) (B4.keep s5) (.of s5)⟩
  subst e1 e2
  exact ⟨_, rfl, _, rfl, _, rfl, b, g, rfl, B4, fun u' H5 tu B5 F5 => put _ _ tu B5 F5⟩
end
end Tl
/-! defs that make lambdas and hand them to a def -/
namespace Tl
open PySem PySem.Spec PyProof.Rows L2 RZ LamX
/-- the code of a def -/
def codeOf (K : PySem.W.Frag) (f : Addr) : Option Addr := match K.lookup f with
  | some ⟨_, _, .func fd, _⟩ => (match fd.code with | .ref c => some c | _ => none)
  | _ => none
/-- the table of a code object -/
def codeTab (K : PySem.W.Frag) (c : Addr) : Option Addr := match K.lookup c with
  | some ⟨_, _, .fields vs, _⟩ => (match (vs[11]? : Option Value) with | some (.ref P) => some P | _ => none)
  | _ => none
section
variable {P : Program} {w : World} {K : PySem.W.Frag} {mg : Str → Option Value} {base : Heap}
/-- a def whose code is known -/
theorem okT {x qual : Str} {st : Stmt} {f c : Addr} {fd : FuncData} {N ps : List Str} {k : Nat} {sp : Sp} (F : Fun K x qual st f fd) (hc : codeOf K f = some c) (S : FnScope N ps (defScope st)) (len : ∀ vs H Q E, sp vs H Q E → vs.length = ps.length)
    (bd : ∀ (A : Around) (outer : List Env) (s : Shared) (H : Hp) (vs : List V) (Q : VK) (E : XK), Room k (A.deeper (envOfC qual (defScope st) s.heap.objs.size f (.ref c))) → sp vs H Q E →
      ∃ t, PSs (cxOf CX0 P w K mg base N qual (defScope st) f (.ref c) A outer s H E).nox (defBody st) t ∧ t { nx := fun _ H' => Q .non H', rt := Q } (start N vs) H) : FnOk P w K mg base CX0 (k + 1) f fd ps sp := by
  obtain ⟨oc, od, kV, doc, pm, an, cdv, ct, osl, rfl, lk, hcd⟩ := F.ex
  have ec : cdv = .ref c := by
    unfold codeOf at hc
    rw [lk] at hc
    cases cdv with
    | ref c' =>
      have h2 : some c' = some c := hc
      rw [Option.some.inj h2]
    | _ => exact nomatch hc
  subst ec
  refine ⟨len, fun A outer s H args us vs Q E hr e0 hb rv hsp => run_ofS lk hcd S hr e0 hb rv (len _ _ _ _ hsp) fun hr' => ?_⟩
  obtain ⟨t, ht, hq⟩ := bd A outer s H vs Q E hr' hsp
  exact ⟨t, ht.nox, hq⟩
end
section
variable {X : Cx}
theorem pss_len {body : List Stmt} {t : TS} (h : PSs X body t) : PSs X body (fun D σ H => σ.length = X.N.length → t D σ H) := ⟨fun pins s σ H D I h' => h.run pins s σ H D I (h' I.len)⟩
end
/-- what a def makes of a call that it got: "told", or a word for each class of errors -/
def TTw (es : List (Addr × Str)) : (XK → Hp → VK → Prop) → Hp → VK → Prop := fun tl H Q =>
  ∀ Qn : VK, (∀ v H', Q (.str "told") H' → Qn v H') → tl (fun cls _ H' => ∃ p ∈ es, cls = Value.ref p.1 ∧ Q (.str p.2) H') H Qn
/-! ### all but the tables stay -/
theorem ExtN.kt {K : PySem.W.Frag} {H H' : Hp} (e : ExtN H H') : KT K H H' := fun a xs q => by
  rcases q with (q | ⟨o, q⟩) | q
  · exact .inl (.inl (e _ _ q fun ps z => by cases z))
  · exact .inl (.inr ⟨o, e _ _ q fun ps z => by cases z⟩)
  · exact .inr q
theorem Bag.extN {H H' : Hp} {b g : Addr} (B : Bag H b g) (e : ExtN H H') : Bag H' b g :=
  ⟨B.ne, let ⟨x, c, al, h, r⟩ := B.hb; ⟨x, c, al, e _ _ h (fun ps z => by cases z), r⟩, let ⟨gs, h, r⟩ := B.hg; ⟨gs, e _ _ h (fun ps z => by cases z), r⟩⟩
theorem tab_frm {b g P : Addr} {H H' : Hp} {ps : Array Value} (B : Bag H b g) (f : Frm b g H H') (h : H P = some (.tbl ps)) : H' P = some (.tbl ps) := by
  obtain ⟨n1, n2⟩ := B.other h (fun xs z => by cases z)
  exact f _ _ h n1 n2
/-- the end: a law whose def makes lambdas -/
theorem walkT {l : PySem.W.OpenLaw} {k : Nat} {q : Program} {loose : List Str} {XP : (Str → Option Value) → Heap → Prop} {YP : World → Heap → Prop} {d : DefRec} {K : Params → PySem.W.Frag} {x : Str}
    (hn : l.most = some 63) (hdf : d.params.defaults = []) (hr : Room k callerA) (hY : ∀ (w : World) (h : Heap), YP w h → (K w.params).In h)
    (F : ∀ (w : World) (mg : Str → Option Value) (fa : Addr) (h : Heap), YP w h → (K w.params).In h → h.Ns mainGlobals mg → mg d.name = some (.ref fa) →
      ∃ (fd : FuncData) (c T : Addr), h.get? T = some { cls := .none, data := .fields #[] } ∧ (K w.params).lookup T = none ∧ PySem.W.CodeHd h c T ∧ (∀ (s : Shared) (u : Value), BindsTo s fd ⟨[u], []⟩ [(x, u)]) ∧
        ∀ base : Heap, (K w.params).In base → base.Ns mainGlobals mg → TabB base mg c T → FnOk l.prog w (K w.params) mg base CX0 k fa fd [x] (fun vs H Q _ => ∃ (a : Addr) (ns : List Int), vs = [.ref a] ∧ SqL (K w.params) H a (ns.map V.int) ∧ ns.length ≤ 63 ∧ H T = some (.tbl #[]) ∧ ∀ H', Q (.bl true) H')) :
    PySem.W.WalkO q loose XP YP l.row.toRowW d [] (fun f vs => PySem.call f vs) := by
  refine walk_ofTs (x := x) (k := k) (K := K) (CX := fun _ => CX0) hn (by decide) hdf hr hY ?_ (fun w H s e s' z => z.elim)
  intro w mg fa h Y KX G hmg
  obtain ⟨fd, c, T, hT, nT, C, hb, hF⟩ := F w mg fa h Y KX G hmg
  refine ⟨fd, [(c, T)], _, fun p hp => ?_, fun p hp => ?_, fun p hp => ?_, hb, ?_, fun base hb1 hb2 hTB => hF base hb1 hb2 (hTB (c, T) (List.mem_singleton.mpr rfl))⟩
  · rw [List.mem_singleton.mp hp]; exact hT
  · rw [List.mem_singleton.mp hp]; exact nT
  · rw [List.mem_singleton.mp hp]; exact C
  · exact fun H a ns hl _ hH hS => ⟨a, ns, rfl, hS, hl, hH (c, T) (List.mem_singleton.mpr rfl), fun _ => rfl⟩
end Tl
/-! how great drawn plans are -/
namespace Tl
open PySem PySem.Spec PyProof.Rows L2 RZ
/-- data as far as changes look at them -/
structure Pl (B k : Nat) (d : PyData) : Prop where
  sz : szA (ofD d) ≤ B
  ln : LnA (ofD d)
  mx : MxA (2 ^ 199) (ofD d)
  dp : DpA k (ofD d)
theorem Pl.bd {B k : Nat} {d : PyData} (h : Pl B k d) : BdA (ofD d) := bdA_ln (m := 2 ^ 199) (Nat.pow_le_pow_right (by decide) (by decide)) h.mx h.ln
theorem DpA.mono {n m : Nat} {d : AD} (h : DpA n d) (l : n ≤ m) : DpA m d := by
  induction h generalizing m with
  | int => exact .int
  | oth => exact .oth
  | @tup n ds _ ih =>
    obtain ⟨k, rfl⟩ : ∃ k, m = k + 1 := ⟨m - 1, by omega⟩
    exact .tup fun d hd => ih d hd (by omega)
theorem Pl.mono {B B' k k' : Nat} {d : PyData} (h : Pl B k d) (hB : B ≤ B') (hk : k ≤ k') : Pl B' k' d := ⟨Nat.le_trans h.sz hB, h.ln, h.mx, h.dp.mono hk⟩
/-- how great the parts are together -/
def szD (ds : List PyData) : Nat := szA.szs (ofD.ofDs ds)
theorem szD_le {ds : List PyData} {k : Nat} (h : ∀ d ∈ ds, szA (ofD d) ≤ k) : szD ds ≤ ds.length * k := by
  induction ds with
  | nil => exact Nat.zero_le _
  | cons d r ih =>
    have h1 := h d (List.mem_cons_self ..)
    have h2 := ih fun x hx => h x (List.mem_cons_of_mem _ hx)
    show szA (ofD d) + szD r ≤ _
    rw [List.length_cons, Nat.add_mul]
    omega
theorem Pl.tup {B k m : Nat} {ds : List PyData} (h : ∀ d ∈ ds, Pl B k d) (l : ds.length ≤ m) (hm : m ≤ 900) : Pl (1 + m * B) (k + 1) (.tuple ds) := by
  have z := szD_le (ds := ds) (k := B) fun d hd => (h d hd).sz
  have z2 := Nat.mul_le_mul_right B l
  refine ⟨Nat.add_le_add_left (Nat.le_trans z z2) 1, ?_, ?_, ?_⟩
  · show LnA (.tup (ofD.ofDs ds))
    rw [ofDs_map]
    refine .tup (by rw [List.length_map]; omega) fun d hd => ?_
    obtain ⟨x, hx, rfl⟩ := List.mem_map.mp hd
    exact (h x hx).ln
  · show MxA _ (.tup (ofD.ofDs ds))
    rw [ofDs_map]
    refine .tup fun d hd => ?_
    obtain ⟨x, hx, rfl⟩ := List.mem_map.mp hd
    exact (h x hx).mx
  · show DpA _ (.tup (ofD.ofDs ds))
    rw [ofDs_map]
    refine .tup fun d hd => ?_
    obtain ⟨x, hx, rfl⟩ := List.mem_map.mp hd
    exact (h x hx).dp
theorem Pl.three {B k : Nat} {x : Str} {i : Int} {d : PyData} (h : Pl B k d) (hi : i.natAbs ≤ 1000) : Pl (3 + B) (k + 1) (.tuple [.str x, .int i, d]) := by
  have big : (1000 : Nat) < 2 ^ 199 := by decide +kernel
  refine ⟨?_, ?_, ?_, ?_⟩
  · show 1 + (1 + (1 + (szA (ofD d) + 0))) ≤ _
    have := h.sz
    omega
  · show LnA (.tup [.oth (some x), .int i, ofD d])
    refine .tup (by show 3 ≤ 900; decide) fun e he => ?_
    simp only [List.mem_cons, List.not_mem_nil, or_false] at he
    rcases he with rfl | rfl | rfl
    · exact .oth
    · exact .int
    · exact h.ln
  · show MxA _ (.tup [.oth (some x), .int i, ofD d])
    refine .tup fun e he => ?_
    simp only [List.mem_cons, List.not_mem_nil, or_false] at he
    rcases he with rfl | rfl | rfl
    · exact .oth
    · exact .int (Nat.lt_of_le_of_lt hi big)
    · exact h.mx
  · show DpA _ (.tup [.oth (some x), .int i, ofD d])
    refine .tup fun e he => ?_
    simp only [List.mem_cons, List.not_mem_nil, or_false] at he
    rcases he with rfl | rfl | rfl
    · exact .oth
    · exact .int
    · exact h.dp
def mvB (wb : Nat → Nat) : Nat → Nat
  | 0 => 3 + wb 0
  | n + 1 => max (3 + wb (n + 1)) (3 + (1 + 3 * mvB wb n))
def wtB : Nat → Nat → Nat
  | 0, _ => 1
  | m + 1, n => 1 + 5 * mvB (wtB m) n
theorem mvB_tell (wb : Nat → Nat) (n : Nat) : 3 + wb n ≤ mvB wb n := by
  cases n with
  | zero => exact Nat.le_refl _
  | succ n => exact Nat.le_max_left _ _
theorem mv_pl {m : Nat} (IH : ∀ (W n : Nat) (ah ah' : List Rat) (t : Nd n) (gs : Nd m) (w : Wt m n), WtOk m n t gs w → NdF W n ah t → NdF W m ah' gs → Pl (wtB m n) (2 * (m + n) + 1) (waitD m n w)) :
    ∀ (n : Nat) (W : Nat) (ah : List Rat) (t : Nd n) (q : Qn m) (mv : Mv m n), MvOk (WtOk m) n t q mv → NdF W n ah t → q.length ≤ 12 → (∀ a ∈ q, NdF W m a.2.1 a.2.2) → Pl (mvB (wtB m) n) (2 * (m + n) + 2) (mvD (waitD m) n mv) := by
  intro n
  induction n with
  | zero =>
    intro W ah t q mv ok f l12 fq
    rcases mv_cases ok with ⟨a, w, an, e, ea, wok⟩ | ⟨n', en, _⟩
    · rw [e]
      have l := (List.getElem?_eq_some_iff.mp ea).1
      exact ((IH W 0 ah an.2.1 t an.2.2 w wok f (fq an (List.mem_of_getElem? ea))).three (x := "tell") (i := (a : Int)) (by omega)).mono (mvB_tell _ _) (Nat.le_refl _)
    · omega
  | succ n ih =>
    intro W ah t q mv ok f l12 fq
    rcases mv_cases ok with ⟨a, w, an, e, ea, wok⟩ | ⟨n', en, i, ms, qs, qn, ht, e, _, eq, al⟩
    · rw [e]
      have l := (List.getElem?_eq_some_iff.mp ea).1
      exact ((IH W (n + 1) ah an.2.1 t an.2.2 w wok f (fq an (List.mem_of_getElem? ea))).three (x := "tell") (i := (a : Int)) (by omega)).mono (mvB_tell _ _) (Nat.le_refl _)
    · obtain rfl : n' = n := by omega
      cases ht
      rw [e]
      have f : qs.length ≤ 5 ∧ ∀ q ∈ qs, (QnOk W ah q ∧ Few q) ∧ ∀ a ∈ q, NdF W n' a.2.1 a.2.2 := f
      obtain ⟨⟨qok, few⟩, fa⟩ := f.2 qn (List.mem_of_getElem? eq)
      have li := (List.getElem?_eq_some_iff.mp eq).1
      have l5 := f.1
      have lm : ms.length ≤ 3 := by rw [← al.len]; exact few.1
      have inner : Pl (1 + 3 * mvB (wtB m) n') (2 * (m + n') + 2 + 1) (.tuple (ms.map (mvD (waitD m) n'))) := by
        refine Pl.tup (fun d hd => ?_) (by rw [List.length_map]; exact lm) (by decide)
        obtain ⟨y, hy, rfl⟩ := List.mem_map.mp hd
        obtain ⟨j, hj⟩ := List.getElem?_of_mem hy
        obtain ⟨an, ean⟩ : ∃ an, qn[j]? = some an := ⟨_, List.getElem?_eq_getElem (by
          have := (List.getElem?_eq_some_iff.mp hj).1
          have := al.len
          omega)⟩
        obtain ⟨y', e1, e2⟩ := al.get ean
        rw [hj] at e1
        cases e1
        exact ih W an.2.1 an.2.2 q y e2 (fa an (List.mem_of_getElem? ean)) l12 fq
      exact (inner.three (x := "ask") (i := (i : Int)) (by
        have : i < 5 := Nat.lt_of_lt_of_le li l5
        omega)).mono (Nat.le_max_right _ _) (by omega)
theorem wt_pl : ∀ (m : Nat) (W n : Nat) (ah ah' : List Rat) (t : Nd n) (gs : Nd m) (w : Wt m n), WtOk m n t gs w → NdF W n ah t → NdF W m ah' gs → Pl (wtB m n) (2 * (m + n) + 1) (waitD m n w)
  | 0, W, n, ah, ah', t, gs, w, _, _, _ => (Pl.tup (B := 0) (k := 0) (m := 0) (ds := []) (fun d h => absurd h List.not_mem_nil) (Nat.le_refl _) (by decide)).mono (Nat.le_refl _) (by omega)
  | m + 1, W, n, ah, ah', t, gs, w, ok, f, fg => by
    have IH := fun W n ah ah' t gs w => wt_pl m W n ah ah' t gs w
    have fg : (show List (Qn m) from gs).length ≤ 5 ∧ ∀ q ∈ (show List (Qn m) from gs), (QnOk W ah' q ∧ Few q) ∧ ∀ a ∈ q, NdF W m a.2.1 a.2.2 := fg
    have al : Al (fun (q : Qn m) (y : Mv m n) => MvOk (WtOk m) n t q y) (show List (Qn m) from gs) (show List (Mv m n) from w) := ok
    have lw := al.len
    refine (Pl.tup (B := mvB (wtB m) n) (k := 2 * (m + n) + 2) (m := 5) (fun d hd => ?_) (by rw [List.length_map, ← lw]; exact fg.1) (by decide)).mono (Nat.le_refl _) (by omega)
    obtain ⟨y, hy, rfl⟩ := List.mem_map.mp hd
    obtain ⟨j, hj⟩ := List.getElem?_of_mem hy
    obtain ⟨q, eq⟩ : ∃ q, (show List (Qn m) from gs)[j]? = some q := ⟨_, List.getElem?_eq_getElem (by
      have := (List.getElem?_eq_some_iff.mp hj).1
      rw [lw]
      exact this)⟩
    obtain ⟨y', e1, e2⟩ := al.get eq
    rw [hj] at e1
    cases e1
    obtain ⟨⟨qok, few⟩, fa⟩ := fg.2 q (List.mem_of_getElem? eq)
    exact mv_pl IH n W ah t q y e2 f qok.most fa
theorem wtB_le {m n : Nat} (hm : m ≤ 3) (hn : n ≤ 3) : wtB m n ≤ 30000 := by
  have h : ∀ (a b : Fin 4), wtB a.val b.val ≤ 30000 := by decide +kernel
  exact h ⟨m, by omega⟩ ⟨n, by omega⟩
end Tl
/-! tests with a change -/
namespace Tl
open PySem PySem.Spec PyProof.Rows L2 RZ
theorem Thing.env {K : PySem.W.Frag} {b g : Addr} {H : Hp} {v : V} (B : Bag H b g) (h : Thing K b g H v) : ∀ H', EnvAt b g H H' → Thing K b g H' v := fun _ e => h.keep B e.2
theorem TupT.env {K : PySem.W.Frag} {b g a : Addr} {m : Nat} {H : Hp} (B : Bag H b g) (h : TupT K b g m H a) : ∀ H', EnvAt b g H H' → TupT K b g m H' a := fun _ e => h.keep B e.2
theorem thing_td {K : PySem.W.Frag} {b g : Addr} {H : Hp} {v : V} {d : PyData} (h : Td K H v d) (bd : BdA (ofD d)) : Thing K b g H v := ⟨_, h.ad, bd⟩
theorem bd_parts {ds : List PyData} (h : BdA (ofD (.tuple ds))) : ds.length ≤ 1000 ∧ ∀ d ∈ ds, BdA (ofD d) := by
  have h : BdA (.tup (ofD.ofDs ds)) := h
  rw [ofDs_map] at h
  obtain ⟨h1, h2⟩ := h.at_
  rw [List.length_map] at h1
  exact ⟨h1, fun d hd => h2 _ (List.mem_map.mpr ⟨d, hd, rfl⟩)⟩
theorem tds_things {K : PySem.W.Frag} {b g : Addr} {H : Hp} {xs : List V} {ds : List PyData} (t : TdAll K H xs ds) (bd : ∀ d ∈ ds, BdA (ofD d)) : ∀ x ∈ xs, Thing K b g H x := fun x hx => by
  obtain ⟨i, hi⟩ := List.getElem?_of_mem hx
  obtain ⟨d, hd, td⟩ := t.getV hi
  exact thing_td td (bd d (List.mem_of_getElem? hd))
theorem Ad.updL {K : PySem.W.Frag} {b g T : Addr} {H : Hp} {ws ws' : List V} {v : V} {d : AD} (hT : H T = some (.lst ws)) (nb : T ≠ b) (ng : T ≠ g) (h : Ad K b g H v d) : Ad K b g (upd H T (.lst ws')) v d := by
  induction h with
  | int i => exact .int i
  | tup h l _ ih => exact .tup (KT.updL hT _ _ h) l ih
  | non => exact .non
  | bl c => exact .bl c
  | str x => exact .str x
  | @lst a xs h n m =>
    by_cases e : a = T
    · subst e
      exact .lst upd_same nb ng
    · exact .lst (by rw [upd_ne e]; exact h) n m
  | dk h n m => exact .dk (by rw [upd_ne (ne_of h hT (by intro z; cases z))]; exact h) n m
  | dt h n m => exact .dt (by rw [upd_ne (ne_of h hT (by intro z; cases z))]; exact h) n m
theorem Thing.updL {K : PySem.W.Frag} {b g T : Addr} {H : Hp} {ws ws' : List V} {v : V} (hT : H T = some (.lst ws)) (nb : T ≠ b) (ng : T ≠ g) (h : Thing K b g H v) : Thing K b g (upd H T (.lst ws')) v := by
  obtain ⟨d, h, k⟩ := h
  exact ⟨d, h.updL hT nb ng, k⟩
/-- a comprehension that tells things -/
theorem lc_things {K : PySem.W.Frag} {b g : Addr} {J : It} {n : Nat} {G : Hp → Prop} {Y : Nat → Hp → V → Hp → Prop} (w : Walk J n G Y) {gg : TG} {tt : TT} {te : TE} {vs : List Nat} {σ : L2.St} {H : Hp} {T : Addr} {Qd : Hp → Prop} (hn : n ≤ 900) (hT : H T = none) (B : Bag H b g) (hG : ∀ H', EnvAt b g H H' → G H')
    (hs : ∀ (i : Nat) (x : V) (H2 H3 : Hp) (Qy : V → Hp → Prop) (N : Hp → Prop), i < n → EnvAt b g H H2 → Y i H2 x H3 → (∀ y H5, EnvAt b g H2 H5 → Thing K b g H5 y → Qy y H5) → gg x (wipe σ vs) H3 fun σ2 H4 => wipe σ2 vs = wipe σ vs ∧ tt σ2 H4 fun b H5 => if b = true then te σ2 H5 Qy else N H5)
    (hd : ∀ H2 ws, H2 T = some (.lst ws) → ws.length = n → (∀ x ∈ ws, Thing K b g H2 x) → EnvAt b g H H2 → Qd H2) :
    ∃ W : Nat → Nat → Hp → Prop, (∃ m, W 0 m (upd H T (.lst []))) ∧ ∀ i m H, W i m H →
      (J.stop i H ∧ Qd H) ∨ (J.go i H ∧ ∃ Nx : Hp → Prop, (∀ H', Nx H' → ∃ m', m' < m ∧ W (i + 1) m' H') ∧ ∀ x H', J.yld i H x H' → gg x (wipe σ vs) H' fun σ2 H2 => wipe σ2 vs = wipe σ vs ∧ tt σ2 H2 fun b H3 =>
        if b = true then te σ2 H3 fun y H4 => ∃ acc, H4 T = some (.lst acc) ∧ acc.length < sizeLine ∧ Nx (upd H4 T (.lst (acc ++ [y]))) else Nx H3) := by
  obtain ⟨Tb, Tg⟩ := B.neNew hT
  refine lc_it w (fun i H2 => ∃ ws : List V, H2 T = some (.lst ws) ∧ ws.length = i ∧ (∀ x ∈ ws, Thing K b g H2 x) ∧ Bag H2 b g ∧ Frm b g H H2) ⟨[], upd_same, rfl, fun x h => absurd h List.not_mem_nil, B.keep (same_upd hT), .of (same_upd hT)⟩ (fun i H2 _ h => by obtain ⟨_, _, _, _, B2, F2⟩ := h; exact hG _ ⟨B2, F2⟩) ?_ ?_
  · rintro i x H2 H3 hi ⟨ws, h2, l2, t2, B2, F2⟩ y
    refine hs i x H2 H3 _ _ hi ⟨B2, F2⟩ y fun v H5 ⟨B5, F5⟩ tv => ?_
    have h5 := F5 _ _ h2 Tb Tg
    have line : (2000 : Nat) < sizeLine := by decide
    refine ⟨ws, h5, by omega, ws ++ [v], upd_same, by rw [List.length_append, l2]; rfl, fun z hz => ?_, B5.updN Tb Tg, (F2.trans F5).updN hT⟩
    rcases List.mem_append.mp hz with hz | hz
    · exact ((t2 z hz).keep B2 F5).updL h5 Tb Tg
    · rw [List.mem_singleton.mp hz]
      exact tv.updL h5 Tb Tg
  · rintro H2 ⟨ws, h2, l2, t2, B2, F2⟩
    exact hd H2 ws h2 l2 t2 ⟨B2, F2⟩
section
variable {K : PySem.W.Frag} {b g : Addr} {E : Hp → Prop} {σ : L2.St} {te te2 : TE} {ta : TA} {n m m2 lo lo2 : Nat} (e : EnvOk b g E)
include e
theorem TelT.mono (h : TelT K b g E m te σ) (hm : m ≤ m2) : TelT K b g E m2 te σ := fun H Q hE k => h H Q hE fun a H' t hE' f => k a H' (by
  obtain ⟨xs, h1, l, h2⟩ := t
  exact ⟨xs, h1, Nat.le_trans l hm, h2⟩) hE' f
theorem telX (h : TelT K b g E 512 te σ) : Tel K b g E te σ := TelT.tel e h (by decide)
theorem telX_var {i : Nat} {a : Addr} (hv : σ[i]? = some (some (.ref a))) (h : ∀ H, E H → TupT K b g 16 H a) (hm : 16 ≤ m) : TelT K b g E m (tVar i) σ := (telT_var e hv h).mono e hm
theorem telX_var64 {i : Nat} {a : Addr} (hv : σ[i]? = some (some (.ref a))) (h : ∀ H, E H → TupT K b g 64 H a) (hm : 64 ≤ m) : TelT K b g E m (tVar i) σ := (telT_var e hv h).mono e hm
theorem telX_tup (h : Tels K b g E n ta σ) (hn : n ≤ m) (hm : m ≤ 512) : TelT K b g E m (tTup ta) σ := (telT_tup e h (by omega)).mono e hn
theorem telX_cat (h1 : TelT K b g E (m / 2) te σ) (h2 : TelT K b g E (m / 2) te2 σ) (hm : m ≤ 512) : TelT K b g E m (tOp (rCatP K) te te2) σ := (telT_cat e h1 h2 (by omega)).mono e (by omega)
theorem telX_repD {k : Nat} (h : Tels K b g E (k + 1) ta σ) (hn : k + 1 ≤ 2) (hi : TelI E te2 σ) (hm : 200 ≤ m) : TelT K b g E m (tOp (rRepZ K) (tTup ta) te2) σ := (telT_repD e h hn hi).mono e hm
theorem telX_listOf (h : TelT K b g E 512 te σ) : Tel K b g E (tCB (rListOf K) (tCons te tNil)) σ := fun H Q hE k => h H _ hE fun a H1 t1 hE1 f1 => by
  obtain ⟨xs, s1, l1, k1⟩ := t1
  refine ⟨a, xs, rfl, .inr s1, fun l hl => ?_⟩
  have s := same_upd (o := .lst xs) hl
  obtain ⟨pb, pg⟩ := (e.bag _ hE1).neNew hl
  exact k (.ref l) _ (.lst upd_same pb pg) (e.same hE1 s) (f1.trans (.of s))
theorem tel_listOf (h : TelT K b g E m te σ) : Tel K b g E (tCB (rListOf K) (tCons te tNil)) σ := fun H Q hE k => h H _ hE fun a H1 t1 hE1 f1 => by
  obtain ⟨xs, s1, l1, k1⟩ := t1
  refine ⟨a, xs, rfl, .inr s1, fun l hl => ?_⟩
  have s := same_upd (o := .lst xs) hl
  obtain ⟨pb, pg⟩ := (e.bag _ hE1).neNew hl
  exact k (.ref l) _ (.lst upd_same pb pg) (e.same hE1 s) (f1.trans (.of s))
theorem telI_add1 {i : Nat} {j : Int} (hv : σ[i]? = some (some (.int j))) (h0 : -100 ≤ j) (h1 : j ≤ 99) : TelI E (tOp (rI0 fun i j => V.int (i + j)) (tVar i) (tC (.int 1))) σ := fun H Q hE k => ⟨_, hv, j, 1, rfl, rfl, k _ (by omega) (by omega)⟩
theorem telI_sub {i : Nat} {j c : Int} (hv : σ[i]? = some (some (.int j))) (h0 : -100 ≤ j - c) (h1 : j - c ≤ 100) : TelI E (tOp (rI0 fun i j => V.int (i - j)) (tVar i) (tC (.int c))) σ := fun H Q hE k => ⟨_, hv, j, c, rfl, rfl, k _ h0 h1⟩
theorem telT_ix {i : Nat} {j : Int} {a : Addr} {xs : List V} {x : Addr} (hv : σ[i]? = some (some (.ref a))) (hx : ∀ H, E H → SqT K H a xs) (hj : atI xs j = some (.ref x)) (h : ∀ H, E H → TupT K b g m H x) : TelT K b g E m (tOp (rIxT K) (tVar i) (tC (.int j))) σ := fun H Q hE k => ⟨_, hv, a, xs, j, _, rfl, rfl, hx H hE, hj, k x H (h H hE) hE (Frm.refl _ _ _)⟩
theorem tel_ix {i : Nat} {j : Int} {a : Addr} {xs : List V} {x : V} (hv : σ[i]? = some (some (.ref a))) (hx : ∀ H, E H → SqT K H a xs) (hj : atI xs j = some x) (h : ∀ H, E H → Thing K b g H x) : Tel K b g E (tOp (rIxT K) (tVar i) (tC (.int j))) σ := fun H Q hE k => ⟨_, hv, a, xs, j, _, rfl, rfl, hx H hE, hj, k x H (h H hE) hE (Frm.refl _ _ _)⟩
end
theorem env_re {b g : Addr} {H H1 : Hp} {P : Hp → Prop} (h : ∀ H', EnvAt b g H H' → P H') (f : Frm b g H H1) : ∀ H', EnvAt b g H1 H' → P H' := fun H' e => h H' ⟨e.1, f.trans e.2⟩
/-- tables that a law draws, as far as their changes look at them -/
def TbNe : (n : Nat) → Tb n → Prop
  | 0, _ => True
  | n + 1, xs => (show List (Ask n) from xs).length ≤ 5 ∧ ∀ x ∈ (show List (Ask n) from xs), 0 < x.2.length ∧ x.2.length ≤ 12 ∧ ∀ r ∈ x.2, 0 < r.1.length ∧ r.1.length ≤ 5 ∧ TbNe n r.2
def spTEdge (K : PySem.W.Frag) (n : Nat) : Sp := fun vs H Q _ => ∃ (b g : Addr) (v : V) (tb : Tb n), vs = [.ref b, v] ∧ Bag H b g ∧ Td K H v (tbD n tb) ∧ TbNe n tb ∧ BdA (ofD (tbD n tb)) ∧ ∀ v' H', Thing K b g H' v' → Bag H' b g → Frm b g H H' → Q v' H'
theorem tb_asks {K : PySem.W.Frag} {H : Hp} {n : Nat} {v : V} {tb : Tb n} (h : Td K H v (tbD n tb)) (ne : TbNe n tb) (bd : BdA (ofD (tbD n tb))) : ∃ a xs, v = .ref a ∧ SqT K H a xs ∧ xs.length ≤ 5 ∧ (∀ b g, ∀ x ∈ xs, Thing K b g H x) ∧
    ∀ (i : Nat) (x : V), xs[i]? = some x → ∃ m, n = m + 1 ∧ ∃ (p r : Addr) (c : V) (ys : List V), x = .ref p ∧ SqT K H p [c, .ref r] ∧ (∀ b g, Thing K b g H c) ∧ SqT K H r ys ∧ 0 < ys.length ∧ ys.length ≤ 12 ∧ (∀ b g, ∀ y ∈ ys, Thing K b g H y) ∧
      ∀ (j : Nat) (y : V), ys[j]? = some y → ∃ (q z : Addr) (e : V) (zs : List V) (tb' : Tb m), y = .ref q ∧ SqT K H q [.ref z, e] ∧ SqT K H z zs ∧ 0 < zs.length ∧ zs.length ≤ 5 ∧ (∀ b g, ∀ w ∈ zs, Thing K b g H w) ∧ Td K H e (tbD m tb') ∧ TbNe m tb' ∧ BdA (ofD (tbD m tb')) := by
  cases n with
  | zero =>
    obtain ⟨a, xs, rfl, hs, t⟩ := (show Td K H v (.tuple []) from h).tupE
    cases t
    exact ⟨a, [], rfl, hs, by decide, fun b g x hx => absurd hx List.not_mem_nil, fun i x hx => by simp at hx⟩
  | succ m =>
    obtain ⟨as, has⟩ : ∃ as : List (Ask m), (as : Tb (m + 1)) = tb := ⟨tb, rfl⟩
    subst has
    have bd : BdA (ofD (.tuple (as.map (askD m)))) := bd
    obtain ⟨_, bd⟩ := bd_parts bd
    obtain ⟨a, xs, rfl, hs, t⟩ := (show Td K H v (.tuple (as.map (askD m))) from h).tupE
    obtain ⟨n5, ne⟩ := ne
    have lx : xs.length = as.length := by rw [t.len, List.length_map]
    refine ⟨a, xs, rfl, hs, by rw [lx]; exact n5, fun b g => tds_things t bd, fun i x hx => ⟨m, rfl, ?_⟩⟩
    obtain ⟨d, ed, tx⟩ := t.getV hx
    rw [List.getElem?_map] at ed
    obtain ⟨ask, ea, rfl⟩ := Option.map_eq_some_iff.mp ed
    have ma := List.mem_of_getElem? ea
    obtain ⟨n1, n12, nr⟩ := ne ask ma
    have ba := bd _ (List.mem_map.mpr ⟨ask, ma, rfl⟩)
    have ba : BdA (ofD (.tuple [rD ask.1, rwsD m ask.2])) := ba
    obtain ⟨_, ba⟩ := bd_parts ba
    obtain ⟨p, c, rv, rfl, hp, tc, tr⟩ := td_two (show Td K H x (.tuple [rD ask.1, rwsD m ask.2]) from tx)
    obtain ⟨r, ys, rfl, hr, ty⟩ := (show Td K H rv (.tuple (ask.2.map (rwD m))) from tr).tupE
    have br : BdA (ofD (.tuple (ask.2.map (rwD m)))) := ba _ (by simp [rwsD])
    obtain ⟨_, br⟩ := bd_parts br
    have ly : ys.length = ask.2.length := by rw [ty.len, List.length_map]
    refine ⟨p, r, c, ys, rfl, hp, fun b g => thing_td tc (ba _ (by simp)), hr, by omega, by omega, fun b g => tds_things ty br, fun j y hy => ?_⟩
    obtain ⟨d, ed, tyy⟩ := ty.getV hy
    rw [List.getElem?_map] at ed
    obtain ⟨rw1, er, rfl⟩ := Option.map_eq_some_iff.mp ed
    have mr := List.mem_of_getElem? er
    obtain ⟨p1, p5, nt⟩ := nr rw1 mr
    have bw := br _ (List.mem_map.mpr ⟨rw1, mr, rfl⟩)
    have bw : BdA (ofD (.tuple [wsD rw1.1, tbD m rw1.2])) := bw
    obtain ⟨_, bw⟩ := bd_parts bw
    obtain ⟨q, zv, e, rfl, hq, tz, te⟩ := td_two (show Td K H y (.tuple [wsD rw1.1, tbD m rw1.2]) from tyy)
    obtain ⟨z, zs, rfl, hz, tzs⟩ := (show Td K H zv (.tuple (rw1.1.map rD)) from tz).tupE
    have bz : BdA (ofD (.tuple (rw1.1.map rD))) := bw _ (by simp [wsD])
    obtain ⟨_, bz⟩ := bd_parts bz
    have lz : zs.length = rw1.1.length := by rw [tzs.len, List.length_map]
    exact ⟨q, z, e, zs, rw1.2, rfl, hq, hz, by omega, by omega, fun b g => tds_things tzs bz, te, nt, bw _ (by simp)⟩
section
variable {P : Program} {w : World} {K : PySem.W.Frag} {mg : Str → Option Value} {base : Heap} {aN aO : Addr} {t1 t2 t3 t4 t5 t6 t7 : Tok}
end
end Tl
/-! plans with a change at an edge -/
namespace Tl
open PySem PySem.Spec PyProof.Rows L2 RZ
section
variable {K : PySem.W.Frag} {b g : Addr} {E : Hp → Prop} {σ : L2.St} (e : EnvOk b g E)
include e
theorem tel_len {i N : Nat} {a : Addr} (hv : σ[i]? = some (some (.ref a))) (h : ∀ H, E H → ∃ xs, SqT K H a xs ∧ xs.length = N) (hN : N ≤ 1000) : Tel K b g E (tCB (rLen K) (tCons (tVar i) tNil)) σ := fun H Q hE k => by
  obtain ⟨xs, hx, l⟩ := h H hE
  exact ⟨_, hv, a, xs, rfl, .inr hx, k (.int xs.length) H (.int (Nat.lt_of_le_of_lt (show ((xs.length : Nat) : Int).natAbs ≤ 1000 by omega) (by decide +kernel))) hE (Frm.refl _ _ _)⟩
theorem tel_len1 {i N : Nat} {a : Addr} (hv : σ[i]? = some (some (.ref a))) (h : ∀ H, E H → ∃ xs, SqT K H a xs ∧ xs.length = N) (hN : N ≤ 1000) : Tel K b g E (tOp (rI0 fun i j => V.int (i - j)) (tCB (rLen K) (tCons (tVar i) tNil)) (tC (.int 1))) σ := fun H Q hE k => by
  obtain ⟨xs, hx, l⟩ := h H hE
  exact ⟨_, hv, a, xs, rfl, .inr hx, _, _, rfl, rfl, k (.int ((xs.length : Int) - 1)) H (.int (Nat.lt_of_le_of_lt (show (((xs.length : Nat) : Int) - 1).natAbs ≤ 1001 by omega) (by decide +kernel))) hE (Frm.refl _ _ _)⟩
end
theorem td_tupT {K : PySem.W.Frag} {b g : Addr} {H : Hp} {v : V} {ds : List PyData} {m : Nat} (h : Td K H v (.tuple ds)) (bd : BdA (ofD (.tuple ds))) (l : ds.length ≤ m) : ∃ a xs, v = .ref a ∧ SqT K H a xs ∧ TdAll K H xs ds ∧ xs.length = ds.length ∧ TupT K b g m H a := by
  obtain ⟨_, bd⟩ := bd_parts bd
  obtain ⟨a, xs, rfl, hs, t⟩ := h.tupE
  exact ⟨a, xs, rfl, hs, t, t.len, xs, hs, by rw [t.len]; exact l, tds_things t bd⟩
theorem td_tri {K : PySem.W.Frag} {H : Hp} {v : V} {x : Str} {i : Int} {d : PyData} (h : Td K H v (.tuple [.str x, .int i, d])) : ∃ p c, v = .ref p ∧ SqT K H p [.str x, .int i, c] ∧ Td K H c d := by
  obtain ⟨p, xs, rfl, hp, t⟩ := h.tupE
  cases t with
  | cons h1 t =>
    cases t with
    | cons h2 t =>
      cases t with
      | cons h3 t =>
        cases t
        cases h1
        cases h2
        exact ⟨p, _, rfl, hp, h3⟩
theorem bd_tri {x : Str} {i : Int} {d : PyData} (h : BdA (ofD (.tuple [.str x, .int i, d]))) : i.natAbs < 2 ^ 200 ∧ BdA (ofD d) := by
  obtain ⟨_, h⟩ := bd_parts h
  refine ⟨?_, h d (by simp)⟩
  have h1 : BdA (.int i) := h (.int i) (by simp)
  cases h1
  assumption
def spEdge (K : PySem.W.Frag) (m n : Nat) : Sp := fun vs H Q _ => ∃ (b g : Addr) (W : Nat) (vh vg v : V) (ahead ahead' : List Rat) (t : Nd n) (gs : Nd m) (wt : Wt m n), vs = [.ref b, vh, vg, v] ∧ Bag H b g ∧ Td K H vh (ndD n t) ∧ Td K H vg (ndD m gs) ∧ Td K H v (waitD m n wt) ∧ NdOk W n ahead t ∧ NdOk W m ahead' gs ∧ WtOk m n t gs wt ∧ BdA (ofD (waitD m n wt)) ∧ ∀ v' H', Thing K b g H' v' → Bag H' b g → Frm b g H H' → Q v' H'
def spMEdge (K : PySem.W.Frag) (m n : Nat) : Sp := fun vs H Q _ => ∃ (b g : Addr) (W : Nat) (vh vq v : V) (ahead ahead' : List Rat) (t : Nd n) (q : Qn m) (mv : Mv m n), vs = [.ref b, vh, vq, v] ∧ Bag H b g ∧ Td K H vh (ndD n t) ∧ Td K H vq (qnD m q) ∧ Td K H v (mvD (waitD m) n mv) ∧ NdOk W n ahead t ∧ QnOk W ahead' q ∧ (∀ a ∈ q, NdOk W m a.2.1 a.2.2) ∧ MvOk (WtOk m) n t q mv ∧ BdA (ofD (mvD (waitD m) n mv)) ∧ ∀ v' H', Thing K b g H' v' → Bag H' b g → Frm b g H H' → Q v' H'
/-- a plan's moves, one by one -/
theorem wt_moves {m n : Nat} {t : Nd n} {gs : Nd m} {wt : Wt m n} (h : WtOk m n t gs wt) : ∃ ms : List (Mv (m - 1) n), waitD m n wt = .tuple (ms.map (mvD (waitD (m - 1)) n)) ∧ ms.length = (qsOf m gs).length ∧ (∀ (i : Nat) (q : Qn (m - 1)), (qsOf m gs)[i]? = some q → ∃ mv, ms[i]? = some mv ∧ MvOk (WtOk (m - 1)) n t q mv) ∧ (m = 0 → ms = []) := by
  cases m with
  | zero => exact ⟨[], rfl, rfl, (fun i q h => by cases h), fun _ => rfl⟩
  | succ m =>
    have al : Al (fun (q : Qn m) (y : Mv m n) => MvOk (WtOk m) n t q y) (show List (Qn m) from gs) (show List (Mv m n) from wt) := h
    exact ⟨wt, rfl, al.len.symm, fun i q e => al.get e, fun z => by omega⟩
section
variable {P : Program} {w : World} {K : PySem.W.Frag} {mg : Str → Option Value} {base : Heap} {aN aO : Addr} {t1 t2 t3 t4 t5 t6 t7 : Tok}
theorem ok_law_edge {m n : Nat} {f f1 f2 f3 : Addr} {fd fd1 fd2 fd3 : FuncData} {k : Nat} (D : Dn K mg "_law_edge" s_law_edge ["bag", "here", "goal", "plan"] f fd) (B : Blt mg) (D_law_pick : Dn K mg "_law_pick" s_law_pick ["bag", "many"] f1 fd1) (D_law_some : Dn K mg "_law_some" s_law_some ["bag", "things"] f2 fd2) (D_law_move_edge : Dn K mg "_law_move_edge" s_law_move_edge ["bag", "here", "question", "move"] f3 fd3) {sp0 : Sp} (G_law_move_edge : FnOk P w K mg base CX0 k f3 fd3 ["bag", "here", "question", "move"] sp0) (hsp : ∀ m', m = m' + 1 → sp0 = spMEdge K m' n) (hk : 2 ≤ k) :
    FnOk P w K mg base CX0 (k + 1) f fd ["bag", "here", "goal", "plan"] (spEdge K m n) := by
  have G_law_pick : FnOk P w K mg base CX0 1 f1 fd1 ["bag", "many"] spPick := ok_law_pick D_law_pick B
  have G_law_some : FnOk P w K mg base CX0 2 f2 fd2 ["bag", "things"] spSome := ok_law_some D_law_some B D_law_pick
  refine D.F.ok sc_law_edge (fun vs H Q E h => ?_) (fun cdv A outer s H vs Q E hr h => ?_)
  · obtain ⟨b, g, W, vh, vg, v, ahead, ahead', t, gs, wt, rfl, _⟩ := h
    rfl
  obtain ⟨b, g, W, vh, vg, v, ahead, ahead', t, gs, wt, rfl, hB, hh, hg, hv, hok, gok, wok, bd, q⟩ := h
  have nd := sc_law_edge.nd
  refine ⟨_, (pss_cons (ps_if (pt_cmpR op_eq (pe_callB (k_len (K := K) rfl) (by rfl) B.len PySem.boot_len (pa_cons (pv 3) pa_nil)) pe_int (nomark _)) (pss_one (ps_ret (pe_cut (pe_call G_law_some (hr.mono (by omega)) (by rfl) D_law_some.m D_law_some.F.kp D_law_some.b .nil pass0 (pa_cons (pv 0) (pa_cons (pe_lst (pa_cons (pe_tup pa_nil) (pa_cons (pe_tup (pa_cons (pe_tup (pa_cons pe_str (pa_cons pe_int (pa_cons (pe_tup pa_nil) pa_nil)))) pa_nil)) (pa_cons (pe_lst pa_nil) (pa_cons pe_non pa_nil))))) pa_nil)))))) pss_nil)
      (pss_cons (ps_if (pt_cmpR op_eq (pe_call G_law_pick (hr.mono (by omega)) (by rfl) D_law_pick.m D_law_pick.F.kp D_law_pick.b .nil pass0 (pa_cons (pv 0) (pa_cons pe_int pa_nil))) pe_int (nomark _)) (pss_one (ps_ret (pe_cut (pe_call G_law_some (hr.mono (by omega)) (by rfl) D_law_some.m D_law_some.F.kp D_law_some.b .nil pass0 (pa_cons (pv 0) (pa_cons (pe_lst (pa_cons (pe_slice (k_slT (K := K) rfl) (pv 3) po_none (po_some (pe_un un_neg pe_int))) (pa_cons (pe_op (k_cat (K := K) rfl) (pv 3) (pe_slice (k_slT (K := K) rfl) (pv 3) (po_some (pe_un un_neg pe_int)) po_none)) (pa_cons (pe_callTy (k_listOf (K := K) rfl) (by rfl) B.list (by decide +kernel) (pa_cons (pv 3) pa_nil)) pa_nil)))) pa_nil)))))) pss_nil)
      (pss_cons (ps_set (i := 4) nd rfl (.inl rfl) (pe_call G_law_pick (hr.mono (by omega)) (by rfl) D_law_pick.m D_law_pick.F.kp D_law_pick.b .nil pass0 (pa_cons (pv 0) (pa_cons (pe_callB (k_len (K := K) rfl) (by rfl) B.len PySem.boot_len (pa_cons (pv 3) pa_nil)) pa_nil))))
      (pss_one (ps_ret (pe_cut (pe_op (k_cat (K := K) rfl) (pe_op (k_cat (K := K) rfl) (pe_slice (k_slT (K := K) rfl) (pv 3) po_none (po_some (pv 4))) (pe_tup (pa_cons (pe_call G_law_move_edge (hr.mono (by omega)) (by rfl) D_law_move_edge.m D_law_move_edge.F.kp D_law_move_edge.b .nil pass0 (pa_cons (pv 0) (pa_cons (pv 1) (pa_cons (pe_ix (k_ixT (K := K) rfl) (pv 2) (pv 4) (fun _ _ => rfl)) (pa_cons (pe_ix (k_ixT (K := K) rfl) (pv 3) (pv 4) (fun _ _ => rfl)) pa_nil))))) pa_nil))) (pe_slice (k_slT (K := K) rfl) (pv 3) (po_some (pe_op op_add (pv 4) pe_int)) po_none)))))))), ?_⟩
  obtain ⟨ms, ems, lms, gms, m0⟩ := wt_moves wok
  rw [ems] at hv bd
  obtain ⟨g5, gk⟩ := ndok_qs gok
  obtain ⟨c, ys, rfl, hc, tc⟩ := qs_td hg
  have ly : ys.length = (qsOf m gs).length := by rw [tc.len, List.length_map]
  obtain ⟨a, xs, rfl, hs, t, lx, tt⟩ := td_tupT (b := b) (g := g) (m := 16) hv bd (by rw [List.length_map]; omega)
  rw [List.length_map] at lx
  refine ⟨_, rfl, a, xs, rfl, .inr hs, rfl, _, rfl, ?_⟩
  refine ite2 (fun _ => ?_) (fun l0 => ?_)
  · refine ⟨fun v' H' => Thing K b g H' v' ∧ EnvAt b g H H', ?_, fun v' H' h => q v' H' h.1 h.2.1 h.2.2⟩
    refine tel_some env_at rfl (n := 4) ?_ (by decide) (by decide) H _ (.now hB) fun v' H' tv hE f => ⟨tv, hE⟩
    repeat' (first | exact tels_nil env_at | with_reducible apply tels_cons env_at | exact tel_int env_at (by decide) | exact tel_non env_at | exact tel_bl env_at | exact tel_str env_at | exact tel_neg env_at (by decide) | exact tel_pow (m := 0) env_at ⟨by decide, by decide, by decide⟩ (by decide +kernel) | exact tel_deep env_at | exact tel_d0 env_at | exact tel_d1 env_at | (refine tel_var env_at rfl ?_; assumption) | with_reducible apply tel_tup env_at | with_reducible apply tel_lst env_at | (with_reducible refine telX_repD (k := 0) env_at ?_ (by decide) ?_ (by decide)) | exact telI_sub env_at rfl (by omega) (by omega) | (exact tel_add1 env_at rfl (by omega)) | with_reducible apply telX_listOf env_at | with_reducible apply telX_cat env_at | with_reducible apply telT_init env_at | with_reducible apply telT_last env_at | with_reducible apply telT_rev env_at | with_reducible apply telX_tup env_at | (refine telX_var env_at rfl ?_ (by decide); assumption) | (refine telX_var64 env_at rfl ?_ (by decide); assumption) | with_reducible apply telX env_at | (with_reducible apply telT_to env_at) | (with_reducible apply telT_from env_at) | exact telI_var env_at rfl (by omega) (by omega) | exact telI_add1 env_at rfl (by omega) (by omega) | decide | omega)
  have l0 : 0 < xs.length := by
    rcases Nat.eq_zero_or_pos xs.length with z | z
    · rw [z] at l0
      exact absurd rfl l0
    · exact z
  refine ⟨_, rfl, b, g, 6, rfl, hB, by decide, by decide, fun r1 H1 r10 r11 B1 F1 => ⟨rfl, _, rfl, ?_⟩⟩
  have el : ∀ H', EnvAt b g H1 H' → TupT K b g 16 H' a := TupT.env (m := 16) B1 (TupT.keep hB F1 tt)
  have k1 := hB.kt (K := K) F1
  refine ite2 (fun _ => ?_) (fun _ => ?_)
  · refine ⟨fun v' H' => Thing K b g H' v' ∧ EnvAt b g H1 H', ?_, fun v' H' h => q v' H' h.1 h.2.1 (F1.trans h.2.2)⟩
    refine tel_some env_at rfl (n := 3) ?_ (by decide) (by decide) H1 _ (.now B1) fun v' H' tv hE f => ⟨tv, hE⟩
    repeat' (first | exact tels_nil env_at | with_reducible apply tels_cons env_at | exact tel_int env_at (by decide) | exact tel_non env_at | exact tel_bl env_at | exact tel_str env_at | exact tel_neg env_at (by decide) | exact tel_pow (m := 0) env_at ⟨by decide, by decide, by decide⟩ (by decide +kernel) | exact tel_deep env_at | exact tel_d0 env_at | exact tel_d1 env_at | (refine tel_var env_at rfl ?_; assumption) | with_reducible apply tel_tup env_at | with_reducible apply tel_lst env_at | (with_reducible refine telX_repD (k := 0) env_at ?_ (by decide) ?_ (by decide)) | exact telI_sub env_at rfl (by omega) (by omega) | (exact tel_add1 env_at rfl (by omega)) | with_reducible apply telX_listOf env_at | with_reducible apply telX_cat env_at | with_reducible apply telT_init env_at | with_reducible apply telT_last env_at | with_reducible apply telT_rev env_at | with_reducible apply telX_tup env_at | (refine telX_var env_at rfl ?_ (by decide); assumption) | (refine telX_var64 env_at rfl ?_ (by decide); assumption) | with_reducible apply telX env_at | (with_reducible apply telT_to env_at) | (with_reducible apply telT_from env_at) | exact telI_var env_at rfl (by omega) (by omega) | exact telI_add1 env_at rfl (by omega) (by omega) | decide | omega)
  refine ⟨_, rfl, _, rfl, a, xs, rfl, .inr (k1 _ _ hs), b, g, _, rfl, B1, by omega, by omega, fun r H2 r0 r2 B2 F2 => ?_⟩
  obtain ⟨i, rfl⟩ : ∃ i : Nat, r = (i : Int) := ⟨r.toNat, by omega⟩
  have il : i < xs.length := by omega
  have el := env_re el F2
  have F02 := F1.trans F2
  have k2 := hB.kt (K := K) F02
  obtain ⟨qn, eqn⟩ : ∃ qn, (qsOf m gs)[i]? = some qn := ⟨_, List.getElem?_eq_getElem (by omega)⟩
  obtain ⟨mv, emv, mok⟩ := gms i qn eqn
  obtain ⟨m', rfl⟩ : ∃ m', m = m' + 1 := by
    cases m with
    | zero => cases eqn
    | succ m => exact ⟨m, rfl⟩
  have hsp := hsp m' rfl
  subst hsp
  obtain ⟨y, ey, ty⟩ := tc.get (i := i) (d := qnD m' qn) (by rw [List.getElem?_map, eqn]; rfl)
  obtain ⟨x, ex, tx⟩ := t.get (i := i) (d := mvD (waitD m') n mv) (by
    have emv : (show List (Mv m' n) from ms)[i]? = some mv := emv
    rw [List.getElem?_map, emv]; rfl)
  obtain ⟨_, bds⟩ := bd_parts bd
  have bmv : BdA (ofD (mvD (waitD m') n mv)) := bds _ (List.mem_map.mpr ⟨mv, List.mem_of_getElem? emv, rfl⟩)
  refine ⟨fun v' H' => Thing K b g H' v' ∧ EnvAt b g H2 H', ?_, fun v' H' h => q v' H' h.1 h.2.1 (F02.trans h.2.2)⟩
  refine telX env_at (telX_cat env_at (telX_cat env_at ?_ (telX_tup (n := 1) env_at (tels_cons env_at (fun H6 R hE6 k6 => ?_) (tels_nil env_at)) (by decide) (by decide)) (by decide)) ?_ (by decide)) H2 _ (.now B2) fun v' H' tv hE f => ⟨tv, hE⟩
  · repeat' (first | exact tels_nil env_at | with_reducible apply tels_cons env_at | exact tel_int env_at (by decide) | exact tel_non env_at | exact tel_bl env_at | exact tel_str env_at | exact tel_neg env_at (by decide) | exact tel_pow (m := 0) env_at ⟨by decide, by decide, by decide⟩ (by decide +kernel) | exact tel_deep env_at | exact tel_d0 env_at | exact tel_d1 env_at | (refine tel_var env_at rfl ?_; assumption) | with_reducible apply tel_tup env_at | with_reducible apply tel_lst env_at | (with_reducible refine telX_repD (k := 0) env_at ?_ (by decide) ?_ (by decide)) | exact telI_sub env_at rfl (by omega) (by omega) | (exact tel_add1 env_at rfl (by omega)) | with_reducible apply telX_listOf env_at | with_reducible apply telX_cat env_at | with_reducible apply telT_init env_at | with_reducible apply telT_last env_at | with_reducible apply telT_rev env_at | with_reducible apply telX_tup env_at | (refine telX_var env_at rfl ?_ (by decide); assumption) | (refine telX_var64 env_at rfl ?_ (by decide); assumption) | with_reducible apply telX env_at | (with_reducible apply telT_to env_at) | (with_reducible apply telT_from env_at) | exact telI_var env_at rfl (by omega) (by omega) | exact telI_add1 env_at rfl (by omega) (by omega) | decide | omega)
  · have k6' := hB.kt (K := K) (F02.trans hE6.2)
    refine ⟨_, rfl, _, rfl, _, rfl, _, rfl, c, ys, (i : Int), y, rfl, rfl, k6' _ _ hc, at_of (j := i) rfl ey, _, rfl, _, rfl, a, xs, (i : Int), x, rfl, rfl, k6' _ _ hs, at_of (j := i) rfl ex, ?_⟩
    exact ⟨b, g, W, vh, y, x, ahead, ahead', _, qn, mv, rfl, hE6.1, hh.keep k6', ty.keep k6', tx.keep k6', hok, (gk qn (List.mem_of_getElem? eqn)).1, (gk qn (List.mem_of_getElem? eqn)).2, mok, bmv, fun v' H' tv B' F' => k6 v' H' tv ⟨B', hE6.2.trans F'⟩ F'⟩
  · repeat' (first | exact tels_nil env_at | with_reducible apply tels_cons env_at | exact tel_int env_at (by decide) | exact tel_non env_at | exact tel_bl env_at | exact tel_str env_at | exact tel_neg env_at (by decide) | exact tel_pow (m := 0) env_at ⟨by decide, by decide, by decide⟩ (by decide +kernel) | exact tel_deep env_at | exact tel_d0 env_at | exact tel_d1 env_at | (refine tel_var env_at rfl ?_; assumption) | with_reducible apply tel_tup env_at | with_reducible apply tel_lst env_at | (with_reducible refine telX_repD (k := 0) env_at ?_ (by decide) ?_ (by decide)) | exact telI_sub env_at rfl (by omega) (by omega) | (exact tel_add1 env_at rfl (by omega)) | with_reducible apply telX_listOf env_at | with_reducible apply telX_cat env_at | with_reducible apply telT_init env_at | with_reducible apply telT_last env_at | with_reducible apply telT_rev env_at | with_reducible apply telX_tup env_at | (refine telX_var env_at rfl ?_ (by decide); assumption) | (refine telX_var64 env_at rfl ?_ (by decide); assumption) | with_reducible apply telX env_at | (with_reducible apply telT_to env_at) | (with_reducible apply telT_from env_at) | exact telI_var env_at rfl (by omega) (by omega) | exact telI_add1 env_at rfl (by omega) (by omega) | decide | omega)
theorem ok_law_move_edge {m n : Nat} {f f1 f2 f3 : Addr} {fd fd1 fd2 fd3 : FuncData} {k : Nat} (D : Dn K mg "_law_move_edge" s_law_move_edge ["bag", "here", "question", "move"] f fd) (B : Blt mg) (D_law_pick : Dn K mg "_law_pick" s_law_pick ["bag", "many"] f1 fd1) (D_law_some : Dn K mg "_law_some" s_law_some ["bag", "things"] f2 fd2) (D_law_edge : Dn K mg "_law_edge" s_law_edge ["bag", "here", "goal", "plan"] f3 fd3) (G_law_edge : FnOk P w K mg base CX0 k f3 fd3 ["bag", "here", "goal", "plan"] (spEdge K m n)) {sp0 : Sp} (G_law_move_edge : FnOk P w K mg base CX0 k f fd ["bag", "here", "question", "move"] sp0) (hsp : ∀ n', n = n' + 1 → sp0 = spMEdge K m n') (hk : 2 ≤ k) :
    FnOk P w K mg base CX0 (k + 1) f fd ["bag", "here", "question", "move"] (spMEdge K m n) := by
  have G_law_pick : FnOk P w K mg base CX0 1 f1 fd1 ["bag", "many"] spPick := ok_law_pick D_law_pick B
  have G_law_some : FnOk P w K mg base CX0 2 f2 fd2 ["bag", "things"] spSome := ok_law_some D_law_some B D_law_pick
  refine D.F.ok sc_law_move_edge (fun vs H Q E h => ?_) (fun cdv A outer s H vs Q E hr h => ?_)
  · obtain ⟨b, g, W, vh, vq, v, ahead, ahead', t, q, mv, rfl, _⟩ := h
    rfl
  obtain ⟨b, g, W, vh, vq, v, ahead, ahead', t, qn, mv, rfl, hB, hh, hq, hv, hok, qok, nok, mok, bd, q⟩ := h
  have nd := sc_law_move_edge.nd
  have D_law_move_edge := D
  refine ⟨_, (pss_cons (ps_asg (pv 3) (k_tup (K := K) (n := 3) rfl rfl (pgs_cons (pg_name (i := 4) nd rfl (.inl rfl)) (pgs_cons (pg_name (i := 5) nd rfl (.inl rfl)) (pgs_cons (pg_name (i := 6) nd rfl (.inl rfl)) pgs_nil)))))
      (pss_cons (ps_if (pt_cmpR op_eq (pv 4) pe_str (nomark _)) (pss_cons (ps_set (i := 7) nd rfl (.inl rfl) (pe_ix (k_ixT (K := K) rfl) (pe_ix (k_ixT (K := K) rfl) (pv 2) (pv 5) (fun _ _ => rfl)) pe_int (fun _ _ => rfl)))
      (pss_cons (ps_join (ps_if (PW.pt (pw_and (pt_cmpR op_gt (pe_callB (k_len (K := K) rfl) (by rfl) B.len PySem.boot_len (pa_cons (pv 7) pa_nil)) pe_int (nomark _)) (pw_and1 (pt_cmpR op_eq (pe_call G_law_pick (hr.mono (by omega)) (by rfl) D_law_pick.m D_law_pick.F.kp D_law_pick.b .nil pass0 (pa_cons (pv 0) (pa_cons pe_int pa_nil))) pe_int (nomark _))))) (pss_one (ps_ret (pe_cut (pe_tup (pa_cons pe_str (pa_cons (pv 5) (pa_cons (pe_call G_law_edge (hr.mono (by omega)) (by rfl) D_law_edge.m D_law_edge.F.kp D_law_edge.b .nil pass0 (pa_cons (pv 0) (pa_cons (pv 1) (pa_cons (pv 7) (pa_cons (pv 6) pa_nil))))) pa_nil))))))) pss_nil))
      (pss_cons (ps_set (i := 8) nd rfl (.inl rfl) (pe_cut (pe_lst (pa_cons (pe_tup (pa_cons pe_str (pa_cons (pe_callB (k_len (K := K) rfl) (by rfl) B.len PySem.boot_len (pa_cons (pv 2) pa_nil)) (pa_cons (pv 6) pa_nil)))) (pa_cons (pe_tup (pa_cons pe_str (pa_cons (pe_un un_neg pe_int) (pa_cons (pv 6) pa_nil)))) (pa_cons (pe_tup (pa_cons pe_str (pa_cons (pv 5) pa_nil))) (pa_cons (pe_tup (pa_cons pe_str (pa_cons (pv 5) (pa_cons (pv 6) (pa_cons (pe_tup pa_nil) pa_nil))))) pa_nil)))))))
      (pss_cons (ps_set (i := 8) nd rfl (.inl rfl) (pe_cut (pe_op op_cat (pv 8) (pe_lst (pa_cons (pe_tup (pa_cons pe_str (pa_cons (pe_op op_sub (pe_callB (k_len (K := K) rfl) (by rfl) B.len PySem.boot_len (pa_cons (pv 2) pa_nil)) pe_int) (pa_cons (pv 6) pa_nil)))) (pa_cons (pe_lst (pa_cons pe_str (pa_cons (pv 5) (pa_cons (pv 6) pa_nil)))) (pa_cons (pe_tup (pa_cons pe_str (pa_cons pe_bl (pa_cons (pv 6) pa_nil)))) pa_nil)))))))
      (pss_one (ps_ret (pe_cut (pe_call G_law_some (hr.mono (by omega)) (by rfl) D_law_some.m D_law_some.F.kp D_law_some.b .nil pass0 (pa_cons (pv 0) (pa_cons (pe_op op_cat (pv 8) (pe_lst (pa_cons (pe_tup (pa_cons pe_str (pa_cons (pv 5) (pa_cons (pe_op (k_cat (K := K) rfl) (pv 6) (pe_tup (pa_cons (pe_tup (pa_cons pe_str (pa_cons pe_int (pa_cons (pe_tup pa_nil) pa_nil)))) pa_nil))) pa_nil)))) pa_nil))) pa_nil)))))))))) pss_nil)
      (pss_cons (ps_set (i := 9) nd rfl (.inl rfl) (pe_ix (k_ixT (K := K) rfl) (pv 1) (pv 5) (fun _ _ => rfl)))
      (pss_cons (ps_if (pt_cmpR op_eq (pe_call G_law_pick (hr.mono (by omega)) (by rfl) D_law_pick.m D_law_pick.F.kp D_law_pick.b .nil pass0 (pa_cons (pv 0) (pa_cons pe_int pa_nil))) pe_int (nomark _)) (pss_cons (ps_set (i := 10) nd rfl (.inl rfl) (pe_call G_law_pick (hr.mono (by omega)) (by rfl) D_law_pick.m D_law_pick.F.kp D_law_pick.b .nil pass0 (pa_cons (pv 0) (pa_cons (pe_callB (k_len (K := K) rfl) (by rfl) B.len PySem.boot_len (pa_cons (pv 6) pa_nil)) pa_nil))))
      (pss_cons (ps_set (i := 11) nd rfl (.inl rfl) (pe_call G_law_move_edge (hr.mono (by omega)) (by rfl) D_law_move_edge.m D_law_move_edge.F.kp D_law_move_edge.b .nil pass0 (pa_cons (pv 0) (pa_cons (pe_ix (k_ixT (K := K) rfl) (pe_ix (k_ixT (K := K) rfl) (pv 9) (pv 10) (fun _ _ => rfl)) pe_int (fun _ _ => rfl)) (pa_cons (pv 2) (pa_cons (pe_ix (k_ixT (K := K) rfl) (pv 6) (pv 10) (fun _ _ => rfl)) pa_nil))))))
      (pss_one (ps_ret (pe_cut (pe_tup (pa_cons pe_str (pa_cons (pv 5) (pa_cons (pe_op (k_cat (K := K) rfl) (pe_op (k_cat (K := K) rfl) (pe_slice (k_slT (K := K) rfl) (pv 6) po_none (po_some (pv 10))) (pe_tup (pa_cons (pv 11) pa_nil))) (pe_slice (k_slT (K := K) rfl) (pv 6) (po_some (pe_op op_add (pv 10) pe_int)) po_none)) pa_nil))))))))) pss_nil)
      (pss_cons (ps_set (i := 8) nd rfl (.inl rfl) (pe_cut (pe_lst (pa_cons (pe_tup (pa_cons pe_str (pa_cons (pe_callB (k_len (K := K) rfl) (by rfl) B.len PySem.boot_len (pa_cons (pv 1) pa_nil)) (pa_cons (pv 6) pa_nil)))) (pa_cons (pe_tup (pa_cons pe_str (pa_cons (pe_un un_neg pe_int) (pa_cons (pv 6) pa_nil)))) (pa_cons (pe_tup (pa_cons pe_str (pa_cons (pv 5) (pa_cons (pe_slice (k_slT (K := K) rfl) (pv 6) po_none (po_some (pe_un un_neg pe_int))) pa_nil)))) (pa_cons (pe_tup (pa_cons pe_str (pa_cons (pv 5) (pa_cons (pe_op (k_cat (K := K) rfl) (pv 6) (pe_slice (k_slT (K := K) rfl) (pv 6) (po_some (pe_un un_neg pe_int)) po_none)) pa_nil)))) pa_nil)))))))
      (pss_one (ps_ret (pe_cut (pe_call G_law_some (hr.mono (by omega)) (by rfl) D_law_some.m D_law_some.F.kp D_law_some.b .nil pass0 (pa_cons (pv 0) (pa_cons (pe_op op_cat (pv 8) (pe_lst (pa_cons (pe_tup (pa_cons pe_str (pa_cons (pv 5) (pa_cons (pe_callTy (k_listOf (K := K) rfl) (by rfl) B.list (by decide +kernel) (pa_cons (pv 6) pa_nil)) pa_nil)))) (pa_cons (pe_tup (pa_cons pe_str (pa_cons pe_bl (pa_cons (pv 6) pa_nil)))) (pa_cons (pe_tup (pa_cons pe_str (pa_cons (pv 5) (pa_cons (pv 6) pa_nil)))) (pa_cons (pe_tup (pa_cons pe_str (pa_cons (pv 5) pa_nil))) pa_nil)))))) pa_nil))))))))))), ?_⟩
  obtain ⟨c, ys, rfl, hc, tc⟩ := id hq.tupE
  have ly : ys.length = qn.length := by rw [tc.len, List.length_map]
  have q12 := qok.most
  rcases mv_cases mok with ⟨a, wt, an, e, ea, wok⟩ | ⟨n', en, i, ms, qs, qm, ht, e, _, eq, al⟩
  · rw [e] at hv bd
    obtain ⟨p, vl, rfl, hp, tl⟩ := td_tri hv
    obtain ⟨ba, bl⟩ := bd_tri bd
    refine ⟨_, rfl, p, _, rfl, hp, rfl, _, _, rfl, _, _, rfl, _, _, rfl, rfl, ?_⟩
    refine ⟨_, rfl, rfl, _, rfl, ?_⟩
    rw [decide_eq_true rfl]
    refine iteT ?_
    obtain ⟨y, ey, ty⟩ := tc.get (i := a) (d := anD m an) (by rw [List.getElem?_map, ea]; rfl)
    obtain ⟨pn, vw, vz, vt, rfl, hpn, tw, tz, tt⟩ := td_an ty
    refine ⟨_, rfl, _, rfl, c, ys, (a : Int), _, rfl, rfl, hc, at_of (j := a) rfl ey, pn, _, 2, _, rfl, rfl, hpn, at_of (j := 2) rfl rfl, ?_⟩
    obtain ⟨ab, bs, rfl, hbs, tbs⟩ := qs_td tt
    have nan := nok an (List.mem_of_getElem? ea)
    obtain ⟨ms, ems, lms, _, _⟩ := wt_moves wok
    have hl := tl
    have bl' := bl
    rw [ems] at hl bl'
    obtain ⟨n5, _⟩ := ndok_qs nan
    obtain ⟨al, ls, rfl, hls, tls, lls, tup⟩ := td_tupT (b := b) (g := g) (m := 16) hl bl' (by rw [List.length_map]; omega)
    refine ⟨fun σ' H' => σ' = [some (.ref b), some vh, some (.ref c), some (.ref p), some (.str "tell"), some (.int (a : Int)), some (.ref al), some (.ref ab), none, none, none, none] ∧ Bag H' b g ∧ Frm b g H H', fun σ' H1 h => ?_, ?_⟩
    rotate_left
    · refine ⟨_, rfl, ab, bs, rfl, .inr hbs, _, _, rfl, rfl, _, rfl, ?_⟩
      refine ite2 (fun _ => ?_) (fun _ => ⟨rfl, hB, Frm.refl _ _ _⟩)
      refine ⟨_, rfl, b, g, 2, rfl, hB, by decide, by decide, fun r4 H4 _ _ B4 F4 => ⟨rfl, _, rfl, ?_⟩⟩
      refine ite2 (fun _ => ?_) (fun _ => ⟨rfl, B4, F4⟩)
      refine ⟨fun v' H' => Thing K b g H' v' ∧ EnvAt b g H4 H', ?_, fun v' H' h => q v' H' h.1 h.2.1 (F4.trans h.2.2)⟩
      have en : ∀ H', EnvAt b g H4 H' → Thing K b g H' (.int (a : Int)) := fun H' _ => .int ba
      refine tel_tup (n := 3) env_at (tels_cons env_at (tel_str env_at) (tels_cons env_at (tel_var env_at rfl en) (tels_cons env_at (fun H6 R hE6 k6 => ?_) (tels_nil env_at)))) (by decide) H4 _ (.now B4) fun v' H' tv hE f => ⟨tv, hE⟩
      have k6' := hB.kt (K := K) (F4.trans hE6.2)
      exact ⟨_, rfl, _, rfl, _, rfl, _, rfl, b, g, W, vh, .ref ab, .ref al, ahead, an.2.1, t, an.2.2, wt, rfl, hE6.1, hh.keep k6', tt.keep k6', tl.keep k6', hok, nan, wok, bl, fun v' H' tv B' F' => k6 v' H' tv ⟨B', hE6.2.trans F'⟩ F'⟩
    obtain ⟨rfl, B1, F1⟩ := h
    have k1 := hB.kt (K := K) F1
    have el : ∀ H', EnvAt b g H1 H' → TupT K b g 16 H' al := TupT.env (m := 16) B1 (TupT.keep hB F1 tup)
    have en : ∀ H', EnvAt b g H1 H' → Thing K b g H' (.int (a : Int)) := fun H' _ => .int ba
    have eq : ∀ H', EnvAt b g H1 H' → ∃ xs, SqT K H' c xs ∧ xs.length = ys.length := fun H' e => ⟨ys, B1.kt e.2 _ _ (k1 _ _ hc), rfl⟩
    -- some
    refine ⟨fun v' H' => ∃ s1, v' = .ref s1 ∧ LstT K b g 4 4 H' s1 ∧ EnvAt b g H1 H', telL_lst (n := 4) env_at ?_ (by decide) H1 _ (.now B1) fun s1 H' t1 hE f => ⟨s1, rfl, t1, hE⟩, ?_⟩
    · repeat' (first | exact tels_nil env_at | with_reducible apply tels_cons env_at | exact tel_int env_at (by decide) | exact tel_non env_at | exact tel_bl env_at | exact tel_str env_at | exact tel_neg env_at (by decide) | exact tel_pow (m := 0) env_at ⟨by decide, by decide, by decide⟩ (by decide +kernel) | exact tel_deep env_at | exact tel_d0 env_at | exact tel_d1 env_at | (refine tel_var env_at rfl ?_; assumption) | with_reducible apply tel_tup env_at | with_reducible apply tel_lst env_at | exact tel_len env_at rfl (by assumption) (by omega) | exact tel_len1 env_at rfl (by assumption) (by omega) | (with_reducible refine telX_repD (k := 0) env_at ?_ (by decide) ?_ (by decide)) | exact telI_sub env_at rfl (by omega) (by omega) | (exact tel_add1 env_at rfl (by omega)) | with_reducible apply telX_listOf env_at | with_reducible apply telX_cat env_at | with_reducible apply telT_init env_at | with_reducible apply telT_last env_at | with_reducible apply telT_rev env_at | with_reducible apply telX_tup env_at | (refine telX_var env_at rfl ?_ (by decide); assumption) | (refine telX_var64 env_at rfl ?_ (by decide); assumption) | with_reducible apply telX env_at | (with_reducible apply telT_to env_at) | (with_reducible apply telT_from env_at) | exact telI_var env_at rfl (by omega) (by omega) | exact telI_add1 env_at rfl (by omega) (by omega) | decide | omega)
    rintro _ H2 ⟨s1, rfl, ts1, B2, F2⟩
    have el := env_re el F2
    have en := env_re en F2
    have eq := env_re eq F2
    have es := fun H' (e : EnvAt b g H2 H') => ts1.keep B2 e.2
    refine ⟨fun v' H' => ∃ s1, v' = .ref s1 ∧ LstT K b g (4 + 3) (4 + 3) H' s1 ∧ EnvAt b g H2 H', telL_cat env_at (telL_var env_at rfl es) (telL_lst (n := 3) env_at ?_ (by decide)) (by decide) H2 _ (.now B2) fun s1 H' t1 hE f => ⟨s1, rfl, t1, hE⟩, ?_⟩
    · repeat' (first | exact tels_nil env_at | with_reducible apply tels_cons env_at | exact tel_int env_at (by decide) | exact tel_non env_at | exact tel_bl env_at | exact tel_str env_at | exact tel_neg env_at (by decide) | exact tel_pow (m := 0) env_at ⟨by decide, by decide, by decide⟩ (by decide +kernel) | exact tel_deep env_at | exact tel_d0 env_at | exact tel_d1 env_at | (refine tel_var env_at rfl ?_; assumption) | with_reducible apply tel_tup env_at | with_reducible apply tel_lst env_at | exact tel_len env_at rfl (by assumption) (by omega) | exact tel_len1 env_at rfl (by assumption) (by omega) | (with_reducible refine telX_repD (k := 0) env_at ?_ (by decide) ?_ (by decide)) | exact telI_sub env_at rfl (by omega) (by omega) | (exact tel_add1 env_at rfl (by omega)) | with_reducible apply telX_listOf env_at | with_reducible apply telX_cat env_at | with_reducible apply telT_init env_at | with_reducible apply telT_last env_at | with_reducible apply telT_rev env_at | with_reducible apply telX_tup env_at | (refine telX_var env_at rfl ?_ (by decide); assumption) | (refine telX_var64 env_at rfl ?_ (by decide); assumption) | with_reducible apply telX env_at | (with_reducible apply telT_to env_at) | (with_reducible apply telT_from env_at) | exact telI_var env_at rfl (by omega) (by omega) | exact telI_add1 env_at rfl (by omega) (by omega) | decide | omega)
    rintro _ H3 ⟨s2, rfl, ts2, B3, F3⟩
    have el := env_re el F3
    have en := env_re en F3
    have es := fun H' (e : EnvAt b g H3 H') => ts2.keep B3 e.2
    refine ⟨fun v' H' => Thing K b g H' v' ∧ EnvAt b g H3 H', ?_, fun v' H' h => q v' H' h.1 h.2.1 (F1.trans (F2.trans (F3.trans h.2.2)))⟩
    refine tel_someL env_at rfl (telL_cat env_at (telL_var env_at rfl es) (telL_lst (n := 1) env_at ?_ (by decide)) (by decide)) (by decide) (by decide) H3 _ (.now B3) fun v' H' tv hE f => ⟨tv, hE⟩
    repeat' (first | exact tels_nil env_at | with_reducible apply tels_cons env_at | exact tel_int env_at (by decide) | exact tel_non env_at | exact tel_bl env_at | exact tel_str env_at | exact tel_neg env_at (by decide) | exact tel_pow (m := 0) env_at ⟨by decide, by decide, by decide⟩ (by decide +kernel) | exact tel_deep env_at | exact tel_d0 env_at | exact tel_d1 env_at | (refine tel_var env_at rfl ?_; assumption) | with_reducible apply tel_tup env_at | with_reducible apply tel_lst env_at | exact tel_len env_at rfl (by assumption) (by omega) | exact tel_len1 env_at rfl (by assumption) (by omega) | (with_reducible refine telX_repD (k := 0) env_at ?_ (by decide) ?_ (by decide)) | exact telI_sub env_at rfl (by omega) (by omega) | (exact tel_add1 env_at rfl (by omega)) | with_reducible apply telX_listOf env_at | with_reducible apply telX_cat env_at | with_reducible apply telT_init env_at | with_reducible apply telT_last env_at | with_reducible apply telT_rev env_at | with_reducible apply telX_tup env_at | (refine telX_var env_at rfl ?_ (by decide); assumption) | (refine telX_var64 env_at rfl ?_ (by decide); assumption) | with_reducible apply telX env_at | (with_reducible apply telT_to env_at) | (with_reducible apply telT_from env_at) | exact telI_var env_at rfl (by omega) (by omega) | exact telI_add1 env_at rfl (by omega) (by omega) | decide | omega)
  · subst en
    cases ht
    have hsp := hsp n' rfl
    subst hsp
    rw [e] at hv bd
    obtain ⟨p, vl, rfl, hp, tl⟩ := td_tri hv
    obtain ⟨ba, bl⟩ := bd_tri bd
    refine ⟨_, rfl, p, _, rfl, hp, rfl, _, _, rfl, _, _, rfl, _, _, rfl, rfl, ?_⟩
    refine ⟨_, rfl, rfl, _, rfl, ?_⟩
    rw [decide_eq_false (show ¬ V.str "ask" = V.str "tell" from fun z => absurd (V.str.inj z) (by decide +kernel))]
    refine iteF ?_
    have hok : qs.length ≤ 5 ∧ ∀ q ∈ qs, QnOk W ahead q ∧ ∀ a ∈ q, NdOk W n' a.2.1 a.2.2 := hok
    obtain ⟨mqok, mnok⟩ := hok.2 qm (List.mem_of_getElem? eq)
    have m12 := mqok.most
    have m1 := mqok.one
    obtain ⟨ch, zs, rfl, hch, tch⟩ := (show Td K H vh (.tuple (qs.map (qnD n'))) from hh).tupE
    have lz : zs.length = qs.length := by rw [tch.len, List.length_map]
    obtain ⟨y, ey, ty⟩ := tch.get (i := i) (d := qnD n' qm) (by rw [List.getElem?_map, eq]; rfl)
    obtain ⟨p', ww, rfl, hp', tp'⟩ := id ty.tupE
    have lww : ww.length = qm.length := by rw [tp'.len, List.length_map]
    have lms : qm.length = ms.length := al.len
    obtain ⟨cl, ls, rfl, hls, tls, lls, tup⟩ := td_tupT (b := b) (g := g) (m := 16) tl bl (by rw [List.length_map]; omega)
    rw [List.length_map] at lls
    have z5 := hok.1
    refine ⟨_, rfl, _, rfl, ch, zs, (i : Int), _, rfl, rfl, hch, at_of (j := i) rfl ey, ?_⟩
    refine ⟨_, rfl, b, g, 2, rfl, hB, by decide, by decide, fun r1 H1 _ _ B1 F1 => ⟨rfl, _, rfl, ?_⟩⟩
    have k1 := hB.kt (K := K) F1
    have el : ∀ H', EnvAt b g H1 H' → TupT K b g 16 H' cl := TupT.env (m := 16) B1 (TupT.keep hB F1 tup)
    have en : ∀ H', EnvAt b g H1 H' → Thing K b g H' (.int (i : Int)) := fun H' _ => .int ba
    refine ite2 (fun _ => ?_) (fun _ => ?_)
    · refine ⟨_, rfl, _, rfl, cl, ls, rfl, .inr (k1 _ _ hls), b, g, _, rfl, B1, by omega, by omega, fun r H2 r0 r2 B2 F2 => ?_⟩
      obtain ⟨j, rfl⟩ : ∃ j : Nat, r = (j : Int) := ⟨r.toNat, by omega⟩
      have jl : j < ls.length := by omega
      have F02 := F1.trans F2
      have k2 := hB.kt (K := K) F02
      obtain ⟨an, ean⟩ : ∃ an, qm[j]? = some an := ⟨_, List.getElem?_eq_getElem (by omega)⟩
      obtain ⟨mv', emv, mok'⟩ := al.get ean
      obtain ⟨y2, ey2, ty2⟩ := tp'.get (i := j) (d := anD n' an) (by rw [List.getElem?_map, ean]; rfl)
      obtain ⟨pn, vw, vz, vt, rfl, hpn, tw, tz, tt⟩ := td_an ty2
      obtain ⟨x, ex, tx⟩ := tls.get (i := j) (d := mvD (waitD m) n' mv') (by rw [List.getElem?_map, emv]; rfl)
      obtain ⟨_, bds⟩ := bd_parts bl
      have bmv : BdA (ofD (mvD (waitD m) n' mv')) := bds _ (List.mem_map.mpr ⟨mv', List.mem_of_getElem? emv, rfl⟩)
      refine ⟨_, rfl, _, rfl, _, rfl, p', ww, (j : Int), _, rfl, rfl, k2 _ _ hp', at_of (j := j) rfl ey2, pn, _, 2, _, rfl, rfl, k2 _ _ hpn, at_of (j := 2) rfl rfl, _, rfl, _, rfl, _, rfl, cl, ls, (j : Int), x, rfl, rfl, k2 _ _ hls, at_of (j := j) rfl ex, ?_⟩
      refine ⟨b, g, W, vt, .ref c, x, an.2.1, ahead', an.2.2, qn, mv', rfl, B2, tt.keep k2, hq.keep k2, tx.keep k2, mnok an (List.mem_of_getElem? ean), qok, nok, mok', bmv, fun iv H3 tiv B3 F3 => ?_⟩
      have el := env_re el (F2.trans F3)
      have en := env_re en (F2.trans F3)
      have ei := Thing.env B3 tiv
      refine ⟨fun v' H' => Thing K b g H' v' ∧ EnvAt b g H3 H', ?_, fun v' H' h => q v' H' h.1 h.2.1 (F02.trans (F3.trans h.2.2))⟩
      refine tel_tup (n := 3) env_at ?_ (by decide) H3 _ (.now B3) fun v' H' tv hE f => ⟨tv, hE⟩
      repeat' (first | exact tels_nil env_at | with_reducible apply tels_cons env_at | exact tel_int env_at (by decide) | exact tel_non env_at | exact tel_bl env_at | exact tel_str env_at | exact tel_neg env_at (by decide) | exact tel_pow (m := 0) env_at ⟨by decide, by decide, by decide⟩ (by decide +kernel) | exact tel_deep env_at | exact tel_d0 env_at | exact tel_d1 env_at | (refine tel_var env_at rfl ?_; assumption) | with_reducible apply tel_tup env_at | with_reducible apply tel_lst env_at | exact tel_len env_at rfl (by assumption) (by omega) | exact tel_len1 env_at rfl (by assumption) (by omega) | (with_reducible refine telX_repD (k := 0) env_at ?_ (by decide) ?_ (by decide)) | exact telI_sub env_at rfl (by omega) (by omega) | (exact tel_add1 env_at rfl (by omega)) | with_reducible apply telX_listOf env_at | with_reducible apply telX_cat env_at | with_reducible apply telT_init env_at | with_reducible apply telT_last env_at | with_reducible apply telT_rev env_at | with_reducible apply telX_tup env_at | (refine telX_var env_at rfl ?_ (by decide); assumption) | (refine telX_var64 env_at rfl ?_ (by decide); assumption) | with_reducible apply telX env_at | (with_reducible apply telT_to env_at) | (with_reducible apply telT_from env_at) | exact telI_var env_at rfl (by omega) (by omega) | exact telI_add1 env_at rfl (by omega) (by omega) | decide | omega)
    have eq : ∀ H', EnvAt b g H1 H' → ∃ xs, SqT K H' ch xs ∧ xs.length = zs.length := fun H' e => ⟨zs, B1.kt e.2 _ _ (k1 _ _ hch), rfl⟩
    refine ⟨fun v' H' => ∃ s1, v' = .ref s1 ∧ LstT K b g 4 4 H' s1 ∧ EnvAt b g H1 H', telL_lst (n := 4) env_at ?_ (by decide) H1 _ (.now B1) fun s1 H' t1 hE f => ⟨s1, rfl, t1, hE⟩, ?_⟩
    · repeat' (first | exact tels_nil env_at | with_reducible apply tels_cons env_at | exact tel_int env_at (by decide) | exact tel_non env_at | exact tel_bl env_at | exact tel_str env_at | exact tel_neg env_at (by decide) | exact tel_pow (m := 0) env_at ⟨by decide, by decide, by decide⟩ (by decide +kernel) | exact tel_deep env_at | exact tel_d0 env_at | exact tel_d1 env_at | (refine tel_var env_at rfl ?_; assumption) | with_reducible apply tel_tup env_at | with_reducible apply tel_lst env_at | exact tel_len env_at rfl (by assumption) (by omega) | exact tel_len1 env_at rfl (by assumption) (by omega) | (with_reducible refine telX_repD (k := 0) env_at ?_ (by decide) ?_ (by decide)) | exact telI_sub env_at rfl (by omega) (by omega) | (exact tel_add1 env_at rfl (by omega)) | with_reducible apply telX_listOf env_at | with_reducible apply telX_cat env_at | with_reducible apply telT_init env_at | with_reducible apply telT_last env_at | with_reducible apply telT_rev env_at | with_reducible apply telX_tup env_at | (refine telX_var env_at rfl ?_ (by decide); assumption) | (refine telX_var64 env_at rfl ?_ (by decide); assumption) | with_reducible apply telX env_at | (with_reducible apply telT_to env_at) | (with_reducible apply telT_from env_at) | exact telI_var env_at rfl (by omega) (by omega) | exact telI_add1 env_at rfl (by omega) (by omega) | decide | omega)
    rintro _ H2 ⟨s1, rfl, ts1, B2, F2⟩
    have el := env_re el F2
    have en := env_re en F2
    have es := fun H' (e : EnvAt b g H2 H') => ts1.keep B2 e.2
    refine ⟨fun v' H' => Thing K b g H' v' ∧ EnvAt b g H2 H', ?_, fun v' H' h => q v' H' h.1 h.2.1 (F1.trans (F2.trans h.2.2))⟩
    refine tel_someL env_at rfl (telL_cat env_at (telL_var env_at rfl es) (telL_lst (n := 4) env_at ?_ (by decide)) (by decide)) (by decide) (by decide) H2 _ (.now B2) fun v' H' tv hE f => ⟨tv, hE⟩
    repeat' (first | exact tels_nil env_at | with_reducible apply tels_cons env_at | exact tel_int env_at (by decide) | exact tel_non env_at | exact tel_bl env_at | exact tel_str env_at | exact tel_neg env_at (by decide) | exact tel_pow (m := 0) env_at ⟨by decide, by decide, by decide⟩ (by decide +kernel) | exact tel_deep env_at | exact tel_d0 env_at | exact tel_d1 env_at | (refine tel_var env_at rfl ?_; assumption) | with_reducible apply tel_tup env_at | with_reducible apply tel_lst env_at | exact tel_len env_at rfl (by assumption) (by omega) | exact tel_len1 env_at rfl (by assumption) (by omega) | (with_reducible refine telX_repD (k := 0) env_at ?_ (by decide) ?_ (by decide)) | exact telI_sub env_at rfl (by omega) (by omega) | (exact tel_add1 env_at rfl (by omega)) | with_reducible apply telX_listOf env_at | with_reducible apply telX_cat env_at | with_reducible apply telT_init env_at | with_reducible apply telT_last env_at | with_reducible apply telT_rev env_at | with_reducible apply telX_tup env_at | (refine telX_var env_at rfl ?_ (by decide); assumption) | (refine telX_var64 env_at rfl ?_ (by decide); assumption) | with_reducible apply telX env_at | (with_reducible apply telT_to env_at) | (with_reducible apply telT_from env_at) | exact telI_var env_at rfl (by omega) (by omega) | exact telI_add1 env_at rfl (by omega) (by omega) | decide | omega)
end
end Tl
namespace Tl
open PySem PySem.Spec PyProof.Rows L2 RZ
/-- of one shape, with the same words -/
def Shp : (n : Nat) → Nd n → Nd n → Prop
  | 0, _, _ => True
  | n + 1, qs, qs' => Al (fun (q q' : Qn n) => Al (fun (a a' : An n) => a.1 = a'.1 ∧ Shp n a.2.2 a'.2.2) q q') qs qs'
theorem Al.join {α β γ : Type} {R : α → β → Prop} {S : α → γ → Prop} {T : β → γ → Prop} {as : List α} {bs : List β} {cs : List γ} (h : Al R as bs) (g : Al S as cs) (f : ∀ a b c, R a b → S a c → T b c) : Al T bs cs := Al.of (by rw [← h.len, g.len]) fun i b c h1 h2 => by
  have la := h.len
  have hi : i < as.length := by
    have := (List.getElem?_eq_some_iff.mp h1).1
    omega
  have ea : as[i]? = some as[i] := List.getElem?_eq_getElem hi
  obtain ⟨b', e1, r⟩ := h.get ea
  obtain ⟨c', e2, s⟩ := g.get ea
  rw [h1] at e1
  rw [h2] at e2
  cases e1
  cases e2
  exact f _ _ _ r s
theorem tbOk_shp {W : Nat} : ∀ {n : Nat} {t t' : Nd n} {tb : Tb n}, Shp n t t' → TbOk W n t tb → TbOk W n t' tb
  | 0, _, _, _, _, _ => trivial
  | n + 1, qs, qs', xs, sh, ok => ⟨ok.1, ok.2.1, Al.join sh ok.2.2 fun q q' x h1 h2 => Al.join h1 h2 fun a a' r k1 k2 => ⟨k2.1, tbOk_shp k1.2 k2.2⟩⟩
theorem cnt_shp : ∀ {n : Nat} {t t' : Nd n}, Shp n t t' → cnt n t = cnt n t'
  | 0, _, _, _ => rfl
  | n + 1, qs, qs', sh => by
    have one : ∀ {q q' : Qn n}, Al (fun (a a' : An n) => a.1 = a'.1 ∧ Shp n a.2.2 a'.2.2) q q' → cntQ n q = cntQ n q' := fun {q q'} h => by
      induction h with
      | nil => rfl
      | cons h _ ih =>
        rw [cntQ_cons, cntQ_cons, ih, cnt_shp h.2]
    have all : ∀ {l l' : List (Qn n)}, Al (fun (q q' : Qn n) => Al (fun (a a' : An n) => a.1 = a'.1 ∧ Shp n a.2.2 a'.2.2) q q') l l' → cnt (n + 1) (l : Nd (n + 1)) = cnt (n + 1) (l' : Nd (n + 1)) := fun {l l'} h => by
      induction h with
      | nil => rfl
      | cons h _ ih => rw [cnt_cons, cnt_cons, ih, one h]
    exact all sh
/-- other weights in a right question -/
theorem rw_ok {W n m e : Nat} {ahead0 ahead : List Rat} {ds : List (List Rat)} {q : Qn n} {q' : Qn n} (ok : QnOk W ahead0 q) (hl : q'.length = q.length) (hd : ds.length = W) (ha : ahead.length = W) (hS : ∀ d ∈ ds, IsShares q.length d) (hA : ∀ r ∈ ahead, Ch e r) (he : e + 1 ≤ 6)
    (h : ∀ (i : Nat) (a' : An n), q'[i]? = some a' → ∃ a : An n, q[i]? = some a ∧ a'.1 = a.1 ∧ a'.2.1 = wk W ahead ds i) : QnOk W ahead q' ∧ (∀ a ∈ q', ∀ r ∈ a.2.1, Ch (e + 1) r) := by
  have o1 := ok.one
  have o12 := ok.most
  have dj : ∀ j, j < W → IsShares q.length (ds.getD j []) := fun j hj => by
    have hj2 : j < ds.length := by omega
    rw [getD_of (List.getElem?_eq_getElem hj2)]
    exact hS _ (List.getElem_mem hj2)
  have aj : ∀ j, j < W → Ch e (ahead.getD j 0) := fun j hj => mem_getD0 hA (by omega)
  have chw : ∀ a ∈ q', ∀ r ∈ a.2.1, Ch (e + 1) r := by
    intro a hm' r hr
    obtain ⟨i, hi, rfl⟩ := List.getElem_of_mem hm'
    obtain ⟨_, _, _, ew⟩ := h i _ (List.getElem?_eq_getElem hi)
    rw [ew] at hr
    unfold wk at hr
    obtain ⟨j, hj, rfl⟩ := List.mem_map.mp hr
    have hj := List.mem_range.mp hj
    obtain ⟨p, s, s0, s1, ps, e1⟩ := share_at (dj j hj) (show i < q.length by omega)
    rw [e1]
    exact (aj j hj).mul s0 (by omega) ps
  have colj : ∀ j, j < W → col q' j = (ds.getD j []).map fun x => ahead.getD j 0 * x := by
    intro j hj
    have lj : (ds.getD j []).length = q.length := by
      obtain ⟨ps, h1, _, _, e1⟩ := dj j hj
      rw [e1, List.length_map, h1]
    refine List.ext_getElem? fun i => ?_
    unfold col
    rw [List.getElem?_map, List.getElem?_map]
    by_cases hi : i < q.length
    · have g1 : q'[i]? = some (q'[i]'(by omega)) := List.getElem?_eq_getElem (by omega)
      have g2 : (ds.getD j [])[i]? = some ((ds.getD j [])[i]'(by omega)) := List.getElem?_eq_getElem (by omega)
      rw [g1, g2]
      obtain ⟨_, _, _, e3⟩ := h i _ g1
      show some ((q'[i]'(by omega)).2.1.getD j 0) = some (ahead.getD j 0 * ((ds.getD j [])[i]'(by omega)))
      rw [e3, wk_at hj, getD_of g2]
    · rw [List.getElem?_eq_none (by omega), List.getElem?_eq_none (by omega)]
      rfl
  refine ⟨⟨by omega, by omega, ?_, ?_, ?_, ?_, ?_⟩, chw⟩
  · intro a hm'
    obtain ⟨i, hi, rfl⟩ := List.getElem_of_mem hm'
    obtain ⟨a0, e0, ew, _⟩ := h i _ (List.getElem?_eq_getElem hi)
    rw [ew]
    exact ok.words _ (List.mem_of_getElem? e0)
  · intro i x y hx hy
    obtain ⟨x0, ex, kx, _⟩ := h i _ hx
    obtain ⟨y0, ey, ky, _⟩ := h (i + 1) _ hy
    rw [kx, ky]
    exact ok.asc i x0 y0 ex ey
  · intro a hm'
    obtain ⟨i, hi, rfl⟩ := List.getElem_of_mem hm'
    obtain ⟨_, _, _, ew⟩ := h i _ (List.getElem?_eq_getElem hi)
    rw [ew]
    unfold wk
    rw [List.length_map, List.length_range]
  · exact fun a h1 r h2 => (chw a h1 r h2).mono he
  · intro j hj
    rw [colj j hj]
    exact shares_col (dj j hj) _
def spRW (K : PySem.W.Frag) (n : Nat) : Sp := fun vs H Q _ => ∃ (b g : Addr) (W e : Nat) (v av : V) (ahead0 ahead : List Rat) (t : Nd n), vs = [.ref b, .int (W : Int), v, av] ∧ Bag H b g ∧ Td K H v (ndD n t) ∧ Td K H av (wsD ahead) ∧ ahead.length = W ∧ (∀ r ∈ ahead, Ch e r) ∧ e + n ≤ 6 ∧ NdOk W n ahead0 t ∧ 1 ≤ W ∧ W ≤ 5 ∧
  ∀ (v' : V) (t' : Nd n) (H' : Hp), Td K H' v' (ndD n t') → NdOk W n ahead t' → Shp n t t' → Bag H' b g → Frm b g H H' → Q v' H'
theorem Bag.nw {b g p : Addr} {H H' : Hp} (f : Frm b g H H') (h : H' p = none) (h1 : p ≠ b) (h2 : p ≠ g) : H p = none := by
  cases e : H p with
  | none => rfl
  | some o =>
    rw [f p o e h1 h2] at h
    cases h
section
variable {P : Program} {w : World} {K : PySem.W.Frag} {mg : Str → Option Value} {base : Heap}
theorem ok_law_reweighted {f f1 f2 f3 f4 f5 : Addr} {fd fd1 fd2 fd3 fd4 fd5 : FuncData} (D : Dn K mg "_law_reweighted" s_law_reweighted ["bag", "worlds", "node", "ahead"] f fd) (B : Blt mg) (D_law_low : Dn K mg "_law_low" s_law_low ["top", "bottom"] f1 fd1) (D_law_common : Dn K mg "_law_common" s_law_common ["one", "other"] f2 fd2)
    (D_law_pick : Dn K mg "_law_pick" s_law_pick ["bag", "many"] f3 fd3) (D_law_shares : Dn K mg "_law_shares" s_law_shares ["bag", "many", "least"] f4 fd4) (D_law_times : Dn K mg "_law_times" s_law_times ["one", "other"] f5 fd5) : ∀ n : Nat, FnOk P w K mg base CX0 (4 + n) f fd ["bag", "worlds", "node", "ahead"] (spRW K n) := by
  intro n
  have G_law_shares : FnOk P w K mg base CX0 3 f4 fd4 ["bag", "many", "least"] (spShares K) := ok_law_shares D_law_shares B D_law_low D_law_common D_law_pick
  have G_law_times : FnOk P w K mg base CX0 3 f5 fd5 ["one", "other"] (spTimes K) := ok_law_times D_law_times B D_law_low D_law_common
  obtain ⟨sp0, G_law_reweighted, hsp⟩ : ∃ sp0, FnOk P w K mg base CX0 (3 + n) f fd ["bag", "worlds", "node", "ahead"] sp0 ∧ (∀ m, n = m + 1 → sp0 = spRW K m) := by
    cases n with
    | zero => exact ⟨fun _ _ _ _ => False, ⟨fun vs H Q E h => h.elim, fun A outer s H args us vs Q E _ _ _ _ h => h.elim⟩, fun m e => by omega⟩
    | succ m =>
      have G := ok_law_reweighted D B D_law_low D_law_common D_law_pick D_law_shares D_law_times m
      rw [show 4 + m = 3 + (m + 1) by omega] at G
      exact ⟨_, G, fun m' e => by rw [show m' = m by omega]⟩
  rw [show 4 + n = (3 + n) + 1 by omega]
  refine D.F.ok sc_law_reweighted (fun vs H Q E h => ?_) (fun cdv A outer s H vs Q E hr h => ?_)
  · obtain ⟨b, g, W, e, v, av, ah0, ah, t, rfl, _⟩ := h
    rfl
  obtain ⟨b, g, W, e, v, av, ahead0, ahead, t, rfl, hB, hv, hav, hla, hch, he, hok, hW1, hW5, q⟩ := h
  have nd := sc_law_reweighted.nd
  have D_law_reweighted := D
  refine ⟨_, (pss_cons (ps_set (i := 4) nd rfl (.inl rfl) (pe_lst pa_nil))
      (pss_cons (ps_for PassesOwn.never rfl (k_iT (K := K) rfl (pv 2)) (pg_name (i := 5) nd rfl (.inr rfl)) (pss_cons (ps_set (i := 6) nd rfl (.inr rfl) (pe_lc (own := [("world", 7)]) rfl nd (pi_range1 (by rfl) B.range (pa_cons (pv 1) pa_nil)) (blkOk_by (own := [("world", 7)]) (by kernel_rfl)) (fun _ _ _ _ _ => (pg_name (i := 7) nd rfl (.inl rfl))) (fun _ _ _ _ _ => pts_nil) (fun _ _ _ _ _ => (pe_call G_law_shares (hr.mono (by omega)) (by rfl) D_law_shares.m D_law_shares.F.kp D_law_shares.b .nil pass0 (pa_cons (pv 0) (pa_cons (pe_callB (k_len (K := K) rfl) (by rfl) B.len PySem.boot_len (pa_cons (pv 5) pa_nil)) (pa_cons pe_int pa_nil)))))))
      (pss_cons (ps_set (i := 8) nd rfl (.inl rfl) (pe_lst pa_nil))
      (pss_cons (ps_for PassesOwn.never rfl (k_enum (K := K) rfl (by rfl) B.enumerate (pa_cons (pv 5) pa_nil)) (k_tup (K := K) (n := 2) rfl rfl (pgs_cons (pg_name (i := 9) nd rfl (.inr rfl)) (pgs_cons (k_tup (K := K) (n := 3) rfl rfl (pgs_cons (pg_name (i := 10) nd rfl (.inl rfl)) (pgs_cons (pg_name (i := 11) nd rfl (.inl rfl)) (pgs_cons (pg_name (i := 12) nd rfl (.inl rfl)) pgs_nil)))) pgs_nil))) (pss_cons (ps_set (i := 13) nd rfl (.inl rfl) (pe_callTy (k_tupOf (K := K) rfl) (by rfl) B.tuple (by decide +kernel) (pa_cons (pe_lc (own := [("world", 7)]) rfl nd (pi_range1 (by rfl) B.range (pa_cons (pv 1) pa_nil)) (blkOk_by (own := [("world", 7)]) (by kernel_rfl)) (fun _ _ _ _ _ => (pg_name (i := 7) nd rfl (.inl rfl))) (fun _ _ _ _ _ => pts_nil) (fun _ _ _ _ _ => (pe_call G_law_times (hr.mono (by omega)) (by rfl) D_law_times.m D_law_times.F.kp D_law_times.b .nil pass0 (pa_cons (pe_ix (k_ixT (K := K) rfl) (pv 3) (pv 7) (fun _ _ => rfl)) (pa_cons (pe_ix (k_ixL (K := K) rfl) (pe_ix (k_ixL (K := K) rfl) (pv 6) (pv 7) (fun _ _ => rfl)) (pv 9) (fun _ _ => rfl)) pa_nil))))) pa_nil)))
      (pss_one (ps_expr (pe_bm PySem.F.plainAttrs_list PySem.F.slot_list_append PySem.F.type_list_append mt_append (pv 8) (pa_cons (pe_tup (pa_cons (pv 10) (pa_cons (pv 13) (pa_cons (pe_call G_law_reweighted (hr.mono (by omega)) (by rfl) D_law_reweighted.m D_law_reweighted.F.kp D_law_reweighted.b .nil pass0 (pa_cons (pv 0) (pa_cons (pv 1) (pa_cons (pv 12) (pa_cons (pv 13) pa_nil))))) pa_nil)))) pa_nil))))))
      (pss_one (ps_expr (pe_bm PySem.F.plainAttrs_list PySem.F.slot_list_append PySem.F.type_list_append mt_append (pv 4) (pa_cons (pe_callTy (k_tupOf (K := K) rfl) (by rfl) B.tuple (by decide +kernel) (pa_cons (pv 8) pa_nil)) pa_nil))))))))
      (pss_one (ps_ret (pe_callTy (k_tupOf (K := K) rfl) (by rfl) B.tuple (by decide +kernel) (pa_cons (pv 4) pa_nil)))))), ?_⟩
  obtain ⟨a, xs, dd, rfl, ha, ed, ta, l0⟩ := td_qs hv
  refine ⟨by show 0 ≤ sizeLine; decide, fun T hT => ?_⟩
  obtain ⟨Tb', Tg⟩ := hB.neNew hT
  have sT := same_upd (o := .lst []) hT
  cases n with
  | zero =>
    have := l0 rfl
    subst this
    refine ⟨_, rfl, a, rfl, ⟨_, Same.kt sT _ _ ha⟩, for_it (walk_tup (K := K) (a := a) (xs := [])) (fun i σ H2 => H2 = upd H T (.lst []) ∧ ∃ o5 o6 o7 o8 o9 o10 o11 o12 o13 : Option V, σ = [some (.ref b), some (.int (W : Int)), some (.ref a), some av, some (.ref T), o5, o6, o7, o8, o9, o10, o11, o12, o13]) ⟨rfl, none, none, none, none, none, none, none, none, none, rfl⟩ (fun i σ H2 _ h => by rw [h.1]; exact Same.kt sT _ _ ha) ?_ ?_⟩
    · rintro i x σ H2 H3 hi
      exact absurd hi (Nat.not_lt_zero _)
    · rintro σ H2 ⟨rfl, o5, o6, o7, o8, o9, o10, o11, o12, o13, rfl⟩
      refine ⟨_, rfl, T, [], rfl, SqL.of upd_same, fun l H' s' q' => q (.ref l) () H' (.tup q' .nil) trivial trivial (hB.keep (sT.trans s')) (.of (sT.trans s'))⟩
  | succ n =>
    have hsp := hsp n rfl
    subst hsp
    obtain ⟨qs, hqs⟩ : ∃ qs : List (Qn n), (qs : Nd (n + 1)) = t := ⟨t, rfl⟩
    subst hqs
    cases ed
    have lx : xs.length = qs.length := by rw [ta.len, List.length_map]
    have l5 : qs.length ≤ 5 := hok.1
    refine ⟨_, rfl, a, rfl, ⟨_, Same.kt sT _ _ ha⟩, for_it (walk_tup (K := K) (a := a) (xs := xs)) (fun i σ H2 => ∃ (us : List V) (qs' : List (Qn n)) (o5 o6 o7 o8 o9 o10 o11 o12 o13 : Option V), σ = [some (.ref b), some (.int (W : Int)), some (.ref a), some av, some (.ref T), o5, o6, o7, o8, o9, o10, o11, o12, o13] ∧ H2 T = some (.lst us) ∧ TdAll K H2 us (qs'.map (qnD n)) ∧
        Al (fun (q q' : Qn n) => Al (fun (a a' : An n) => a.1 = a'.1 ∧ Shp n a.2.2 a'.2.2) q q') (qs.take i) qs' ∧ (∀ q' ∈ qs', QnOk W ahead q' ∧ ∀ a ∈ q', NdOk W n a.2.1 a.2.2) ∧ Bag H2 b g ∧ Frm b g H H2) ⟨[], [], none, none, none, none, none, none, none, none, none, rfl, upd_same, .nil, .nil, fun q hq => absurd hq List.not_mem_nil, hB.keep sT, .of sT⟩ (fun i σ H2 _ h => ?_) ?_ ?_⟩
    · obtain ⟨_, _, _, _, _, _, _, _, _, _, _, _, _, _, _, _, _, F2⟩ := h
      exact hB.kt F2 _ _ ha
    · rintro i x σ H0 H2 hi ⟨us, qs', o5, o6, o7, o8, o9, o10, o11, o12, o13, rfl, h2, t2, al, ok2, B2, F2⟩ ⟨rfl, e1⟩
      obtain ⟨dx, ex, tx⟩ := ta.getV e1
      obtain ⟨qn, eq, rfl⟩ := map_at ex
      obtain ⟨qok, nok⟩ := hok.2 qn (List.mem_of_getElem? eq)
      have q1 := qok.one
      have q12 := qok.most
      have tx2 := tx.keep (hB.kt F2)
      have hav2 := hav.keep (hB.kt F2)
      obtain ⟨p0, ys0, rfl, hp0, tp0⟩ := id tx2.tupE
      have ly0 : ys0.length = qn.length := by rw [tp0.len, List.length_map]
      -- rows
      refine ⟨_, rfl, _, rfl, by omega, by omega, fun R hR => ?_⟩
      obtain ⟨Rb, Rg⟩ := B2.neNew hR
      refine lc_range (lo := 0) (n := W) (fun k H3 => ∃ ds : List (List Rat), ds.length = k ∧ RowsAt K b g g (fun _ => False) H3 R ds ∧ (∀ d ∈ ds, IsShares qn.length d) ∧ Bag H3 b g ∧ Frm b g H2 H3)
        ⟨[], rfl, ⟨Rb, Rg, Rg, (fun z => z), [], upd_same, rfl, fun i r d e1 _ => by simp at e1⟩, fun d h => absurd h List.not_mem_nil, B2.updN Rb Rg, (Frm.refl b g H2).updN hR⟩ ?_ ?_
      · rintro k H3 hk ⟨ds, hd, hRows, hS, B3, F3⟩
        refine ⟨rfl, ?_⟩
        refine iteT (B := ∃ ds : List (List Rat), ds.length = k + 1 ∧ RowsAt K b g g (fun _ => False) H3 R ds ∧ (∀ d ∈ ds, IsShares qn.length d) ∧ Bag H3 b g ∧ Frm b g H2 H3) ?_
        refine ⟨_, rfl, _, rfl, p0, ys0, rfl, .inr (B2.kt F3 _ _ hp0), b, g, qn.length, 0, by rw [ly0]; rfl, B3, by omega, by omega, by decide, by decide, fun ρ d us2 H5 hI h5 t5 fr B5 F5 => ?_⟩
        have nρ := B3.neNew fr
        have F5l : Frl b g g H3 H5 := .ofF F5
        obtain ⟨_, _, _, _, rs, h1, h2', h3⟩ := hRows.keep (B3.kt F5) F5l
        have ρR : ρ ≠ R := fun z => by
          obtain ⟨_, _, _, _, rs', h1', _⟩ := hRows
          rw [z, h1'] at fr
          cases fr
        have kR : KT K H5 (upd H5 R (.lst (rs.map V.ref ++ [V.ref ρ]))) := KT.updL h1
        have lrs : rs.length ≤ 5 := by omega
        refine ⟨_, h1, by rw [List.length_map]; exact small1000 (by omega), ds ++ [d], by rw [List.length_append, hd]; rfl, ⟨Rb, Rg, Rg, (fun z => z), rs ++ [ρ], by rw [upd_same, List.map_append]; rfl, by rw [List.length_append, List.length_append, h2']; rfl, ?_⟩, ?_, B5.updN Rb Rg, (F3.trans F5).updN hR⟩
        · intro j ρ' d' e1 e2
          by_cases hj : j < rs.length
          · rw [List.getElem?_append_left hj] at e1
            rw [List.getElem?_append_left (by omega)] at e2
            obtain ⟨nR, m1, m2, m3, us', u1, u2⟩ := h3 j ρ' d' e1 e2
            exact ⟨nR, m1, m2, m3, us', by rw [upd_ne nR.1]; exact u1, u2.keep kR⟩
          · have ej : j = rs.length := by
              have := (List.getElem?_eq_some_iff.mp e1).1
              rw [List.length_append] at this
              simp at this
              omega
            subst ej
            rw [List.getElem?_append_right (Nat.le_refl _), Nat.sub_self] at e1
            rw [h2', List.getElem?_append_right (Nat.le_refl _), Nat.sub_self] at e2
            cases e1
            cases e2
            exact ⟨⟨ρR, fun z => z⟩, nρ.1, nρ.2, nρ.2, us2, by rw [upd_ne ρR]; exact h5, t5.keep kR⟩
        · intro d' hd'
          rcases List.mem_append.mp hd' with h | h
          · exact hS d' h
          · rw [List.mem_singleton.mp h]
            exact hI
      rintro H3 ⟨ds, hd, hRows, hS, B3, F3⟩
      have h3T := F3 _ _ h2 Tb' Tg
      have hp03 := B2.kt F3 _ _ hp0
      have tp03 := tp0.keep (B2.kt F3)
      have hav3 := hav2.keep (B2.kt F3)
      -- answers = []
      refine ⟨by show 0 ≤ sizeLine; decide, fun A hA => ?_⟩
      obtain ⟨Ab, Ag⟩ := B3.neNew hA
      have sA := same_upd (o := .lst []) hA
      have RA : R ≠ A := fun z => by
        obtain ⟨_, _, _, _, rs, h1, _⟩ := hRows
        rw [z, hA] at h1
        cases h1
      have TA : T ≠ A := ne_of_none h3T hA
      refine ⟨_, rfl, p0, ys0, rfl, Same.kt sA _ _ hp03, for_it (walk_enumT (K := K) (a := p0) (xs := ys0)) (fun j σ H4 => ∃ (ws : List V) (qa : Qn n) (o7 o9 o10 o11 o12 o13 : Option V), σ = [some (.ref b), some (.int (W : Int)), some (.ref a), some av, some (.ref T), some (.ref p0), some (.ref R), o7, some (.ref A), o9, o10, o11, o12, o13] ∧ H4 A = some (.lst ws) ∧ TdAll K H4 ws (qa.map (anD n)) ∧
          Al (fun (a a' : An n) => a.1 = a'.1 ∧ Shp n a.2.2 a'.2.2) (qn.take j) qa ∧ (∀ (i : Nat) (a' : An n), qa[i]? = some a' → a'.2.1 = wk W ahead ds i ∧ NdOk W n a'.2.1 a'.2.2) ∧ RowsAt K b g g (fun x => x = A) H4 R ds ∧ Bag H4 b g ∧ Frm b g H3 H4)
        ⟨[], [], _, _, _, _, _, _, rfl, upd_same, .nil, .nil, fun i a' h => by simp at h, (hRows.avoid hA).keep (Same.kt sA) (.of sA), B3.keep sA, .of sA⟩ (fun j σ H4 _ h => ?_) ?_ ?_⟩
      · obtain ⟨_, _, _, _, _, _, _, _, _, _, _, _, _, _, _, F4⟩ := h
        exact B3.kt F4 _ _ hp03
      · rintro j y σ H4 H5 hj ⟨ws, qa, o7', o9', o10', o11', o12', o13', rfl, h4, t4, al4, hw4, hR4, B4, F4⟩ ⟨T2, x1, x2, rfl, n2, rfl, e3, e4⟩
        cases e3
        obtain ⟨dy, ey, ty⟩ := tp03.getV e4
        obtain ⟨an, ea, rfl⟩ := map_at ey
        have ma := List.mem_of_getElem? ea
        have jl : j < qn.length := by omega
        have s5 : Same H4 (upd H4 T2 (.tup [.int (j : Int), x2])) := same_upd n2
        have F5 := F4.trans (.of s5)
        have B5 := B4.keep s5
        have h5 := s5 _ _ h4
        have t5 := t4.keep (Same.kt s5)
        have hR5 := hR4.keep (Same.kt s5) (.of s5)
        have tan := ty.keep (B3.kt F5)
        have e5 : SqT K (upd H4 T2 (.tup [.int (j : Int), x2])) T2 [.int (j : Int), x2] := .inl (.inl upd_same)
        generalize upd H4 T2 (.tup [.int (j : Int), x2]) = H5 at s5 F5 B5 h5 t5 hR5 tan e5 ⊢
        obtain ⟨pa, vw, vz, vt, rfl, hpa, tw, tz, tt⟩ := td_an tan
        refine ⟨T2, _, rfl, e5, rfl, _, _, rfl, _, _, rfl, pa, _, rfl, hpa, rfl, _, _, rfl, _, _, rfl, _, _, rfl, rfl, rfl, ?_⟩
        -- there
        refine ⟨_, rfl, _, rfl, by omega, by omega, fun S hS' => ?_⟩
        have hav5 := hav3.keep (B3.kt F5)
        obtain ⟨aA, aX, rfl, aS, aT⟩ := id hav5.tupE
        refine lc_range (lo := 0) (n := W) (fun k H8 => ∃ vs : List V, H8 S = some (.lst vs) ∧ TdAll K H8 vs (((wk W ahead ds j).take k).map rD) ∧ Same H5 H8) ⟨[], upd_same, .nil, same_upd hS'⟩ ?_ ?_
        · rintro k H8 hk ⟨vs, h8, t8, s8⟩
          refine ⟨rfl, ?_⟩
          refine iteT (B := ∃ vs : List V, H8 S = some (.lst vs) ∧ TdAll K H8 vs (((wk W ahead ds j).take (k + 1)).map rD) ∧ Same H5 H8) ?_
          have ak : ahead[k]? = some ahead[k] := List.getElem?_eq_getElem (by omega)
          obtain ⟨va, eva, tva⟩ := aT.get (i := k) (d := rD ahead[k]) (by rw [List.getElem?_map, ak]; rfl)
          obtain ⟨_, _, _, _, rs, h1, h2', h3⟩ := hR5.keep (Same.kt s8) (.of s8)
          have rk : rs[k]? = some rs[k] := List.getElem?_eq_getElem (by omega)
          have dk : ds[k]? = some ds[k] := List.getElem?_eq_getElem (by omega)
          obtain ⟨_, _, _, _, us', u1, u2⟩ := h3 k _ _ rk dk
          have hIk := hS _ (List.getElem_mem (show k < ds.length by omega))
          obtain ⟨ps, c1, c2, c3, c4⟩ := id hIk
          have lk : ds[k].length = qn.length := by rw [c4, List.length_map, c1]
          have di : ds[k][j]? = some (ds[k][j]'(by omega)) := List.getElem?_eq_getElem _
          obtain ⟨vb, evb, tvb⟩ := u2.get (i := j) (d := rD (ds[k][j]'(by omega))) (by rw [List.getElem?_map, di]; rfl)
          have hk0 : (0 : Int) + (k : Int) = ((k : Nat) : Int) := by omega
          have ca := hch _ (List.getElem_mem (show k < ahead.length by omega))
          have cb : Ch 1 (ds[k][j]'(by omega)) := shares_ch hIk q12 _ (List.getElem_mem _)
          have z1 : LL ^ e < 2 ^ 2000 := pow_lt2000 (by omega)
          have z2 : LL ^ 1 < 2 ^ 2000 := pow_lt2000 (by decide)
          refine ⟨_, rfl, _, rfl, aA, aX, _, va, rfl, by rw [hk0], Same.kt s8 _ _ aS, atI_nat eva, ?_⟩
          refine ⟨_, rfl, _, rfl, R, _, _, _, rfl, by rw [hk0], SqL.of h1, atI_nat (by rw [List.getElem?_map, rk]; rfl), _, rfl, rs[k], us', (j : Int), vb, rfl, rfl, SqL.of u1, atI_nat evb, ?_⟩
          refine ⟨va, vb, _, _, rfl, tva.keep (Same.kt s8), tvb, Nat.lt_of_le_of_lt ca.den z1, Nat.lt_of_le_of_lt cb.den z2, Nat.lt_of_le_of_lt ca.num z1, Nat.lt_of_le_of_lt cb.num z2, fun v H9 s9 tv => ?_⟩
          have h9 := s9 _ _ h8
          have kw : KT K H9 (upd H9 S (.lst (vs ++ [v]))) := KT.updL h9
          refine ⟨vs, h9, ?_, vs ++ [v], upd_same, ?_, fun c o z => ?_⟩
          · rw [t8.len, List.length_map, List.length_take]
            exact small1000 (by omega)
          · have ewk : (wk W ahead ds j)[k]? = some (ahead[k] * (ds[k][j]'(by omega))) := by
              unfold wk
              rw [List.getElem?_map, List.getElem?_range hk]
              show some (ahead.getD k 0 * (ds.getD k []).getD j 0) = some (ahead[k] * (ds[k][j]'(by omega)))
              rw [getD_of ak, getD_of dk, getD_of di]
            rw [List.take_add_one, ewk, List.map_append]
            exact (t8.keep ((Same.kt s9).trans kw)).app (.cons (tv.keep kw) .nil)
          · rw [upd_ne (ne_of_none z hS')]
            exact s9 _ _ (s8 _ _ z)
        rintro H8 ⟨vs, h8, t8, s8⟩
        have lw : (wk W ahead ds j).length = W := by
          unfold wk
          rw [List.length_map, List.length_range]
        rw [List.take_of_length_le (by omega)] at t8
        refine ⟨S, vs, rfl, SqL.of h8, fun wt H9 s9 q9 => ?_⟩
        have s59 := s8.trans s9
        have twt : Td K H9 (.ref wt) (wsD (wk W ahead ds j)) := .tup q9 (t8.keep (Same.kt s9))
        have h9 := s59 _ _ h5
        have chk : ∀ r ∈ wk W ahead ds j, Ch (e + 1) r := by
          intro r hr'
          unfold wk at hr'
          obtain ⟨k, hk, rfl⟩ := List.mem_map.mp hr'
          have hk := List.mem_range.mp hk
          have hk2 : k < ds.length := by omega
          rw [getD_of (List.getElem?_eq_getElem hk2)]
          obtain ⟨p, s, s0, s1, ps, e1⟩ := share_at (hS _ (List.getElem_mem hk2)) jl
          rw [e1]
          exact (mem_getD0 hch (by omega)).mul s0 (by omega) ps
        have B9 := B5.keep s59
        refine ⟨_, rfl, .inl ⟨rfl, _, SqL.of h9⟩, _, rfl, _, rfl, _, rfl, _, rfl, _, rfl, _, rfl, b, g, W, e + 1, vt, .ref wt, an.2.1, wk W ahead ds j, an.2.2, rfl, B9, tt.keep (Same.kt s59), twt, lw, chk, by omega, nok an ma, hW1, hW5, fun v10 t10 H10 tv10 ok10 sh10 B10 F10 => ?_⟩
        refine ⟨by show 3 ≤ sizeLine; decide, fun p11 n11 => ?_⟩
        have s11 : Same H10 (upd H10 p11 (.tup [vw, .ref wt, v10])) := same_upd n11
        have F511 : Frm b g H5 (upd H10 p11 (.tup [vw, .ref wt, v10])) := ((Frm.of s59).trans F10).trans (.of s11)
        have h11 := F511 _ _ h5 Ab Ag
        have kT : KT K (upd H10 p11 (.tup [vw, .ref wt, v10])) (upd (upd H10 p11 (.tup [vw, .ref wt, v10])) A (.lst (ws ++ [.ref p11]))) := KT.updL h11
        have kk := (B5.kt F511).trans kT
        have k911 := (((B9.kt (K := K) F10).trans (Same.kt s11)).trans kT)
        have lqa : qa.length = j := by
          rw [← al4.len, List.length_take]
          omega
        refine ⟨A, ws, _, rfl, rfl, h11, ?_, ws ++ [.ref p11], qa ++ [((an.1, wk W ahead ds j, t10) : An n)], _, _, _, _, _, _, rfl, upd_same, ?_, ?_, fun i a' hi' => ?_, ?_, (B10.keep s11).updN Ab Ag, (F5.trans F511).updN hA⟩
        · rw [t5.len, List.length_map, lqa]
          exact small1000 (by omega)
        · rw [List.map_append]
          exact (t5.keep kk).app (.cons (.tup (kT _ _ (.inl (.inl upd_same))) (.cons (tw.keep kk) (.cons (twt.keep k911) (.cons (tv10.keep ((Same.kt s11).trans kT)) .nil)))) .nil)
        · rw [List.take_add_one, ea]
          exact Al.snoc (R := fun (a a' : An n) => a.1 = a'.1 ∧ Shp n a.2.2 a'.2.2) (a := an) (b := (an.1, wk W ahead ds j, t10)) ⟨rfl, sh10⟩ al4
        · by_cases hl : i < qa.length
          · rw [List.getElem?_append_left hl] at hi'
            exact hw4 i a' hi'
          · have ei : i = qa.length := by
              have := (List.getElem?_eq_some_iff.mp hi').1
              rw [List.length_append] at this
              simp at this
              omega
            subst ei
            rw [List.getElem?_append_right (Nat.le_refl _), Nat.sub_self] at hi'
            cases hi'
            exact ⟨by rw [lqa], ok10⟩
        · obtain ⟨_, _, _, _, rs, h1, h2', h3⟩ := hR5.keep (B5.kt F511) (.ofF F511)
          refine ⟨Rb, Rg, Rg, RA, rs, by rw [upd_ne RA]; exact h1, h2', fun j r d e1 e2 => ?_⟩
          obtain ⟨m0, m1, m2, m3, us', u1, u2⟩ := h3 j r d e1 e2
          exact ⟨m0, m1, m2, m3, us', by rw [upd_ne m0.2]; exact u1, u2.keep kT⟩
      · rintro σ H4 ⟨ws, qa, o7', o9', o10', o11', o12', o13', rfl, h4, t4, al4, hw4, hR4, B4, F4⟩
        rw [ly0, List.take_length] at al4
        have hT4 := F4 _ _ h3T Tb' Tg
        have lqa : qa.length = qn.length := al4.len.symm
        obtain ⟨qok', chq⟩ := rw_ok (m := 0) qok lqa hd hla hS hch (by omega) (fun i a' h => by
          have hi2 : i < qn.length := by
            have := (List.getElem?_eq_some_iff.mp h).1
            omega
          obtain ⟨a'', e1, e2, _⟩ := al4.get (List.getElem?_eq_getElem hi2)
          rw [h] at e1
          cases e1
          exact ⟨_, List.getElem?_eq_getElem hi2, e2.symm, (hw4 i a' h).1⟩)
        refine ⟨_, rfl, .inl ⟨rfl, _, SqL.of hT4⟩, _, rfl, A, ws, rfl, SqL.of h4, fun vt H5 s5 q5 => ?_⟩
        have F35 := F4.trans (.of s5)
        have h5 := F35 _ _ h3T Tb' Tg
        have kT : KT K H5 (upd H5 T (.lst (us ++ [.ref vt]))) := KT.updL h5
        have F25 := F3.trans F35
        have kk := (B2.kt (K := K) F25).trans kT
        have lqs' : qs'.length ≤ 5 := by
          have := al.len
          rw [List.length_take] at this
          omega
        refine ⟨T, us, _, rfl, rfl, h5, ?_, us ++ [.ref vt], qs' ++ [qa], _, _, _, _, _, _, _, _, _, rfl, upd_same, ?_, ?_, fun q' hq' => ?_, (B4.keep s5).updN Tb' Tg, (F2.trans F25).updN hT⟩
        · rw [t2.len, List.length_map]
          exact small1000 (by omega)
        · rw [List.map_append]
          exact (t2.keep kk).app (.cons (.tup (kT _ _ q5) (t4.keep ((Same.kt s5).trans kT))) .nil)
        · rw [List.take_add_one, eq]
          exact Al.snoc (R := fun (q q' : Qn n) => Al (fun (a a' : An n) => a.1 = a'.1 ∧ Shp n a.2.2 a'.2.2) q q') (a := qn) (b := qa) al4 al
        · rcases List.mem_append.mp hq' with z | z
          · exact ok2 q' z
          · rw [List.mem_singleton.mp z]
            refine ⟨qok', fun a' ha' => ?_⟩
            obtain ⟨i, hi', rfl⟩ := List.getElem_of_mem ha'
            exact (hw4 i _ (List.getElem?_eq_getElem hi')).2
    · rintro σ H2 ⟨us, qs', o5, o6, o7, o8, o9, o10, o11, o12, o13, rfl, h2, t2, al, ok2, B2, F2⟩
      rw [lx, List.take_length] at al
      have lq' : qs'.length = qs.length := al.len.symm
      refine ⟨_, rfl, T, us, rfl, SqL.of h2, fun l H3 s3 q3 => ?_⟩
      exact q (.ref l) qs' H3 (.tup q3 (t2.keep (Same.kt s3))) ⟨by show qs'.length ≤ 5; omega, ok2⟩ al (B2.keep s3) (F2.trans (.of s3))
end
end Tl
/-! plans judged: what the law calls -/
namespace Tl
open PySem PySem.Spec PyProof.Rows L2 RZ
def anyS (N : Nat) (sp : Nat → Sp) : Sp := fun vs H Q E => ∃ n, n ≤ N ∧ sp n vs H Q E
def orS (sp sq : Sp) : Sp := fun vs H Q E => sp vs H Q E ∨ sq vs H Q E
theorem TreeOk.keep {K : PySem.W.Frag} {H H' : Hp} {W n : Nat} {v : V} {t : Nd n} (T : TreeOk K H W n v t) (s : Same H H') : TreeOk K H' W n v t := ⟨T.td.keep (Same.kt s), T.ok, T.few, T.deep, T.w1, T.w5⟩
theorem own_same {H : Hp} {C x dx : Addr} (nx : H x = none) (ndx : H dx = none) : Same H (upd (upd H dx (.own x)) x (.ins C dx [])) := fun b o e => by
  rw [upd_ne (ne_of_none e nx), upd_ne (ne_of_none e ndx)]
  exact e
theorem mk_hs {K : PySem.W.Frag} {H H7 : Hp} {C x dx : Addr} {W n : Nat} {v : V} {t : Nd n} (nx : H x = none) (ndx : H dx = none) (T : TreeOk K H W n v t) (h7 : H7 x = some (.ins C dx (hf W v))) (k7 : ∀ b o, upd (upd H dx (.own x)) x (.ins C dx []) b = some o → b ≠ x → H7 b = some o) :
    Same H H7 ∧ HsOk K C H7 x W n t v := by
  have s : Same H H7 := fun b o e => k7 _ _ (own_same nx ndx b o e) (ne_of_none e nx)
  exact ⟨s, ⟨dx, h7⟩, T.td.keep (Same.kt s), T.ok, T.few, T.deep, T.w1, T.w5⟩
theorem HsOk.frm {K : PySem.W.Frag} {C b g p : Addr} {H H' : Hp} {W n : Nat} {t : Nd n} {v : V} (h : HsOk K C H p W n t v) (B : Bag H b g) (F : Frm b g H H') : HsOk K C H' p W n t v := by
  obtain ⟨d, e⟩ := h.at_
  obtain ⟨n1, n2⟩ := B.other e (fun xs z => by cases z)
  exact ⟨⟨d, F _ _ e n1 n2⟩, h.td.keep (B.kt F), h.ok, h.few, h.deep, h.w1, h.w5⟩
def spTwo (K : PySem.W.Frag) : Sp := fun vs H Q _ => ∃ (b g : Addr) (n A : Nat), vs = [.ref b, .int ((n + 1 : Nat) : Int), .int (A : Int)] ∧ Bag H b g ∧ n ≤ 3 ∧ A ≤ 20 ∧
  ∀ (p : Addr) (W : Nat) (v1 v2 : V) (t1 t2 : Nd (n + 1)) (H' : Hp), 1 ≤ W → W ≤ 3 → SqT K H' p [.int (W : Int), v1, v2] → Td K H' v1 (ndD (n + 1) t1) → NdF W (n + 1) (ones W) t1 → cnt (n + 1) t1 ≤ A + 3 * n + 8 → Td K H' v2 (ndD (n + 1) t2) → NdF W (n + 1) (ones W) t2 → cnt (n + 1) t2 ≤ A + 3 * n + 8 → Bag H' b g → Frm b g H H' → Q (.ref p) H'
def spFlag : Sp := fun vs H Q _ => ∃ (x y : Bool), vs = [.bl x, .bl y] ∧ Q (.bl (decide (V.bl x = V.bl y))) H
theorem mapIdx_at {α β : Type} {f : Nat → α → β} {l : List α} {i : Nat} {a : α} (h : l[i]? = some a) : (l.mapIdx f)[i]? = some (f i a) := by
  rw [List.getElem?_mapIdx, h]
  rfl
/-! the plan that passes -/
def idW : (m : Nat) → Nd m → Wt m m
  | 0, _ => ()
  | m + 1, gs => ((show List (Qn m) from gs).mapIdx fun k (q : Qn m) => (.inr (k, (show List (An m) from q).mapIdx fun a (an : An m) => tellM m a (idW m an.2.2)) : Mv m (m + 1)) : List (Mv m (m + 1)))
def idA (m a : Nat) (an : An m) : Mv m m := tellM m a (idW m an.2.2)
def idQ (m k : Nat) (q : Qn m) : Mv m (m + 1) := .inr (k, (show List (An m) from q).mapIdx (idA m))
theorem idW_succ (m : Nat) (gs : List (Qn m)) : idW (m + 1) gs = (gs.mapIdx (idQ m) : List (Mv m (m + 1))) := rfl
theorem idW_ok : ∀ (m : Nat) (gs : Nd m), WtOk m m gs gs (idW m gs)
  | 0, _ => trivial
  | m + 1, gs => by
    show Al (fun (q : Qn m) (y : Mv m (m + 1)) => MvOk (WtOk m) (m + 1) gs q y) (show List (Qn m) from gs) ((show List (Qn m) from gs).mapIdx (idQ m))
    refine Al.of (by rw [List.length_mapIdx]) fun k q y h1 h2 => ?_
    rw [mapIdx_at h1] at h2
    cases h2
    refine ⟨q, h1, ?_⟩
    refine Al.of (by rw [List.length_mapIdx]) fun a an y h1 h2 => ?_
    rw [mapIdx_at h1] at h2
    cases h2
    exact tellM_ok h1 (idW_ok m an.2.2)
def spPW (K : PySem.W.Frag) (m : Nat) : Sp := fun vs H Q _ => ∃ (W : Nat) (v : V) (ahead : List Rat) (gs : Nd m), vs = [v] ∧ Td K H v (ndD m gs) ∧ NdOk W m ahead gs ∧ ∀ v' H', Same H H' → Td K H' v' (waitD m m (idW m gs)) → Q v' H'
def spPass (K : PySem.W.Frag) (C : Addr) (m : Nat) : Sp := fun vs H Q _ => ∃ (p : Addr) (W : Nat) (v : V) (t : Nd m), vs = [.ref p] ∧ HsOk K C H p W m t v ∧ ∀ v' H', Same H H' → Td K H' v' (bwD m m [(1, idW m t)]) → Q v' H'
def spAlk (Cc CA : Addr) : Sp := fun vs H Q E => ∃ (p p2 : Addr) (W W2 : Nat) (v v2 : V), vs = [.ref p, .ref p2] ∧ HouseAt Cc H p W v ∧ HouseAt Cc H p2 W2 v2 ∧ (W = W2 → Q .non H) ∧ (W ≠ W2 → E (.ref CA) none H)
theorem getI_nat {α : Type} {xs : List α} {i : Nat} {x : α} (h : xs[i]? = some x) : getI xs (i : Int) = some x := by
  unfold getI
  rw [if_pos (by omega), Int.toNat_natCast]
  exact h
theorem zip_all {α β : Type} {R : α → β → Prop} {D : β → PyData} {g : PyData → AD} {xs : List α} {ys : List β} (F : α → AD → Bool) (h : ∀ x ∈ xs, ∀ y, R x y → F x (g (D y)) = true) (al : Al R xs ys) : (List.zipWith F xs ((ys.map D).map g)).all id = true := by
  induction al with
  | nil => rfl
  | @cons x y xs ys h1 _ ih =>
    show (id (F x (g (D y))) && (List.zipWith F xs ((ys.map D).map g)).all id) = true
    rw [Bool.and_eq_true]
    exact ⟨h x (List.mem_cons_self ..) y h1, ih fun z hz => h z (List.mem_cons_of_mem _ hz)⟩
theorem mvA_ok {m : Nat} (IH : ∀ (n : Nat) (t : Nd n) (gs : Nd m) (w : Wt m n), WtOk m n t gs w → wtA m n t gs (ofD (waitD m n w)) = true) : ∀ (n : Nat) (t : Nd n) (q : Qn m) (mv : Mv m n), MvOk (WtOk m) n t q mv → mvA (wtA m) n t q (ofD (mvD (waitD m) n mv)) = true := by
  intro n
  induction n with
  | zero =>
    intro t q mv ok
    rcases mv_cases ok with ⟨a, w, an, e, ea, wok⟩ | ⟨n', en, _⟩
    · rw [e]
      show tellA (wtA m 0 t) q (.int (a : Int)) (ofD (waitD m 0 w)) = true
      unfold tellA
      simp only [getI_nat ea]
      exact IH 0 t an.2.2 w wok
    · omega
  | succ n ih =>
    intro t q mv ok
    rcases mv_cases ok with ⟨a, w, an, e, ea, wok⟩ | ⟨n', en, i, ms, qs, qn, ht, e, _, eq, al⟩
    · rw [e]
      show tellA (wtA m (n + 1) t) q (.int (a : Int)) (ofD (waitD m (n + 1) w)) = true
      unfold tellA
      simp only [getI_nat ea]
      exact IH (n + 1) t an.2.2 w wok
    · obtain rfl : n' = n := by omega
      cases ht
      rw [e]
      show askA2 (fun (an : An n') x => mvA (wtA m) n' an.2.2 q x) qs (.int (i : Int)) (.tup (ofD.ofDs (ms.map (mvD (waitD m) n')))) = true
      unfold askA2
      simp only [getI_nat eq]
      rw [ofDs_map, Bool.and_eq_true]
      refine ⟨decide_eq_true (by rw [List.length_map, List.length_map]; exact al.len.symm), ?_⟩
      exact zip_all _ (fun an _ y h => ih an.2.2 q y h) al
theorem wtA_ok : ∀ (m n : Nat) (t : Nd n) (gs : Nd m) (w : Wt m n), WtOk m n t gs w → wtA m n t gs (ofD (waitD m n w)) = true
  | 0, _, _, _, _, _ => rfl
  | m + 1, n, t, gs, w, ok => by
    have al : Al (fun (q : Qn m) (y : Mv m n) => MvOk (WtOk m) n t q y) (show List (Qn m) from gs) (show List (Mv m n) from w) := ok
    show (decide ((ofD.ofDs ((show List (Mv m n) from w).map (mvD (waitD m) n))).length = (show List (Qn m) from gs).length) && (List.zipWith (fun (q : Qn m) x => mvA (wtA m) n t q x) (show List (Qn m) from gs) (ofD.ofDs ((show List (Mv m n) from w).map (mvD (waitD m) n)))).all id) = true
    rw [ofDs_map, Bool.and_eq_true]
    refine ⟨decide_eq_true (by rw [List.length_map, List.length_map]; exact al.len.symm), ?_⟩
    exact zip_all _ (fun q _ y h => mvA_ok (fun n t gs w => wtA_ok m n t gs w) n t q y h) al
def spPlA (K : PySem.W.Frag) (Cc CA : Addr) (n : Nat) : Sp := fun vs H Q E => ∃ (b g p p2 : Addr) (W W2 : Nat) (v v2 vt : V) (d : AD) (ahead ahead' : List Rat) (t gs : Nd n), vs = [.ref p, .ref p2, vt] ∧ HouseAt Cc H p W v ∧ HouseAt Cc H p2 W2 v2 ∧ (W ≠ W2 → E (.ref CA) none H) ∧ (W = W2 → Ad K b g H vt d ∧ Td K H v (ndD n t) ∧ Td K H v2 (ndD n gs) ∧ NdOk W n ahead t ∧ NdOk W n ahead' gs ∧ ∀ H', Same H H' → Q (.bl (wtA n n t gs d)) H')
section
variable {P : Program} {w : World} {K : PySem.W.Frag} {mg : Str → Option Value} {base : Heap} {aN aO : Addr} {t1 t2 t3 t4 t5 t6 t7 : Tok}
theorem FnOk.or {f : Addr} {fd : FuncData} {ps : List Str} {k : Nat} {sp sq : Sp} (h1 : FnOk P w K mg base CX0 k f fd ps sp) (h2 : FnOk P w K mg base CX0 k f fd ps sq) : FnOk P w K mg base CX0 k f fd ps (orS sp sq) :=
  ⟨fun vs H Q E h => h.elim (h1.len vs H Q E) (h2.len vs H Q E), fun A outer s H args us vs Q E hr e hb rv h => h.elim (h1.run A outer s H args us vs Q E hr e hb rv) (h2.run A outer s H args us vs Q E hr e hb rv)⟩
theorem FnOk.anyS {f : Addr} {fd : FuncData} {ps : List Str} {N k : Nat} {sp : Nat → Sp} {lv : Nat → Nat} (h : ∀ n, FnOk P w K mg base CX0 (lv n) f fd ps (sp n)) (hk : ∀ n, n ≤ N → lv n ≤ k) : FnOk P w K mg base CX0 k f fd ps (anyS N sp) :=
  ⟨fun vs H Q E h' => by
    obtain ⟨n, _, h'⟩ := h'
    exact (h n).len vs H Q E h', fun A outer s H args us vs Q E hr e hb rv h' => by
    obtain ⟨n, hn, h'⟩ := h'
    exact (h n).run A outer s H args us vs Q E (hr.mono (hk n hn)) e hb rv h'⟩
theorem ok_law_flag {f : Addr} {fd : FuncData} (D : Dn K mg "_law_flag" s_law_flag ["told", "due"] f fd) (B : Blt mg) (C : Cst K mg aN aO t1 t2 t3 t4 t5 t6 t7) : FnOk P w K mg base CX0 1 f fd ["told", "due"] spFlag := by
  refine D.F.ok sc_law_flag (fun vs H Q E h => ?_) (fun cdv A outer s H vs Q E hr h => ?_)
  · obtain ⟨x, y, rfl, _⟩ := h
    rfl
  obtain ⟨x, y, rfl, q⟩ := h
  have nd := sc_law_flag.nd
  refine ⟨_, (pss_one (ps_ret (pe_and (pe_callB (k_isi (K := K) rfl) (by rfl) B.isinstance (by decide +kernel) (pa_cons (pv 0) (pa_cons (pe_bltn (v := .ty "bool") (u := .type "bool") (by rfl) B.bool (by decide +kernel) rfl) pa_nil))) (pe_one (pe_cmpR op_eq (pv 0) (pv 1) (nomark _)))))), ?_⟩
  exact ⟨_, rfl, _, _, _, _, true, rfl, .ty "bool", .base (.bl x), kit_ty (by decide +kernel), true, rfl, iteT ⟨_, rfl, _, rfl, rfl, q⟩⟩
theorem ok_law_two {f f1 f2 : Addr} {fd fd1 fd2 : FuncData} (D : Dn K mg "_law_two" s_law_two ["bag", "levels", "answers"] f fd) (B : Blt mg) (C : Cst K mg aN aO t1 t2 t3 t4 t5 t6 t7)
    (D_law_pick : Dn K mg "_law_pick" s_law_pick ["bag", "many"] f1 fd1) (G_law_pick : FnOk P w K mg base CX0 1 f1 fd1 ["bag", "many"] spPick)
    (D_law_tree : Dn K mg "_law_tree" s_law_tree ["bag", "worlds", "levels", "answers"] f2 fd2) (G_law_tree : FnOk P w K mg base CX0 30 f2 fd2 ["bag", "worlds", "levels", "answers"] (anyS 3 (spTree K))) : FnOk P w K mg base CX0 31 f fd ["bag", "levels", "answers"] (spTwo K) := by
  refine D.F.ok sc_law_two (fun vs H Q E h => ?_) (fun cdv A outer s H vs Q E hr h => ?_)
  · obtain ⟨b, g, n, A, rfl, _⟩ := h
    rfl
  obtain ⟨b, g, n, A, rfl, hB, hn, hA, q⟩ := h
  have nd := sc_law_two.nd
  refine ⟨_, (pss_cons (ps_set (i := 3) nd rfl (.inl rfl) (pe_op op_add pe_int (pe_call G_law_pick (hr.mono (by omega)) (by rfl) D_law_pick.m D_law_pick.F.kp D_law_pick.b .nil pass0 (pa_cons (pv 0) (pa_cons pe_int pa_nil)))))
      (pss_one (ps_ret (pe_tup (pa_cons (pv 3) (pa_cons (pe_call G_law_tree (hr.mono (by omega)) (by rfl) D_law_tree.m D_law_tree.F.kp D_law_tree.b .nil pass0 (pa_cons (pv 0) (pa_cons (pv 3) (pa_cons (pv 1) (pa_cons (pv 2) pa_nil))))) (pa_cons (pe_call G_law_tree (hr.mono (by omega)) (by rfl) D_law_tree.m D_law_tree.F.kp D_law_tree.b .nil pass0 (pa_cons (pv 0) (pa_cons (pv 3) (pa_cons (pv 1) (pa_cons (pv 2) pa_nil))))) pa_nil))))))), ?_⟩
  refine ⟨_, rfl, b, g, 3, rfl, hB, by decide, by decide, fun r H1 r0 r1 B1 F1 => ⟨_, _, rfl, rfl, ?_⟩⟩
  obtain ⟨W, eW⟩ : ∃ W : Nat, 1 + r = (W : Int) := ⟨(1 + r).toNat, by omega⟩
  show gName 3 (V.int (1 + r)) _ _ _
  rw [eW]
  refine ⟨_, rfl, _, rfl, _, rfl, _, rfl, _, rfl, n, hn, b, g, W, A, rfl, B1, by omega, by omega, by omega, fun v1 t1 H2 tv1 ok1 c1 B2 F2 => ?_⟩
  refine ⟨_, rfl, _, rfl, _, rfl, _, rfl, n, hn, b, g, W, A, rfl, B2, by omega, by omega, by omega, fun v2 t2 H3 tv2 ok2 c2 B3 F3 => ?_⟩
  refine ⟨by show 3 ≤ sizeLine; decide, fun p np => ?_⟩
  have s := same_upd (o := .tup [.int (W : Int), v1, v2]) np
  exact q p W v1 v2 t1 t2 _ (by omega) (by omega) (.inl (.inl upd_same)) (tv1.keep ((B2.kt F3).trans (Same.kt s))) ok1 c1 (tv2.keep (Same.kt s)) ok2 c2 (B3.keep s) (F1.trans (F2.trans (F3.trans (.of s))))
theorem ok_law_edges {f f1 f2 f3 : Addr} {fd fd1 fd2 fd3 : FuncData} (D_law_move_edge : Dn K mg "_law_move_edge" s_law_move_edge ["bag", "here", "question", "move"] f fd) (B : Blt mg) (D_law_pick : Dn K mg "_law_pick" s_law_pick ["bag", "many"] f1 fd1) (D_law_some : Dn K mg "_law_some" s_law_some ["bag", "things"] f2 fd2) (D_law_edge : Dn K mg "_law_edge" s_law_edge ["bag", "here", "goal", "plan"] f3 fd3) :
    ∀ m n : Nat, n ≤ 6 → FnOk P w K mg base CX0 (3 + 8 * m) f3 fd3 ["bag", "here", "goal", "plan"] (spEdge K m n) ∧ FnOk P w K mg base CX0 (4 + 8 * m + n) f fd ["bag", "here", "question", "move"] (spMEdge K m n) := by
  have no : ∀ k, FnOk P w K mg base CX0 k f fd ["bag", "here", "question", "move"] (fun _ _ _ _ => False) := fun k => ⟨fun vs H Q E h => h.elim, fun A outer s H args us vs Q E _ _ _ _ h => h.elim⟩
  have step : ∀ m : Nat, (∀ m', m = m' + 1 → ∀ n, n ≤ 6 → FnOk P w K mg base CX0 (4 + 8 * m' + n) f fd ["bag", "here", "question", "move"] (spMEdge K m' n)) → ∀ n : Nat, n ≤ 6 → FnOk P w K mg base CX0 (3 + 8 * m) f3 fd3 ["bag", "here", "goal", "plan"] (spEdge K m n) ∧ FnOk P w K mg base CX0 (4 + 8 * m + n) f fd ["bag", "here", "question", "move"] (spMEdge K m n) := by
    intro m IH
    have wait : ∀ n : Nat, n ≤ 6 → FnOk P w K mg base CX0 (3 + 8 * m) f3 fd3 ["bag", "here", "goal", "plan"] (spEdge K m n) := by
      intro n hn
      cases m with
      | zero => exact ok_law_edge (k := 2) D_law_edge B D_law_pick D_law_some D_law_move_edge (no 2) (fun m' e => by omega) (by omega)
      | succ m' =>
        have G := IH m' rfl n hn
        rw [show 3 + 8 * (m' + 1) = (10 + 8 * m') + 1 by omega]
        exact ok_law_edge D_law_edge B D_law_pick D_law_some D_law_move_edge (G.mono (by omega)) (fun m2 e => by rw [show m2 = m' by omega]) (by omega)
    have move : ∀ n : Nat, n ≤ 6 → FnOk P w K mg base CX0 (4 + 8 * m + n) f fd ["bag", "here", "question", "move"] (spMEdge K m n) := by
      intro n
      induction n with
      | zero =>
        intro hn
        rw [show 4 + 8 * m + 0 = (3 + 8 * m) + 1 by omega]
        exact ok_law_move_edge D_law_move_edge B D_law_pick D_law_some D_law_edge (wait 0 hn) (no _) (fun n' e => by omega) (by omega)
      | succ n ih =>
        intro hn
        rw [show 4 + 8 * m + (n + 1) = (4 + 8 * m + n) + 1 by omega]
        exact ok_law_move_edge D_law_move_edge B D_law_pick D_law_some D_law_edge ((wait (n + 1) hn).mono (by omega)) (ih (by omega)) (fun n' e => by rw [show n' = n by omega]) (by omega)
    exact fun n hn => ⟨wait n hn, move n hn⟩
  intro m
  induction m with
  | zero => exact step 0 (fun m' e => by omega)
  | succ m ih => exact step (m + 1) (fun m' e n hn => by rw [show m' = m by omega]; exact (ih n hn).2)
theorem ok_passing_wait {f : Addr} {fd : FuncData} (D : Dn K mg "passing_wait" s_passing_wait ["node"] f fd) (B : Blt mg) (C : Cst K mg aN aO t1 t2 t3 t4 t5 t6 t7) : ∀ n : Nat, FnOk P w K mg base CX0 (1 + n) f fd ["node"] ((spPW K) n) := by
  intro n
  obtain ⟨sp0, G_passing_wait, hsp⟩ : ∃ sp0, FnOk P w K mg base CX0 (0 + n) f fd ["node"] sp0 ∧ (∀ m, n = m + 1 → sp0 = (spPW K) m) := by
    cases n with
    | zero => exact ⟨fun _ _ _ _ => False, ⟨fun vs H Q E h => h.elim, fun A outer s H args us vs Q E _ _ _ _ h => h.elim⟩, fun m e => by omega⟩
    | succ m =>
      have G := ok_passing_wait D B C m
      rw [show 1 + m = 0 + (m + 1) by omega] at G
      exact ⟨_, G, fun m' e => by rw [show m' = m by omega]⟩
  rw [show 1 + n = (0 + n) + 1 by omega]
  refine D.F.ok sc_passing_wait (fun vs H Q E h => ?_) (fun cdv A outer s H vs Q E hr h => ?_)
  · obtain ⟨W, v, ahead, gs, rfl, _⟩ := h
    rfl
  obtain ⟨W, v, ahead, gs, rfl, hv, gok, q⟩ := h
  have nd := sc_passing_wait.nd
  have D_passing_wait := D
  refine ⟨_, (pss_one (ps_ret (pe_callTy (k_tupOf (K := K) rfl) (by rfl) B.tuple (by decide +kernel) (pa_cons (pe_lc (own := [("number", 3), ("question", 4)]) rfl nd (k_enum (K := K) rfl (by rfl) B.enumerate (pa_cons (pv 0) pa_nil)) (blkOk_by (own := [("number", 3), ("question", 4)]) (by kernel_rfl)) (fun _ _ _ _ _ => (k_tup (K := K) (n := 2) rfl rfl (pgs_cons (pg_name (i := 3) nd rfl (.inl rfl)) (pgs_cons (pg_name (i := 4) nd rfl (.inl rfl)) pgs_nil)))) (fun _ _ _ _ _ => pts_nil) (fun _ _ _ _ _ => (pe_tup (pa_cons pe_str (pa_cons (pv 3) (pa_cons (pe_callTy (k_tupOf (K := K) rfl) (by rfl) B.tuple (by decide +kernel) (pa_cons (pe_lc (own := [("place", 1), ("answer", 2)]) rfl nd (k_enum (K := K) rfl (by rfl) B.enumerate (pa_cons (pv 4) pa_nil)) (blkOk_by (own := [("place", 1), ("answer", 2)]) (by kernel_rfl)) (fun _ _ _ _ _ => (k_tup (K := K) (n := 2) rfl rfl (pgs_cons (pg_name (i := 1) nd rfl (.inl rfl)) (pgs_cons (pg_name (i := 2) nd rfl (.inl rfl)) pgs_nil)))) (fun _ _ _ _ _ => pts_nil) (fun _ _ _ _ _ => (pe_tup (pa_cons pe_str (pa_cons (pv 1) (pa_cons (pe_call G_passing_wait (hr.mono (by omega)) (by rfl) D_passing_wait.m D_passing_wait.F.kp D_passing_wait.b .nil pass0 (pa_cons (pe_ix (k_ixT (K := K) rfl) (pv 2) pe_int (fun _ _ => rfl)) pa_nil)) pa_nil)))))) pa_nil)) pa_nil)))))) pa_nil)))), ?_⟩
  obtain ⟨a, xs, ds, rfl, ha, ed, ta, l0⟩ := td_qs hv
  refine ⟨_, rfl, a, xs, rfl, ha, fun T hT => ?_⟩
  cases n with
  | zero =>
    have := l0 rfl
    subst this
    refine lc_td (K := K) (walk_enumT (K := K) (a := a) (xs := [])) [] rfl (by decide) hT (fun H' s => Same.kt s _ _ ha) ?_ ?_
    · rintro i x e H0 H3 Qy N he
      cases he
    intro H2 us h2 t2 s2
    exact ⟨T, us, rfl, SqL.of h2, fun v H3 s3 q3 => q (.ref v) H3 (s2.trans s3) (.tup q3 (t2.keep (Same.kt s3)))⟩
  | succ n =>
    have hsp := hsp n rfl
    subst hsp
    obtain ⟨qs, hqs⟩ : ∃ qs : List (Qn n), (qs : Nd (n + 1)) = gs := ⟨gs, rfl⟩
    subst hqs
    cases ed
    have lx : xs.length = qs.length := by rw [ta.len, List.length_map]
    have l5 : qs.length ≤ 5 := gok.1
    refine lc_td (K := K) (walk_enumT (K := K) (a := a) (xs := xs)) ((qs.mapIdx (idQ n)).map (mvD (waitD n) (n + 1))) (by rw [List.length_map, List.length_mapIdx, lx]) (by omega) hT (fun H' s => Same.kt s _ _ ha) ?_ ?_
    · rintro i x e H0 H3 Qy N he s0 ⟨T3, x1, x2, rfl, n3, rfl, e1, e2⟩ hQ
      cases e1
      obtain ⟨dx, ex, tx⟩ := ta.getV e2
      obtain ⟨qn, eq, rfl⟩ := map_at ex
      obtain ⟨qok, nok⟩ := gok.2 qn (List.mem_of_getElem? eq)
      have q12 := qok.most
      rw [List.getElem?_map, mapIdx_at eq] at he
      cases he
      have s3 : Same H0 (upd H0 T3 (.tup [.int (i : Int), x2])) := same_upd n3
      have s03 := s0.trans s3
      have tx3 := tx.keep (Same.kt s03)
      have e3 : SqT K (upd H0 T3 (.tup [.int (i : Int), x2])) T3 [.int (i : Int), x2] := .inl (.inl upd_same)
      generalize upd H0 T3 (.tup [.int (i : Int), x2]) = H3 at s3 s03 tx3 e3 ⊢
      refine ⟨T3, _, rfl, e3, rfl, _, _, rfl, _, _, rfl, rfl, ?_⟩
      refine ⟨rfl, ?_⟩
      refine iteT (B := N H3) ?_
      obtain ⟨qa, ys, rfl, hqa, tqa⟩ := id tx3.tupE
      have ly : ys.length = qn.length := by rw [tqa.len, List.length_map]
      refine ⟨_, rfl, _, rfl, qa, ys, rfl, hqa, fun T5 hT5 => ?_⟩
      refine lc_td (K := K) (walk_enumT (K := K) (a := qa) (xs := ys)) (((show List (An n) from qn).mapIdx (idA n)).map (mvD (waitD n) n)) (by rw [List.length_map, List.length_mapIdx, ly]) (by omega) hT5 (fun H' s => Same.kt s _ _ hqa) ?_ ?_
      · rintro j y e H5 H6 Qy' N' he s5 ⟨T6, y1, y2, rfl, n6, rfl, g1, g2⟩ hQ'
        cases g1
        obtain ⟨dy, ey, ty⟩ := tqa.getV g2
        obtain ⟨an, ean, rfl⟩ := map_at ey
        have man := List.mem_of_getElem? ean
        rw [List.getElem?_map, mapIdx_at ean] at he
        cases he
        have s6 : Same H5 (upd H5 T6 (.tup [.int (j : Int), y2])) := same_upd n6
        have s36 := s5.trans s6
        have ty6 := ty.keep (Same.kt s36)
        have e6 : SqT K (upd H5 T6 (.tup [.int (j : Int), y2])) T6 [.int (j : Int), y2] := .inl (.inl upd_same)
        generalize upd H5 T6 (.tup [.int (j : Int), y2]) = H6 at s6 s36 ty6 e6 ⊢
        obtain ⟨pn, vw, vz, vt, rfl, hpn, tw, tz, tt⟩ := td_an ty6
        refine ⟨T6, _, rfl, e6, rfl, _, _, rfl, _, _, rfl, rfl, ?_⟩
        refine ⟨rfl, ?_⟩
        refine iteT (B := N' H6) ?_
        refine ⟨_, rfl, _, rfl, pn, _, 2, _, rfl, rfl, hpn, at_of (j := 2) rfl rfl, W, vt, an.2.1, an.2.2, rfl, tt, nok an man, fun v9 H9 s9 t9 => ?_⟩
        refine ⟨by show 3 ≤ sizeLine; decide, fun p10 n10 => ?_⟩
        have s10 : Same H9 (upd H9 p10 (.tup [.str "tell", .int (j : Int), v9])) := same_upd n10
        refine hQ' (.ref p10) _ (s6.trans (s9.trans s10)) ?_
        show Td K _ (.ref p10) (mvD (waitD n) n (tellM n j (idW n an.2.2)))
        rw [tellM_D]
        exact .tup (.inl (.inl upd_same)) (.cons (.str _) (.cons (.int _) (.cons (t9.keep (Same.kt s10)) .nil)))
      intro H7 us7 h7 t7 s7
      refine ⟨T5, us7, rfl, SqL.of h7, fun l8 H8 s8 q8 => ?_⟩
      refine ⟨by show 3 ≤ sizeLine; decide, fun p10 n10 => ?_⟩
      have s10 : Same H8 (upd H8 p10 (.tup [.str "ask", .int (i : Int), .ref l8])) := same_upd n10
      refine hQ (.ref p10) _ (s3.trans (s7.trans (s8.trans s10))) ?_
      exact .tup (.inl (.inl upd_same)) (.cons (.str _) (.cons (.int _) (.cons (.tup (Same.kt s10 _ _ q8) (t7.keep (Same.kt (s8.trans s10)))) .nil)))
    intro H2 us h2 t2 s2
    exact ⟨T, us, rfl, SqL.of h2, fun v H3 s3 q3 => q (.ref v) H3 (s2.trans s3) (.tup q3 (t2.keep (Same.kt s3)))⟩
theorem ok_passing {m : Nat} {f f1 : Addr} {fd fd1 : FuncData} {Cc fi fe : Addr} (D : Dn K mg "passing" s_passing ["house"] f fd) (B : Blt mg) (C : Cst K mg aN aO t1 t2 t3 t4 t5 t6 t7) (U : Hcl K mg Cc fi fe)
    (D_passing_wait : Dn K mg "passing_wait" s_passing_wait ["node"] f1 fd1) (G_passing_wait : FnOk P w K mg base CX0 (1 + m) f1 fd1 ["node"] (spPW K m)) : FnOk P w K mg base CX0 (2 + m) f fd ["house"] (spPass K Cc m) := by
  rw [show 2 + m = (1 + m) + 1 by omega]
  refine D.F.ok sc_passing (fun vs H Q E h => ?_) (fun cdv A outer s H vs Q E hr h => ?_)
  · obtain ⟨p, W, v, t, rfl, _⟩ := h
    rfl
  obtain ⟨p, W, v, t, rfl, h, q⟩ := h
  have nd := sc_passing.nd
  refine ⟨_, (pss_one (ps_ret (pe_tup (pa_cons (pe_tup (pa_cons (pe_glob (v := .ref _) rfl C.ONE rfl) (pa_cons (pe_call G_passing_wait (hr.mono (by omega)) (by rfl) D_passing_wait.m D_passing_wait.F.kp D_passing_wait.b .nil pass0 (pa_cons (k_fld (K := K) rfl (pv 0) rfl) pa_nil)) pa_nil))) pa_nil)))), ?_⟩
  obtain ⟨d, e⟩ := id h.at_
  refine ⟨_, rfl, p, Cc, d, _, _, rfl, e, U.cl, U.nt, hf_t _ _, W, v, ones W, t, rfl, h.td, h.ok, fun v8 H8 s8 t8 => ?_⟩
  refine ⟨by show 2 ≤ sizeLine; decide, fun p1 n1 => ⟨by show 1 ≤ sizeLine; decide, fun p2 n2 => ?_⟩⟩
  have z1 := same_upd (o := .tup [.ref aO, v8]) n1
  have z2 := same_upd (o := .tup [.ref p1]) n2
  refine q (.ref p2) _ (s8.trans (z1.trans z2)) ?_
  have tO : Td K (upd (upd H8 p1 (.tup [.ref aO, v8])) p2 (.tup [.ref p1])) (.ref aO) (rD 1) := by
    rw [rD_one]
    exact .tup (C.tO _) (tdAll_ints [1, 1])
  exact .tup (.inl (.inl upd_same)) (.cons (.tup (Same.kt z2 _ _ (.inl (.inl upd_same))) (.cons tO (.cons (t8.keep (Same.kt (z1.trans z2))) .nil))) .nil)
theorem ok_check_alike {HE CA : Addr} {f : Addr} {fd : FuncData} {Cc fi fe : Addr} (D : Dn K mg "check_alike" s_check_alike ["house", "other"] f fd) (B : Blt mg) (C : Cst K mg aN aO t1 t2 t3 t4 t5 t6 t7) (U : Hcl K mg Cc fi fe) (X_NotAlike : XRs K mg HE "NotAlike" CA) : FnOk P w K mg base (L2.CX P w) 1 f fd ["house", "other"] (spAlk Cc CA) := by
  refine D.F.okX sc_check_alike (fun vs H Q E h => ?_) (fun cdv A outer s H vs Q E hr h => ?_)
  · obtain ⟨p, p2, W, W2, v, v2, rfl, _⟩ := h
    rfl
  obtain ⟨p, p2, W, W2, v, v2, rfl, ⟨dx, e1⟩, ⟨dy, e2⟩, q, r⟩ := h
  have nd := sc_check_alike.nd
  refine ⟨_, (pss_one (ps_if (pt_cmpR op_ne (k_fld (K := K) rfl (pv 0) rfl) (k_fld (K := K) rfl (pv 1) rfl) (nomark _)) (pss_one (ps_raise rfl (takes_of rfl rfl rfl rfl) (pmk_own0 PySem.F.excBase_ValueError X_NotAlike.q X_NotAlike.X.g X_NotAlike.X.k (raises_own X_NotAlike.X.E.hs X_NotAlike.X.T.tyC) (by rfl)))) pss_nil)), ?_⟩
  refine ⟨_, rfl, p, Cc, dx, _, _, rfl, e1, U.cl, U.nw, hf_w _ _, _, rfl, p2, Cc, dy, _, _, rfl, e2, U.cl, U.nw, hf_w _ _, rfl, _, rfl, ?_⟩
  by_cases h : W = W2
  · subst h
    refine ite2 (fun c => ?_) (fun c => ?_)
    · simp at c
    · exact q rfl
  · refine ite2 (fun c => ?_) (fun c => ?_)
    · exact r h
    · simp at c
      exact absurd (by omega) h
theorem ok_is_plan {HE CA : Addr} {n : Nat} {f f1 f2 : Addr} {fd fd1 fd2 : FuncData} {Cc fi fe : Addr} (D : Dn K mg "is_plan" s_is_plan ["house", "other", "thing"] f fd) (B : Blt mg) (C : Cst K mg aN aO t1 t2 t3 t4 t5 t6 t7) (U : Hcl K mg Cc fi fe)
    (D_check_alike : Dn K mg "check_alike" s_check_alike ["house", "other"] f1 fd1) (G_check_alike : FnOk P w K mg base (L2.CX P w) 1 f1 fd1 ["house", "other"] (spAlk Cc CA))
    (D_is_wait : Dn K mg "is_wait" s_is_wait ["thing", "waiting", "stand"] f2 fd2) (G_is_wait : FnOk P w K mg base CX0 26 f2 fd2 ["thing", "waiting", "stand"] (spWtA K n n)) : FnOk P w K mg base (L2.CX P w) 28 f fd ["house", "other", "thing"] (spPlA K Cc CA n) := by
  refine D.F.okX sc_is_plan (fun vs H Q E h => ?_) (fun cdv A outer s H vs Q E hr h => ?_)
  · obtain ⟨b, g, p, p2, W, W2, v, v2, vt, d, ahead, ahead', t, gs, rfl, _⟩ := h
    rfl
  obtain ⟨b, g, p, p2, W, W2, v, v2, vt, d, ahead, ahead', t, gs, rfl, h1, h2, r, q⟩ := h
  have nd := sc_is_plan.nd
  refine ⟨_, (pss_cons (ps_expr (pe_call G_check_alike (hr.mono (by omega)) (by rfl) D_check_alike.m D_check_alike.F.kp D_check_alike.b .nil (passes_call (takes_of rfl rfl rfl rfl) (fun _ _ _ _ h => h)) (pa_cons (pv 0) (pa_cons (pv 1) pa_nil))))
      (pss_one (ps_ret (pe_call G_is_wait (hr.mono (by omega)) (by rfl) D_is_wait.m D_is_wait.F.kp D_is_wait.b .nil pass0 (pa_cons (pv 2) (pa_cons (k_fld (K := K) rfl (pv 1) rfl) (pa_cons (k_fld (K := K) rfl (pv 0) rfl) pa_nil))))))), ?_⟩
  refine ⟨_, rfl, _, rfl, p, p2, W, W2, v, v2, rfl, h1, h2, fun e => ?_, r⟩
  subst e
  obtain ⟨had, hv, hv2, ok1, ok2, q⟩ := q rfl
  obtain ⟨dx, e1⟩ := id h1
  obtain ⟨dy, e2⟩ := id h2
  refine ⟨_, rfl, _, rfl, p2, Cc, dy, _, _, rfl, e2, U.cl, U.nt, hf_t _ _, _, rfl, p, Cc, dx, _, _, rfl, e1, U.cl, U.nt, hf_t _ _, ?_⟩
  exact ⟨b, g, W, vt, v2, v, d, ahead, ahead', t, gs, rfl, had, hv2, hv, ok1, ok2, q⟩
end
end Tl
/-! the def that tells what a lambda makes -/
namespace Tl
open PySem PySem.Spec PyProof.Rows L2 RZ LamX
/-- "told", or the word of the class CA -/
def TTal (CA : Addr) : (XK → Hp → VK → Prop) → Hp → VK → Prop := fun tl H Q =>
  ∀ Qn : VK, (∀ v H', Q (.str "told") H' → Qn v H') → tl (fun cls _ H' => cls = Value.ref CA ∧ Q (.str "alike") H') H Qn
section
variable {X : Cx}
theorem gives_word {q : Str} {g CA HE : Addr} {cdg : Value} (hA : X.mg "NotAlike" = some (.ref CA)) (hH : X.mg "HouseError" = some (.ref HE)) (eAA : PySem.W.exmOne X.K (.ref CA) (.ref CA) = some true) :
    GivesTo X ["call", "word"] "_law_word" (defScope s_law_word) g cdg (defBody s_law_word) "call" q (TTal CA) := by
  intro f c' s H Q tl act hc h
  have nd := sc_law_word.nd
  have body : ∀ (W : WX) (pn : List (Addr × Obj)) (xe : Value → Shared → Prop) (p1 p2 p3 : Pos), Takes ((cxOf C8.CX0 X.prog X.w X.K X.mg X.base ["call", "word"] "_law_word" (defScope s_law_word) g cdg X.A X.stack s H C8.E0).nox.tr pn xe) W →
      PSs ((cxOf C8.CX0 X.prog X.w X.K X.mg X.base ["call", "word"] "_law_word" (defScope s_law_word) g cdg X.A X.stack s H C8.E0).nox.tr pn xe) [.Expr (.Call (.Name "call" p1) [] [] p2) p3]
        (fun D σ H' => ∃ Ech : XK, (∀ cls d σ' H', Ech cls d H' → W cls d σ' H') ∧ σ[0]? = some (some (.ref f)) ∧ H' c' = some (CodeO c' q) ∧ tl Ech H' (fun _ H'' => D.nx σ H'')) := fun W pn xe p1 p2 p3 tk => by
    refine ⟨fun pins s' σ H' D I h' => ?_⟩
    obtain ⟨Ech, hW, h1, h2, h3⟩ := h'
    have hp := act W pn xe Ech p1 p2 tk hW
    exact (pss_one (ps_expr (pos := p3) hp)).run pins s' σ H' D I ⟨h1, h2, h3⟩
  refine ⟨_, pss_cons (ps_set (i := 1) nd rfl (.inl rfl) pe_str) (pss_cons (ps_try_many (Wout := fun _ _ _ _ => False) rfl rfl LamX.takes0 (fun W pn xe tk _ => body W pn xe _ _ _ tk)
    (.cons (c := .ref CA) (ts := fun a cls d D σ H => σ.length = 2 → tAsg (tC (V.str "alike")) (gName 1) D σ H) ⟨rfl, by decide, .inl hA⟩ (fun a oe cls d pn hz hf => by exact pss_len (pss_one (ps_set (i := 1) nd rfl (.inl rfl) pe_str))) (.cons (c := .ref HE) (ts := fun a cls d D σ H => σ.length = 2 → tAsg (tC (V.str "other")) (gName 1) D σ H) ⟨rfl, by decide, .inl hH⟩ (fun a oe cls d pn hz hf => by exact pss_len (pss_one (ps_set (i := 1) nd rfl (.inl rfl) pe_str))) .nil))) (pss_one (ps_ret (pv 1)))), ?_⟩
  refine ⟨fun cls _ H' => cls = Value.ref CA ∧ Q (.str "alike") H', fun cls d σ' H' ⟨e1, e2⟩ => ?_, rfl, hc, h _ fun v H' hq => ⟨_, rfl, hq⟩⟩
  subst e1
  refine ⟨true, eAA, fun _ a na hl => ?_, fun z => Bool.noConfusion z⟩
  have hl : σ'.length = 2 := hl
  match σ', hl with
  | [x, y], _ => exact ⟨_, rfl, e2⟩
end
end Tl
/-! trees with other weights, for any number of worlds -/
namespace Tl
open PySem PySem.Spec PyProof.Rows L2 RZ
theorem rwx_ok {W W0 n m e : Nat} {ahead0 ahead : List Rat} {ds : List (List Rat)} {q : Qn n} {q' : Qn n} (ok : QnOk W0 ahead0 q) (hl : q'.length = q.length) (hd : ds.length = W) (ha : ahead.length = W) (hS : ∀ d ∈ ds, IsShares q.length d) (hA : ∀ r ∈ ahead, Ch e r) (he : e + 1 ≤ 6)
    (h : ∀ (i : Nat) (a' : An n), q'[i]? = some a' → ∃ a : An n, q[i]? = some a ∧ a'.1 = a.1 ∧ a'.2.1 = wk W ahead ds i) : QnOk W ahead q' ∧ (∀ a ∈ q', ∀ r ∈ a.2.1, Ch (e + 1) r) := by
  have o1 := ok.one
  have o12 := ok.most
  have dj : ∀ j, j < W → IsShares q.length (ds.getD j []) := fun j hj => by
    have hj2 : j < ds.length := by omega
    rw [getD_of (List.getElem?_eq_getElem hj2)]
    exact hS _ (List.getElem_mem hj2)
  have aj : ∀ j, j < W → Ch e (ahead.getD j 0) := fun j hj => mem_getD0 hA (by omega)
  have chw : ∀ a ∈ q', ∀ r ∈ a.2.1, Ch (e + 1) r := by
    intro a hm' r hr
    obtain ⟨i, hi, rfl⟩ := List.getElem_of_mem hm'
    obtain ⟨_, _, _, ew⟩ := h i _ (List.getElem?_eq_getElem hi)
    rw [ew] at hr
    unfold wk at hr
    obtain ⟨j, hj, rfl⟩ := List.mem_map.mp hr
    have hj := List.mem_range.mp hj
    obtain ⟨p, s, s0, s1, ps, e1⟩ := share_at (dj j hj) (show i < q.length by omega)
    rw [e1]
    exact (aj j hj).mul s0 (by omega) ps
  have colj : ∀ j, j < W → col q' j = (ds.getD j []).map fun x => ahead.getD j 0 * x := by
    intro j hj
    have lj : (ds.getD j []).length = q.length := by
      obtain ⟨ps, h1, _, _, e1⟩ := dj j hj
      rw [e1, List.length_map, h1]
    refine List.ext_getElem? fun i => ?_
    unfold col
    rw [List.getElem?_map, List.getElem?_map]
    by_cases hi : i < q.length
    · have g1 : q'[i]? = some (q'[i]'(by omega)) := List.getElem?_eq_getElem (by omega)
      have g2 : (ds.getD j [])[i]? = some ((ds.getD j [])[i]'(by omega)) := List.getElem?_eq_getElem (by omega)
      rw [g1, g2]
      obtain ⟨_, _, _, e3⟩ := h i _ g1
      show some ((q'[i]'(by omega)).2.1.getD j 0) = some (ahead.getD j 0 * ((ds.getD j [])[i]'(by omega)))
      rw [e3, wk_at hj, getD_of g2]
    · rw [List.getElem?_eq_none (by omega), List.getElem?_eq_none (by omega)]
      rfl
  refine ⟨⟨by omega, by omega, ?_, ?_, ?_, ?_, ?_⟩, chw⟩
  · intro a hm'
    obtain ⟨i, hi, rfl⟩ := List.getElem_of_mem hm'
    obtain ⟨a0, e0, ew, _⟩ := h i _ (List.getElem?_eq_getElem hi)
    rw [ew]
    exact ok.words _ (List.mem_of_getElem? e0)
  · intro i x y hx hy
    obtain ⟨x0, ex, kx, _⟩ := h i _ hx
    obtain ⟨y0, ey, ky, _⟩ := h (i + 1) _ hy
    rw [kx, ky]
    exact ok.asc i x0 y0 ex ey
  · intro a hm'
    obtain ⟨i, hi, rfl⟩ := List.getElem_of_mem hm'
    obtain ⟨_, _, _, ew⟩ := h i _ (List.getElem?_eq_getElem hi)
    rw [ew]
    unfold wk
    rw [List.length_map, List.length_range]
  · exact fun a h1 r h2 => (chw a h1 r h2).mono he
  · intro j hj
    rw [colj j hj]
    exact shares_col (dj j hj) _
def spRX (K : PySem.W.Frag) (n : Nat) : Sp := fun vs H Q _ => ∃ (b g : Addr) (W W0 e : Nat) (v av : V) (ahead0 ahead : List Rat) (t : Nd n), vs = [.ref b, .int (W : Int), v, av] ∧ Bag H b g ∧ Td K H v (ndD n t) ∧ Td K H av (wsD ahead) ∧ ahead.length = W ∧ (∀ r ∈ ahead, Ch e r) ∧ e + n ≤ 6 ∧ NdOk W0 n ahead0 t ∧ 1 ≤ W ∧ W ≤ 5 ∧
  ∀ (v' : V) (t' : Nd n) (H' : Hp), Td K H' v' (ndD n t') → NdOk W n ahead t' → Shp n t t' → Bag H' b g → Frm b g H H' → Q v' H'
section
variable {P : Program} {w : World} {K : PySem.W.Frag} {mg : Str → Option Value} {base : Heap}
theorem ok_law_reweighted_x {f f1 f2 f3 f4 f5 : Addr} {fd fd1 fd2 fd3 fd4 fd5 : FuncData} (D : Dn K mg "_law_reweighted" s_law_reweighted ["bag", "worlds", "node", "ahead"] f fd) (B : Blt mg) (D_law_low : Dn K mg "_law_low" s_law_low ["top", "bottom"] f1 fd1) (D_law_common : Dn K mg "_law_common" s_law_common ["one", "other"] f2 fd2)
    (D_law_pick : Dn K mg "_law_pick" s_law_pick ["bag", "many"] f3 fd3) (D_law_shares : Dn K mg "_law_shares" s_law_shares ["bag", "many", "least"] f4 fd4) (D_law_times : Dn K mg "_law_times" s_law_times ["one", "other"] f5 fd5) : ∀ n : Nat, FnOk P w K mg base CX0 (4 + n) f fd ["bag", "worlds", "node", "ahead"] (spRX K n) := by
  intro n
  have G_law_shares : FnOk P w K mg base CX0 3 f4 fd4 ["bag", "many", "least"] (spShares K) := ok_law_shares D_law_shares B D_law_low D_law_common D_law_pick
  have G_law_times : FnOk P w K mg base CX0 3 f5 fd5 ["one", "other"] (spTimes K) := ok_law_times D_law_times B D_law_low D_law_common
  obtain ⟨sp0, G_law_reweighted, hsp⟩ : ∃ sp0, FnOk P w K mg base CX0 (3 + n) f fd ["bag", "worlds", "node", "ahead"] sp0 ∧ (∀ m, n = m + 1 → sp0 = spRX K m) := by
    cases n with
    | zero => exact ⟨fun _ _ _ _ => False, ⟨fun vs H Q E h => h.elim, fun A outer s H args us vs Q E _ _ _ _ h => h.elim⟩, fun m e => by omega⟩
    | succ m =>
      have G := ok_law_reweighted_x D B D_law_low D_law_common D_law_pick D_law_shares D_law_times m
      rw [show 4 + m = 3 + (m + 1) by omega] at G
      exact ⟨_, G, fun m' e => by rw [show m' = m by omega]⟩
  rw [show 4 + n = (3 + n) + 1 by omega]
  refine D.F.ok sc_law_reweighted (fun vs H Q E h => ?_) (fun cdv A outer s H vs Q E hr h => ?_)
  · obtain ⟨b, g, W, W0, e, v, av, ah0, ah, t, rfl, _⟩ := h
    rfl
  obtain ⟨b, g, W, W0, e, v, av, ahead0, ahead, t, rfl, hB, hv, hav, hla, hch, he, hok, hW1, hW5, q⟩ := h
  have nd := sc_law_reweighted.nd
  have D_law_reweighted := D
  refine ⟨_, (pss_cons (ps_set (i := 4) nd rfl (.inl rfl) (pe_lst pa_nil))
      (pss_cons (ps_for PassesOwn.never rfl (k_iT (K := K) rfl (pv 2)) (pg_name (i := 5) nd rfl (.inr rfl)) (pss_cons (ps_set (i := 6) nd rfl (.inr rfl) (pe_lc (own := [("world", 7)]) rfl nd (pi_range1 (by rfl) B.range (pa_cons (pv 1) pa_nil)) (blkOk_by (own := [("world", 7)]) (by kernel_rfl)) (fun _ _ _ _ _ => (pg_name (i := 7) nd rfl (.inl rfl))) (fun _ _ _ _ _ => pts_nil) (fun _ _ _ _ _ => (pe_call G_law_shares (hr.mono (by omega)) (by rfl) D_law_shares.m D_law_shares.F.kp D_law_shares.b .nil pass0 (pa_cons (pv 0) (pa_cons (pe_callB (k_len (K := K) rfl) (by rfl) B.len PySem.boot_len (pa_cons (pv 5) pa_nil)) (pa_cons pe_int pa_nil)))))))
      (pss_cons (ps_set (i := 8) nd rfl (.inl rfl) (pe_lst pa_nil))
      (pss_cons (ps_for PassesOwn.never rfl (k_enum (K := K) rfl (by rfl) B.enumerate (pa_cons (pv 5) pa_nil)) (k_tup (K := K) (n := 2) rfl rfl (pgs_cons (pg_name (i := 9) nd rfl (.inr rfl)) (pgs_cons (k_tup (K := K) (n := 3) rfl rfl (pgs_cons (pg_name (i := 10) nd rfl (.inl rfl)) (pgs_cons (pg_name (i := 11) nd rfl (.inl rfl)) (pgs_cons (pg_name (i := 12) nd rfl (.inl rfl)) pgs_nil)))) pgs_nil))) (pss_cons (ps_set (i := 13) nd rfl (.inl rfl) (pe_callTy (k_tupOf (K := K) rfl) (by rfl) B.tuple (by decide +kernel) (pa_cons (pe_lc (own := [("world", 7)]) rfl nd (pi_range1 (by rfl) B.range (pa_cons (pv 1) pa_nil)) (blkOk_by (own := [("world", 7)]) (by kernel_rfl)) (fun _ _ _ _ _ => (pg_name (i := 7) nd rfl (.inl rfl))) (fun _ _ _ _ _ => pts_nil) (fun _ _ _ _ _ => (pe_call G_law_times (hr.mono (by omega)) (by rfl) D_law_times.m D_law_times.F.kp D_law_times.b .nil pass0 (pa_cons (pe_ix (k_ixT (K := K) rfl) (pv 3) (pv 7) (fun _ _ => rfl)) (pa_cons (pe_ix (k_ixL (K := K) rfl) (pe_ix (k_ixL (K := K) rfl) (pv 6) (pv 7) (fun _ _ => rfl)) (pv 9) (fun _ _ => rfl)) pa_nil))))) pa_nil)))
      (pss_one (ps_expr (pe_bm PySem.F.plainAttrs_list PySem.F.slot_list_append PySem.F.type_list_append mt_append (pv 8) (pa_cons (pe_tup (pa_cons (pv 10) (pa_cons (pv 13) (pa_cons (pe_call G_law_reweighted (hr.mono (by omega)) (by rfl) D_law_reweighted.m D_law_reweighted.F.kp D_law_reweighted.b .nil pass0 (pa_cons (pv 0) (pa_cons (pv 1) (pa_cons (pv 12) (pa_cons (pv 13) pa_nil))))) pa_nil)))) pa_nil))))))
      (pss_one (ps_expr (pe_bm PySem.F.plainAttrs_list PySem.F.slot_list_append PySem.F.type_list_append mt_append (pv 4) (pa_cons (pe_callTy (k_tupOf (K := K) rfl) (by rfl) B.tuple (by decide +kernel) (pa_cons (pv 8) pa_nil)) pa_nil))))))))
      (pss_one (ps_ret (pe_callTy (k_tupOf (K := K) rfl) (by rfl) B.tuple (by decide +kernel) (pa_cons (pv 4) pa_nil)))))), ?_⟩
  obtain ⟨a, xs, dd, rfl, ha, ed, ta, l0⟩ := td_qs hv
  refine ⟨by show 0 ≤ sizeLine; decide, fun T hT => ?_⟩
  obtain ⟨Tb', Tg⟩ := hB.neNew hT
  have sT := same_upd (o := .lst []) hT
  cases n with
  | zero =>
    have := l0 rfl
    subst this
    refine ⟨_, rfl, a, rfl, ⟨_, Same.kt sT _ _ ha⟩, for_it (walk_tup (K := K) (a := a) (xs := [])) (fun i σ H2 => H2 = upd H T (.lst []) ∧ ∃ o5 o6 o7 o8 o9 o10 o11 o12 o13 : Option V, σ = [some (.ref b), some (.int (W : Int)), some (.ref a), some av, some (.ref T), o5, o6, o7, o8, o9, o10, o11, o12, o13]) ⟨rfl, none, none, none, none, none, none, none, none, none, rfl⟩ (fun i σ H2 _ h => by rw [h.1]; exact Same.kt sT _ _ ha) ?_ ?_⟩
    · rintro i x σ H2 H3 hi
      exact absurd hi (Nat.not_lt_zero _)
    · rintro σ H2 ⟨rfl, o5, o6, o7, o8, o9, o10, o11, o12, o13, rfl⟩
      refine ⟨_, rfl, T, [], rfl, SqL.of upd_same, fun l H' s' q' => q (.ref l) () H' (.tup q' .nil) trivial trivial (hB.keep (sT.trans s')) (.of (sT.trans s'))⟩
  | succ n =>
    have hsp := hsp n rfl
    subst hsp
    obtain ⟨qs, hqs⟩ : ∃ qs : List (Qn n), (qs : Nd (n + 1)) = t := ⟨t, rfl⟩
    subst hqs
    cases ed
    have lx : xs.length = qs.length := by rw [ta.len, List.length_map]
    have l5 : qs.length ≤ 5 := hok.1
    refine ⟨_, rfl, a, rfl, ⟨_, Same.kt sT _ _ ha⟩, for_it (walk_tup (K := K) (a := a) (xs := xs)) (fun i σ H2 => ∃ (us : List V) (qs' : List (Qn n)) (o5 o6 o7 o8 o9 o10 o11 o12 o13 : Option V), σ = [some (.ref b), some (.int (W : Int)), some (.ref a), some av, some (.ref T), o5, o6, o7, o8, o9, o10, o11, o12, o13] ∧ H2 T = some (.lst us) ∧ TdAll K H2 us (qs'.map (qnD n)) ∧
        Al (fun (q q' : Qn n) => Al (fun (a a' : An n) => a.1 = a'.1 ∧ Shp n a.2.2 a'.2.2) q q') (qs.take i) qs' ∧ (∀ q' ∈ qs', QnOk W ahead q' ∧ ∀ a ∈ q', NdOk W n a.2.1 a.2.2) ∧ Bag H2 b g ∧ Frm b g H H2) ⟨[], [], none, none, none, none, none, none, none, none, none, rfl, upd_same, .nil, .nil, fun q hq => absurd hq List.not_mem_nil, hB.keep sT, .of sT⟩ (fun i σ H2 _ h => ?_) ?_ ?_⟩
    · obtain ⟨_, _, _, _, _, _, _, _, _, _, _, _, _, _, _, _, _, F2⟩ := h
      exact hB.kt F2 _ _ ha
    · rintro i x σ H0 H2 hi ⟨us, qs', o5, o6, o7, o8, o9, o10, o11, o12, o13, rfl, h2, t2, al, ok2, B2, F2⟩ ⟨rfl, e1⟩
      obtain ⟨dx, ex, tx⟩ := ta.getV e1
      obtain ⟨qn, eq, rfl⟩ := map_at ex
      obtain ⟨qok, nok⟩ := hok.2 qn (List.mem_of_getElem? eq)
      have q1 := qok.one
      have q12 := qok.most
      have tx2 := tx.keep (hB.kt F2)
      have hav2 := hav.keep (hB.kt F2)
      obtain ⟨p0, ys0, rfl, hp0, tp0⟩ := id tx2.tupE
      have ly0 : ys0.length = qn.length := by rw [tp0.len, List.length_map]
      -- rows
      refine ⟨_, rfl, _, rfl, by omega, by omega, fun R hR => ?_⟩
      obtain ⟨Rb, Rg⟩ := B2.neNew hR
      refine lc_range (lo := 0) (n := W) (fun k H3 => ∃ ds : List (List Rat), ds.length = k ∧ RowsAt K b g g (fun _ => False) H3 R ds ∧ (∀ d ∈ ds, IsShares qn.length d) ∧ Bag H3 b g ∧ Frm b g H2 H3)
        ⟨[], rfl, ⟨Rb, Rg, Rg, (fun z => z), [], upd_same, rfl, fun i r d e1 _ => by simp at e1⟩, fun d h => absurd h List.not_mem_nil, B2.updN Rb Rg, (Frm.refl b g H2).updN hR⟩ ?_ ?_
      · rintro k H3 hk ⟨ds, hd, hRows, hS, B3, F3⟩
        refine ⟨rfl, ?_⟩
        refine iteT (B := ∃ ds : List (List Rat), ds.length = k + 1 ∧ RowsAt K b g g (fun _ => False) H3 R ds ∧ (∀ d ∈ ds, IsShares qn.length d) ∧ Bag H3 b g ∧ Frm b g H2 H3) ?_
        refine ⟨_, rfl, _, rfl, p0, ys0, rfl, .inr (B2.kt F3 _ _ hp0), b, g, qn.length, 0, by rw [ly0]; rfl, B3, by omega, by omega, by decide, by decide, fun ρ d us2 H5 hI h5 t5 fr B5 F5 => ?_⟩
        have nρ := B3.neNew fr
        have F5l : Frl b g g H3 H5 := .ofF F5
        obtain ⟨_, _, _, _, rs, h1, h2', h3⟩ := hRows.keep (B3.kt F5) F5l
        have ρR : ρ ≠ R := fun z => by
          obtain ⟨_, _, _, _, rs', h1', _⟩ := hRows
          rw [z, h1'] at fr
          cases fr
        have kR : KT K H5 (upd H5 R (.lst (rs.map V.ref ++ [V.ref ρ]))) := KT.updL h1
        have lrs : rs.length ≤ 5 := by omega
        refine ⟨_, h1, by rw [List.length_map]; exact small1000 (by omega), ds ++ [d], by rw [List.length_append, hd]; rfl, ⟨Rb, Rg, Rg, (fun z => z), rs ++ [ρ], by rw [upd_same, List.map_append]; rfl, by rw [List.length_append, List.length_append, h2']; rfl, ?_⟩, ?_, B5.updN Rb Rg, (F3.trans F5).updN hR⟩
        · intro j ρ' d' e1 e2
          by_cases hj : j < rs.length
          · rw [List.getElem?_append_left hj] at e1
            rw [List.getElem?_append_left (by omega)] at e2
            obtain ⟨nR, m1, m2, m3, us', u1, u2⟩ := h3 j ρ' d' e1 e2
            exact ⟨nR, m1, m2, m3, us', by rw [upd_ne nR.1]; exact u1, u2.keep kR⟩
          · have ej : j = rs.length := by
              have := (List.getElem?_eq_some_iff.mp e1).1
              rw [List.length_append] at this
              simp at this
              omega
            subst ej
            rw [List.getElem?_append_right (Nat.le_refl _), Nat.sub_self] at e1
            rw [h2', List.getElem?_append_right (Nat.le_refl _), Nat.sub_self] at e2
            cases e1
            cases e2
            exact ⟨⟨ρR, fun z => z⟩, nρ.1, nρ.2, nρ.2, us2, by rw [upd_ne ρR]; exact h5, t5.keep kR⟩
        · intro d' hd'
          rcases List.mem_append.mp hd' with h | h
          · exact hS d' h
          · rw [List.mem_singleton.mp h]
            exact hI
      rintro H3 ⟨ds, hd, hRows, hS, B3, F3⟩
      have h3T := F3 _ _ h2 Tb' Tg
      have hp03 := B2.kt F3 _ _ hp0
      have tp03 := tp0.keep (B2.kt F3)
      have hav3 := hav2.keep (B2.kt F3)
      -- answers = []
      refine ⟨by show 0 ≤ sizeLine; decide, fun A hA => ?_⟩
      obtain ⟨Ab, Ag⟩ := B3.neNew hA
      have sA := same_upd (o := .lst []) hA
      have RA : R ≠ A := fun z => by
        obtain ⟨_, _, _, _, rs, h1, _⟩ := hRows
        rw [z, hA] at h1
        cases h1
      have TA : T ≠ A := ne_of_none h3T hA
      refine ⟨_, rfl, p0, ys0, rfl, Same.kt sA _ _ hp03, for_it (walk_enumT (K := K) (a := p0) (xs := ys0)) (fun j σ H4 => ∃ (ws : List V) (qa : Qn n) (o7 o9 o10 o11 o12 o13 : Option V), σ = [some (.ref b), some (.int (W : Int)), some (.ref a), some av, some (.ref T), some (.ref p0), some (.ref R), o7, some (.ref A), o9, o10, o11, o12, o13] ∧ H4 A = some (.lst ws) ∧ TdAll K H4 ws (qa.map (anD n)) ∧
          Al (fun (a a' : An n) => a.1 = a'.1 ∧ Shp n a.2.2 a'.2.2) (qn.take j) qa ∧ (∀ (i : Nat) (a' : An n), qa[i]? = some a' → a'.2.1 = wk W ahead ds i ∧ NdOk W n a'.2.1 a'.2.2) ∧ RowsAt K b g g (fun x => x = A) H4 R ds ∧ Bag H4 b g ∧ Frm b g H3 H4)
        ⟨[], [], _, _, _, _, _, _, rfl, upd_same, .nil, .nil, fun i a' h => by simp at h, (hRows.avoid hA).keep (Same.kt sA) (.of sA), B3.keep sA, .of sA⟩ (fun j σ H4 _ h => ?_) ?_ ?_⟩
      · obtain ⟨_, _, _, _, _, _, _, _, _, _, _, _, _, _, _, F4⟩ := h
        exact B3.kt F4 _ _ hp03
      · rintro j y σ H4 H5 hj ⟨ws, qa, o7', o9', o10', o11', o12', o13', rfl, h4, t4, al4, hw4, hR4, B4, F4⟩ ⟨T2, x1, x2, rfl, n2, rfl, e3, e4⟩
        cases e3
        obtain ⟨dy, ey, ty⟩ := tp03.getV e4
        obtain ⟨an, ea, rfl⟩ := map_at ey
        have ma := List.mem_of_getElem? ea
        have jl : j < qn.length := by omega
        have s5 : Same H4 (upd H4 T2 (.tup [.int (j : Int), x2])) := same_upd n2
        have F5 := F4.trans (.of s5)
        have B5 := B4.keep s5
        have h5 := s5 _ _ h4
        have t5 := t4.keep (Same.kt s5)
        have hR5 := hR4.keep (Same.kt s5) (.of s5)
        have tan := ty.keep (B3.kt F5)
        have e5 : SqT K (upd H4 T2 (.tup [.int (j : Int), x2])) T2 [.int (j : Int), x2] := .inl (.inl upd_same)
        generalize upd H4 T2 (.tup [.int (j : Int), x2]) = H5 at s5 F5 B5 h5 t5 hR5 tan e5 ⊢
        obtain ⟨pa, vw, vz, vt, rfl, hpa, tw, tz, tt⟩ := td_an tan
        refine ⟨T2, _, rfl, e5, rfl, _, _, rfl, _, _, rfl, pa, _, rfl, hpa, rfl, _, _, rfl, _, _, rfl, _, _, rfl, rfl, rfl, ?_⟩
        -- there
        refine ⟨_, rfl, _, rfl, by omega, by omega, fun S hS' => ?_⟩
        have hav5 := hav3.keep (B3.kt F5)
        obtain ⟨aA, aX, rfl, aS, aT⟩ := id hav5.tupE
        refine lc_range (lo := 0) (n := W) (fun k H8 => ∃ vs : List V, H8 S = some (.lst vs) ∧ TdAll K H8 vs (((wk W ahead ds j).take k).map rD) ∧ Same H5 H8) ⟨[], upd_same, .nil, same_upd hS'⟩ ?_ ?_
        · rintro k H8 hk ⟨vs, h8, t8, s8⟩
          refine ⟨rfl, ?_⟩
          refine iteT (B := ∃ vs : List V, H8 S = some (.lst vs) ∧ TdAll K H8 vs (((wk W ahead ds j).take (k + 1)).map rD) ∧ Same H5 H8) ?_
          have ak : ahead[k]? = some ahead[k] := List.getElem?_eq_getElem (by omega)
          obtain ⟨va, eva, tva⟩ := aT.get (i := k) (d := rD ahead[k]) (by rw [List.getElem?_map, ak]; rfl)
          obtain ⟨_, _, _, _, rs, h1, h2', h3⟩ := hR5.keep (Same.kt s8) (.of s8)
          have rk : rs[k]? = some rs[k] := List.getElem?_eq_getElem (by omega)
          have dk : ds[k]? = some ds[k] := List.getElem?_eq_getElem (by omega)
          obtain ⟨_, _, _, _, us', u1, u2⟩ := h3 k _ _ rk dk
          have hIk := hS _ (List.getElem_mem (show k < ds.length by omega))
          obtain ⟨ps, c1, c2, c3, c4⟩ := id hIk
          have lk : ds[k].length = qn.length := by rw [c4, List.length_map, c1]
          have di : ds[k][j]? = some (ds[k][j]'(by omega)) := List.getElem?_eq_getElem _
          obtain ⟨vb, evb, tvb⟩ := u2.get (i := j) (d := rD (ds[k][j]'(by omega))) (by rw [List.getElem?_map, di]; rfl)
          have hk0 : (0 : Int) + (k : Int) = ((k : Nat) : Int) := by omega
          have ca := hch _ (List.getElem_mem (show k < ahead.length by omega))
          have cb : Ch 1 (ds[k][j]'(by omega)) := shares_ch hIk q12 _ (List.getElem_mem _)
          have z1 : LL ^ e < 2 ^ 2000 := pow_lt2000 (by omega)
          have z2 : LL ^ 1 < 2 ^ 2000 := pow_lt2000 (by decide)
          refine ⟨_, rfl, _, rfl, aA, aX, _, va, rfl, by rw [hk0], Same.kt s8 _ _ aS, atI_nat eva, ?_⟩
          refine ⟨_, rfl, _, rfl, R, _, _, _, rfl, by rw [hk0], SqL.of h1, atI_nat (by rw [List.getElem?_map, rk]; rfl), _, rfl, rs[k], us', (j : Int), vb, rfl, rfl, SqL.of u1, atI_nat evb, ?_⟩
          refine ⟨va, vb, _, _, rfl, tva.keep (Same.kt s8), tvb, Nat.lt_of_le_of_lt ca.den z1, Nat.lt_of_le_of_lt cb.den z2, Nat.lt_of_le_of_lt ca.num z1, Nat.lt_of_le_of_lt cb.num z2, fun v H9 s9 tv => ?_⟩
          have h9 := s9 _ _ h8
          have kw : KT K H9 (upd H9 S (.lst (vs ++ [v]))) := KT.updL h9
          refine ⟨vs, h9, ?_, vs ++ [v], upd_same, ?_, fun c o z => ?_⟩
          · rw [t8.len, List.length_map, List.length_take]
            exact small1000 (by omega)
          · have ewk : (wk W ahead ds j)[k]? = some (ahead[k] * (ds[k][j]'(by omega))) := by
              unfold wk
              rw [List.getElem?_map, List.getElem?_range hk]
              show some (ahead.getD k 0 * (ds.getD k []).getD j 0) = some (ahead[k] * (ds[k][j]'(by omega)))
              rw [getD_of ak, getD_of dk, getD_of di]
            rw [List.take_add_one, ewk, List.map_append]
            exact (t8.keep ((Same.kt s9).trans kw)).app (.cons (tv.keep kw) .nil)
          · rw [upd_ne (ne_of_none z hS')]
            exact s9 _ _ (s8 _ _ z)
        rintro H8 ⟨vs, h8, t8, s8⟩
        have lw : (wk W ahead ds j).length = W := by
          unfold wk
          rw [List.length_map, List.length_range]
        rw [List.take_of_length_le (by omega)] at t8
        refine ⟨S, vs, rfl, SqL.of h8, fun wt H9 s9 q9 => ?_⟩
        have s59 := s8.trans s9
        have twt : Td K H9 (.ref wt) (wsD (wk W ahead ds j)) := .tup q9 (t8.keep (Same.kt s9))
        have h9 := s59 _ _ h5
        have chk : ∀ r ∈ wk W ahead ds j, Ch (e + 1) r := by
          intro r hr'
          unfold wk at hr'
          obtain ⟨k, hk, rfl⟩ := List.mem_map.mp hr'
          have hk := List.mem_range.mp hk
          have hk2 : k < ds.length := by omega
          rw [getD_of (List.getElem?_eq_getElem hk2)]
          obtain ⟨p, s, s0, s1, ps, e1⟩ := share_at (hS _ (List.getElem_mem hk2)) jl
          rw [e1]
          exact (mem_getD0 hch (by omega)).mul s0 (by omega) ps
        have B9 := B5.keep s59
        refine ⟨_, rfl, .inl ⟨rfl, _, SqL.of h9⟩, _, rfl, _, rfl, _, rfl, _, rfl, _, rfl, _, rfl, b, g, W, W0, e + 1, vt, .ref wt, an.2.1, wk W ahead ds j, an.2.2, rfl, B9, tt.keep (Same.kt s59), twt, lw, chk, by omega, nok an ma, hW1, hW5, fun v10 t10 H10 tv10 ok10 sh10 B10 F10 => ?_⟩
        refine ⟨by show 3 ≤ sizeLine; decide, fun p11 n11 => ?_⟩
        have s11 : Same H10 (upd H10 p11 (.tup [vw, .ref wt, v10])) := same_upd n11
        have F511 : Frm b g H5 (upd H10 p11 (.tup [vw, .ref wt, v10])) := ((Frm.of s59).trans F10).trans (.of s11)
        have h11 := F511 _ _ h5 Ab Ag
        have kT : KT K (upd H10 p11 (.tup [vw, .ref wt, v10])) (upd (upd H10 p11 (.tup [vw, .ref wt, v10])) A (.lst (ws ++ [.ref p11]))) := KT.updL h11
        have kk := (B5.kt F511).trans kT
        have k911 := (((B9.kt (K := K) F10).trans (Same.kt s11)).trans kT)
        have lqa : qa.length = j := by
          rw [← al4.len, List.length_take]
          omega
        refine ⟨A, ws, _, rfl, rfl, h11, ?_, ws ++ [.ref p11], qa ++ [((an.1, wk W ahead ds j, t10) : An n)], _, _, _, _, _, _, rfl, upd_same, ?_, ?_, fun i a' hi' => ?_, ?_, (B10.keep s11).updN Ab Ag, (F5.trans F511).updN hA⟩
        · rw [t5.len, List.length_map, lqa]
          exact small1000 (by omega)
        · rw [List.map_append]
          exact (t5.keep kk).app (.cons (.tup (kT _ _ (.inl (.inl upd_same))) (.cons (tw.keep kk) (.cons (twt.keep k911) (.cons (tv10.keep ((Same.kt s11).trans kT)) .nil)))) .nil)
        · rw [List.take_add_one, ea]
          exact Al.snoc (R := fun (a a' : An n) => a.1 = a'.1 ∧ Shp n a.2.2 a'.2.2) (a := an) (b := (an.1, wk W ahead ds j, t10)) ⟨rfl, sh10⟩ al4
        · by_cases hl : i < qa.length
          · rw [List.getElem?_append_left hl] at hi'
            exact hw4 i a' hi'
          · have ei : i = qa.length := by
              have := (List.getElem?_eq_some_iff.mp hi').1
              rw [List.length_append] at this
              simp at this
              omega
            subst ei
            rw [List.getElem?_append_right (Nat.le_refl _), Nat.sub_self] at hi'
            cases hi'
            exact ⟨by rw [lqa], ok10⟩
        · obtain ⟨_, _, _, _, rs, h1, h2', h3⟩ := hR5.keep (B5.kt F511) (.ofF F511)
          refine ⟨Rb, Rg, Rg, RA, rs, by rw [upd_ne RA]; exact h1, h2', fun j r d e1 e2 => ?_⟩
          obtain ⟨m0, m1, m2, m3, us', u1, u2⟩ := h3 j r d e1 e2
          exact ⟨m0, m1, m2, m3, us', by rw [upd_ne m0.2]; exact u1, u2.keep kT⟩
      · rintro σ H4 ⟨ws, qa, o7', o9', o10', o11', o12', o13', rfl, h4, t4, al4, hw4, hR4, B4, F4⟩
        rw [ly0, List.take_length] at al4
        have hT4 := F4 _ _ h3T Tb' Tg
        have lqa : qa.length = qn.length := al4.len.symm
        obtain ⟨qok', chq⟩ := rwx_ok (m := 0) qok lqa hd hla hS hch (by omega) (fun i a' h => by
          have hi2 : i < qn.length := by
            have := (List.getElem?_eq_some_iff.mp h).1
            omega
          obtain ⟨a'', e1, e2, _⟩ := al4.get (List.getElem?_eq_getElem hi2)
          rw [h] at e1
          cases e1
          exact ⟨_, List.getElem?_eq_getElem hi2, e2.symm, (hw4 i a' h).1⟩)
        refine ⟨_, rfl, .inl ⟨rfl, _, SqL.of hT4⟩, _, rfl, A, ws, rfl, SqL.of h4, fun vt H5 s5 q5 => ?_⟩
        have F35 := F4.trans (.of s5)
        have h5 := F35 _ _ h3T Tb' Tg
        have kT : KT K H5 (upd H5 T (.lst (us ++ [.ref vt]))) := KT.updL h5
        have F25 := F3.trans F35
        have kk := (B2.kt (K := K) F25).trans kT
        have lqs' : qs'.length ≤ 5 := by
          have := al.len
          rw [List.length_take] at this
          omega
        refine ⟨T, us, _, rfl, rfl, h5, ?_, us ++ [.ref vt], qs' ++ [qa], _, _, _, _, _, _, _, _, _, rfl, upd_same, ?_, ?_, fun q' hq' => ?_, (B4.keep s5).updN Tb' Tg, (F2.trans F25).updN hT⟩
        · rw [t2.len, List.length_map]
          exact small1000 (by omega)
        · rw [List.map_append]
          exact (t2.keep kk).app (.cons (.tup (kT _ _ q5) (t4.keep ((Same.kt s5).trans kT))) .nil)
        · rw [List.take_add_one, eq]
          exact Al.snoc (R := fun (q q' : Qn n) => Al (fun (a a' : An n) => a.1 = a'.1 ∧ Shp n a.2.2 a'.2.2) q q') (a := qn) (b := qa) al4 al
        · rcases List.mem_append.mp hq' with z | z
          · exact ok2 q' z
          · rw [List.mem_singleton.mp z]
            refine ⟨qok', fun a' ha' => ?_⟩
            obtain ⟨i, hi', rfl⟩ := List.getElem_of_mem ha'
            exact (hw4 i _ (List.getElem?_eq_getElem hi')).2
    · rintro σ H2 ⟨us, qs', o5, o6, o7, o8, o9, o10, o11, o12, o13, rfl, h2, t2, al, ok2, B2, F2⟩
      rw [lx, List.take_length] at al
      have lq' : qs'.length = qs.length := al.len.symm
      refine ⟨_, rfl, T, us, rfl, SqL.of h2, fun l H3 s3 q3 => ?_⟩
      exact q (.ref l) qs' H3 (.tup q3 (t2.keep (Same.kt s3))) ⟨by show qs'.length ≤ 5; omega, ok2⟩ al (B2.keep s3) (F2.trans (.of s3))
end
end Tl
/-! the law of plans judged -/
namespace Tl
open PySem PySem.Spec PyProof.Rows L2 RZ LamX
def spTrueT (K : PySem.W.Frag) (T : Addr) : Sp := fun vs H Q _ => ∃ (a : Addr) (ns : List Int), vs = [.ref a] ∧ SqL K H a (ns.map V.int) ∧ ns.length ≤ 63 ∧ H T = some (.tbl #[]) ∧ ∀ H', Q (.bl true) H'
theorem HouseAt.extN {C : Addr} {H H' : Hp} {p : Addr} {W : Nat} {v : V} (h : HouseAt C H p W v) (e : ExtN H H') : HouseAt C H' p W v := by
  obtain ⟨d, z⟩ := h
  exact ⟨d, e _ _ z (fun ps y => by cases y)⟩
theorem td_bw {K : PySem.W.Frag} {H : Hp} {m n : Nat} {r : Rat} {w : Wt m n} {v : V} (h : Td K H v (bwD m n [(r, w)])) : ∃ p x y z, v = .ref p ∧ SqT K H p [.ref x] ∧ SqT K H x [y, z] ∧ Td K H z (waitD m n w) := by
  obtain ⟨p, xs, rfl, hp, t⟩ := (show Td K H v (.tuple [.tuple [rD r, waitD m n w]]) from h).tupE
  cases t with
  | cons h1 t =>
    cases t
    obtain ⟨x, y, z, rfl, hx, hy, hz⟩ := td_two h1
    exact ⟨p, x, y, z, rfl, hp, hx, hz⟩
section
variable {P : Program} {w : World} {K : PySem.W.Frag} {mg : Str → Option Value} {base : Heap} {aN aO : Addr} {t1 t2 t3 t4 t5 t6 t7 : Tok}
theorem ok_law {Cc fi fe cL Pt CA HE f f1 f2 f3 f4 f5 f6 f7 f8 f9 f10 f11 f12 : Addr} {fd fd1 fd2 fd3 fd4 fd5 fd6 fd7 fd8 fd9 fd10 fd11 fd12 fdi : FuncData} (D : Dn K mg "law" s_law ["script"] f fd) (hcL : codeOf K f = some cL) (B : Blt mg) (U : Hcl K mg Cc fi fe) (TB : TabB base mg cL Pt) (hA : mg "NotAlike" = some (.ref CA)) (hHE : mg "HouseError" = some (.ref HE)) (eAA : PySem.W.exmOne K (.ref CA) (.ref CA) = some true)
    (D_law_bag : Dn K mg "_law_bag" s_law_bag ["script"] f1 fd1) (G_law_bag : FnOk P w K mg base CX0 1 f1 fd1 ["script"] (spBag K)) (D_law_pick : Dn K mg "_law_pick" s_law_pick ["bag", "many"] f2 fd2) (G_law_pick : FnOk P w K mg base CX0 1 f2 fd2 ["bag", "many"] spPick)
    (D_law_two : Dn K mg "_law_two" s_law_two ["bag", "levels", "answers"] f3 fd3) (G_law_two : FnOk P w K mg base CX0 31 f3 fd3 ["bag", "levels", "answers"] (spTwo K))
    (D_law_wait : Dn K mg "_law_wait" s_law_wait ["bag", "here", "goal", "left"] f4 fd4) (G_law_wait : FnOk P w K mg base CX0 26 f4 fd4 ["bag", "here", "goal", "left"] (anyS 3 fun n => spWait K n n))
    (D_is_plan : Dn K mg "is_plan" s_is_plan ["house", "other", "thing"] f5 fd5) (G_is_plan : FnOk P w K mg base (L2.CX P w) 28 f5 fd5 ["house", "other", "thing"] (anyS 3 (spPlA K Cc CA)))
    (D_law_edge : Dn K mg "_law_edge" s_law_edge ["bag", "here", "goal", "plan"] f6 fd6) (G_law_edge : FnOk P w K mg base CX0 27 f6 fd6 ["bag", "here", "goal", "plan"] (anyS 3 fun n => spEdge K n n))
    (D_law_flag : Dn K mg "_law_flag" s_law_flag ["told", "due"] f7 fd7) (G_law_flag : FnOk P w K mg base CX0 1 f7 fd7 ["told", "due"] spFlag)
    (D_law_is_wait : Dn K mg "_law_is_wait" s_law_is_wait ["here", "goal", "thing"] f8 fd8) (G_law_is_wait : FnOk P w K mg base CX0 26 f8 fd8 ["here", "goal", "thing"] (anyS 3 fun n => spLWt K n n))
    (D_law_spoilt : Dn K mg "_law_spoilt" s_law_spoilt ["bag", "thing"] f9 fd9) (G_law_spoilt : FnOk P w K mg base CX0 28 f9 fd9 ["bag", "thing"] (spSpo K 24))
    (D_law_odd : Dn K mg "_law_odd" s_law_odd ["bag"] f10 fd10) (G_law_odd : FnOk P w K mg base CX0 3 f10 fd10 ["bag"] (spOdd K))
    (D_passing : Dn K mg "passing" s_passing ["house"] f11 fd11) (G_passing : FnOk P w K mg base CX0 5 f11 fd11 ["house"] (anyS 3 (spPass K Cc)))
    (D_law_word : Dn K mg "_law_word" s_law_word ["call"] f12 fd12) {fr : Addr} {fdr : FuncData} (D_law_reweighted : Dn K mg "_law_reweighted" s_law_reweighted ["bag", "worlds", "node", "ahead"] fr fdr) (G_law_reweighted : FnOk P w K mg base CX0 8 fr fdr ["bag", "worlds", "node", "ahead"] (anyS 3 (spRX K)))
    (D_House_init : Dm K "__init__" "House.__init__" s_House_init ["self", "worlds", "tree"] fi fdi) (G_House_init : FnOk P w K mg base CX0 30 fi fdi ["self", "worlds", "tree"] (anyS 5 (spInit K Cc))) : FnOk P w K mg base CX0 37 f fd ["script"] (spTrueT K Pt) := by
  obtain ⟨oc, od, kV, doc, pm, an, cdv, ct, osl, rfl, lkW, cdW⟩ := D_law_word.F.ex
  refine okT D.F hcL sc_law (fun vs H Q E h => ?_) (fun A outer s H vs Q E hr h => ?_)
  · obtain ⟨a, ns, rfl, _⟩ := h
    rfl
  obtain ⟨a, ns, rfl, hs, h63, hPt, q⟩ := h
  have nd := sc_law.nd
  refine ⟨_, (pss_cons (ps_set (i := 1) nd rfl (.inl rfl) (pe_call G_law_bag (hr.mono (by omega)) (by rfl) D_law_bag.m D_law_bag.F.kp D_law_bag.b .nil pass0 (pa_cons (pv 0) pa_nil)))
      (pss_cons (ps_asg (pe_call G_law_two (hr.mono (by omega)) (by rfl) D_law_two.m D_law_two.F.kp D_law_two.b .nil pass0 (pa_cons (pv 1) (pa_cons (pe_op op_add pe_int (pe_call G_law_pick (hr.mono (by omega)) (by rfl) D_law_pick.m D_law_pick.F.kp D_law_pick.b .nil pass0 (pa_cons (pv 1) (pa_cons pe_int pa_nil)))) (pa_cons pe_int pa_nil)))) (k_tup (K := K) (n := 3) rfl rfl (pgs_cons (pg_name (i := 2) nd rfl (.inl rfl)) (pgs_cons (pg_name (i := 3) nd rfl (.inl rfl)) (pgs_cons (pg_name (i := 4) nd rfl (.inl rfl)) pgs_nil)))))
      (pss_cons (ps_asg (pe_tup (pa_cons (pe_make U.mkH G_House_init (hr.mono (by omega)) (by rfl) U.gHouse D_House_init.b .nil pass0 (pa_cons (pv 2) (pa_cons (pv 3) pa_nil))) (pa_cons (pe_make U.mkH G_House_init (hr.mono (by omega)) (by rfl) U.gHouse D_House_init.b .nil pass0 (pa_cons (pv 2) (pa_cons (pv 4) pa_nil))) pa_nil))) (k_tup (K := K) (n := 2) rfl rfl (pgs_cons (pg_name (i := 5) nd rfl (.inr rfl)) (pgs_cons (pg_name (i := 6) nd rfl (.inl rfl)) pgs_nil))))
      (pss_cons (ps_for PassesOwn.never rfl (pi_range1 (by rfl) B.range (pa_cons pe_int pa_nil)) (pg_name (i := 7) nd rfl (.inl rfl)) (pss_cons (ps_set (i := 8) nd rfl (.inr rfl) (pe_call G_law_wait (hr.mono (by omega)) (by rfl) D_law_wait.m D_law_wait.F.kp D_law_wait.b .nil pass0 (pa_cons (pv 1) (pa_cons (pv 3) (pa_cons (pv 4) (pa_cons (pe_lst (pa_cons pe_int pa_nil)) pa_nil))))))
      (pss_cons (ps_if (pt_cmpR op_notBl (pe_call (E := E0) G_is_plan (hr.mono (by omega)) (by rfl) D_is_plan.m D_is_plan.F.kp D_is_plan.b .nil passL (pa_cons (pv 5) (pa_cons (pv 6) (pa_cons (pv 8) pa_nil)))) pe_bl (nomark _)) (pss_one (ps_ret pe_bl)) pss_nil)
      (pss_cons (ps_for PassesOwn.never rfl (pi_range1 (by rfl) B.range (pa_cons pe_int pa_nil)) (pg_name (i := 9) nd rfl (.inr rfl)) (pss_cons (ps_set (i := 10) nd rfl (.inl rfl) (pe_call G_law_edge (hr.mono (by omega)) (by rfl) D_law_edge.m D_law_edge.F.kp D_law_edge.b .nil pass0 (pa_cons (pv 1) (pa_cons (pv 3) (pa_cons (pv 4) (pa_cons (pv 8) pa_nil))))))
      (pss_one (ps_if (pt_not (pt_val (pe_call G_law_flag (hr.mono (by omega)) (by rfl) D_law_flag.m D_law_flag.F.kp D_law_flag.b .nil pass0 (pa_cons (pe_call (E := E0) G_is_plan (hr.mono (by omega)) (by rfl) D_is_plan.m D_is_plan.F.kp D_is_plan.b .nil passL (pa_cons (pv 5) (pa_cons (pv 6) (pa_cons (pv 10) pa_nil)))) (pa_cons (pe_call G_law_is_wait (hr.mono (by omega)) (by rfl) D_law_is_wait.m D_law_is_wait.F.kp D_law_is_wait.b .nil pass0 (pa_cons (pv 3) (pa_cons (pv 4) (pa_cons (pv 10) pa_nil)))) pa_nil))))) (pss_one (ps_ret pe_bl)) pss_nil))))
      (pss_cons (ps_set (i := 10) nd rfl (.inl rfl) (pe_ifExpE (pt_cmpR op_lt (pv 7) pe_int (nomark _)) (pe_call G_law_spoilt (hr.mono (by omega)) (by rfl) D_law_spoilt.m D_law_spoilt.F.kp D_law_spoilt.b .nil pass0 (pa_cons (pv 1) (pa_cons (pv 8) pa_nil))) (pe_call G_law_odd (hr.mono (by omega)) (by rfl) D_law_odd.m D_law_odd.F.kp D_law_odd.b .nil pass0 (pa_cons (pv 1) pa_nil))))
      (pss_one (ps_if (pt_not (pt_val (pe_call G_law_flag (hr.mono (by omega)) (by rfl) D_law_flag.m D_law_flag.F.kp D_law_flag.b .nil pass0 (pa_cons (pe_call (E := E0) G_is_plan (hr.mono (by omega)) (by rfl) D_is_plan.m D_is_plan.F.kp D_is_plan.b .nil passL (pa_cons (pv 5) (pa_cons (pv 6) (pa_cons (pv 10) pa_nil)))) (pa_cons (pe_call G_law_is_wait (hr.mono (by omega)) (by rfl) D_law_is_wait.m D_law_is_wait.F.kp D_law_is_wait.b .nil pass0 (pa_cons (pv 3) (pa_cons (pv 4) (pa_cons (pv 10) pa_nil)))) pa_nil))))) (pss_one (ps_ret pe_bl)) pss_nil)))))))
      (pss_cons (ps_if (pt_cmpR op_notBl (pe_call (E := E0) G_is_plan (hr.mono (by omega)) (by rfl) D_is_plan.m D_is_plan.F.kp D_is_plan.b .nil passL (pa_cons (pv 5) (pa_cons (pv 5) (pa_cons (pe_ix (k_ixT (K := K) rfl) (pe_ix (k_ixT (K := K) rfl) (pe_call G_passing (hr.mono (by omega)) (by rfl) D_passing.m D_passing.F.kp D_passing.b .nil pass0 (pa_cons (pv 5) pa_nil)) pe_int (fun _ _ => rfl)) pe_int (fun _ _ => rfl)) pa_nil)))) pe_bl (nomark _)) (pss_one (ps_ret pe_bl)) pss_nil)
      (pss_cons (ps_if (pt_not (pt_val (pe_call G_law_flag (hr.mono (by omega)) (by rfl) D_law_flag.m D_law_flag.F.kp D_law_flag.b .nil pass0 (pa_cons (pe_call (E := E0) G_is_plan (hr.mono (by omega)) (by rfl) D_is_plan.m D_is_plan.F.kp D_is_plan.b .nil passL (pa_cons (pv 6) (pa_cons (pv 6) (pa_cons (pv 8) pa_nil)))) (pa_cons (pe_call G_law_is_wait (hr.mono (by omega)) (by rfl) D_law_is_wait.m D_law_is_wait.F.kp D_law_is_wait.b .nil pass0 (pa_cons (pv 4) (pa_cons (pv 4) (pa_cons (pv 8) pa_nil)))) pa_nil))))) (pss_one (ps_ret pe_bl)) pss_nil)
      (pss_cons (ps_set (i := 9) nd rfl (.inr rfl) (pe_make U.mkH G_House_init (hr.mono (by omega)) (by rfl) U.gHouse D_House_init.b .nil pass0 (pa_cons (pe_op op_add (pv 2) pe_int) (pa_cons (pe_call G_law_reweighted (hr.mono (by omega)) (by rfl) D_law_reweighted.m D_law_reweighted.F.kp D_law_reweighted.b .nil pass0 (pa_cons (pv 1) (pa_cons (pe_op op_add (pv 2) pe_int) (pa_cons (pv 3) (pa_cons (pe_op (k_repZ (K := K) rfl) (pe_tup (pa_cons (pe_tup (pa_cons pe_int (pa_cons pe_int pa_nil))) pa_nil)) (pe_op op_add (pv 2) pe_int)) pa_nil))))) pa_nil))))
      (pss_cons (ps_if (pt_cmpR op_ne (pe_lamcall (k := 28) (T := [(Pt, _)]) (TT := (TTal CA)) (bg := defBody s_law_word) (sg := defScope s_law_word) rfl D_law_word.m D_law_word.F.kp lkW cdW D_law_word.b sc_law_word rfl (.inl rfl) (gives_word hA hHE eAA) TB rfl (List.mem_singleton.mpr rfl) (fun p hp _ => by rw [List.mem_singleton.mp hp]) (hr.mono (by omega)) (lamS_by (by first | rfl | kernel_rfl)) rfl (fun _ _ _ _ _ => rfl) (fun A outer s H E f c' hr => (pe_call G_is_plan (hr.mono (by omega)) (by rfl) D_is_plan.m D_is_plan.F.kp D_is_plan.b .nil (passes_call (takes_of rfl rfl rfl rfl) (fun _ _ _ _ h => h)) (pa_cons (pv 5) (pa_cons (pv 9) (pa_cons (pv 8) pa_nil)))))) pe_str (nomark _)) (pss_one (ps_ret pe_bl)) pss_nil)
      (pss_one (ps_ret (pe_cmpR op_eq (pe_lamcall (k := 28) (T := [(Pt, _)]) (TT := (TTal CA)) (bg := defBody s_law_word) (sg := defScope s_law_word) rfl D_law_word.m D_law_word.F.kp lkW cdW D_law_word.b sc_law_word rfl (.inl rfl) (gives_word hA hHE eAA) TB rfl (List.mem_singleton.mpr rfl) (fun p hp _ => by rw [List.mem_singleton.mp hp]) (hr.mono (by omega)) (lamS_by (by first | rfl | kernel_rfl)) rfl (fun _ _ _ _ _ => rfl) (fun A outer s H E f c' hr => (pe_call G_is_plan (hr.mono (by omega)) (by rfl) D_is_plan.m D_is_plan.F.kp D_is_plan.b .nil (passes_call (takes_of rfl rfl rfl rfl) (fun _ _ _ _ h => h)) (pa_cons (pv 9) (pa_cons (pv 5) (pa_cons pe_non pa_nil)))))) pe_str (nomark _)))))))))))), ?_⟩
  refine ⟨_, rfl, a, ns, rfl, hs, h63, fun b g H1 s1 B1 b0 g0 => ?_⟩
  have hPt := s1 _ _ hPt
  refine ⟨_, rfl, _, rfl, b, g, 3, rfl, B1, by decide, by decide, fun r2 H2 r20 r21 B2 F2 => ⟨_, _, rfl, rfl, ?_⟩⟩
  have hPt := tab_frm B1 F2 hPt
  obtain ⟨n, en⟩ : ∃ n : Nat, 1 + r2 = ((n + 1 : Nat) : Int) := ⟨r2.toNat, by omega⟩
  refine ⟨b, g, n, 8, congrArg (fun z => [V.ref b, V.int z, V.int 8]) en, B2, by omega, by omega, fun p W v1 v2 t1 t2 H3 w1 w3 hp tv1 okf1 c1 tv2 okf2 c2 B3 F3 => ?_⟩
  have hPt := tab_frm B2 F3 hPt
  have n2 : n ≤ 2 := by omega
  have ok1 := okf1.ok
  have ok2 := okf2.ok
  refine ⟨p, _, rfl, hp, rfl, _, _, rfl, _, _, rfl, _, _, rfl, rfl, ?_⟩
  have T1 : TreeOk K H3 W (n + 1) v1 t1 := ⟨tv1, ok1, by omega, by omega, w1, by omega⟩
  have T2 : TreeOk K H3 W (n + 1) v2 t2 := ⟨tv2, ok2, by omega, by omega, w1, by omega⟩
  refine ⟨_, rfl, _, rfl, fun x dx nx ndx ne => ⟨n + 1, by omega, x, dx, W, v1, t1, rfl, upd_same, T1.keep (own_same nx ndx), fun H4 h4 k4 => ⟨rfl, ?_⟩⟩⟩
  obtain ⟨s4, hs1⟩ := mk_hs nx ndx T1 h4 k4
  have hPt := s4 _ _ hPt
  clear h4 k4 ne nx ndx
  have T2 := T2.keep s4
  refine ⟨_, rfl, _, rfl, fun x2 dx2 nx2 ndx2 ne2 => ⟨n + 1, by omega, x2, dx2, W, v2, t2, rfl, upd_same, T2.keep (own_same nx2 ndx2), fun H5 h5 k5 => ⟨rfl, ?_⟩⟩⟩
  obtain ⟨s5, hs2⟩ := mk_hs nx2 ndx2 T2 h5 k5
  have hPt := s5 _ _ hPt
  clear h5 k5 ne2 nx2 ndx2
  refine ⟨by show 2 ≤ sizeLine; decide, fun p6 n6 => ?_⟩
  have s6 := same_upd (o := .tup [.ref x, .ref x2]) n6
  have e6 : SqT K (upd H5 p6 (.tup [.ref x, .ref x2])) p6 [.ref x, .ref x2] := .inl (.inl upd_same)
  have hs1 := hs1.keep (s5.trans s6)
  have hs2 := hs2.keep s6
  have B6 := B3.keep (s4.trans (s5.trans s6))
  have hPt := s6 _ _ hPt
  generalize upd H5 p6 (.tup [.ref x, .ref x2]) = H6 at s6 e6 hs1 hs2 B6 hPt ⊢
  clear tv1 tv2 T1 T2 s4 s5 B3 F3 B2 F2 en s6 n6 hp
  refine ⟨p6, _, rfl, e6, rfl, _, _, rfl, _, _, rfl, rfl, ?_⟩
  clear e6
  refine ⟨8, rfl, by decide, by decide, for_range (lo := 0) (n := 8) (fun i σ H6 => Bag H6 b g ∧ HsOk K Cc H6 x W (n + 1) t1 v1 ∧ HsOk K Cc H6 x2 W (n + 1) t2 v2 ∧ H6 Pt = some (.tbl #[]) ∧ ∃ o7 o8 o9 o10 : Option V, σ = [some (.ref a), some (.ref b), some (.int (W : Int)), some v1, some v2, some (.ref x), some (.ref x2), o7, o8, o9, o10] ∧ (0 < i → ∃ (vt : V) (wt : Wt (n + 1) (n + 1)), o8 = some vt ∧ Td K H6 vt (waitD (n + 1) (n + 1) wt) ∧ WtOk (n + 1) (n + 1) t1 t2 wt)) ⟨B6, hs1, hs2, hPt, none, none, none, none, rfl, fun h => absurd h (Nat.lt_irrefl 0)⟩ ?_ ?_⟩
  · clear B6 hs1 hs2 hPt
    rintro i σ H6 hi ⟨B6, hs1, hs2, hPt, o7, o8, o9, o10, rfl, _⟩
    -- plan
    refine ⟨_, rfl, _, rfl, _, rfl, by show 1 ≤ sizeLine; decide, fun l nl => ?_⟩
    obtain ⟨lb, lg⟩ := B6.neNew nl
    have sl := same_upd (o := .lst [.int 30]) nl
    have BL : BagL (upd H6 l (.lst [.int 30])) b g l 30 := ⟨B6.keep sl, upd_same, lb, lg⟩
    refine ⟨n + 1, by omega, b, g, l, W, v1, v2, ones W, ones W, 30, t1, t2, rfl, BL, hs1.td.keep (Same.kt sl), hs2.td.keep (Same.kt sl), by omega, ok1, ok2, fun vt wt L3 H7 tv wok B7 F7 => ?_⟩
    have F7 : Frm b g H6 H7 := fun z o e n1 n2 => F7 _ _ (sl _ _ e) n1 n2 (ne_of_none e nl)
    have B7 := B7.B
    have hs1 := hs1.frm B6 F7
    have hs2 := hs2.frm B6 F7
    have hPt := tab_frm B6 F7 hPt
    have PL := wt_pl (n + 1) W (n + 1) (ones W) (ones W) t1 t2 wt wok okf1 okf2
    have bd := PL.bd
    clear B6 F7 hi sl BL nl
    refine ⟨_, rfl, _, rfl, _, rfl, n + 1, by omega, b, g, x, x2, W, W, v1, v2, vt, _, ones W, ones W, t1, t2, rfl, hs1.at_, hs2.at_, fun z => absurd rfl z, fun _ => ⟨tv.ad, hs1.td, hs2.td, ok1, ok2, fun H8 s8 => ?_⟩⟩
    rw [wtA_ok (n + 1) (n + 1) t1 t2 wt wok]
    refine ⟨true, true, rfl, rfl, _, rfl, iteF ?_⟩
    have hs1 := hs1.keep s8
    have hs2 := hs2.keep s8
    have B8 := B7.keep s8
    have hPt := s8 _ _ hPt
    have tv := tv.keep (Same.kt s8)
    clear B7 s8
    -- edges
    refine ⟨5, rfl, by decide, by decide, for_range (lo := 0) (n := 5) (fun j σ H14 => Bag H14 b g ∧ HsOk K Cc H14 x W (n + 1) t1 v1 ∧ HsOk K Cc H14 x2 W (n + 1) t2 v2 ∧ H14 Pt = some (.tbl #[]) ∧ Td K H14 vt (waitD (n + 1) (n + 1) wt) ∧ ∃ o9 o10 : Option V, σ = [some (.ref a), some (.ref b), some (.int (W : Int)), some v1, some v2, some (.ref x), some (.ref x2), some (.int (0 + (i : Int))), some vt, o9, o10]) ⟨B8, hs1, hs2, hPt, tv, _, _, rfl⟩ ?_ ?_⟩
    · clear B8 hs1 hs2 hPt tv
      rintro j σ H14 hj ⟨B14, hs1, hs2, hPt, tv, o9', o10', rfl⟩
      refine ⟨_, rfl, _, rfl, _, rfl, _, rfl, n + 1, by omega, b, g, W, v1, v2, vt, ones W, ones W, t1, t2, wt, rfl, B14, hs1.td, hs2.td, tv, ok1, ok2, wok, bd, fun y H15 ⟨d, had, hbd⟩ B15 F15 => ?_⟩
      have hs1 := hs1.frm B14 F15
      have hs2 := hs2.frm B14 F15
      have hPt := tab_frm B14 F15 hPt
      have tv := tv.keep (B14.kt F15)
      clear B14 F15
      refine ⟨_, rfl, _, rfl, _, rfl, n + 1, by omega, b, g, x, x2, W, W, v1, v2, y, d, ones W, ones W, t1, t2, rfl, hs1.at_, hs2.at_, fun z => absurd rfl z, fun _ => ⟨had, hs1.td, hs2.td, ok1, ok2, fun H16 s16 => ?_⟩⟩
      have hs1 := hs1.keep s16
      have hs2 := hs2.keep s16
      have hPt := s16 _ _ hPt
      have tv := tv.keep (Same.kt s16)
      have B16 := B15.keep s16
      refine ⟨_, rfl, _, rfl, _, rfl, n + 1, by omega, b, g, W, y, v2, v1, d, ones W, ones W, t1, t2, rfl, had.same s16, hs2.td, hs1.td, ok1, ok2, fun H17 s17 => ?_⟩
      have hs1 := hs1.keep s17
      have hs2 := hs2.keep s17
      have hPt := s17 _ _ hPt
      have tv := tv.keep (Same.kt s17)
      have B17 := B16.keep s17
      refine ⟨_, _, rfl, _, rfl, ?_⟩
      rw [decide_eq_true rfl]
      exact iteF ⟨B17, hs1, hs2, hPt, tv, _, _, rfl⟩
    · clear B8 hs1 hs2 hPt tv
      rintro σ H14 ⟨B14, hs1, hs2, hPt, tv, o9', o10', rfl⟩
      -- thing
      refine ⟨fun v' H' => Thing K b g H' v' ∧ EnvAt b g H14 H', fun y H15 h => ?_, ?_⟩
      rotate_left
      · refine ⟨_, rfl, _, _, rfl, rfl, _, rfl, ?_⟩
        refine ite2 (fun _ => ?_) (fun _ => ?_)
        · exact ⟨_, rfl, _, rfl, b, g, vt, _, rfl, B14, tv.ad, PL.dp.mono (by omega), Nat.le_trans PL.sz (wtB_le (by omega) (by omega)), PL.ln, PL.mx, by decide, fun v' H' tv B' F' => ⟨tv, B', F'⟩⟩
        · exact ⟨_, rfl, b, g, rfl, B14, fun v' H' tv B' F' => ⟨tv, B', F'⟩⟩
      obtain ⟨⟨d, had, hbd⟩, B15, F15⟩ := h
      have hs1 := hs1.frm B14 F15
      have hs2 := hs2.frm B14 F15
      have hPt := tab_frm B14 F15 hPt
      have tv := tv.keep (B14.kt F15)
      clear B14 F15
      refine ⟨_, rfl, _, rfl, _, rfl, n + 1, by omega, b, g, x, x2, W, W, v1, v2, y, d, ones W, ones W, t1, t2, rfl, hs1.at_, hs2.at_, fun z => absurd rfl z, fun _ => ⟨had, hs1.td, hs2.td, ok1, ok2, fun H16 s16 => ?_⟩⟩
      have hs1 := hs1.keep s16
      have hs2 := hs2.keep s16
      have hPt := s16 _ _ hPt
      have tv := tv.keep (Same.kt s16)
      have B16 := B15.keep s16
      refine ⟨_, rfl, _, rfl, _, rfl, n + 1, by omega, b, g, W, y, v2, v1, d, ones W, ones W, t1, t2, rfl, had.same s16, hs2.td, hs1.td, ok1, ok2, fun H17 s17 => ?_⟩
      have hs1 := hs1.keep s17
      have hs2 := hs2.keep s17
      have hPt := s17 _ _ hPt
      have tv := tv.keep (Same.kt s17)
      have B17 := B16.keep s17
      refine ⟨_, _, rfl, _, rfl, ?_⟩
      rw [decide_eq_true rfl]
      exact iteF ⟨B17, hs1, hs2, hPt, _, _, _, _, rfl, fun _ => ⟨vt, wt, rfl, tv, wok⟩⟩
  · clear B6 hs1 hs2 hPt
    rintro σ H6 ⟨B6, hs1, hs2, hPt, o7, o8, o9, o10, rfl, h8⟩
    obtain ⟨vt, wt, rfl, tv, wok⟩ := h8 (by decide)
    -- passing
    refine ⟨_, rfl, _, rfl, _, rfl, n + 1, by omega, x, W, v1, t1, rfl, hs1, fun v7 H7 s7 t7 => ?_⟩
    have hs1 := hs1.keep s7
    have hs2 := hs2.keep s7
    have hPt := s7 _ _ hPt
    have tv := tv.keep (Same.kt s7)
    have B7 := B6.keep s7
    obtain ⟨p7, x7, y7, z7, rfl, hp7, hx7, tz7⟩ := td_bw t7
    refine ⟨p7, _, 0, _, rfl, rfl, hp7, at_of (j := 0) rfl rfl, x7, _, 1, _, rfl, rfl, hx7, at_of (j := 1) rfl rfl, ?_⟩
    refine ⟨n + 1, by omega, b, g, x, x, W, W, v1, v1, z7, _, ones W, ones W, t1, t1, rfl, hs1.at_, hs1.at_, fun z => absurd rfl z, fun _ => ⟨tz7.ad, hs1.td, hs1.td, ok1, ok1, fun H8 s8 => ?_⟩⟩
    rw [wtA_ok (n + 1) (n + 1) t1 t1 _ (idW_ok (n + 1) t1)]
    refine ⟨true, true, rfl, rfl, _, rfl, iteF ?_⟩
    have hs1 := hs1.keep s8
    have hs2 := hs2.keep s8
    have hPt := s8 _ _ hPt
    have tv := tv.keep (Same.kt s8)
    have B8 := B7.keep s8
    clear B6 B7 s7 s8 t7 tz7 hp7 hx7
    -- the second house with itself
    refine ⟨_, rfl, _, rfl, _, rfl, n + 1, by omega, b, g, x2, x2, W, W, v2, v2, vt, _, ones W, ones W, t2, t2, rfl, hs2.at_, hs2.at_, fun z => absurd rfl z, fun _ => ⟨tv.ad, hs2.td, hs2.td, ok2, ok2, fun H9 s9 => ?_⟩⟩
    have hs1 := hs1.keep s9
    have hs2 := hs2.keep s9
    have hPt := s9 _ _ hPt
    have tv := tv.keep (Same.kt s9)
    have B9 := B8.keep s9
    refine ⟨_, rfl, _, rfl, _, rfl, n + 1, by omega, b, g, W, vt, v2, v2, _, ones W, ones W, t2, t2, rfl, tv.ad, hs2.td, hs2.td, ok2, ok2, fun H10 s10 => ?_⟩
    have hs1 := hs1.keep s10
    have hs2 := hs2.keep s10
    have hPt := s10 _ _ hPt
    have tv := tv.keep (Same.kt s10)
    have B10 := B9.keep s10
    clear B8 B9 s9 s10
    refine ⟨_, _, rfl, _, rfl, ?_⟩
    rw [decide_eq_true rfl]
    refine iteF ?_
    -- more
    have eW1 : (W : Int) + 1 = ((W + 1 : Nat) : Int) := by omega
    refine ⟨_, rfl, _, _, rfl, rfl, _, rfl, _, rfl, _, _, rfl, rfl, _, rfl, by show 2 ≤ sizeLine; decide, fun p1 n1 => ⟨by show 1 ≤ sizeLine; decide, fun p2 n2 => ?_⟩⟩
    have z1 := same_upd (o := .tup [.int 1, .int 1]) n1
    have z2 := same_upd (o := .tup [.ref p1]) n2
    have hp1 : SqT K (upd (upd H10 p1 (.tup [.int 1, .int 1])) p2 (.tup [.ref p1])) p1 [.int 1, .int 1] := Same.kt z2 _ _ (.inl (.inl upd_same))
    have hp2 : SqT K (upd (upd H10 p1 (.tup [.int 1, .int 1])) p2 (.tup [.ref p1])) p2 [.ref p1] := .inl (.inl upd_same)
    have s11 := z1.trans z2
    generalize upd (upd H10 p1 (.tup [.int 1, .int 1])) p2 (.tup [.ref p1]) = H11 at s11 hp1 hp2 ⊢
    refine ⟨_, rfl, _, _, rfl, rfl, p2, _, _, rfl, rfl, hp2, (fun z => by cases z), by omega, by omega, by show 1 ≤ 1000; decide, fun p3 H12 s12 hp3 => ?_⟩
    have s102 := s11.trans s12
    have hs1 := hs1.keep s102
    have hs2 := hs2.keep s102
    have hPt := s102 _ _ hPt
    have tv := tv.keep (Same.kt s102)
    have B12 := B10.keep s102
    rw [eW1] at hp3
    have to : Td K H12 (.ref p3) (wsD (ones (W + 1))) := ones_td (q := p1) (.tup (Same.kt s12 _ _ hp1) (tdAll_ints [1, 1])) hp3
    refine ⟨n + 1, by omega, b, g, W + 1, W, 0, v1, .ref p3, ones W, ones (W + 1), t1, congrArg (fun z => [V.ref b, V.int z, v1, V.ref p3]) eW1, B12, hs1.td, to, List.length_replicate, ones_ch, by omega, ok1, by omega, by omega, fun v3 t3 H13 tv3 ok3 shp B13 F13 => ?_⟩
    have hs1 := hs1.frm B12 F13
    have hs2 := hs2.frm B12 F13
    have hPt := tab_frm B12 F13 hPt
    have tv := tv.keep (B12.kt F13)
    have c3 : cnt (n + 1) t3 ≤ 1500 := by
      rw [← cnt_shp shp]
      exact hs1.few
    have T3 : TreeOk K H13 (W + 1) (n + 1) v3 t3 := ⟨tv3, ok3, c3, by omega, by omega, by omega⟩
    clear B12 F13 s12 s11 z1 z2 hp1 hp2 hp3 to B10
    refine fun x3 dx3 nx3 ndx3 ne3 => ⟨n + 1, by omega, x3, dx3, W + 1, v3, t3, congrArg (fun z => [V.ref x3, V.int z, v3]) eW1, upd_same, T3.keep (own_same nx3 ndx3), fun H14 h14 k14 => ⟨rfl, ?_⟩⟩
    obtain ⟨s14, hs3⟩ := mk_hs nx3 ndx3 T3 h14 k14
    have hs1 := hs1.keep s14
    have hPt := s14 _ _ hPt
    have tv := tv.keep (Same.kt s14)
    clear h14 k14 nx3 ndx3 ne3 T3
    -- the lambdas
    refine ⟨fun p hp => by rw [List.mem_singleton.mp hp]; exact TabS.nil hPt, fun H15 e15 T15 Qn hQn => ?_⟩
    have a1 := hs1.at_.extN e15
    have a3 := hs3.at_.extN e15
    refine ⟨_, rfl, _, rfl, _, rfl, n + 1, by omega, b, g, x, x3, W, W + 1, v1, v3, vt, .oth none, ones W, ones (W + 1), t1, t3, rfl, a1, a3, fun _ => ⟨rfl, ?_⟩, fun z => by omega⟩
    refine ⟨rfl, _, rfl, iteF ?_⟩
    refine ⟨T15, fun H16 e16 T16 Qn hQn => ?_⟩
    have a1 := a1.extN e16
    have a3 := a3.extN e16
    refine ⟨_, rfl, _, rfl, n + 1, by omega, b, g, x3, x, W + 1, W, v3, v1, .non, .oth none, ones W, ones W, t1, t1, rfl, a3, a1, fun _ => ⟨rfl, ?_⟩, fun z => by omega⟩
    exact ⟨rfl, q H16⟩
end
end Tl
namespace Tl
open PySem PySem.Spec PyProof.Rows L2 RZ
theorem FnOk.anyN {CX : CXT} {P : Program} {w : World} {K : PySem.W.Frag} {mg : Str → Option Value} {base : Heap} {f : Addr} {fd : FuncData} {ps : List Str} {N k : Nat} {sp : Nat → Sp} (h : ∀ n, n ≤ N → FnOk P w K mg base CX k f fd ps (sp n)) : FnOk P w K mg base CX k f fd ps (Tl.anyS N sp) :=
  ⟨fun vs H Q E h' => by
    obtain ⟨n, hn, h'⟩ := h'
    exact (h n hn).len vs H Q E h', fun A outer s H args us vs Q E hr e hb rv h' => by
    obtain ⟨n, hn, h'⟩ := h'
    exact (h n hn).run A outer s H args us vs Q E hr e hb rv h'⟩
end Tl
namespace Tl
open PySem PySem.Spec PyProof.Rows L2 RZ
theorem all_mk {l : PySem.W.OpenLaw} {w : World} {K : PySem.W.Frag} {h : Heap} {mg : Str → Option Value} {fa Cc C_HouseError C_NotAlike aO f_is_integral f_is_number f_is_fraction f_is_chance f_are_chances f_reduced f_common_bottom f_times_whole f_total f_total_weights f_is_word f_is_answer f_is_ascending f_check_tree f_check_node f_check_question f_answers_in f_House_init f_House_eq f_check_alike f_is_wait f_is_move f_is_plan f_passing_wait f_passing f_law_bag f_law_pick f_law_some f_law_common f_law_low f_law_times f_law_shares f_law_question f_law_node f_law_tree f_law_deep f_law_odd f_law_parts f_law_put f_law_spoilt f_law_wait f_law_move f_law_is_int f_law_is_wait f_law_is_move f_law_reweighted f_law_two f_law_flag f_law_word f_law_edge f_law_move_edge f_law : Addr} (X : K.In h) (G : h.Ns mainGlobals mg) (hfa : mg "law" = some (.ref fa))
    {nm_HouseError nm_NotAlike qn_HouseError qn_NotAlike : Str} {N_HouseError N_NotAlike : Addr} {bs_HouseError bs_NotAlike sub_HouseError sub_NotAlike : List Value} {sn_HouseError sn_NotAlike : List Str} {ab_HouseError ab_NotAlike : Bool} {col_HouseError col_NotAlike : Option Bool} {k0_HouseError k0_NotAlike k1_HouseError k1_NotAlike k2_HouseError k2_NotAlike k3_HouseError k3_NotAlike k5_HouseError k5_NotAlike : Option Value} {dd_HouseError dd_NotAlike : Option Addr} {odO od_is_integral an_is_integral od_is_number an_is_number od_is_fraction an_is_fraction od_is_chance an_is_chance od_are_chances an_are_chances od_reduced an_reduced od_common_bottom an_common_bottom od_times_whole an_times_whole od_total an_total od_total_weights an_total_weights od_is_word an_is_word od_is_answer an_is_answer od_is_ascending an_is_ascending od_check_tree an_check_tree od_check_node an_check_node od_check_question an_check_question od_answers_in an_answers_in od_House_init an_House_init od_House_eq an_House_eq od_check_alike an_check_alike od_is_wait an_is_wait od_is_move an_is_move od_is_plan an_is_plan od_passing_wait an_passing_wait od_passing an_passing od_law_bag an_law_bag od_law_pick an_law_pick od_law_some an_law_some od_law_common an_law_common od_law_low an_law_low od_law_times an_law_times od_law_shares an_law_shares od_law_question an_law_question od_law_node an_law_node od_law_tree an_law_tree od_law_deep an_law_deep od_law_odd an_law_odd od_law_parts an_law_parts od_law_put an_law_put od_law_spoilt an_law_spoilt od_law_wait an_law_wait od_law_move an_law_move od_law_is_int an_law_is_int od_law_is_wait an_law_is_wait od_law_is_move an_law_is_move od_law_reweighted an_law_reweighted od_law_two an_law_two od_law_flag an_law_flag od_law_word an_law_word od_law_edge an_law_edge od_law_move_edge an_law_move_edge od_law an_law : Option Addr} {slO sl_is_integral sl_is_number sl_is_fraction sl_is_chance sl_are_chances sl_reduced sl_common_bottom sl_times_whole sl_total sl_total_weights sl_is_word sl_is_answer sl_is_ascending sl_check_tree sl_check_node sl_check_question sl_answers_in sl_House_init sl_House_eq sl_check_alike sl_is_wait sl_is_move sl_is_plan sl_passing_wait sl_passing sl_law_bag sl_law_pick sl_law_some sl_law_common sl_law_low sl_law_times sl_law_shares sl_law_question sl_law_node sl_law_tree sl_law_deep sl_law_odd sl_law_parts sl_law_put sl_law_spoilt sl_law_wait sl_law_move sl_law_is_int sl_law_is_wait sl_law_is_move sl_law_reweighted sl_law_two sl_law_flag sl_law_word sl_law_edge sl_law_move_edge sl_law : Array (Option Value)} {oc_is_integral kV_is_integral dc_is_integral pm_is_integral cd_is_integral ct_is_integral oc_is_number kV_is_number dc_is_number pm_is_number cd_is_number ct_is_number oc_is_fraction kV_is_fraction dc_is_fraction pm_is_fraction cd_is_fraction ct_is_fraction oc_is_chance kV_is_chance dc_is_chance pm_is_chance cd_is_chance ct_is_chance oc_are_chances kV_are_chances dc_are_chances pm_are_chances cd_are_chances ct_are_chances oc_reduced kV_reduced dc_reduced pm_reduced cd_reduced ct_reduced oc_common_bottom kV_common_bottom dc_common_bottom pm_common_bottom cd_common_bottom ct_common_bottom oc_times_whole kV_times_whole dc_times_whole pm_times_whole cd_times_whole ct_times_whole oc_total kV_total dc_total pm_total cd_total ct_total oc_total_weights kV_total_weights dc_total_weights pm_total_weights cd_total_weights ct_total_weights oc_is_word kV_is_word dc_is_word pm_is_word cd_is_word ct_is_word oc_is_answer kV_is_answer dc_is_answer pm_is_answer cd_is_answer ct_is_answer oc_is_ascending kV_is_ascending dc_is_ascending pm_is_ascending cd_is_ascending ct_is_ascending oc_check_tree kV_check_tree dc_check_tree pm_check_tree cd_check_tree ct_check_tree oc_check_node kV_check_node dc_check_node pm_check_node cd_check_node ct_check_node oc_check_question kV_check_question dc_check_question pm_check_question cd_check_question ct_check_question oc_answers_in kV_answers_in dc_answers_in pm_answers_in cd_answers_in ct_answers_in oc_House_init kV_House_init dc_House_init pm_House_init cd_House_init ct_House_init oc_House_eq kV_House_eq dc_House_eq pm_House_eq cd_House_eq ct_House_eq oc_check_alike kV_check_alike dc_check_alike pm_check_alike cd_check_alike ct_check_alike oc_is_wait kV_is_wait dc_is_wait pm_is_wait cd_is_wait ct_is_wait oc_is_move kV_is_move dc_is_move pm_is_move cd_is_move ct_is_move oc_is_plan kV_is_plan dc_is_plan pm_is_plan cd_is_plan ct_is_plan oc_passing_wait kV_passing_wait dc_passing_wait pm_passing_wait cd_passing_wait ct_passing_wait oc_passing kV_passing dc_passing pm_passing cd_passing ct_passing oc_law_bag kV_law_bag dc_law_bag pm_law_bag cd_law_bag ct_law_bag oc_law_pick kV_law_pick dc_law_pick pm_law_pick cd_law_pick ct_law_pick oc_law_some kV_law_some dc_law_some pm_law_some cd_law_some ct_law_some oc_law_common kV_law_common dc_law_common pm_law_common cd_law_common ct_law_common oc_law_low kV_law_low dc_law_low pm_law_low cd_law_low ct_law_low oc_law_times kV_law_times dc_law_times pm_law_times cd_law_times ct_law_times oc_law_shares kV_law_shares dc_law_shares pm_law_shares cd_law_shares ct_law_shares oc_law_question kV_law_question dc_law_question pm_law_question cd_law_question ct_law_question oc_law_node kV_law_node dc_law_node pm_law_node cd_law_node ct_law_node oc_law_tree kV_law_tree dc_law_tree pm_law_tree cd_law_tree ct_law_tree oc_law_deep kV_law_deep dc_law_deep pm_law_deep cd_law_deep ct_law_deep oc_law_odd kV_law_odd dc_law_odd pm_law_odd cd_law_odd ct_law_odd oc_law_parts kV_law_parts dc_law_parts pm_law_parts cd_law_parts ct_law_parts oc_law_put kV_law_put dc_law_put pm_law_put cd_law_put ct_law_put oc_law_spoilt kV_law_spoilt dc_law_spoilt pm_law_spoilt cd_law_spoilt ct_law_spoilt oc_law_wait kV_law_wait dc_law_wait pm_law_wait cd_law_wait ct_law_wait oc_law_move kV_law_move dc_law_move pm_law_move cd_law_move ct_law_move oc_law_is_int kV_law_is_int dc_law_is_int pm_law_is_int cd_law_is_int ct_law_is_int oc_law_is_wait kV_law_is_wait dc_law_is_wait pm_law_is_wait cd_law_is_wait ct_law_is_wait oc_law_is_move kV_law_is_move dc_law_is_move pm_law_is_move cd_law_is_move ct_law_is_move oc_law_reweighted kV_law_reweighted dc_law_reweighted pm_law_reweighted cd_law_reweighted ct_law_reweighted oc_law_two kV_law_two dc_law_two pm_law_two cd_law_two ct_law_two oc_law_flag kV_law_flag dc_law_flag pm_law_flag cd_law_flag ct_law_flag oc_law_word kV_law_word dc_law_word pm_law_word cd_law_word ct_law_word oc_law_edge kV_law_edge dc_law_edge pm_law_edge cd_law_edge ct_law_edge oc_law_move_edge kV_law_move_edge dc_law_move_edge pm_law_move_edge cd_law_move_edge ct_law_move_edge oc_law kV_law dc_law pm_law cd_law ct_law : Value} {tO1 tO2 t1 t2 t3 t4 t5 : Tok} {nO : Nat}
    (aC : PySem.W.nsIn K mainGlobals "House" = some (some (.ref Cc)))
    (a_is_integral : PySem.W.nsIn K mainGlobals "is_integral" = some (some (.ref f_is_integral)))
    (l_is_integral : K.lookup f_is_integral = some ⟨oc_is_integral, od_is_integral, .func (PySem.W.fnOf "is_integral" "is_integral" (defArgs s_is_integral) (defBody s_is_integral) (defScope s_is_integral) .none kV_is_integral dc_is_integral pm_is_integral an_is_integral cd_is_integral ct_is_integral), sl_is_integral⟩)
    (c_is_integral : PySem.W.codeIn K cd_is_integral "is_integral" = true)
    (k_is_integral : PySem.W.keepIn K (.ref f_is_integral) = true)
    (a_is_number : PySem.W.nsIn K mainGlobals "is_number" = some (some (.ref f_is_number)))
    (l_is_number : K.lookup f_is_number = some ⟨oc_is_number, od_is_number, .func (PySem.W.fnOf "is_number" "is_number" (defArgs s_is_number) (defBody s_is_number) (defScope s_is_number) .none kV_is_number dc_is_number pm_is_number an_is_number cd_is_number ct_is_number), sl_is_number⟩)
    (c_is_number : PySem.W.codeIn K cd_is_number "is_number" = true)
    (k_is_number : PySem.W.keepIn K (.ref f_is_number) = true)
    (a_is_fraction : PySem.W.nsIn K mainGlobals "is_fraction" = some (some (.ref f_is_fraction)))
    (l_is_fraction : K.lookup f_is_fraction = some ⟨oc_is_fraction, od_is_fraction, .func (PySem.W.fnOf "is_fraction" "is_fraction" (defArgs s_is_fraction) (defBody s_is_fraction) (defScope s_is_fraction) .none kV_is_fraction dc_is_fraction pm_is_fraction an_is_fraction cd_is_fraction ct_is_fraction), sl_is_fraction⟩)
    (c_is_fraction : PySem.W.codeIn K cd_is_fraction "is_fraction" = true)
    (k_is_fraction : PySem.W.keepIn K (.ref f_is_fraction) = true)
    (a_is_chance : PySem.W.nsIn K mainGlobals "is_chance" = some (some (.ref f_is_chance)))
    (l_is_chance : K.lookup f_is_chance = some ⟨oc_is_chance, od_is_chance, .func (PySem.W.fnOf "is_chance" "is_chance" (defArgs s_is_chance) (defBody s_is_chance) (defScope s_is_chance) .none kV_is_chance dc_is_chance pm_is_chance an_is_chance cd_is_chance ct_is_chance), sl_is_chance⟩)
    (c_is_chance : PySem.W.codeIn K cd_is_chance "is_chance" = true)
    (k_is_chance : PySem.W.keepIn K (.ref f_is_chance) = true)
    (a_are_chances : PySem.W.nsIn K mainGlobals "are_chances" = some (some (.ref f_are_chances)))
    (l_are_chances : K.lookup f_are_chances = some ⟨oc_are_chances, od_are_chances, .func (PySem.W.fnOf "are_chances" "are_chances" (defArgs s_are_chances) (defBody s_are_chances) (defScope s_are_chances) .none kV_are_chances dc_are_chances pm_are_chances an_are_chances cd_are_chances ct_are_chances), sl_are_chances⟩)
    (c_are_chances : PySem.W.codeIn K cd_are_chances "are_chances" = true)
    (k_are_chances : PySem.W.keepIn K (.ref f_are_chances) = true)
    (a_reduced : PySem.W.nsIn K mainGlobals "reduced" = some (some (.ref f_reduced)))
    (l_reduced : K.lookup f_reduced = some ⟨oc_reduced, od_reduced, .func (PySem.W.fnOf "reduced" "reduced" (defArgs s_reduced) (defBody s_reduced) (defScope s_reduced) .none kV_reduced dc_reduced pm_reduced an_reduced cd_reduced ct_reduced), sl_reduced⟩)
    (c_reduced : PySem.W.codeIn K cd_reduced "reduced" = true)
    (k_reduced : PySem.W.keepIn K (.ref f_reduced) = true)
    (a_common_bottom : PySem.W.nsIn K mainGlobals "common_bottom" = some (some (.ref f_common_bottom)))
    (l_common_bottom : K.lookup f_common_bottom = some ⟨oc_common_bottom, od_common_bottom, .func (PySem.W.fnOf "common_bottom" "common_bottom" (defArgs s_common_bottom) (defBody s_common_bottom) (defScope s_common_bottom) .none kV_common_bottom dc_common_bottom pm_common_bottom an_common_bottom cd_common_bottom ct_common_bottom), sl_common_bottom⟩)
    (c_common_bottom : PySem.W.codeIn K cd_common_bottom "common_bottom" = true)
    (k_common_bottom : PySem.W.keepIn K (.ref f_common_bottom) = true)
    (a_times_whole : PySem.W.nsIn K mainGlobals "times_whole" = some (some (.ref f_times_whole)))
    (l_times_whole : K.lookup f_times_whole = some ⟨oc_times_whole, od_times_whole, .func (PySem.W.fnOf "times_whole" "times_whole" (defArgs s_times_whole) (defBody s_times_whole) (defScope s_times_whole) .none kV_times_whole dc_times_whole pm_times_whole an_times_whole cd_times_whole ct_times_whole), sl_times_whole⟩)
    (c_times_whole : PySem.W.codeIn K cd_times_whole "times_whole" = true)
    (k_times_whole : PySem.W.keepIn K (.ref f_times_whole) = true)
    (a_total : PySem.W.nsIn K mainGlobals "total" = some (some (.ref f_total)))
    (l_total : K.lookup f_total = some ⟨oc_total, od_total, .func (PySem.W.fnOf "total" "total" (defArgs s_total) (defBody s_total) (defScope s_total) .none kV_total dc_total pm_total an_total cd_total ct_total), sl_total⟩)
    (c_total : PySem.W.codeIn K cd_total "total" = true)
    (k_total : PySem.W.keepIn K (.ref f_total) = true)
    (a_total_weights : PySem.W.nsIn K mainGlobals "total_weights" = some (some (.ref f_total_weights)))
    (l_total_weights : K.lookup f_total_weights = some ⟨oc_total_weights, od_total_weights, .func (PySem.W.fnOf "total_weights" "total_weights" (defArgs s_total_weights) (defBody s_total_weights) (defScope s_total_weights) .none kV_total_weights dc_total_weights pm_total_weights an_total_weights cd_total_weights ct_total_weights), sl_total_weights⟩)
    (c_total_weights : PySem.W.codeIn K cd_total_weights "total_weights" = true)
    (k_total_weights : PySem.W.keepIn K (.ref f_total_weights) = true)
    (a_is_word : PySem.W.nsIn K mainGlobals "is_word" = some (some (.ref f_is_word)))
    (l_is_word : K.lookup f_is_word = some ⟨oc_is_word, od_is_word, .func (PySem.W.fnOf "is_word" "is_word" (defArgs s_is_word) (defBody s_is_word) (defScope s_is_word) .none kV_is_word dc_is_word pm_is_word an_is_word cd_is_word ct_is_word), sl_is_word⟩)
    (c_is_word : PySem.W.codeIn K cd_is_word "is_word" = true)
    (k_is_word : PySem.W.keepIn K (.ref f_is_word) = true)
    (a_is_answer : PySem.W.nsIn K mainGlobals "is_answer" = some (some (.ref f_is_answer)))
    (l_is_answer : K.lookup f_is_answer = some ⟨oc_is_answer, od_is_answer, .func (PySem.W.fnOf "is_answer" "is_answer" (defArgs s_is_answer) (defBody s_is_answer) (defScope s_is_answer) .none kV_is_answer dc_is_answer pm_is_answer an_is_answer cd_is_answer ct_is_answer), sl_is_answer⟩)
    (c_is_answer : PySem.W.codeIn K cd_is_answer "is_answer" = true)
    (k_is_answer : PySem.W.keepIn K (.ref f_is_answer) = true)
    (a_is_ascending : PySem.W.nsIn K mainGlobals "is_ascending" = some (some (.ref f_is_ascending)))
    (l_is_ascending : K.lookup f_is_ascending = some ⟨oc_is_ascending, od_is_ascending, .func (PySem.W.fnOf "is_ascending" "is_ascending" (defArgs s_is_ascending) (defBody s_is_ascending) (defScope s_is_ascending) .none kV_is_ascending dc_is_ascending pm_is_ascending an_is_ascending cd_is_ascending ct_is_ascending), sl_is_ascending⟩)
    (c_is_ascending : PySem.W.codeIn K cd_is_ascending "is_ascending" = true)
    (k_is_ascending : PySem.W.keepIn K (.ref f_is_ascending) = true)
    (a_check_tree : PySem.W.nsIn K mainGlobals "check_tree" = some (some (.ref f_check_tree)))
    (l_check_tree : K.lookup f_check_tree = some ⟨oc_check_tree, od_check_tree, .func (PySem.W.fnOf "check_tree" "check_tree" (defArgs s_check_tree) (defBody s_check_tree) (defScope s_check_tree) .none kV_check_tree dc_check_tree pm_check_tree an_check_tree cd_check_tree ct_check_tree), sl_check_tree⟩)
    (c_check_tree : PySem.W.codeIn K cd_check_tree "check_tree" = true)
    (k_check_tree : PySem.W.keepIn K (.ref f_check_tree) = true)
    (a_check_node : PySem.W.nsIn K mainGlobals "check_node" = some (some (.ref f_check_node)))
    (l_check_node : K.lookup f_check_node = some ⟨oc_check_node, od_check_node, .func (PySem.W.fnOf "check_node" "check_node" (defArgs s_check_node) (defBody s_check_node) (defScope s_check_node) .none kV_check_node dc_check_node pm_check_node an_check_node cd_check_node ct_check_node), sl_check_node⟩)
    (c_check_node : PySem.W.codeIn K cd_check_node "check_node" = true)
    (k_check_node : PySem.W.keepIn K (.ref f_check_node) = true)
    (a_check_question : PySem.W.nsIn K mainGlobals "check_question" = some (some (.ref f_check_question)))
    (l_check_question : K.lookup f_check_question = some ⟨oc_check_question, od_check_question, .func (PySem.W.fnOf "check_question" "check_question" (defArgs s_check_question) (defBody s_check_question) (defScope s_check_question) .none kV_check_question dc_check_question pm_check_question an_check_question cd_check_question ct_check_question), sl_check_question⟩)
    (c_check_question : PySem.W.codeIn K cd_check_question "check_question" = true)
    (k_check_question : PySem.W.keepIn K (.ref f_check_question) = true)
    (a_answers_in : PySem.W.nsIn K mainGlobals "answers_in" = some (some (.ref f_answers_in)))
    (l_answers_in : K.lookup f_answers_in = some ⟨oc_answers_in, od_answers_in, .func (PySem.W.fnOf "answers_in" "answers_in" (defArgs s_answers_in) (defBody s_answers_in) (defScope s_answers_in) .none kV_answers_in dc_answers_in pm_answers_in an_answers_in cd_answers_in ct_answers_in), sl_answers_in⟩)
    (c_answers_in : PySem.W.codeIn K cd_answers_in "answers_in" = true)
    (k_answers_in : PySem.W.keepIn K (.ref f_answers_in) = true)
    (a_House_init : PySem.W.findIn K (.ref Cc) "__init__" = some (some (.ref f_House_init)))
    (i_House_init : PySem.W.isFn K (.ref f_House_init) = true)
    (l_House_init : K.lookup f_House_init = some ⟨oc_House_init, od_House_init, .func (PySem.W.fnOf "__init__" "House.__init__" (defArgs s_House_init) (defBody s_House_init) (defScope s_House_init) .none kV_House_init dc_House_init pm_House_init an_House_init cd_House_init ct_House_init), sl_House_init⟩)
    (c_House_init : PySem.W.codeIn K cd_House_init "House.__init__" = true)
    (k_House_init : PySem.W.keepIn K (.ref f_House_init) = true)
    (a_House_eq : PySem.W.findIn K (.ref Cc) "__eq__" = some (some (.ref f_House_eq)))
    (i_House_eq : PySem.W.isFn K (.ref f_House_eq) = true)
    (l_House_eq : K.lookup f_House_eq = some ⟨oc_House_eq, od_House_eq, .func (PySem.W.fnOf "__eq__" "House.__eq__" (defArgs s_House_eq) (defBody s_House_eq) (defScope s_House_eq) .none kV_House_eq dc_House_eq pm_House_eq an_House_eq cd_House_eq ct_House_eq), sl_House_eq⟩)
    (c_House_eq : PySem.W.codeIn K cd_House_eq "House.__eq__" = true)
    (k_House_eq : PySem.W.keepIn K (.ref f_House_eq) = true)
    (a_check_alike : PySem.W.nsIn K mainGlobals "check_alike" = some (some (.ref f_check_alike)))
    (l_check_alike : K.lookup f_check_alike = some ⟨oc_check_alike, od_check_alike, .func (PySem.W.fnOf "check_alike" "check_alike" (defArgs s_check_alike) (defBody s_check_alike) (defScope s_check_alike) .none kV_check_alike dc_check_alike pm_check_alike an_check_alike cd_check_alike ct_check_alike), sl_check_alike⟩)
    (c_check_alike : PySem.W.codeIn K cd_check_alike "check_alike" = true)
    (k_check_alike : PySem.W.keepIn K (.ref f_check_alike) = true)
    (a_is_wait : PySem.W.nsIn K mainGlobals "is_wait" = some (some (.ref f_is_wait)))
    (l_is_wait : K.lookup f_is_wait = some ⟨oc_is_wait, od_is_wait, .func (PySem.W.fnOf "is_wait" "is_wait" (defArgs s_is_wait) (defBody s_is_wait) (defScope s_is_wait) .none kV_is_wait dc_is_wait pm_is_wait an_is_wait cd_is_wait ct_is_wait), sl_is_wait⟩)
    (c_is_wait : PySem.W.codeIn K cd_is_wait "is_wait" = true)
    (k_is_wait : PySem.W.keepIn K (.ref f_is_wait) = true)
    (a_is_move : PySem.W.nsIn K mainGlobals "is_move" = some (some (.ref f_is_move)))
    (l_is_move : K.lookup f_is_move = some ⟨oc_is_move, od_is_move, .func (PySem.W.fnOf "is_move" "is_move" (defArgs s_is_move) (defBody s_is_move) (defScope s_is_move) .none kV_is_move dc_is_move pm_is_move an_is_move cd_is_move ct_is_move), sl_is_move⟩)
    (c_is_move : PySem.W.codeIn K cd_is_move "is_move" = true)
    (k_is_move : PySem.W.keepIn K (.ref f_is_move) = true)
    (a_is_plan : PySem.W.nsIn K mainGlobals "is_plan" = some (some (.ref f_is_plan)))
    (l_is_plan : K.lookup f_is_plan = some ⟨oc_is_plan, od_is_plan, .func (PySem.W.fnOf "is_plan" "is_plan" (defArgs s_is_plan) (defBody s_is_plan) (defScope s_is_plan) .none kV_is_plan dc_is_plan pm_is_plan an_is_plan cd_is_plan ct_is_plan), sl_is_plan⟩)
    (c_is_plan : PySem.W.codeIn K cd_is_plan "is_plan" = true)
    (k_is_plan : PySem.W.keepIn K (.ref f_is_plan) = true)
    (a_passing_wait : PySem.W.nsIn K mainGlobals "passing_wait" = some (some (.ref f_passing_wait)))
    (l_passing_wait : K.lookup f_passing_wait = some ⟨oc_passing_wait, od_passing_wait, .func (PySem.W.fnOf "passing_wait" "passing_wait" (defArgs s_passing_wait) (defBody s_passing_wait) (defScope s_passing_wait) .none kV_passing_wait dc_passing_wait pm_passing_wait an_passing_wait cd_passing_wait ct_passing_wait), sl_passing_wait⟩)
    (c_passing_wait : PySem.W.codeIn K cd_passing_wait "passing_wait" = true)
    (k_passing_wait : PySem.W.keepIn K (.ref f_passing_wait) = true)
    (a_passing : PySem.W.nsIn K mainGlobals "passing" = some (some (.ref f_passing)))
    (l_passing : K.lookup f_passing = some ⟨oc_passing, od_passing, .func (PySem.W.fnOf "passing" "passing" (defArgs s_passing) (defBody s_passing) (defScope s_passing) .none kV_passing dc_passing pm_passing an_passing cd_passing ct_passing), sl_passing⟩)
    (c_passing : PySem.W.codeIn K cd_passing "passing" = true)
    (k_passing : PySem.W.keepIn K (.ref f_passing) = true)
    (a_law_bag : PySem.W.nsIn K mainGlobals "_law_bag" = some (some (.ref f_law_bag)))
    (l_law_bag : K.lookup f_law_bag = some ⟨oc_law_bag, od_law_bag, .func (PySem.W.fnOf "_law_bag" "_law_bag" (defArgs s_law_bag) (defBody s_law_bag) (defScope s_law_bag) .none kV_law_bag dc_law_bag pm_law_bag an_law_bag cd_law_bag ct_law_bag), sl_law_bag⟩)
    (c_law_bag : PySem.W.codeIn K cd_law_bag "_law_bag" = true)
    (k_law_bag : PySem.W.keepIn K (.ref f_law_bag) = true)
    (a_law_pick : PySem.W.nsIn K mainGlobals "_law_pick" = some (some (.ref f_law_pick)))
    (l_law_pick : K.lookup f_law_pick = some ⟨oc_law_pick, od_law_pick, .func (PySem.W.fnOf "_law_pick" "_law_pick" (defArgs s_law_pick) (defBody s_law_pick) (defScope s_law_pick) .none kV_law_pick dc_law_pick pm_law_pick an_law_pick cd_law_pick ct_law_pick), sl_law_pick⟩)
    (c_law_pick : PySem.W.codeIn K cd_law_pick "_law_pick" = true)
    (k_law_pick : PySem.W.keepIn K (.ref f_law_pick) = true)
    (a_law_some : PySem.W.nsIn K mainGlobals "_law_some" = some (some (.ref f_law_some)))
    (l_law_some : K.lookup f_law_some = some ⟨oc_law_some, od_law_some, .func (PySem.W.fnOf "_law_some" "_law_some" (defArgs s_law_some) (defBody s_law_some) (defScope s_law_some) .none kV_law_some dc_law_some pm_law_some an_law_some cd_law_some ct_law_some), sl_law_some⟩)
    (c_law_some : PySem.W.codeIn K cd_law_some "_law_some" = true)
    (k_law_some : PySem.W.keepIn K (.ref f_law_some) = true)
    (a_law_common : PySem.W.nsIn K mainGlobals "_law_common" = some (some (.ref f_law_common)))
    (l_law_common : K.lookup f_law_common = some ⟨oc_law_common, od_law_common, .func (PySem.W.fnOf "_law_common" "_law_common" (defArgs s_law_common) (defBody s_law_common) (defScope s_law_common) .none kV_law_common dc_law_common pm_law_common an_law_common cd_law_common ct_law_common), sl_law_common⟩)
    (c_law_common : PySem.W.codeIn K cd_law_common "_law_common" = true)
    (k_law_common : PySem.W.keepIn K (.ref f_law_common) = true)
    (a_law_low : PySem.W.nsIn K mainGlobals "_law_low" = some (some (.ref f_law_low)))
    (l_law_low : K.lookup f_law_low = some ⟨oc_law_low, od_law_low, .func (PySem.W.fnOf "_law_low" "_law_low" (defArgs s_law_low) (defBody s_law_low) (defScope s_law_low) .none kV_law_low dc_law_low pm_law_low an_law_low cd_law_low ct_law_low), sl_law_low⟩)
    (c_law_low : PySem.W.codeIn K cd_law_low "_law_low" = true)
    (k_law_low : PySem.W.keepIn K (.ref f_law_low) = true)
    (a_law_times : PySem.W.nsIn K mainGlobals "_law_times" = some (some (.ref f_law_times)))
    (l_law_times : K.lookup f_law_times = some ⟨oc_law_times, od_law_times, .func (PySem.W.fnOf "_law_times" "_law_times" (defArgs s_law_times) (defBody s_law_times) (defScope s_law_times) .none kV_law_times dc_law_times pm_law_times an_law_times cd_law_times ct_law_times), sl_law_times⟩)
    (c_law_times : PySem.W.codeIn K cd_law_times "_law_times" = true)
    (k_law_times : PySem.W.keepIn K (.ref f_law_times) = true)
    (a_law_shares : PySem.W.nsIn K mainGlobals "_law_shares" = some (some (.ref f_law_shares)))
    (l_law_shares : K.lookup f_law_shares = some ⟨oc_law_shares, od_law_shares, .func (PySem.W.fnOf "_law_shares" "_law_shares" (defArgs s_law_shares) (defBody s_law_shares) (defScope s_law_shares) .none kV_law_shares dc_law_shares pm_law_shares an_law_shares cd_law_shares ct_law_shares), sl_law_shares⟩)
    (c_law_shares : PySem.W.codeIn K cd_law_shares "_law_shares" = true)
    (k_law_shares : PySem.W.keepIn K (.ref f_law_shares) = true)
    (a_law_question : PySem.W.nsIn K mainGlobals "_law_question" = some (some (.ref f_law_question)))
    (l_law_question : K.lookup f_law_question = some ⟨oc_law_question, od_law_question, .func (PySem.W.fnOf "_law_question" "_law_question" (defArgs s_law_question) (defBody s_law_question) (defScope s_law_question) .none kV_law_question dc_law_question pm_law_question an_law_question cd_law_question ct_law_question), sl_law_question⟩)
    (c_law_question : PySem.W.codeIn K cd_law_question "_law_question" = true)
    (k_law_question : PySem.W.keepIn K (.ref f_law_question) = true)
    (a_law_node : PySem.W.nsIn K mainGlobals "_law_node" = some (some (.ref f_law_node)))
    (l_law_node : K.lookup f_law_node = some ⟨oc_law_node, od_law_node, .func (PySem.W.fnOf "_law_node" "_law_node" (defArgs s_law_node) (defBody s_law_node) (defScope s_law_node) .none kV_law_node dc_law_node pm_law_node an_law_node cd_law_node ct_law_node), sl_law_node⟩)
    (c_law_node : PySem.W.codeIn K cd_law_node "_law_node" = true)
    (k_law_node : PySem.W.keepIn K (.ref f_law_node) = true)
    (a_law_tree : PySem.W.nsIn K mainGlobals "_law_tree" = some (some (.ref f_law_tree)))
    (l_law_tree : K.lookup f_law_tree = some ⟨oc_law_tree, od_law_tree, .func (PySem.W.fnOf "_law_tree" "_law_tree" (defArgs s_law_tree) (defBody s_law_tree) (defScope s_law_tree) .none kV_law_tree dc_law_tree pm_law_tree an_law_tree cd_law_tree ct_law_tree), sl_law_tree⟩)
    (c_law_tree : PySem.W.codeIn K cd_law_tree "_law_tree" = true)
    (k_law_tree : PySem.W.keepIn K (.ref f_law_tree) = true)
    (a_law_deep : PySem.W.nsIn K mainGlobals "_law_deep" = some (some (.ref f_law_deep)))
    (l_law_deep : K.lookup f_law_deep = some ⟨oc_law_deep, od_law_deep, .func (PySem.W.fnOf "_law_deep" "_law_deep" (defArgs s_law_deep) (defBody s_law_deep) (defScope s_law_deep) .none kV_law_deep dc_law_deep pm_law_deep an_law_deep cd_law_deep ct_law_deep), sl_law_deep⟩)
    (c_law_deep : PySem.W.codeIn K cd_law_deep "_law_deep" = true)
    (k_law_deep : PySem.W.keepIn K (.ref f_law_deep) = true)
    (a_law_odd : PySem.W.nsIn K mainGlobals "_law_odd" = some (some (.ref f_law_odd)))
    (l_law_odd : K.lookup f_law_odd = some ⟨oc_law_odd, od_law_odd, .func (PySem.W.fnOf "_law_odd" "_law_odd" (defArgs s_law_odd) (defBody s_law_odd) (defScope s_law_odd) .none kV_law_odd dc_law_odd pm_law_odd an_law_odd cd_law_odd ct_law_odd), sl_law_odd⟩)
    (c_law_odd : PySem.W.codeIn K cd_law_odd "_law_odd" = true)
    (k_law_odd : PySem.W.keepIn K (.ref f_law_odd) = true)
    (a_law_parts : PySem.W.nsIn K mainGlobals "_law_parts" = some (some (.ref f_law_parts)))
    (l_law_parts : K.lookup f_law_parts = some ⟨oc_law_parts, od_law_parts, .func (PySem.W.fnOf "_law_parts" "_law_parts" (defArgs s_law_parts) (defBody s_law_parts) (defScope s_law_parts) .none kV_law_parts dc_law_parts pm_law_parts an_law_parts cd_law_parts ct_law_parts), sl_law_parts⟩)
    (c_law_parts : PySem.W.codeIn K cd_law_parts "_law_parts" = true)
    (k_law_parts : PySem.W.keepIn K (.ref f_law_parts) = true)
    (a_law_put : PySem.W.nsIn K mainGlobals "_law_put" = some (some (.ref f_law_put)))
    (l_law_put : K.lookup f_law_put = some ⟨oc_law_put, od_law_put, .func (PySem.W.fnOf "_law_put" "_law_put" (defArgs s_law_put) (defBody s_law_put) (defScope s_law_put) .none kV_law_put dc_law_put pm_law_put an_law_put cd_law_put ct_law_put), sl_law_put⟩)
    (c_law_put : PySem.W.codeIn K cd_law_put "_law_put" = true)
    (k_law_put : PySem.W.keepIn K (.ref f_law_put) = true)
    (a_law_spoilt : PySem.W.nsIn K mainGlobals "_law_spoilt" = some (some (.ref f_law_spoilt)))
    (l_law_spoilt : K.lookup f_law_spoilt = some ⟨oc_law_spoilt, od_law_spoilt, .func (PySem.W.fnOf "_law_spoilt" "_law_spoilt" (defArgs s_law_spoilt) (defBody s_law_spoilt) (defScope s_law_spoilt) .none kV_law_spoilt dc_law_spoilt pm_law_spoilt an_law_spoilt cd_law_spoilt ct_law_spoilt), sl_law_spoilt⟩)
    (c_law_spoilt : PySem.W.codeIn K cd_law_spoilt "_law_spoilt" = true)
    (k_law_spoilt : PySem.W.keepIn K (.ref f_law_spoilt) = true)
    (a_law_wait : PySem.W.nsIn K mainGlobals "_law_wait" = some (some (.ref f_law_wait)))
    (l_law_wait : K.lookup f_law_wait = some ⟨oc_law_wait, od_law_wait, .func (PySem.W.fnOf "_law_wait" "_law_wait" (defArgs s_law_wait) (defBody s_law_wait) (defScope s_law_wait) .none kV_law_wait dc_law_wait pm_law_wait an_law_wait cd_law_wait ct_law_wait), sl_law_wait⟩)
    (c_law_wait : PySem.W.codeIn K cd_law_wait "_law_wait" = true)
    (k_law_wait : PySem.W.keepIn K (.ref f_law_wait) = true)
    (a_law_move : PySem.W.nsIn K mainGlobals "_law_move" = some (some (.ref f_law_move)))
    (l_law_move : K.lookup f_law_move = some ⟨oc_law_move, od_law_move, .func (PySem.W.fnOf "_law_move" "_law_move" (defArgs s_law_move) (defBody s_law_move) (defScope s_law_move) .none kV_law_move dc_law_move pm_law_move an_law_move cd_law_move ct_law_move), sl_law_move⟩)
    (c_law_move : PySem.W.codeIn K cd_law_move "_law_move" = true)
    (k_law_move : PySem.W.keepIn K (.ref f_law_move) = true)
    (a_law_is_int : PySem.W.nsIn K mainGlobals "_law_is_int" = some (some (.ref f_law_is_int)))
    (l_law_is_int : K.lookup f_law_is_int = some ⟨oc_law_is_int, od_law_is_int, .func (PySem.W.fnOf "_law_is_int" "_law_is_int" (defArgs s_law_is_int) (defBody s_law_is_int) (defScope s_law_is_int) .none kV_law_is_int dc_law_is_int pm_law_is_int an_law_is_int cd_law_is_int ct_law_is_int), sl_law_is_int⟩)
    (c_law_is_int : PySem.W.codeIn K cd_law_is_int "_law_is_int" = true)
    (k_law_is_int : PySem.W.keepIn K (.ref f_law_is_int) = true)
    (a_law_is_wait : PySem.W.nsIn K mainGlobals "_law_is_wait" = some (some (.ref f_law_is_wait)))
    (l_law_is_wait : K.lookup f_law_is_wait = some ⟨oc_law_is_wait, od_law_is_wait, .func (PySem.W.fnOf "_law_is_wait" "_law_is_wait" (defArgs s_law_is_wait) (defBody s_law_is_wait) (defScope s_law_is_wait) .none kV_law_is_wait dc_law_is_wait pm_law_is_wait an_law_is_wait cd_law_is_wait ct_law_is_wait), sl_law_is_wait⟩)
    (c_law_is_wait : PySem.W.codeIn K cd_law_is_wait "_law_is_wait" = true)
    (k_law_is_wait : PySem.W.keepIn K (.ref f_law_is_wait) = true)
    (a_law_is_move : PySem.W.nsIn K mainGlobals "_law_is_move" = some (some (.ref f_law_is_move)))
    (l_law_is_move : K.lookup f_law_is_move = some ⟨oc_law_is_move, od_law_is_move, .func (PySem.W.fnOf "_law_is_move" "_law_is_move" (defArgs s_law_is_move) (defBody s_law_is_move) (defScope s_law_is_move) .none kV_law_is_move dc_law_is_move pm_law_is_move an_law_is_move cd_law_is_move ct_law_is_move), sl_law_is_move⟩)
    (c_law_is_move : PySem.W.codeIn K cd_law_is_move "_law_is_move" = true)
    (k_law_is_move : PySem.W.keepIn K (.ref f_law_is_move) = true)
    (a_law_reweighted : PySem.W.nsIn K mainGlobals "_law_reweighted" = some (some (.ref f_law_reweighted)))
    (l_law_reweighted : K.lookup f_law_reweighted = some ⟨oc_law_reweighted, od_law_reweighted, .func (PySem.W.fnOf "_law_reweighted" "_law_reweighted" (defArgs s_law_reweighted) (defBody s_law_reweighted) (defScope s_law_reweighted) .none kV_law_reweighted dc_law_reweighted pm_law_reweighted an_law_reweighted cd_law_reweighted ct_law_reweighted), sl_law_reweighted⟩)
    (c_law_reweighted : PySem.W.codeIn K cd_law_reweighted "_law_reweighted" = true)
    (k_law_reweighted : PySem.W.keepIn K (.ref f_law_reweighted) = true)
    (a_law_two : PySem.W.nsIn K mainGlobals "_law_two" = some (some (.ref f_law_two)))
    (l_law_two : K.lookup f_law_two = some ⟨oc_law_two, od_law_two, .func (PySem.W.fnOf "_law_two" "_law_two" (defArgs s_law_two) (defBody s_law_two) (defScope s_law_two) .none kV_law_two dc_law_two pm_law_two an_law_two cd_law_two ct_law_two), sl_law_two⟩)
    (c_law_two : PySem.W.codeIn K cd_law_two "_law_two" = true)
    (k_law_two : PySem.W.keepIn K (.ref f_law_two) = true)
    (a_law_flag : PySem.W.nsIn K mainGlobals "_law_flag" = some (some (.ref f_law_flag)))
    (l_law_flag : K.lookup f_law_flag = some ⟨oc_law_flag, od_law_flag, .func (PySem.W.fnOf "_law_flag" "_law_flag" (defArgs s_law_flag) (defBody s_law_flag) (defScope s_law_flag) .none kV_law_flag dc_law_flag pm_law_flag an_law_flag cd_law_flag ct_law_flag), sl_law_flag⟩)
    (c_law_flag : PySem.W.codeIn K cd_law_flag "_law_flag" = true)
    (k_law_flag : PySem.W.keepIn K (.ref f_law_flag) = true)
    (a_law_word : PySem.W.nsIn K mainGlobals "_law_word" = some (some (.ref f_law_word)))
    (l_law_word : K.lookup f_law_word = some ⟨oc_law_word, od_law_word, .func (PySem.W.fnOf "_law_word" "_law_word" (defArgs s_law_word) (defBody s_law_word) (defScope s_law_word) .none kV_law_word dc_law_word pm_law_word an_law_word cd_law_word ct_law_word), sl_law_word⟩)
    (c_law_word : PySem.W.codeIn K cd_law_word "_law_word" = true)
    (k_law_word : PySem.W.keepIn K (.ref f_law_word) = true)
    (a_law_edge : PySem.W.nsIn K mainGlobals "_law_edge" = some (some (.ref f_law_edge)))
    (l_law_edge : K.lookup f_law_edge = some ⟨oc_law_edge, od_law_edge, .func (PySem.W.fnOf "_law_edge" "_law_edge" (defArgs s_law_edge) (defBody s_law_edge) (defScope s_law_edge) .none kV_law_edge dc_law_edge pm_law_edge an_law_edge cd_law_edge ct_law_edge), sl_law_edge⟩)
    (c_law_edge : PySem.W.codeIn K cd_law_edge "_law_edge" = true)
    (k_law_edge : PySem.W.keepIn K (.ref f_law_edge) = true)
    (a_law_move_edge : PySem.W.nsIn K mainGlobals "_law_move_edge" = some (some (.ref f_law_move_edge)))
    (l_law_move_edge : K.lookup f_law_move_edge = some ⟨oc_law_move_edge, od_law_move_edge, .func (PySem.W.fnOf "_law_move_edge" "_law_move_edge" (defArgs s_law_move_edge) (defBody s_law_move_edge) (defScope s_law_move_edge) .none kV_law_move_edge dc_law_move_edge pm_law_move_edge an_law_move_edge cd_law_move_edge ct_law_move_edge), sl_law_move_edge⟩)
    (c_law_move_edge : PySem.W.codeIn K cd_law_move_edge "_law_move_edge" = true)
    (k_law_move_edge : PySem.W.keepIn K (.ref f_law_move_edge) = true)
    (a_law : PySem.W.nsIn K mainGlobals "law" = some (some (.ref f_law)))
    (l_law : K.lookup f_law = some ⟨oc_law, od_law, .func (PySem.W.fnOf "law" "law" (defArgs s_law) (defBody s_law) (defScope s_law) .none kV_law dc_law pm_law an_law cd_law ct_law), sl_law⟩)
    (c_law : PySem.W.codeIn K cd_law "law" = true)
    (k_law : PySem.W.keepIn K (.ref f_law) = true)
    (pgC : PySem.W.plainGet K Cc Str.empty = true)
    (hdC : PySem.W.hasDictIn K Cc = true)
    (poC : PySem.W.plainOver K Cc = true)
    (saC : PySem.W.findIn K (.ref Cc) "__setattr__" = some (some (.builtin "object.__setattr__")))
    (mkC : PySem.W.makesIn K Cc = true)
    (kcC : PySem.W.keepIn K (.ref Cc) = true)
    (nwC : PySem.W.findIn K (.ref Cc) "worlds" = some none)
    (ntC : PySem.W.findIn K (.ref Cc) "tree" = some none)
    (haC : PySem.W.findIn K (.ref Cc) "__class__" = some (some (.builtin "object.__class__")))
    (hnC : PySem.W.specialIn K (.builtin "object.__class__") "__get__" = some (some (.builtin "getset_descriptor.__get__")))
    (htC : PySem.W.takesIn K (.builtin "object.__class__") = some true)
    (hmC : PySem.W.mroIn K Cc (.type "object") = some true)
    (gcd : PySem.W.nsIn K mainGlobals "gcd" = some (some (.builtin "math.gcd")))
    (lcm : PySem.W.nsIn K mainGlobals "lcm" = some (some (.builtin "math.lcm")))
    (aO0 : PySem.W.nsIn K mainGlobals "ONE" = some (some (.ref aO)))
    (lO : K.lookup aO = some ⟨.type "tuple", odO, .seq #[.int 1 tO1, .int 1 tO2] nO, slO⟩)
    (m_MOST_QUESTIONS : PySem.W.nsIn K mainGlobals "MOST_QUESTIONS" = some (some (.int 5 t1)))
    (m_MOST_WORDS : PySem.W.nsIn K mainGlobals "MOST_WORDS" = some (some (.int 12 t2)))
    (m_MOST_NUMBERS : PySem.W.nsIn K mainGlobals "MOST_NUMBERS" = some (some (.int 8 t3)))
    (m_MOST_ON_A_WAY : PySem.W.nsIn K mainGlobals "MOST_ON_A_WAY" = some (some (.int 8 t4)))
    (m_MOST_PASSED : PySem.W.nsIn K mainGlobals "MOST_PASSED" = some (some (.int 1500 t5)))
    (z_str : PySem.W.nsIn K mainGlobals "str" = some none)
    (a_HouseError : PySem.W.nsIn K mainGlobals "HouseError" = some (some (.ref C_HouseError)))
    (x_HouseError : K.lookup C_HouseError = some (excClassObj nm_HouseError qn_HouseError C_HouseError N_HouseError bs_HouseError veMro true sn_HouseError sub_HouseError ab_HouseError col_HouseError dd_HouseError k0_HouseError k1_HouseError k2_HouseError k3_HouseError k5_HouseError "ValueError.__new__"))
    (sa_HouseError : PySem.W.findIn K (.ref C_HouseError) "__setattr__" = some (some (.builtin "object.__setattr__")))
    (kp_HouseError : PySem.W.keepIn K (.ref C_HouseError) = true)
    (hg_HouseError : PySem.W.findIn K (.ref C_HouseError) "__getattribute__" = some (some (.builtin "BaseException.__getattribute__")))
    (hk_HouseError : PySem.W.findIn K (.ref C_HouseError) "__getattr__" = some none)
    (hc_HouseError : PySem.W.findIn K (.ref C_HouseError) "__class__" = some (some (.builtin "object.__class__")))
    (a_NotAlike : PySem.W.nsIn K mainGlobals "NotAlike" = some (some (.ref C_NotAlike)))
    (x_NotAlike : K.lookup C_NotAlike = some (excClassObj nm_NotAlike qn_NotAlike C_NotAlike N_NotAlike bs_NotAlike (.ref C_HouseError :: veMro) true sn_NotAlike sub_NotAlike ab_NotAlike col_NotAlike dd_NotAlike k0_NotAlike k1_NotAlike k2_NotAlike k3_NotAlike k5_NotAlike "ValueError.__new__"))
    (sa_NotAlike : PySem.W.findIn K (.ref C_NotAlike) "__setattr__" = some (some (.builtin "object.__setattr__")))
    (kp_NotAlike : PySem.W.keepIn K (.ref C_NotAlike) = true)
    (hg_NotAlike : PySem.W.findIn K (.ref C_NotAlike) "__getattribute__" = some (some (.builtin "BaseException.__getattribute__")))
    (hk_NotAlike : PySem.W.findIn K (.ref C_NotAlike) "__getattr__" = some none)
    (hc_NotAlike : PySem.W.findIn K (.ref C_NotAlike) "__class__" = some (some (.builtin "object.__class__")))
    (q_NotAlike : PySem.W.excIn K C_NotAlike veMro "ValueError.__new__" = true)
    (xnodup : [C_HouseError, C_NotAlike].Nodup)
    (z_len : PySem.W.nsIn K mainGlobals "len" = some none)
    (z_int : PySem.W.nsIn K mainGlobals "int" = some none)
    (z_abs : PySem.W.nsIn K mainGlobals "abs" = some none)
    (z_sum : PySem.W.nsIn K mainGlobals "sum" = some none)
    (z_range : PySem.W.nsIn K mainGlobals "range" = some none)
    (z_repr : PySem.W.nsIn K mainGlobals "repr" = some none)
    (z_isinstance : PySem.W.nsIn K mainGlobals "isinstance" = some none)
    (z_any : PySem.W.nsIn K mainGlobals "any" = some none)
    (z_all : PySem.W.nsIn K mainGlobals "all" = some none)
    (z_tuple : PySem.W.nsIn K mainGlobals "tuple" = some none)
    (z_list : PySem.W.nsIn K mainGlobals "list" = some none)
    (z_zip : PySem.W.nsIn K mainGlobals "zip" = some none)
    (z_enumerate : PySem.W.nsIn K mainGlobals "enumerate" = some none)
    (z_max : PySem.W.nsIn K mainGlobals "max" = some none)
    (z_bool : PySem.W.nsIn K mainGlobals "bool" = some none)
    {cL Pt : Addr} (hcf : codeOf K f_law = some cL) (hct : codeTab K cL = some Pt) (hch : PySem.W.codeHdIn K cL Pt = true) (hln : K.lookup Pt = none) (hgt : h.get? Pt = some (PySem.W.tabObj #[])) :
    ∃ (fd : FuncData) (c T : Addr), h.get? T = some { cls := .none, data := .fields #[] } ∧ K.lookup T = none ∧ PySem.W.CodeHd h c T ∧ (∀ (s : Shared) (v : Value), BindsTo s fd ⟨[v], []⟩ [("script", v)]) ∧ ∀ base : Heap, K.In base → base.Ns mainGlobals mg → LamX.TabB base mg c T → FnOk l.prog w K mg base CX0 37 fa fd ["script"] (spTrueT K T) := by
  have e := hfa.symm.trans (PySem.W.mg_of X G a_law)
  cases e
  have B : Blt mg := ⟨PySem.W.mg_none_of X G z_len, PySem.W.mg_none_of X G z_int, PySem.W.mg_none_of X G z_abs, PySem.W.mg_none_of X G z_sum, PySem.W.mg_none_of X G z_range, PySem.W.mg_none_of X G z_repr, PySem.W.mg_none_of X G z_isinstance, PySem.W.mg_none_of X G z_any, PySem.W.mg_none_of X G z_all, PySem.W.mg_none_of X G z_tuple, PySem.W.mg_none_of X G z_list, PySem.W.mg_none_of X G z_zip, PySem.W.mg_none_of X G z_enumerate, PySem.W.mg_none_of X G z_max, PySem.W.mg_none_of X G z_bool⟩
  have tO : ∀ H : Hp, SqT K H aO [.int 1, .int 1] := fun H => .inr ⟨_, #[.int 1 tO1, .int 1 tO2], nO, lO, rfl, rfl, by show 2 ≤ sizeLine; decide, .cons ⟨tO1, rfl⟩ (.cons ⟨tO2, rfl⟩ .nil)⟩
  have C : Cst K mg aO aO t1 t2 t3 t4 t5 tO1 tO1 := ⟨PySem.W.mg_of X G gcd, PySem.W.mg_of X G lcm, PySem.W.mg_of X G aO0, tO, PySem.W.mg_of X G m_MOST_QUESTIONS, PySem.W.mg_of X G m_MOST_WORDS, PySem.W.mg_of X G m_MOST_NUMBERS, PySem.W.mg_of X G m_MOST_ON_A_WAY, PySem.W.mg_of X G m_MOST_PASSED⟩
  have U : Hcl K mg Cc f_House_init f_House_eq := ⟨⟨pgC, hdC, poC, saC⟩, nwC, ntC, ⟨mkC, a_House_init, i_House_init, kcC⟩, a_House_eq, i_House_eq, PySem.W.mg_of X G aC, haC, hnC, htC, hmC⟩
  have XF_HouseError : XFact K mg "HouseError" C_HouseError veMro := exc_cls (PySem.W.mg_of X G a_HouseError) x_HouseError rfl (by decide +kernel) (by decide +kernel) sa_HouseError kp_HouseError hg_HouseError hk_HouseError hc_HouseError hnC htC
  have XF_NotAlike : XFact K mg "NotAlike" C_NotAlike (.ref C_HouseError :: veMro) := exc_cls (PySem.W.mg_of X G a_NotAlike) x_NotAlike rfl ve_in.1 ve_in.2 sa_NotAlike kp_NotAlike hg_NotAlike hk_NotAlike hc_NotAlike hnC htC
  have X_NotAlike : XRs K mg C_HouseError "NotAlike" C_NotAlike := ⟨XF_NotAlike, q_NotAlike, fun z => by simp [z] at xnodup⟩
  have X_HouseError := XF_HouseError
  have BS : mg "str" = none := PySem.W.mg_none_of X G z_str
  have F_is_integral := fun_mk (st := s_is_integral) l_is_integral c_is_integral k_is_integral
  have D_is_integral : Dn K mg "is_integral" s_is_integral ["thing"] f_is_integral _ := ⟨F_is_integral, F_is_integral.binds (ps := ["thing"]) fun _ _ _ _ _ _ us hl => match us, hl with | [_], _ => rfl, PySem.W.mg_of X G a_is_integral⟩
  have F_is_number := fun_mk (st := s_is_number) l_is_number c_is_number k_is_number
  have D_is_number : Dn K mg "is_number" s_is_number ["thing", "least", "most"] f_is_number _ := ⟨F_is_number, F_is_number.binds (ps := ["thing", "least", "most"]) fun _ _ _ _ _ _ us hl => match us, hl with | [_, _, _], _ => rfl, PySem.W.mg_of X G a_is_number⟩
  have F_is_fraction := fun_mk (st := s_is_fraction) l_is_fraction c_is_fraction k_is_fraction
  have D_is_fraction : Dn K mg "is_fraction" s_is_fraction ["thing"] f_is_fraction _ := ⟨F_is_fraction, F_is_fraction.binds (ps := ["thing"]) fun _ _ _ _ _ _ us hl => match us, hl with | [_], _ => rfl, PySem.W.mg_of X G a_is_fraction⟩
  have F_is_chance := fun_mk (st := s_is_chance) l_is_chance c_is_chance k_is_chance
  have D_is_chance : Dn K mg "is_chance" s_is_chance ["thing"] f_is_chance _ := ⟨F_is_chance, F_is_chance.binds (ps := ["thing"]) fun _ _ _ _ _ _ us hl => match us, hl with | [_], _ => rfl, PySem.W.mg_of X G a_is_chance⟩
  have F_are_chances := fun_mk (st := s_are_chances) l_are_chances c_are_chances k_are_chances
  have D_are_chances : Dn K mg "are_chances" s_are_chances ["thing", "many"] f_are_chances _ := ⟨F_are_chances, F_are_chances.binds (ps := ["thing", "many"]) fun _ _ _ _ _ _ us hl => match us, hl with | [_, _], _ => rfl, PySem.W.mg_of X G a_are_chances⟩
  have F_reduced := fun_mk (st := s_reduced) l_reduced c_reduced k_reduced
  have D_reduced : Dn K mg "reduced" s_reduced ["top", "bottom"] f_reduced _ := ⟨F_reduced, F_reduced.binds (ps := ["top", "bottom"]) fun _ _ _ _ _ _ us hl => match us, hl with | [_, _], _ => rfl, PySem.W.mg_of X G a_reduced⟩
  have F_common_bottom := fun_mk (st := s_common_bottom) l_common_bottom c_common_bottom k_common_bottom
  have D_common_bottom : Dn K mg "common_bottom" s_common_bottom ["fractions"] f_common_bottom _ := ⟨F_common_bottom, F_common_bottom.binds (ps := ["fractions"]) fun _ _ _ _ _ _ us hl => match us, hl with | [_], _ => rfl, PySem.W.mg_of X G a_common_bottom⟩
  have F_times_whole := fun_mk (st := s_times_whole) l_times_whole c_times_whole k_times_whole
  have D_times_whole : Dn K mg "times_whole" s_times_whole ["fraction", "whole"] f_times_whole _ := ⟨F_times_whole, F_times_whole.binds (ps := ["fraction", "whole"]) fun _ _ _ _ _ _ us hl => match us, hl with | [_, _], _ => rfl, PySem.W.mg_of X G a_times_whole⟩
  have F_total := fun_mk (st := s_total) l_total c_total k_total
  have D_total : Dn K mg "total" s_total ["fractions"] f_total _ := ⟨F_total, F_total.binds (ps := ["fractions"]) fun _ _ _ _ _ _ us hl => match us, hl with | [_], _ => rfl, PySem.W.mg_of X G a_total⟩
  have F_total_weights := fun_mk (st := s_total_weights) l_total_weights c_total_weights k_total_weights
  have D_total_weights : Dn K mg "total_weights" s_total_weights ["rows", "worlds"] f_total_weights _ := ⟨F_total_weights, F_total_weights.binds (ps := ["rows", "worlds"]) fun _ _ _ _ _ _ us hl => match us, hl with | [_, _], _ => rfl, PySem.W.mg_of X G a_total_weights⟩
  have F_is_word := fun_mk (st := s_is_word) l_is_word c_is_word k_is_word
  have D_is_word : Dn K mg "is_word" s_is_word ["thing"] f_is_word _ := ⟨F_is_word, F_is_word.binds (ps := ["thing"]) fun _ _ _ _ _ _ us hl => match us, hl with | [_], _ => rfl, PySem.W.mg_of X G a_is_word⟩
  have F_is_answer := fun_mk (st := s_is_answer) l_is_answer c_is_answer k_is_answer
  have D_is_answer : Dn K mg "is_answer" s_is_answer ["thing", "worlds"] f_is_answer _ := ⟨F_is_answer, F_is_answer.binds (ps := ["thing", "worlds"]) fun _ _ _ _ _ _ us hl => match us, hl with | [_, _], _ => rfl, PySem.W.mg_of X G a_is_answer⟩
  have F_is_ascending := fun_mk (st := s_is_ascending) l_is_ascending c_is_ascending k_is_ascending
  have D_is_ascending : Dn K mg "is_ascending" s_is_ascending ["rows"] f_is_ascending _ := ⟨F_is_ascending, F_is_ascending.binds (ps := ["rows"]) fun _ _ _ _ _ _ us hl => match us, hl with | [_], _ => rfl, PySem.W.mg_of X G a_is_ascending⟩
  have F_check_tree := fun_mk (st := s_check_tree) l_check_tree c_check_tree k_check_tree
  have D_check_tree : Dn K mg "check_tree" s_check_tree ["worlds", "tree"] f_check_tree _ := ⟨F_check_tree, F_check_tree.binds (ps := ["worlds", "tree"]) fun _ _ _ _ _ _ us hl => match us, hl with | [_, _], _ => rfl, PySem.W.mg_of X G a_check_tree⟩
  have F_check_node := fun_mk (st := s_check_node) l_check_node c_check_node k_check_node
  have D_check_node : Dn K mg "check_node" s_check_node ["node", "place", "ahead"] f_check_node _ := ⟨F_check_node, F_check_node.binds (ps := ["node", "place", "ahead"]) fun _ _ _ _ _ _ us hl => match us, hl with | [_, _, _], _ => rfl, PySem.W.mg_of X G a_check_node⟩
  have F_check_question := fun_mk (st := s_check_question) l_check_question c_check_question k_check_question
  have D_check_question : Dn K mg "check_question" s_check_question ["question", "place", "ahead"] f_check_question _ := ⟨F_check_question, F_check_question.binds (ps := ["question", "place", "ahead"]) fun _ _ _ _ _ _ us hl => match us, hl with | [_, _, _], _ => rfl, PySem.W.mg_of X G a_check_question⟩
  have F_answers_in := fun_mk (st := s_answers_in) l_answers_in c_answers_in k_answers_in
  have D_answers_in : Dn K mg "answers_in" s_answers_in ["node"] f_answers_in _ := ⟨F_answers_in, F_answers_in.binds (ps := ["node"]) fun _ _ _ _ _ _ us hl => match us, hl with | [_], _ => rfl, PySem.W.mg_of X G a_answers_in⟩
  have F_House_init := fun_mk (st := s_House_init) l_House_init c_House_init k_House_init
  have D_House_init : Dm K "__init__" "House.__init__" s_House_init ["self", "worlds", "tree"] f_House_init _ := ⟨F_House_init, F_House_init.binds (ps := ["self", "worlds", "tree"]) fun _ _ _ _ _ _ us hl => match us, hl with | [_, _, _], _ => rfl⟩
  have F_House_eq := fun_mk (st := s_House_eq) l_House_eq c_House_eq k_House_eq
  have D_House_eq : Dm K "__eq__" "House.__eq__" s_House_eq ["self", "other"] f_House_eq _ := ⟨F_House_eq, F_House_eq.binds (ps := ["self", "other"]) fun _ _ _ _ _ _ us hl => match us, hl with | [_, _], _ => rfl⟩
  have F_check_alike := fun_mk (st := s_check_alike) l_check_alike c_check_alike k_check_alike
  have D_check_alike : Dn K mg "check_alike" s_check_alike ["house", "other"] f_check_alike _ := ⟨F_check_alike, F_check_alike.binds (ps := ["house", "other"]) fun _ _ _ _ _ _ us hl => match us, hl with | [_, _], _ => rfl, PySem.W.mg_of X G a_check_alike⟩
  have F_is_wait := fun_mk (st := s_is_wait) l_is_wait c_is_wait k_is_wait
  have D_is_wait : Dn K mg "is_wait" s_is_wait ["thing", "waiting", "stand"] f_is_wait _ := ⟨F_is_wait, F_is_wait.binds (ps := ["thing", "waiting", "stand"]) fun _ _ _ _ _ _ us hl => match us, hl with | [_, _, _], _ => rfl, PySem.W.mg_of X G a_is_wait⟩
  have F_is_move := fun_mk (st := s_is_move) l_is_move c_is_move k_is_move
  have D_is_move : Dn K mg "is_move" s_is_move ["thing", "question", "stand"] f_is_move _ := ⟨F_is_move, F_is_move.binds (ps := ["thing", "question", "stand"]) fun _ _ _ _ _ _ us hl => match us, hl with | [_, _, _], _ => rfl, PySem.W.mg_of X G a_is_move⟩
  have F_is_plan := fun_mk (st := s_is_plan) l_is_plan c_is_plan k_is_plan
  have D_is_plan : Dn K mg "is_plan" s_is_plan ["house", "other", "thing"] f_is_plan _ := ⟨F_is_plan, F_is_plan.binds (ps := ["house", "other", "thing"]) fun _ _ _ _ _ _ us hl => match us, hl with | [_, _, _], _ => rfl, PySem.W.mg_of X G a_is_plan⟩
  have F_passing_wait := fun_mk (st := s_passing_wait) l_passing_wait c_passing_wait k_passing_wait
  have D_passing_wait : Dn K mg "passing_wait" s_passing_wait ["node"] f_passing_wait _ := ⟨F_passing_wait, F_passing_wait.binds (ps := ["node"]) fun _ _ _ _ _ _ us hl => match us, hl with | [_], _ => rfl, PySem.W.mg_of X G a_passing_wait⟩
  have F_passing := fun_mk (st := s_passing) l_passing c_passing k_passing
  have D_passing : Dn K mg "passing" s_passing ["house"] f_passing _ := ⟨F_passing, F_passing.binds (ps := ["house"]) fun _ _ _ _ _ _ us hl => match us, hl with | [_], _ => rfl, PySem.W.mg_of X G a_passing⟩
  have F_law_bag := fun_mk (st := s_law_bag) l_law_bag c_law_bag k_law_bag
  have D_law_bag : Dn K mg "_law_bag" s_law_bag ["script"] f_law_bag _ := ⟨F_law_bag, F_law_bag.binds (ps := ["script"]) fun _ _ _ _ _ _ us hl => match us, hl with | [_], _ => rfl, PySem.W.mg_of X G a_law_bag⟩
  have F_law_pick := fun_mk (st := s_law_pick) l_law_pick c_law_pick k_law_pick
  have D_law_pick : Dn K mg "_law_pick" s_law_pick ["bag", "many"] f_law_pick _ := ⟨F_law_pick, F_law_pick.binds (ps := ["bag", "many"]) fun _ _ _ _ _ _ us hl => match us, hl with | [_, _], _ => rfl, PySem.W.mg_of X G a_law_pick⟩
  have F_law_some := fun_mk (st := s_law_some) l_law_some c_law_some k_law_some
  have D_law_some : Dn K mg "_law_some" s_law_some ["bag", "things"] f_law_some _ := ⟨F_law_some, F_law_some.binds (ps := ["bag", "things"]) fun _ _ _ _ _ _ us hl => match us, hl with | [_, _], _ => rfl, PySem.W.mg_of X G a_law_some⟩
  have F_law_common := fun_mk (st := s_law_common) l_law_common c_law_common k_law_common
  have D_law_common : Dn K mg "_law_common" s_law_common ["one", "other"] f_law_common _ := ⟨F_law_common, F_law_common.binds (ps := ["one", "other"]) fun _ _ _ _ _ _ us hl => match us, hl with | [_, _], _ => rfl, PySem.W.mg_of X G a_law_common⟩
  have F_law_low := fun_mk (st := s_law_low) l_law_low c_law_low k_law_low
  have D_law_low : Dn K mg "_law_low" s_law_low ["top", "bottom"] f_law_low _ := ⟨F_law_low, F_law_low.binds (ps := ["top", "bottom"]) fun _ _ _ _ _ _ us hl => match us, hl with | [_, _], _ => rfl, PySem.W.mg_of X G a_law_low⟩
  have F_law_times := fun_mk (st := s_law_times) l_law_times c_law_times k_law_times
  have D_law_times : Dn K mg "_law_times" s_law_times ["one", "other"] f_law_times _ := ⟨F_law_times, F_law_times.binds (ps := ["one", "other"]) fun _ _ _ _ _ _ us hl => match us, hl with | [_, _], _ => rfl, PySem.W.mg_of X G a_law_times⟩
  have F_law_shares := fun_mk (st := s_law_shares) l_law_shares c_law_shares k_law_shares
  have D_law_shares : Dn K mg "_law_shares" s_law_shares ["bag", "many", "least"] f_law_shares _ := ⟨F_law_shares, F_law_shares.binds (ps := ["bag", "many", "least"]) fun _ _ _ _ _ _ us hl => match us, hl with | [_, _, _], _ => rfl, PySem.W.mg_of X G a_law_shares⟩
  have F_law_question := fun_mk (st := s_law_question) l_law_question c_law_question k_law_question
  have D_law_question : Dn K mg "_law_question" s_law_question ["bag", "worlds", "ahead", "levels", "left"] f_law_question _ := ⟨F_law_question, F_law_question.binds (ps := ["bag", "worlds", "ahead", "levels", "left"]) fun _ _ _ _ _ _ us hl => match us, hl with | [_, _, _, _, _], _ => rfl, PySem.W.mg_of X G a_law_question⟩
  have F_law_node := fun_mk (st := s_law_node) l_law_node c_law_node k_law_node
  have D_law_node : Dn K mg "_law_node" s_law_node ["bag", "worlds", "ahead", "levels", "left"] f_law_node _ := ⟨F_law_node, F_law_node.binds (ps := ["bag", "worlds", "ahead", "levels", "left"]) fun _ _ _ _ _ _ us hl => match us, hl with | [_, _, _, _, _], _ => rfl, PySem.W.mg_of X G a_law_node⟩
  have F_law_tree := fun_mk (st := s_law_tree) l_law_tree c_law_tree k_law_tree
  have D_law_tree : Dn K mg "_law_tree" s_law_tree ["bag", "worlds", "levels", "answers"] f_law_tree _ := ⟨F_law_tree, F_law_tree.binds (ps := ["bag", "worlds", "levels", "answers"]) fun _ _ _ _ _ _ us hl => match us, hl with | [_, _, _, _], _ => rfl, PySem.W.mg_of X G a_law_tree⟩
  have F_law_deep := fun_mk (st := s_law_deep) l_law_deep c_law_deep k_law_deep
  have D_law_deep : Dn K mg "_law_deep" s_law_deep [] f_law_deep _ := ⟨F_law_deep, F_law_deep.binds (ps := []) fun _ _ _ _ _ _ us hl => match us, hl with | [], _ => rfl, PySem.W.mg_of X G a_law_deep⟩
  have F_law_odd := fun_mk (st := s_law_odd) l_law_odd c_law_odd k_law_odd
  have D_law_odd : Dn K mg "_law_odd" s_law_odd ["bag"] f_law_odd _ := ⟨F_law_odd, F_law_odd.binds (ps := ["bag"]) fun _ _ _ _ _ _ us hl => match us, hl with | [_], _ => rfl, PySem.W.mg_of X G a_law_odd⟩
  have F_law_parts := fun_mk (st := s_law_parts) l_law_parts c_law_parts k_law_parts
  have D_law_parts : Dn K mg "_law_parts" s_law_parts ["node", "place"] f_law_parts _ := ⟨F_law_parts, F_law_parts.binds (ps := ["node", "place"]) fun _ _ _ _ _ _ us hl => match us, hl with | [_, _], _ => rfl, PySem.W.mg_of X G a_law_parts⟩
  have F_law_put := fun_mk (st := s_law_put) l_law_put c_law_put k_law_put
  have D_law_put : Dn K mg "_law_put" s_law_put ["thing", "place", "other"] f_law_put _ := ⟨F_law_put, F_law_put.binds (ps := ["thing", "place", "other"]) fun _ _ _ _ _ _ us hl => match us, hl with | [_, _, _], _ => rfl, PySem.W.mg_of X G a_law_put⟩
  have F_law_spoilt := fun_mk (st := s_law_spoilt) l_law_spoilt c_law_spoilt k_law_spoilt
  have D_law_spoilt : Dn K mg "_law_spoilt" s_law_spoilt ["bag", "thing"] f_law_spoilt _ := ⟨F_law_spoilt, F_law_spoilt.binds (ps := ["bag", "thing"]) fun _ _ _ _ _ _ us hl => match us, hl with | [_, _], _ => rfl, PySem.W.mg_of X G a_law_spoilt⟩
  have F_law_wait := fun_mk (st := s_law_wait) l_law_wait c_law_wait k_law_wait
  have D_law_wait : Dn K mg "_law_wait" s_law_wait ["bag", "here", "goal", "left"] f_law_wait _ := ⟨F_law_wait, F_law_wait.binds (ps := ["bag", "here", "goal", "left"]) fun _ _ _ _ _ _ us hl => match us, hl with | [_, _, _, _], _ => rfl, PySem.W.mg_of X G a_law_wait⟩
  have F_law_move := fun_mk (st := s_law_move) l_law_move c_law_move k_law_move
  have D_law_move : Dn K mg "_law_move" s_law_move ["bag", "here", "question", "left"] f_law_move _ := ⟨F_law_move, F_law_move.binds (ps := ["bag", "here", "question", "left"]) fun _ _ _ _ _ _ us hl => match us, hl with | [_, _, _, _], _ => rfl, PySem.W.mg_of X G a_law_move⟩
  have F_law_is_int := fun_mk (st := s_law_is_int) l_law_is_int c_law_is_int k_law_is_int
  have D_law_is_int : Dn K mg "_law_is_int" s_law_is_int ["thing", "least", "most"] f_law_is_int _ := ⟨F_law_is_int, F_law_is_int.binds (ps := ["thing", "least", "most"]) fun _ _ _ _ _ _ us hl => match us, hl with | [_, _, _], _ => rfl, PySem.W.mg_of X G a_law_is_int⟩
  have F_law_is_wait := fun_mk (st := s_law_is_wait) l_law_is_wait c_law_is_wait k_law_is_wait
  have D_law_is_wait : Dn K mg "_law_is_wait" s_law_is_wait ["here", "goal", "thing"] f_law_is_wait _ := ⟨F_law_is_wait, F_law_is_wait.binds (ps := ["here", "goal", "thing"]) fun _ _ _ _ _ _ us hl => match us, hl with | [_, _, _], _ => rfl, PySem.W.mg_of X G a_law_is_wait⟩
  have F_law_is_move := fun_mk (st := s_law_is_move) l_law_is_move c_law_is_move k_law_is_move
  have D_law_is_move : Dn K mg "_law_is_move" s_law_is_move ["here", "question", "thing"] f_law_is_move _ := ⟨F_law_is_move, F_law_is_move.binds (ps := ["here", "question", "thing"]) fun _ _ _ _ _ _ us hl => match us, hl with | [_, _, _], _ => rfl, PySem.W.mg_of X G a_law_is_move⟩
  have F_law_reweighted := fun_mk (st := s_law_reweighted) l_law_reweighted c_law_reweighted k_law_reweighted
  have D_law_reweighted : Dn K mg "_law_reweighted" s_law_reweighted ["bag", "worlds", "node", "ahead"] f_law_reweighted _ := ⟨F_law_reweighted, F_law_reweighted.binds (ps := ["bag", "worlds", "node", "ahead"]) fun _ _ _ _ _ _ us hl => match us, hl with | [_, _, _, _], _ => rfl, PySem.W.mg_of X G a_law_reweighted⟩
  have F_law_two := fun_mk (st := s_law_two) l_law_two c_law_two k_law_two
  have D_law_two : Dn K mg "_law_two" s_law_two ["bag", "levels", "answers"] f_law_two _ := ⟨F_law_two, F_law_two.binds (ps := ["bag", "levels", "answers"]) fun _ _ _ _ _ _ us hl => match us, hl with | [_, _, _], _ => rfl, PySem.W.mg_of X G a_law_two⟩
  have F_law_flag := fun_mk (st := s_law_flag) l_law_flag c_law_flag k_law_flag
  have D_law_flag : Dn K mg "_law_flag" s_law_flag ["told", "due"] f_law_flag _ := ⟨F_law_flag, F_law_flag.binds (ps := ["told", "due"]) fun _ _ _ _ _ _ us hl => match us, hl with | [_, _], _ => rfl, PySem.W.mg_of X G a_law_flag⟩
  have F_law_word := fun_mk (st := s_law_word) l_law_word c_law_word k_law_word
  have D_law_word : Dn K mg "_law_word" s_law_word ["call"] f_law_word _ := ⟨F_law_word, F_law_word.binds (ps := ["call"]) fun _ _ _ _ _ _ us hl => match us, hl with | [_], _ => rfl, PySem.W.mg_of X G a_law_word⟩
  have F_law_edge := fun_mk (st := s_law_edge) l_law_edge c_law_edge k_law_edge
  have D_law_edge : Dn K mg "_law_edge" s_law_edge ["bag", "here", "goal", "plan"] f_law_edge _ := ⟨F_law_edge, F_law_edge.binds (ps := ["bag", "here", "goal", "plan"]) fun _ _ _ _ _ _ us hl => match us, hl with | [_, _, _, _], _ => rfl, PySem.W.mg_of X G a_law_edge⟩
  have F_law_move_edge := fun_mk (st := s_law_move_edge) l_law_move_edge c_law_move_edge k_law_move_edge
  have D_law_move_edge : Dn K mg "_law_move_edge" s_law_move_edge ["bag", "here", "question", "move"] f_law_move_edge _ := ⟨F_law_move_edge, F_law_move_edge.binds (ps := ["bag", "here", "question", "move"]) fun _ _ _ _ _ _ us hl => match us, hl with | [_, _, _, _], _ => rfl, PySem.W.mg_of X G a_law_move_edge⟩
  have F_law := fun_mk (st := s_law) l_law c_law k_law
  have D_law : Dn K mg "law" s_law ["script"] fa _ := ⟨F_law, F_law.binds (ps := ["script"]) fun _ _ _ _ _ _ us hl => match us, hl with | [_], _ => rfl, PySem.W.mg_of X G a_law⟩
  have D_sum : DTot K mg f_common_bottom _ := ⟨D_common_bottom, _, _, D_times_whole⟩
  refine ⟨PySem.W.fnOf "law" "law" (defArgs s_law) (defBody s_law) (defScope s_law) .none kV_law dc_law pm_law an_law cd_law ct_law, cL, Pt, hgt, hln, PySem.W.codeHd_of_K X hch, fun s v => .of_eq rfl, fun base _ _ TB => ?_⟩
  have qn := ok_law_qn (P := l.prog) (w := w) (base := base) D_law_question B D_law_low D_law_common D_law_pick D_law_shares D_law_some D_law_times D_law_node
  have tree := fun n => ok_law_tree D_law_tree B D_law_pick D_law_question (qn (n + 1)).1
  have ck := ok_checks (P := l.prog) (w := w) (base := base) B C D_check_node D_check_question D_is_answer D_is_ascending D_total_weights D_is_number D_is_integral D_is_word D_is_fraction D_is_chance D_reduced D_sum D_total D_are_chances
  have ini := fun n => ok_House_init D_House_init B C U D_check_tree (ok_check_tree D_check_tree B C D_check_node (ck n).2 D_answers_in) D_is_number D_is_integral
  have eAA : PySem.W.exmOne K (.ref C_NotAlike) (.ref C_NotAlike) = some true := by rw [exm_cc X_NotAlike X_NotAlike, decide_eq_true rfl]
  have G_is_integral := ok_is_integral_a (P := l.prog) (w := w) (K := K) (base := base) D_is_integral B C
  have G_is_number := ok_is_number_a (P := l.prog) (w := w) (base := base) D_is_number B C D_is_integral G_is_integral
  have plans := ok_plans_any (P := l.prog) (w := w) (base := base) D_is_move B BS D_is_number G_is_number D_is_wait
  have lplans := ok_law_plans_any (P := l.prog) (w := w) (base := base) D_law_is_move B BS D_law_is_int (ok_law_is_int_a (P := l.prog) (w := w) (K := K) (base := base) D_law_is_int B C) D_law_is_wait
  have edges := ok_law_edges (P := l.prog) (w := w) (K := K) (base := base) D_law_move_edge B D_law_pick D_law_some D_law_edge
  have waits := ok_law_plans (P := l.prog) (w := w) (K := K) (base := base) D_law_move B D_law_pick D_law_wait
  have G_law_pick := ok_law_pick (P := l.prog) (w := w) (base := base) D_law_pick B
  have G_law_some := ok_law_some (P := l.prog) (w := w) (K := K) (base := base) D_law_some B D_law_pick
  have G_law_some_b := ok_law_some_b (P := l.prog) (w := w) (base := base) D_law_some B C D_law_pick G_law_pick
  have G_law_deep := ok_law_deep0 (P := l.prog) (w := w) (K := K) (base := base) D_law_deep B C
  have G_law_odd := ok_law_odd (P := l.prog) (w := w) (K := K) (base := base) D_law_odd B C D_law_deep G_law_deep D_law_some G_law_some
  have G_law_parts := ok_law_parts (P := l.prog) (w := w) (K := K) (base := base) D_law_parts B C 24
  have G_law_put := ok_law_put (P := l.prog) (w := w) (K := K) (base := base) D_law_put B C 24
  have G_law_spoilt := ok_law_spoilt (n := 24) (P := l.prog) (w := w) (K := K) (base := base) D_law_spoilt B C D_law_parts G_law_parts D_law_some G_law_some_b D_law_pick G_law_pick D_law_put G_law_put D_law_odd G_law_odd
  have G_check_alike := ok_check_alike (P := l.prog) (w := w) (base := base) D_check_alike B C U X_NotAlike
  have G_passing_wait := ok_passing_wait (P := l.prog) (w := w) (K := K) (base := base) D_passing_wait B C
  have G_law_tree : FnOk l.prog w K mg base CX0 30 f_law_tree _ ["bag", "worlds", "levels", "answers"] (anyS 3 (spTree K)) := FnOk.anyS (lv := fun n => 6 + 2 * (n + 1)) tree fun n hn => by show 6 + 2 * (n + 1) ≤ 30; omega
  exact ok_law D_law hcf B U TB X_NotAlike.X.g X_HouseError.g eAA D_law_bag (ok_law_bag D_law_bag B) D_law_pick G_law_pick
    D_law_two (ok_law_two (P := l.prog) (w := w) (K := K) (base := base) D_law_two B C D_law_pick G_law_pick D_law_tree G_law_tree)
    D_law_wait (FnOk.anyN fun n hn => (waits n n (by omega)).1.mono (by omega))
    D_is_plan (FnOk.anyN fun n hn => ok_is_plan (HE := C_HouseError) (n := n) (P := l.prog) (w := w) (base := base) D_is_plan B C U D_check_alike G_check_alike D_is_wait ((plans n n (by omega)).1.mono (by omega)))
    D_law_edge (FnOk.anyN fun n hn => (edges n n (by omega)).1.mono (by omega))
    D_law_flag (ok_law_flag (P := l.prog) (w := w) (K := K) (base := base) D_law_flag B C)
    D_law_is_wait (FnOk.anyN fun n hn => (lplans n n (by omega)).1.mono (by omega))
    D_law_spoilt G_law_spoilt D_law_odd G_law_odd
    D_passing (FnOk.anyN fun n hn => (ok_passing (m := n) (P := l.prog) (w := w) (base := base) D_passing B C U D_passing_wait (G_passing_wait n)).mono (by omega))
    D_law_word D_law_reweighted (FnOk.anyN fun n hn => (ok_law_reweighted_x (P := l.prog) (w := w) (K := K) (base := base) D_law_reweighted B D_law_low D_law_common D_law_pick D_law_shares D_law_times n).mono (by omega))
    D_House_init (FnOk.anyS (lv := fun n => 8 + 2 * n) ini fun n hn => by show 8 + 2 * n ≤ 30; omega)
end Tl
open PySem PySem.W PyProof.Rows
set_option maxRecDepth 100000 in
set_option maxHeartbeats 0 in
theorem PySem.Challenge.cw_tellsless_k11_plans_judged_holds : PySem.Challenge.rw_tellsless_k11_plans_judged.Holds := by
  w_on; o_law; k_head; (case hw => w_witness2)
  k_fill
  refine Tl.walkT (l := PySem.Challenge.rw_tellsless_k11_plans_judged) (k := 37) (x := "script") rfl rfl ⟨rfl, by decide, by decide⟩ (fun w h Y => PySem.W.km_in_of Y) ?F
  case F =>
    intro w mg fa h YY KX G hmg
    have hT := PySem.W.km_tabs_of YY
    refine' Tl.all_mk KX G hmg ?aC ?a_is_integral ?l_is_integral ?c_is_integral ?k_is_integral ?a_is_number ?l_is_number ?c_is_number ?k_is_number ?a_is_fraction ?l_is_fraction ?c_is_fraction ?k_is_fraction ?a_is_chance ?l_is_chance ?c_is_chance ?k_is_chance ?a_are_chances ?l_are_chances ?c_are_chances ?k_are_chances ?a_reduced ?l_reduced ?c_reduced ?k_reduced ?a_common_bottom ?l_common_bottom ?c_common_bottom ?k_common_bottom ?a_times_whole ?l_times_whole ?c_times_whole ?k_times_whole ?a_total ?l_total ?c_total ?k_total ?a_total_weights ?l_total_weights ?c_total_weights ?k_total_weights ?a_is_word ?l_is_word ?c_is_word ?k_is_word ?a_is_answer ?l_is_answer ?c_is_answer ?k_is_answer ?a_is_ascending ?l_is_ascending ?c_is_ascending ?k_is_ascending ?a_check_tree ?l_check_tree ?c_check_tree ?k_check_tree ?a_check_node ?l_check_node ?c_check_node ?k_check_node ?a_check_question ?l_check_question ?c_check_question ?k_check_question ?a_answers_in ?l_answers_in ?c_answers_in ?k_answers_in ?a_House_init ?i_House_init ?l_House_init ?c_House_init ?k_House_init ?a_House_eq ?i_House_eq ?l_House_eq ?c_House_eq ?k_House_eq ?a_check_alike ?l_check_alike ?c_check_alike ?k_check_alike ?a_is_wait ?l_is_wait ?c_is_wait ?k_is_wait ?a_is_move ?l_is_move ?c_is_move ?k_is_move ?a_is_plan ?l_is_plan ?c_is_plan ?k_is_plan ?a_passing_wait ?l_passing_wait ?c_passing_wait ?k_passing_wait ?a_passing ?l_passing ?c_passing ?k_passing ?a_law_bag ?l_law_bag ?c_law_bag ?k_law_bag ?a_law_pick ?l_law_pick ?c_law_pick ?k_law_pick ?a_law_some ?l_law_some ?c_law_some ?k_law_some ?a_law_common ?l_law_common ?c_law_common ?k_law_common ?a_law_low ?l_law_low ?c_law_low ?k_law_low ?a_law_times ?l_law_times ?c_law_times ?k_law_times ?a_law_shares ?l_law_shares ?c_law_shares ?k_law_shares ?a_law_question ?l_law_question ?c_law_question ?k_law_question ?a_law_node ?l_law_node ?c_law_node ?k_law_node ?a_law_tree ?l_law_tree ?c_law_tree ?k_law_tree ?a_law_deep ?l_law_deep ?c_law_deep ?k_law_deep ?a_law_odd ?l_law_odd ?c_law_odd ?k_law_odd ?a_law_parts ?l_law_parts ?c_law_parts ?k_law_parts ?a_law_put ?l_law_put ?c_law_put ?k_law_put ?a_law_spoilt ?l_law_spoilt ?c_law_spoilt ?k_law_spoilt ?a_law_wait ?l_law_wait ?c_law_wait ?k_law_wait ?a_law_move ?l_law_move ?c_law_move ?k_law_move ?a_law_is_int ?l_law_is_int ?c_law_is_int ?k_law_is_int ?a_law_is_wait ?l_law_is_wait ?c_law_is_wait ?k_law_is_wait ?a_law_is_move ?l_law_is_move ?c_law_is_move ?k_law_is_move ?a_law_reweighted ?l_law_reweighted ?c_law_reweighted ?k_law_reweighted ?a_law_two ?l_law_two ?c_law_two ?k_law_two ?a_law_flag ?l_law_flag ?c_law_flag ?k_law_flag ?a_law_word ?l_law_word ?c_law_word ?k_law_word ?a_law_edge ?l_law_edge ?c_law_edge ?k_law_edge ?a_law_move_edge ?l_law_move_edge ?c_law_move_edge ?k_law_move_edge ?a_law ?l_law ?c_law ?k_law ?pgC ?hdC ?poC ?saC ?mkC ?kcC ?nwC ?ntC ?haC ?hnC ?htC ?hmC ?gcd ?lcm ?aO0 ?lO ?m_MOST_QUESTIONS ?m_MOST_WORDS ?m_MOST_NUMBERS ?m_MOST_ON_A_WAY ?m_MOST_PASSED ?z_str ?a_HouseError ?x_HouseError ?sa_HouseError ?kp_HouseError ?hg_HouseError ?hk_HouseError ?hc_HouseError ?a_NotAlike ?x_NotAlike ?sa_NotAlike ?kp_NotAlike ?hg_NotAlike ?hk_NotAlike ?hc_NotAlike ?q_NotAlike ?xnodup ?z_len ?z_int ?z_abs ?z_sum ?z_range ?z_repr ?z_isinstance ?z_any ?z_all ?z_tuple ?z_list ?z_zip ?z_enumerate ?z_max ?z_bool ?hcf ?hct ?hch ?hln (hT _ ?hm)
    (case aC => k_is)
    (case a_is_integral => k_is)
    (case l_is_integral => k_is)
    (case c_is_integral => k_is)
    (case k_is_integral => k_is)
    (case a_is_number => k_is)
    (case l_is_number => k_is)
    (case c_is_number => k_is)
    (case k_is_number => k_is)
    (case a_is_fraction => k_is)
    (case l_is_fraction => k_is)
    (case c_is_fraction => k_is)
    (case k_is_fraction => k_is)
    (case a_is_chance => k_is)
    (case l_is_chance => k_is)
    (case c_is_chance => k_is)
    (case k_is_chance => k_is)
    (case a_are_chances => k_is)
    (case l_are_chances => k_is)
    (case c_are_chances => k_is)
    (case k_are_chances => k_is)
    (case a_reduced => k_is)
    (case l_reduced => k_is)
    (case c_reduced => k_is)
    (case k_reduced => k_is)
    (case a_common_bottom => k_is)
    (case l_common_bottom => k_is)
    (case c_common_bottom => k_is)
    (case k_common_bottom => k_is)
    (case a_times_whole => k_is)
    (case l_times_whole => k_is)
    (case c_times_whole => k_is)
    (case k_times_whole => k_is)
    (case a_total => k_is)
    (case l_total => k_is)
    (case c_total => k_is)
    (case k_total => k_is)
    (case a_total_weights => k_is)
    (case l_total_weights => k_is)
    (case c_total_weights => k_is)
    (case k_total_weights => k_is)
    (case a_is_word => k_is)
    (case l_is_word => k_is)
    (case c_is_word => k_is)
    (case k_is_word => k_is)
    (case a_is_answer => k_is)
    (case l_is_answer => k_is)
    (case c_is_answer => k_is)
    (case k_is_answer => k_is)
    (case a_is_ascending => k_is)
    (case l_is_ascending => k_is)
    (case c_is_ascending => k_is)
    (case k_is_ascending => k_is)
    (case a_check_tree => k_is)
    (case l_check_tree => k_is)
    (case c_check_tree => k_is)
    (case k_check_tree => k_is)
    (case a_check_node => k_is)
    (case l_check_node => k_is)
    (case c_check_node => k_is)
    (case k_check_node => k_is)
    (case a_check_question => k_is)
    (case l_check_question => k_is)
    (case c_check_question => k_is)
    (case k_check_question => k_is)
    (case a_answers_in => k_is)
    (case l_answers_in => k_is)
    (case c_answers_in => k_is)
    (case k_answers_in => k_is)
    (case a_House_init => k_is)
    (case i_House_init => k_is)
    (case l_House_init => k_is)
    (case c_House_init => k_is)
    (case k_House_init => k_is)
    (case a_House_eq => k_is)
    (case i_House_eq => k_is)
    (case l_House_eq => k_is)
    (case c_House_eq => k_is)
    (case k_House_eq => k_is)
    (case a_check_alike => k_is)
    (case l_check_alike => k_is)
    (case c_check_alike => k_is)
    (case k_check_alike => k_is)
    (case a_is_wait => k_is)
    (case l_is_wait => k_is)
    (case c_is_wait => k_is)
    (case k_is_wait => k_is)
    (case a_is_move => k_is)
    (case l_is_move => k_is)
    (case c_is_move => k_is)
    (case k_is_move => k_is)
    (case a_is_plan => k_is)
    (case l_is_plan => k_is)
    (case c_is_plan => k_is)
    (case k_is_plan => k_is)
    (case a_passing_wait => k_is)
    (case l_passing_wait => k_is)
    (case c_passing_wait => k_is)
    (case k_passing_wait => k_is)
    (case a_passing => k_is)
    (case l_passing => k_is)
    (case c_passing => k_is)
    (case k_passing => k_is)
    (case a_law_bag => k_is)
    (case l_law_bag => k_is)
    (case c_law_bag => k_is)
    (case k_law_bag => k_is)
    (case a_law_pick => k_is)
    (case l_law_pick => k_is)
    (case c_law_pick => k_is)
    (case k_law_pick => k_is)
    (case a_law_some => k_is)
    (case l_law_some => k_is)
    (case c_law_some => k_is)
    (case k_law_some => k_is)
    (case a_law_common => k_is)
    (case l_law_common => k_is)
    (case c_law_common => k_is)
    (case k_law_common => k_is)
    (case a_law_low => k_is)
    (case l_law_low => k_is)
    (case c_law_low => k_is)
    (case k_law_low => k_is)
    (case a_law_times => k_is)
    (case l_law_times => k_is)
    (case c_law_times => k_is)
    (case k_law_times => k_is)
    (case a_law_shares => k_is)
    (case l_law_shares => k_is)
    (case c_law_shares => k_is)
    (case k_law_shares => k_is)
    (case a_law_question => k_is)
    (case l_law_question => k_is)
    (case c_law_question => k_is)
    (case k_law_question => k_is)
    (case a_law_node => k_is)
    (case l_law_node => k_is)
    (case c_law_node => k_is)
    (case k_law_node => k_is)
    (case a_law_tree => k_is)
    (case l_law_tree => k_is)
    (case c_law_tree => k_is)
    (case k_law_tree => k_is)
    (case a_law_deep => k_is)
    (case l_law_deep => k_is)
    (case c_law_deep => k_is)
    (case k_law_deep => k_is)
    (case a_law_odd => k_is)
    (case l_law_odd => k_is)
    (case c_law_odd => k_is)
    (case k_law_odd => k_is)
    (case a_law_parts => k_is)
    (case l_law_parts => k_is)
    (case c_law_parts => k_is)
    (case k_law_parts => k_is)
    (case a_law_put => k_is)
    (case l_law_put => k_is)
    (case c_law_put => k_is)
    (case k_law_put => k_is)
    (case a_law_spoilt => k_is)
    (case l_law_spoilt => k_is)
    (case c_law_spoilt => k_is)
    (case k_law_spoilt => k_is)
    (case a_law_wait => k_is)
    (case l_law_wait => k_is)
    (case c_law_wait => k_is)
    (case k_law_wait => k_is)
    (case a_law_move => k_is)
    (case l_law_move => k_is)
    (case c_law_move => k_is)
    (case k_law_move => k_is)
    (case a_law_is_int => k_is)
    (case l_law_is_int => k_is)
    (case c_law_is_int => k_is)
    (case k_law_is_int => k_is)
    (case a_law_is_wait => k_is)
    (case l_law_is_wait => k_is)
    (case c_law_is_wait => k_is)
    (case k_law_is_wait => k_is)
    (case a_law_is_move => k_is)
    (case l_law_is_move => k_is)
    (case c_law_is_move => k_is)
    (case k_law_is_move => k_is)
    (case a_law_reweighted => k_is)
    (case l_law_reweighted => k_is)
    (case c_law_reweighted => k_is)
    (case k_law_reweighted => k_is)
    (case a_law_two => k_is)
    (case l_law_two => k_is)
    (case c_law_two => k_is)
    (case k_law_two => k_is)
    (case a_law_flag => k_is)
    (case l_law_flag => k_is)
    (case c_law_flag => k_is)
    (case k_law_flag => k_is)
    (case a_law_word => k_is)
    (case l_law_word => k_is)
    (case c_law_word => k_is)
    (case k_law_word => k_is)
    (case a_law_edge => k_is)
    (case l_law_edge => k_is)
    (case c_law_edge => k_is)
    (case k_law_edge => k_is)
    (case a_law_move_edge => k_is)
    (case l_law_move_edge => k_is)
    (case c_law_move_edge => k_is)
    (case k_law_move_edge => k_is)
    (case a_law => k_is)
    (case l_law => k_is)
    (case c_law => k_is)
    (case k_law => k_is)
    (case pgC => k_is)
    (case hdC => k_is)
    (case poC => k_is)
    (case saC => k_is)
    (case mkC => k_is)
    (case kcC => k_is)
    (case nwC => k_is)
    (case ntC => k_is)
    (case haC => k_is)
    (case hnC => k_is)
    (case htC => k_is)
    (case hmC => k_is)
    (case gcd => k_is)
    (case lcm => k_is)
    (case aO0 => k_is)
    (case lO => k_is)
    (case m_MOST_QUESTIONS => k_is)
    (case m_MOST_WORDS => k_is)
    (case m_MOST_NUMBERS => k_is)
    (case m_MOST_ON_A_WAY => k_is)
    (case m_MOST_PASSED => k_is)
    (case z_str => k_is)
    (case a_HouseError => k_is)
    (case x_HouseError => k_is)
    (case sa_HouseError => k_is)
    (case kp_HouseError => k_is)
    (case hg_HouseError => k_is)
    (case hk_HouseError => k_is)
    (case hc_HouseError => k_is)
    (case a_NotAlike => k_is)
    (case x_NotAlike => k_is)
    (case sa_NotAlike => k_is)
    (case kp_NotAlike => k_is)
    (case hg_NotAlike => k_is)
    (case hk_NotAlike => k_is)
    (case hc_NotAlike => k_is)
    (case q_NotAlike => k_exc)
    (case xnodup => decide +kernel)
    (case z_len => k_is)
    (case z_int => k_is)
    (case z_abs => k_is)
    (case z_sum => k_is)
    (case z_range => k_is)
    (case z_repr => k_is)
    (case z_isinstance => k_is)
    (case z_any => k_is)
    (case z_all => k_is)
    (case z_tuple => k_is)
    (case z_list => k_is)
    (case z_zip => k_is)
    (case z_enumerate => k_is)
    (case z_max => k_is)
    (case z_bool => k_is)
    (case hcf => with_unfolding_all rfl)
    (case hct => with_unfolding_all rfl)
    (case hch => kernel_rfl)
    (case hln => first | rfl | kernel_rfl | k_is)
    (case hm => decide)
