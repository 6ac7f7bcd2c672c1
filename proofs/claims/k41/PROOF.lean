import PyProof.Rows.All
import Wide.All
import OpenK.AllK
import Wide.FinOn
import HandS.ForMost
import HandS.Gcd
import HandS.Zip
import HandS.Walk
import HandS.SortKw
import HandS.TupMul
import HandS.TupAny
import HandS.IsInst
import HandS.OwnEq
import HandS.Wide
import KE.DataMinMax
import KE.GoesMore
import KE.GoesEnum
import PyProof.ReprBulk
import PyProof.P3Eq
import HandS.Dict
import KE.KeyNested
import KE.KDictPairs
import KE.GoesNew
import KE.KDictWalk
import HandS.NamedTupSort
import HandS.TryMany
import HandS.ExcOwn
import HandS.ExcIs
import HandS.More
import HandS.ExcInit
import HandS.ExcField
import HandS.ExcValue
import KE.KExcIs
import HandS.WordsExc
import HandS.Style
import HandS.TryOnly
import PySem.Challenge.RW_tellsless_k41_whole_houses_tossed_and_hi
set_option Elab.async false
set_option linter.all false
set_option maxRecDepth 100000
set_option maxHeartbeats 16000000
/-! rules that the layer lacks -/
namespace Tl
open PySem PySem.Spec PyProof.Rows L2 RZ
section
variable {X : Cx}
/-- repr of nested data -/
def rReprD (K : PySem.W.Frag) : List V → Hp → VK → Prop := fun xs H Q =>
  ∃ (a : Addr) (d : PyData), xs = [.ref a] ∧ Dp K H (.ref a) d ∧ d.showable = true ∧ d.hasDict = false ∧ d.depth ≤ 60 ∧ d.shown.length ≤ sizeLine ∧ Q (.str d.shown) H
theorem cr_reprD (hu : X.A.units + 64 < cLine) (hg : X.A.guards = some []) : CallR X (.builtin "repr") (rReprD X.K) := by
  intro pins s σ H xs us Q I r h
  obtain ⟨a, d, rfl, hd, h1, h2, h3, h4, q⟩ := h
  rw [Vals.ref1 r]
  obtain ⟨as, rd⟩ := Dp.reads I d _ _ hd rfl
  refine repr_of_reads' rd h1 (PyData.noDict_hsm h2) hg (by omega) (fun _ _ e => e) (fun h' u tk hk => ?_) h4
  exact ⟨.str d.shown, H, I.kept (t' := tk) hk, ⟨_, rfl⟩, q⟩
/-- xs[i], i from 0 on, read for a store by an operator -/
def gAtL (K : PySem.W.Frag) : V → V → Hp → VK → Prop := fun x y H Q => ∃ p xs j v, x = .ref p ∧ y = .int ((j : Nat) : Int) ∧ SqL K H p xs ∧ xs[j]? = some v ∧ Q v H
theorem get_listP : PGet X (gAtL X.K) := by
  intro pins s σ H o i ov iv Q I ro ri h
  obtain ⟨p, xs, j, z, rfl, rfl, hq, he, q⟩ := h
  cases ro
  obtain ⟨t, rfl⟩ := ri
  obtain ⟨its, r, pl, hz⟩ := I.list hq
  obtain ⟨w, ew, rw'⟩ := r.get he
  have hn := line63
  have hj : j < xs.length := (List.getElem?_eq_some_iff.mp he).1
  exact wpAny_getItem_list pl.isList (by omega) (by omega) (by simpa using ew) ⟨z, H, I, rw', q⟩
end

section
variable {X : Cx}
def topOf (d : Int) : List Int → Int
  | [] => d
  | n :: r => r.foldl max n
def rMaxDf (K : PySem.W.Frag) : List V → List V → Hp → VK → Prop := fun vs zs H Q => ∃ (a : Addr) (ns : List Int) (d : Int), vs = [V.ref a] ∧ zs = [.int d] ∧ SqL K H a (ns.map V.int) ∧ Q (.int (topOf d ns)) H
theorem reads_ints {h : Heap} : ∀ {us : List Value} {ns : List Int}, IntsAre us ns → ∃ as, ReadsAll h us (ns.map PyData.int) as
  | _, _, .nil => ⟨_, .nil⟩
  | _, _, .cons n t r => by
    obtain ⟨as, q⟩ := reads_ints (h := h) r
    exact ⟨_, .cons (.int n t) q⟩
theorem depth_ints : ∀ ns : List Int, PyData.depthAll (ns.map PyData.int) = 0
  | [] => rfl
  | n :: r => by
    show max (PyData.depth (.int n)) (PyData.depthAll (r.map PyData.int)) = 0
    rw [depth_ints r]
    rfl
theorem alike_ints (ns : List Int) : PySem.W.AlikeAll (ns.map PyData.int) := by
  constructor
  · intro x hx y hy
    obtain ⟨i, _, rfl⟩ := List.mem_map.mp hx
    obtain ⟨j, _, rfl⟩ := List.mem_map.mp hy
    rfl
  · intro x hx
    obtain ⟨i, _, rfl⟩ := List.mem_map.mp hx
    exact fun h => by cases h
theorem cr_maxDf (hc : X.calm = true) (hu : X.A.units + 64 < cLine) : CallRK X (.builtin "max") [Str.ofString "default"] (rMaxDf X.K) := by
  intro pins s σ H vs zs us ws Q I r rz h
  obtain ⟨a, ns, d, rfl, rfl, hs, q⟩ := h
  obtain ⟨its, rv, pl, hz⟩ := I.list hs
  rw [Vals.ref1 r]
  obtain ⟨w1, rfl, t, rfl⟩ := vals1 rz
  have hi := rv.ints
  obtain ⟨as, hr⟩ := reads_ints (h := s.heap) hi
  refine PySem.W.max_list_default (vs := its.toArray) (xs := ns.map PyData.int) (as := as) (I.ok.hd hc) pl.isList (by simpa using hr) (alike_ints ns) (by rw [depth_ints]; omega) (fun hn h' tk hk => ?_) fun y ys i v h' tk bs e ev hv hk => ?_
  · have e : ns = [] := List.map_eq_nil_iff.mp hn
    subst e
    exact ⟨.int d, H, I.kept (t' := tk) hk, ⟨t, rfl⟩, q⟩
  · cases ns with
    | nil => cases e
    | cons n r =>
      cases e
      rw [PySem.W.maxD_ints] at hv
      cases hv
      exact ⟨.int _, H, I.kept (t' := tk) hk, ⟨_, rfl⟩, q⟩
end

/-! enumerate(a tuple) -/
def IteT (K : PySem.W.Frag) (a : Addr) : It :=
  ⟨fun i H => ∃ (xs : List V) (x : V), SqT K H a xs ∧ xs[i]? = some x,
   fun i H v H' => ∃ T x, v = .ref T ∧ H T = none ∧ H' = upd H T (.tup [.int (i : Nat), x]) ∧ ∀ xs, SqT K H a xs → xs[i]? = some x,
   fun i H => ∃ xs : List V, SqT K H a xs ∧ xs.length = i⟩
set_option maxHeartbeats 1000000 in
theorem enum_new_tup (l : Addr) (items : Array Value) : Meets (Builtin.«enumerate.__new__» ⟨[.type "enumerate", .ref l], []⟩) (fun _ R s => s.heap.IsTuple l items ∧
      R (.ok (.ret (.ref (s.heap.objs.size + 1)))) { s with heap := (s.heap.push { cls := .type "tuple_iterator", data := .fields #[.ref l, .int 0 0] }).push { cls := .type "enumerate", data := .fields #[.none, .bool false, .ref s.heap.objs.size, rawInt 0, .none, .none] } }) :=
  .of_wp fun prog w A R s ⟨ht, h⟩ => by
    obtain ⟨hp, g, d, tk, os⟩ := s
    have hsz : ∀ o : Obj, (hp.push o).objs.size = hp.objs.size + 1 := fun o => Heap.size_push ..
    have hsub := sub_enumerate
    have q1 : ∀ {A' : Around} {E' : Value → Shared → Prop} {Q' : Value → Shared → Prop}, Q' (.ref hp.objs.size) ⟨hp.push { cls := .type "tuple_iterator", data := .fields #[.ref l, .int 0 0] }, g, d, tk, os⟩ → wpAny (model prog w) A' (pyIter (.ref l)) Q' E' ⟨hp, g, d, tk, os⟩ :=
      fun q => wpAny_pyIter_tuple (s := ⟨hp, g, d, tk, os⟩) ht q
    rw [← hsz { cls := .type "tuple_iterator", data := .fields #[.ref l, .int 0 0] }] at h
    wp_walk using q1
    refine wpAny_stack_any fun st => wpAny_pure ?_
    split
    · rename_i c _ _ _ _ _
      rcases (c == Value.type "enumerate") with _ | _ <;> (wp_walk using q1; exact ⟨_, rfl, h⟩)
    · wp_walk using q1
      exact ⟨_, rfl, h⟩
theorem enum_tup {prog : Program} {w : World} {A : Around} {E : Value → Shared → Prop} {s : Shared} {l : Addr} {items : Array Value} {Q : Value → Shared → Prop} (ht : s.heap.IsTuple l items)
    (h : ∀ h', IsEnum h' (s.heap.objs.size + 1) s.heap.objs.size 0 .none → h'.IsTupleIter s.heap.objs.size l 0 →
      (∀ b o, s.heap.get? b = some o → h'.get? b = some o) → Q (.ref (s.heap.objs.size + 1)) { s with heap := h' }) :
    wpAny (model prog w) A (call (.type "enumerate") [.ref l]) Q E s := by
  refine callType_new F.called_enumerate (by decide) (F.typeCall_enumerate_1 _) (F.newCall_enumerate_1 _) (fun ob => F.args_object_init_2 ob _) F.entry_enumerate_new (enum_new_tup l items) ⟨ht, ?_⟩
  have e2 : IsEnum ((s.heap.push { cls := .type "tuple_iterator", data := .fields #[.ref l, .int 0 0] }).push { cls := .type "enumerate", data := .fields #[.none, .bool false, .ref s.heap.objs.size, rawInt 0, .none, .none] }) (s.heap.objs.size + 1) s.heap.objs.size 0 .none := by
    have e3 := Heap.get?_push_size (s.heap.push { cls := .type "tuple_iterator", data := .fields #[.ref l, .int 0 0] }) (o := { cls := .type "enumerate", data := .fields #[.none, .bool false, .ref s.heap.objs.size, rawInt 0, .none, .none] }) rfl
    rw [Heap.size_push] at e3
    exact e3
  exact ⟨⟨_, e2, rfl⟩, h _ e2 ⟨_, Heap.get?_push_of_some _ (Heap.get?_push_size _ rfl), rfl, rfl⟩ fun b o x => Heap.get?_push_of_some _ (Heap.get?_push_of_some _ x)⟩
theorem turn_enumT {P : Program} {w : World} {K : PySem.W.Frag} {elts : List Expr} {kk : Nat} {tpos : Pos} (a e it : Addr) :
    Turn P w K (.Tuple elts kk tpos) (IteT K a) [e, it] e (fun i h => (∃ old, IsEnum h e it ((i : Nat) : Int) old) ∧ h.IsTupleIter it a i ∧ e ≠ it ∧ e ≠ a ∧ a ≠ it) where
  mem := List.mem_cons_self
  obj := by
    rintro i h ⟨⟨old, he⟩, ⟨o, ho, hc, hd⟩, _⟩ b hb
    rcases (show b = e ∨ b = it by simpa using hb) with rfl | rfl
    · exact ⟨_, he, fun v q => by cases q⟩
    · exact ⟨o, ho, fun v q => by rw [hd] at q; cases q⟩
  keep := by
    rintro i h h' ⟨⟨old, he⟩, hi, hne⟩ k
    exact ⟨⟨old, k e (by simp) _ he⟩, hi.at fun o q => k it (by simp) o q, hne⟩
  item := by
    intro X hP hw hK hc i pins s σ H E I hf st hg
    subst hP hw hK
    obtain ⟨⟨old, he⟩, hit, hne, hea, hai⟩ := st
    obtain ⟨xs, x, hq, hx⟩ := hg
    obtain ⟨its, rv, pt, hz⟩ := I.tuple hq
    obtain ⟨u, hu, ru⟩ := rv.get hx
    have hlt : i < its.toArray.size := by
      rw [List.size_toArray]
      exact (List.getElem?_eq_some_iff.mp hu).1
    have lte : e < s.heap.objs.size := Heap.lt_size he
    have lti : it < s.heap.objs.size := by
      obtain ⟨_, q, _⟩ := hit
      exact Heap.lt_size q
    have D := Draws.tuple (prog := X.prog) (w := X.w) (A := X.A.in1) (I.ok.hd hc) it a hai its.toArray
    refine wpAny_pyNext_enum_itemD D he ⟨hit, pt⟩ hlt hne (by simp [hne, hea]) fun v h' tk hP ho hit' hT hsz hk => ?_
    have ev : v = u := by
      have q1 : its[i]? = some v := by simpa using hP
      rw [hu] at q1
      exact (Option.some.inj q1).symm
    subst ev
    refine ⟨_, rfl, wpAny_letOwnedTupleGo_enum (s := { s with heap := h', toks := tk + 1 }) ho fun h2 he2 sb => ?_⟩
    have hT2 : h2.get? s.heap.objs.size = some { cls := .type "tuple", data := .seq #[.int i tk, v] } := (sb.2 _ (Nat.ne_of_gt lte)).trans hT
    have mk : ObjOk X.prog X.w (upd H s.heap.objs.size (.tup [.int (i : Nat), x])) h2 s.heap.objs.size (.tup [.int (i : Nat), x]) :=
      ⟨by show 2 ≤ sizeLine; decide, [.int i tk, v], .cons ⟨_, rfl⟩ (.cons ru .nil), ⟨_, hT2, rfl, _, rfl⟩⟩
    have I1 : Inv X pins σ (upd H s.heap.objs.size (.tup [.int (i : Nat), x])) { s with heap := h2, toks := tk + 1 } :=
      I.turnedNew (ch := [e, it]) (fun b ob hb q => by
        have z1 : b ≠ e := fun z => hb (by simp [z])
        have z2 : b ≠ it := fun z => hb (by simp [z])
        exact (sb.2 b z1).trans (hk b ob z1 z2 q)) hf (Nat.le_refl _) mk
    refine ⟨.ref s.heap.objs.size, _, I1, rfl, ⟨_, x, rfl, I.hok.fresh (Nat.le_refl _), rfl, fun ys hy => by rw [I.tuple_inj hy hq]; exact hx⟩, ⟨⟨v, ?_⟩, hit'.1.at fun o q => (sb.2 it (Ne.symm hne)).trans q, hne, hea, hai⟩, fun b hb => ?_⟩
    · rw [show ((i + 1 : Nat) : Int) = (i : Int) + 1 by omega]
      exact he2
    · have lb : b < s.heap.objs.size := by
        rcases (show b = e ∨ b = it by simpa using hb) with z | z
        · rw [z]; exact lte
        · rw [z]; exact lti
      rw [upd_ne (Nat.ne_of_lt lb)]
      exact (hf b hb).1
  done := by
    intro X hP hw hK hc i pins s σ H E I hf st hg
    subst hP hw hK
    obtain ⟨⟨old, he⟩, hit, hne, hea, hai⟩ := st
    obtain ⟨xs, hq, hx⟩ := hg
    obtain ⟨its, rv, pt, hz⟩ := I.tuple hq
    obtain ⟨f0, f1, f2, f3, f4, f5⟩ := hf it (by simp)
    have hl : its.toArray.size = i := by
      rw [List.size_toArray, ← rv.length]
      exact hx
    have D := Draws.tuple (prog := X.prog) (w := X.w) (A := X.A.in1) (I.ok.hd hc) it a hai its.toArray
    exact wpAny_pyNext_enum_endD D he ⟨by rw [hl]; exact hit, pt⟩ fun h' eb => ⟨rfl, I.turned (t' := s.toks) (fun b o hb q => eb b o hb q) f0 f1 f3 f4 f5⟩
  self := fun A i s Q E st h => by
    obtain ⟨⟨_, he⟩, _⟩ := st
    exact wpAny_pyIter_enum he h
def iEnumT (K : PySem.W.Frag) (ta : TA) : TI := fun σ H R => ta σ H fun vs H1 => ∃ a xs, vs = [.ref a] ∧ SqT K H1 a xs ∧ R (IteT K a) H1
theorem pi_enumT {X : Cx} {e : Expr} {ta : TA} {p pos tpos : Pos} {elts : List Expr} {kk : Nat} (hg : Gl X "enumerate") (hm : X.mg "enumerate" = none) (ha : PA X [e] ta) (hs : starEach [e] X.env = [(false, eval e X.env)] := by rfl) :
    PI X (.Tuple elts kk tpos) (.Call (.Name "enumerate" p) [e] [] pos) (iEnumT X.K ta) := by
  refine ⟨fun pins s σ H R I h => Call_ (ld_blt I hg hm boot_enumerate (PyProof.Rows.callWith_type1 (thn (ha.run pos pins s σ H _ I h) fun us s1 hq => ?_) hs rfl))⟩
  obtain ⟨vs, H1, I1, r1, a, xs, rfl, hT, q⟩ := hq
  rw [Vals.ref1 r1]
  obtain ⟨its, rv, pt, hz⟩ := I1.tuple hT
  have hat : a < s1.heap.objs.size := by
    obtain ⟨o, ho, _⟩ := id pt
    exact Heap.lt_size ho
  refine enum_tup (show s1.heap.IsTuple a its.toArray from pt) fun h' he hit hk => wpAny_pyIter_enum he ?_
  have I2 : Inv X pins σ H1 { s1 with heap := h' } := I1.kept (t' := s1.toks) hk
  refine ⟨_, [s1.heap.objs.size + 1, s1.heap.objs.size], _, _, H1, rfl, I2, turn_enumT a (s1.heap.objs.size + 1) s1.heap.objs.size, ⟨⟨.none, he⟩, hit, Nat.succ_ne_self _, Nat.ne_of_gt (Nat.lt_succ_of_lt hat), Nat.ne_of_lt hat⟩, fun b hb => ?_, q⟩
  have hle : s1.heap.objs.size ≤ b := by
    rcases (show b = s1.heap.objs.size + 1 ∨ b = s1.heap.objs.size by simpa using hb) with z | z
    · rw [z]; exact Nat.le_succ _
    · rw [z]; exact Nat.le_refl _
  exact I1.fpOk hle (I1.hok.fresh hle)
theorem walk_enumT {K : PySem.W.Frag} {a : Addr} {xs : List V} : Walk (IteT K a) xs.length (fun H => SqT K H a xs) (YPair (fun i => some (.int (i : Nat))) (fun i => xs[i]?)) := by
  refine ⟨fun i _ hi q => ⟨xs, xs[i], q, by simp [hi]⟩, fun _ q => ⟨xs, q, rfl⟩, fun i H v H' _ q y => ?_⟩
  obtain ⟨T, x, h1, h2, h3, h4⟩ := y
  exact ⟨T, .int (i : Nat), x, h1, h2, h3, rfl, h4 xs q⟩
theorem walk_zipT {K : PySem.W.Frag} {a b : Addr} {xs ys : List V} {n : Nat} (hn : n = min xs.length ys.length) : Walk (ItzT K a b) n (fun H => SqT K H a xs ∧ SqT K H b ys) (YPair (fun i => xs[i]?) (fun i => ys[i]?)) := by
  subst hn
  refine ⟨fun i _ hi q => ⟨xs, ys, xs[i]'(by omega), ys[i]'(by omega), q.1, q.2, List.getElem?_eq_getElem _, List.getElem?_eq_getElem _⟩, fun _ q => ⟨xs, ys, q.1, q.2, by omega⟩, fun i H v H' _ q y => ?_⟩
  obtain ⟨T, x, z, h1, h2, h3, h4, h5⟩ := y
  exact ⟨T, x, z, h1, h2, h3, h4 xs q.1, h5 ys q.2⟩

/-! a tuple times an int, also 1 -/
theorem mul_one_tup (l : Addr) (items : Array Value) (n : Nat) (dd : Option Addr) (sl : Array (Option Value)) (u : Tok) (hne : items.isEmpty = false) : Meets (Builtin.«tuple.__mul__» ⟨[.ref l, .int 1 u], []⟩) (fun _ R s => s.heap.get? l = some { cls := .type "tuple", dict := dd, data := .seq items n, slots := sl } ∧ R (.ok (.ret (.ref l))) s) :=
  .of_wp fun prog w A R s h => by
    obtain ⟨hp, g, d, tk, os⟩ := s
    obtain ⟨hl, h⟩ := h
    have f1 := AutoSeq1.idx_int
    wp_walk using wpAny_loadPart' hl
    exact ⟨_, rfl, h⟩
def rRepP (K : PySem.W.Frag) : R2 := fun x y H Q => ∃ l k xs, x = .ref l ∧ y = .int k ∧ SqT K H l xs ∧ xs ≠ [] ∧ 1 ≤ k ∧ k ≤ 1000 ∧ xs.length ≤ 1000 ∧ ∀ p H', Same H H' → SqT K H' p (List.replicate k.toNat xs).flatten → Q (.ref p) H'
theorem same_upd {H : Hp} {p : Addr} {o : HO} (h : H p = none) : Same H (upd H p o) := fun b x e => by
  rw [upd_ne (ne_of_none e h)]
  exact e
theorem op_repP {X : Cx} : OpR X (binaryOp .Mult) (rRepP X.K) := by
  intro pins s σ H x y v u Q I rx ry h
  obtain ⟨l, k, xs, rfl, rfl, hT, hne, h1, h2, hz, q⟩ := h
  by_cases hk : 2 ≤ k
  · exact op_repT pins s σ H _ _ v u Q I rx ry ⟨l, k, xs, rfl, rfl, hT, hne, hk, h2, hz, fun p hp => q p _ (same_upd hp) (.inl (.inl upd_same))⟩
  · obtain rfl : k = 1 := by omega
    cases rx
    obtain ⟨t, rfl⟩ := ry
    obtain ⟨its, r, ⟨⟨cls, dd, data, sl⟩, ho, hc, n, hd⟩, hs⟩ := I.tuple hT
    simp only at hc hd
    subst hc hd
    have hn : its.toArray.isEmpty = false := by
      cases its with
      | nil =>
        cases r
        exact absurd rfl hne
      | cons a b => rfl
    refine wpAny_binaryOp_repeat_ref (T := "tuple") (U := "int") (by decide) ⟨_, ho, rfl⟩ (fun s' => typeIs_int s' 1 t) noFill_tuple_mul F.fills_int_mul F.slot_int_rmul repeat_tuple F.slot_int_index.lookup
      (call_meets F.slot_int_rmul (typeIs_int s 1 t) F.entry_int_rmul (F.args_int_rmul_2 _ _) (int_rmul_tuple 1 t l its.toArray n dd sl)
        ⟨ho, rfl, ⟨_, ho, rfl⟩, call_meets F.slot_tuple_mul ⟨_, ho, rfl⟩ F.entry_tuple_mul (F.args_tuple_mul_2 _ _) (mul_one_tup l its.toArray n dd sl t hn) ⟨ho, ?_⟩⟩)
    exact ⟨.ref l, H, I, rfl, q l H (Same.refl H) (by rw [show (List.replicate (Int.toNat 1) xs).flatten = xs by simp]; exact hT)⟩

/-! ### defs that want no repr to run around them -/
structure FnG (P : Program) (w : World) (K : PySem.W.Frag) (mg : Str → Option Value) (base : Heap) (CX : CXT) (k : Nat) (f : Addr) (fd : FuncData) (ps : List Str) (sp : Sp) : Prop where
  many : ∀ vs H Q E, sp vs H Q E → vs.length = ps.length
  goes : ∀ (A : Around) (outer : List Env) (s : Shared) (H : Hp) (args : Args) (us : List Value) (vs : List V) (Q : VK) (E : XK), Room k A → A.guards = some [] → Env0 P w K mg base A outer s H → BindsTo s fd args (ps.zip us) → Vals vs us → sp vs H Q E →
    codeAny (model P w) A (.call (.ref f) args) (CR CX outer P w H s Q E) s
section
variable {P : Program} {w : World} {K : PySem.W.Frag} {mg : Str → Option Value} {base : Heap}
theorem okG {x qual : Str} {st : Stmt} {f : Addr} {fd : FuncData} {N ps : List Str} {k : Nat} {sp : Sp} (F : Fun K x qual st f fd) (S : FnScope N ps (defScope st)) (len : ∀ vs H Q E, sp vs H Q E → vs.length = ps.length)
    (bd : ∀ (cdv : Value) (A : Around) (outer : List Env) (s : Shared) (H : Hp) (vs : List V) (Q : VK) (E : XK), Room k (A.deeper (envOfC qual (defScope st) s.heap.objs.size f cdv)) → A.guards = some [] → sp vs H Q E →
      ∃ t, PSs (cxOf CX0 P w K mg base N qual (defScope st) f cdv A outer s H E).nox (defBody st) t ∧ t { nx := fun _ H' => Q .non H', rt := Q } (start N vs) H) : FnG P w K mg base CX0 (k + 1) f fd ps sp := by
  obtain ⟨oc, od, kV, doc, pm, an, cdv, ct, osl, rfl, lk, hcd⟩ := F.ex
  refine ⟨len, fun A outer s H args us vs Q E hr hgu e0 hb rv hsp => ?_⟩
  have hl := len _ _ _ _ hsp
  have kin : K.In s.heap := e0.mod.kin.keeps fun b o e => (e0.bs b o e).1
  have nol : s.heap.NoLimit := e0.mod.nolimit.keeps fun b o e => (e0.bs b o e).1
  have kinds : ∀ y ∈ ps.zip us, (defScope st).names.lookup y.1 = some .local ∨ ((defScope st).names.lookup y.1 = some .cell ∧ ((cellsFrom (s.heap.objs.size + 1) (defScope st).names []).lookup y.1).isSome = true) := by
    rintro ⟨n, v⟩ hy
    have hn := (List.of_mem_zip hy).1
    rcases S.par n hn with q | q
    · exact Or.inl q
    · exact Or.inr ⟨q, PySem.W.cellsFrom_some _ _ _ (Or.inl q)⟩
  refine codeAny_call_function hr.depth (kin _ _ lk) rfl S.co S.gen rfl (PySem.W.codeRec_of kin hcd) (hb _ _ _ _ (wpAny_newFunctionEnv_cells S.kind kinds fun env ee s1 x => ?_))
  subst ee
  refine ⟨nol.keeps x.toInCall.keep, codeAny_func ?_⟩
  obtain ⟨t, ht, hq⟩ := bd cdv A outer s H vs Q E (hr.deeper _) hgu hsp
  have J : Inv (cxOf CX0 P w K mg base N qual (defScope st) f cdv A outer s H E) [] (start N vs) H s1 := inv_start S hr.hd e0 hl rv x
  refine wpAny_mono (ht.nox.run [] s1 (start N vs) H _ J hq) (fun fl s2 hs => ?_) fun e s2 hs => hs
  have done : ∀ {σ' : L2.St} {H' : Hp} {v : V} {u : Value}, Inv (cxOf CX0 P w K mg base N qual (defScope st) f cdv A outer s H E) [] σ' H' s2 → RelV v u → Q v H' → CE outer P w H s Q u s2 :=
    fun {σ' H' v u} L r q => ⟨v, H', L.os, L.bare, L.base, L.hok, r, q⟩
  cases fl with
  | ret u =>
    obtain ⟨v, σ', H', L, r, q⟩ := hs
    exact done L r q
  | next =>
    obtain ⟨σ', H', L, q⟩ := hs
    exact done (v := V.non) (u := Value.none) L rfl q
  | brk =>
    obtain ⟨_, _, _, q⟩ := hs
    exact q.elim
  | cont =>
    obtain ⟨_, _, _, q⟩ := hs
    exact q.elim
end
section
variable {X : Cx} {CX : CXT} {k : Nat} {f : Addr} {fd : FuncData} {ps : List Str} {sp : Sp} {dvs : List V} {ds : List Value} {E : XK} {x : Str} {p pos : Pos} {e : Expr} {es : List Expr} {t : TA}
theorem pe_callG (F : FnG X.prog X.w X.K X.mg X.base CX k f fd ps sp) (hr : Room k X.A) (hgu : X.A.guards = some []) (hg : Gl X x) (hm : X.mg x = some (.ref f)) (hk : PySem.W.keepIn X.K (.ref f) = true) (hb : Binds X.K fd ps ds) (hd : Vals dvs ds) (hx : Passes CX X E)
    (ha : PA X (e :: es) t) (hdb : (x == ("__debug__" : Str)) = false := by decide) (he : starEach (e :: es) X.env = (false, eval e X.env) :: starEach es X.env := by rfl) (hpl : (backTo pos (starEach es X.env)).any (·.1) = false := by rfl) :
    PE X (.Call (.Name x p) (e :: es) [] pos) (tCall sp dvs E t) := by
  refine ⟨fun pins s σ H Q I h => wpAny_Call_Name_kw (ld_glob I hg hm ?_ hdb)⟩
  refine PySem.W.callWith_K (h₀ := X.base) I.ok.mod.kin hk (thn (ha.run pos pins s σ H _ I h) ?_) he hpl
  rintro us s1 ⟨vs, H1, I1, r, q⟩
  refine ⟨I1.kIn, ?_⟩
  have r2 : Vals (vs ++ dvs) (us ++ ds) := r.append hd
  have hl : (us ++ ds).length = ps.length := by
    rw [← r2.length]
    exact F.many _ _ _ _ q
  refine wpAny_call (codeAny_mono (F.goes X.A X.stack s1 H1 ⟨us, []⟩ (us ++ ds) (vs ++ dvs) Q E hr hgu I1.env0 (hb s1 us I1.kIn hl) r2 q) ?_)
  intro res s2 hq
  match res, hq with
  | .error e, hq => exact hx pins σ H1 s1 e s2 I1 hq
  | .ok (.ret u), hq => exact I1.after hq
end
/-- a law's own promise -/
def spTrue (K : PySem.W.Frag) : Sp := fun vs H Q _ => ∃ (a : Addr) (ns : List Int), vs = [.ref a] ∧ SqL K H a (ns.map V.int) ∧ ns.length ≤ 63 ∧ ∀ H', Q (.bl true) H'
theorem callG {P : Program} {w : World} {K : PySem.W.Frag} {mg mb : Str → Option Value} {k : Nat} {fa a : Addr} {fd : FuncData} {x : Str} {s₁ : Shared} {vs : List Value} {ns : List Int}
    (kin : K.In s₁.heap) (hns : s₁.heap.Ns mainGlobals mg) (hbl : s₁.heap.Ns builtinsNs mb) (hbb : ∀ x : Str, x ≠ "__name__" → mb x = bootBuiltins x) (nol : s₁.heap.NoLimit) (hgens : s₁.gens = #[])
    (ha : s₁.heap.get? a = some { cls := .type "list", data := .seq vs.toArray }) (hi : IntsAre vs ns) (h63 : ns.length ≤ 63) (hr : Room k callerA)
    (F : ∀ base : Heap, K.In base → base.Ns mainGlobals mg → FnG P w K mg base CX0 k fa fd [x] (spTrue K)) (hbind : ∀ (s : Shared) (u : Value), BindsTo s fd ⟨[u], []⟩ [(x, u)]) :
    codeAny (model P w) callerA (.call (.ref fa) ⟨[.ref a], []⟩) (fun r s' => r = .ok (.ret (.bool true)) ∧ OldK s₁.heap s'.heap ∧ s'.os = s₁.os ∧ AllBare s'.gens) s₁ := by
  have hl : ns.length ≤ sizeLine := Nat.le_trans h63 (by decide)
  have rv := vals_ints hi
  have lv := hi.length
  have main : ∀ T : Hp, Only T → SqL K T a (ns.map V.int) → HOk P w T s₁.heap → (∀ b, T b ≠ none → b = a) → (T a ≠ none → K.lookup a = none) →
      codeAny (model P w) callerA (.call (.ref fa) ⟨[.ref a], []⟩) (fun r s' => r = .ok (.ret (.bool true)) ∧ OldK s₁.heap s'.heap ∧ s'.os = s₁.os ∧ AllBare s'.gens) s₁ := by
    intro T only hS hok only_a notK
    have put : ∀ {b : Addr} {o : Obj}, s₁.heap.get? b = some o → T b = none → (hidT s₁.heap T).get? b = some o := fun e n => hidT_get e n
    have dict_free : ∀ {b : Addr} {o : Obj} {es : Array DictEntry} {ep : Nat}, s₁.heap.get? b = some o → o.data = .dict es ep → T b = none := by
      intro b o es ep e d
      match q : T b with
      | none => rfl
      | some u =>
        obtain rfl := only_a b (by rw [q]; exact fun z => by cases z)
        rw [ha] at e
        cases e
        exact absurd (show Data.seq vs.toArray _ = Data.dict es ep from d) (fun z => by cases z)
    have nsB : ∀ {b : Addr} {m : Str → Option Value}, s₁.heap.Ns b m → (hidT s₁.heap T).Ns b m := by
      rintro b m ⟨o, es, ep, e, d, r⟩
      exact ⟨o, es, ep, put e (dict_free e d), d, r⟩
    have kinB : K.In (hidT s₁.heap T) := by
      intro b o e
      refine put (kin b o e) ?_
      match q : T b with
      | none => rfl
      | some u =>
        have q' : T b ≠ none := by rw [q]; exact fun z => by cases z
        obtain rfl := only_a b q'
        rw [notK q'] at e
        cases e
    obtain ⟨mc, l1, l2⟩ := nol
    have md : Mod K mg (hidT s₁.heap T) := ⟨kinB, nsB hns, ⟨mb, nsB hbl, hbb⟩, ⟨mc, nsB l1, l2⟩⟩
    have e0 : Env0 P w K mg (hidT s₁.heap T) callerA [] s₁ T :=
      { frames := rfl, mod := md, bs := fun b o e => of_hidT e, bsz := Nat.le_of_eq (hidT_size _ _), funs := trivial, frf := fun b hb => (List.not_mem_nil (show b ∈ ([] : List Addr) from hb)).elim, hok := hok, bare := .of_eq hgens }
    have sp0 : spTrue K [.ref a] T (fun v _ => v = .bl true) (fun _ _ _ => False) := ⟨a, ns, rfl, hS, h63, fun _ => rfl⟩
    refine codeAny_mono ((F _ kinB (nsB hns)).goes callerA [] s₁ T ⟨[.ref a], []⟩ [.ref a] [.ref a] _ _ hr rfl e0 (hbind s₁ (.ref a)) (.cons rfl .nil) sp0) ?_
    intro r s2 h
    match r, h with
    | .error e, h => exact h.elim
    | .ok (.ret u), h =>
      obtain ⟨v, T', os, bare, un, hok2, r2, q⟩ := h
      obtain rfl : v = .bl true := q
      obtain rfl : u = Value.bool true := r2
      refine ⟨rfl, OldK.of_keep fun b o e => ?_, os, bare⟩
      match q : T b with
      | none => exact un.keep b o e q (fun z => (List.not_mem_nil (show b ∈ ([] : List Addr) from z)).elim) List.not_mem_nil
      | some u =>
        rcases only b with z | ⟨ob, xs, z⟩
        · rw [q] at z
          cases z
        · obtain ⟨e1, _⟩ := hok b _ z
          obtain ⟨e2, _⟩ := hok2 b _ (un.frzs b ob _ z)
          rw [e] at e1
          cases e1
          exact e2
  match hk : K.lookup a with
  | some o =>
    have e := kin a o hk
    rw [ha] at e
    cases e
    exact main (fun _ => none) (fun _ => Or.inl rfl) (Or.inr ⟨_, vs.toArray, _, hk, rfl, rfl, rfl, by rw [List.size_toArray, lv]; exact hl, by simpa using rv⟩) (fun b u z => by cases (show (none : Option HO) = some u from z)) (fun b z => (z rfl).elim) fun z => (z rfl).elim
  | none =>
    refine main (fun b => if b = a then some (.frz { cls := .type "list", data := .seq vs.toArray } (.lst (ns.map V.int))) else none) (fun b => ?_) (Or.inl (Or.inr ⟨{ cls := .type "list", data := .seq vs.toArray }, if_pos rfl⟩)) (fun b u z => ?_) (fun b z => ?_) fun _ => hk
    · by_cases hb : b = a
      · exact Or.inr ⟨_, _, if_pos hb⟩
      · exact Or.inl (if_neg hb)
    · by_cases hb : b = a
      · cases (if_pos hb).symm.trans z
        subst hb
        exact ⟨ha, by rw [List.length_map]; exact hl, vs, _, rv, ha⟩
      · cases (if_neg hb).symm.trans z
    · exact Decidable.byContradiction fun hb => z (if_neg hb)
theorem walkG {l : PySem.W.OpenLaw} {k : Nat} {q : Program} {loose : List Str} {XP : (Str → Option Value) → Heap → Prop} {YP : World → Heap → Prop} {d : DefRec} {K : Params → PySem.W.Frag} {x : Str}
    (hn : l.most = some 63) (hdf : d.params.defaults = []) (hr : Room k callerA) (hY : ∀ (w : World) (h : Heap), YP w h → (K w.params).In h)
    (F : ∀ (w : World) (mg : Str → Option Value) (fa : Addr) (h : Heap), (K w.params).In h → h.Ns mainGlobals mg → mg d.name = some (.ref fa) →
      ∃ fd : FuncData, (∀ (s : Shared) (u : Value), BindsTo s fd ⟨[u], []⟩ [(x, u)]) ∧ ∀ base : Heap, (K w.params).In base → base.Ns mainGlobals mg → FnG l.prog w (K w.params) mg base CX0 k fa fd [x] (spTrue (K w.params))) :
    PySem.W.WalkO q loose XP YP l.row.toRowW d [] (fun f vs => PySem.call f vs) := by
  refine Att.attach_call hn hdf ?_
  intro w s₀ s₁ mg mb fa o pm cd doc a vs ns G Y ho hd hcd hmg hob hints hlen hg
  have kin := hY w _ Y
  obtain ⟨fd, hb, hF⟩ := F w mg fa _ kin G.T.g hmg
  exact callG kin G.T.g G.T.b G.T.builtins G.T.nolimit hg hob hints hlen hr hF hb
end Tl
/-! data without lists, frames, the bag -/
namespace Tl
open PySem PySem.Spec PyProof.Rows L2 RZ
/-! ### heaps -/
/-- all tuples stay -/
def KT (K : PySem.W.Frag) (H H' : Hp) : Prop := ∀ a xs, SqT K H a xs → SqT K H' a xs
theorem KT.refl {K : PySem.W.Frag} (H : Hp) : KT K H H := fun _ _ h => h
theorem KT.trans {K : PySem.W.Frag} {H1 H2 H3 : Hp} (a : KT K H1 H2) (b : KT K H2 H3) : KT K H1 H3 := fun x xs h => b x xs (a x xs h)
theorem Same.kt {K : PySem.W.Frag} {H H' : Hp} (h : Same H H') : KT K H H' := fun a xs q => by
  rcases q with (q | ⟨o, q⟩) | q
  · exact .inl (.inl (h _ _ q))
  · exact .inl (.inr ⟨o, h _ _ q⟩)
  · exact .inr q
/-- all but the lists at b and g stays as it was -/
def Frm (b g : Addr) (H H' : Hp) : Prop := ∀ a o, H a = some o → a ≠ b → a ≠ g → H' a = some o
theorem Frm.refl (b g : Addr) (H : Hp) : Frm b g H H := fun _ _ h _ _ => h
theorem Frm.trans {b g : Addr} {H1 H2 H3 : Hp} (x : Frm b g H1 H2) (y : Frm b g H2 H3) : Frm b g H1 H3 := fun a o h h1 h2 => y a o (x a o h h1 h2) h1 h2
theorem Frm.of {b g : Addr} {H H' : Hp} (h : Same H H') : Frm b g H H' := fun a o q _ _ => h a o q
theorem Frm.updB {b g : Addr} {H : Hp} {o : HO} : Frm b g H (upd H b o) := fun a x h h1 _ => by rw [upd_ne h1]; exact h
theorem Frm.updG {b g : Addr} {H : Hp} {o : HO} : Frm b g H (upd H g o) := fun a x h _ h2 => by rw [upd_ne h2]; exact h
/-! ### data of tuples -/
mutual
inductive Td (K : PySem.W.Frag) (H : Hp) : V → PyData → Prop
  | non : Td K H .non .none
  | bl (b : Bool) : Td K H (.bl b) (.bool b)
  | int (i : Int) : Td K H (.int i) (.int i)
  | str (x : Str) : Td K H (.str x) (.str x)
  | tup {a : Addr} {xs : List V} {ds : List PyData} : SqT K H a xs → TdAll K H xs ds → Td K H (.ref a) (.tuple ds)
inductive TdAll (K : PySem.W.Frag) (H : Hp) : List V → List PyData → Prop
  | nil : TdAll K H [] []
  | cons {v : V} {vs : List V} {d : PyData} {ds : List PyData} : Td K H v d → TdAll K H vs ds → TdAll K H (v :: vs) (d :: ds)
end
variable {K : PySem.W.Frag} {H H' : Hp}
mutual
theorem Td.dp : ∀ {v : V} {d : PyData}, Td K H v d → Dp K H v d
  | _, _, .non => .non
  | _, _, .bl b => .bl b
  | _, _, .int i => .int i
  | _, _, .str x => .str x
  | _, _, .tup h a => .tup h (TdAll.dp a)
theorem TdAll.dp : ∀ {v : List V} {d : List PyData}, TdAll K H v d → DpAll K H v d
  | _, _, .nil => .nil
  | _, _, .cons h t => .cons (Td.dp h) (TdAll.dp t)
end
mutual
theorem Td.keep (k : KT K H H') : ∀ {v : V} {d : PyData}, Td K H v d → Td K H' v d
  | _, _, .non => .non
  | _, _, .bl b => .bl b
  | _, _, .int i => .int i
  | _, _, .str x => .str x
  | _, _, .tup h a => .tup (k _ _ h) (TdAll.keep k a)
theorem TdAll.keep (k : KT K H H') : ∀ {v : List V} {d : List PyData}, TdAll K H v d → TdAll K H' v d
  | _, _, .nil => .nil
  | _, _, .cons h t => .cons (Td.keep k h) (TdAll.keep k t)
end
theorem TdAll.len : ∀ {v : List V} {d : List PyData}, TdAll K H v d → v.length = d.length
  | _, _, .nil => rfl
  | _, _, .cons _ t => congrArg (· + 1) (TdAll.len t)
theorem TdAll.get : ∀ {vs : List V} {ds : List PyData} {i : Nat} {d : PyData}, TdAll K H vs ds → ds[i]? = some d → ∃ v, vs[i]? = some v ∧ Td K H v d
  | _, _, _, _, .nil, e => by simp at e
  | _, _, 0, _, .cons h _, e => by
    simp at e
    subst e
    exact ⟨_, rfl, h⟩
  | _, _, i + 1, d, .cons _ t, e => by
    obtain ⟨v, h1, h2⟩ := TdAll.get (i := i) (d := d) t (by simpa using e)
    exact ⟨v, by simpa using h1, h2⟩
theorem TdAll.getV : ∀ {vs : List V} {ds : List PyData} {i : Nat} {v : V}, TdAll K H vs ds → vs[i]? = some v → ∃ d, ds[i]? = some d ∧ Td K H v d
  | _, _, _, _, .nil, e => by simp at e
  | _, _, 0, _, .cons h _, e => by
    simp at e
    subst e
    exact ⟨_, rfl, h⟩
  | _, _, i + 1, v, .cons _ t, e => by
    obtain ⟨d, h1, h2⟩ := TdAll.getV (i := i) (v := v) t (by simpa using e)
    exact ⟨d, by simpa using h1, h2⟩
theorem TdAll.app : ∀ {vs ws : List V} {ds es : List PyData}, TdAll K H vs ds → TdAll K H ws es → TdAll K H (vs ++ ws) (ds ++ es)
  | _, _, _, _, .nil, h => h
  | _, _, _, _, .cons h t, q => .cons h (TdAll.app t q)
theorem Td.tupE {v : V} {ds : List PyData} (h : Td K H v (.tuple ds)) : ∃ a xs, v = .ref a ∧ SqT K H a xs ∧ TdAll K H xs ds := by
  cases h with
  | tup h a => exact ⟨_, _, rfl, h, a⟩
theorem Td.intE {v : V} {i : Int} (h : Td K H v (.int i)) : v = .int i := by
  cases h
  rfl
theorem tdAll_ints : ∀ ns : List Int, TdAll K H (ns.map V.int) (ns.map PyData.int)
  | [] => .nil
  | n :: r => .cons (.int n) (tdAll_ints r)
theorem tdAll_intsE : ∀ {ns : List Int} {vs : List V}, TdAll K H vs (ns.map PyData.int) → vs = ns.map V.int
  | [], _, h => by
    cases h
    rfl
  | n :: r, _, h => by
    cases h with
    | cons h t =>
      cases h
      rw [tdAll_intsE t]
      rfl
/-- a list of values, each at its datum -/
theorem tdAll_iff {vs : List V} {ds : List PyData} (hl : vs.length = ds.length) (h : ∀ (i : Nat) (v : V) (d : PyData), vs[i]? = some v → ds[i]? = some d → Td K H v d) : TdAll K H vs ds := by
  induction vs generalizing ds with
  | nil =>
    cases ds with
    | nil => exact .nil
    | cons d r => simp at hl
  | cons v vs ih =>
    cases ds with
    | nil => simp at hl
    | cons d r =>
      refine .cons (h 0 v d rfl rfl) (ih (by simpa using hl) fun i v d h1 h2 => h (i + 1) v d (by simpa using h1) (by simpa using h2))
/-! ### the bag -/
structure Bag (H : Hp) (b g : Addr) : Prop where
  ne : b ≠ g
  hb : ∃ s c al, H b = some (.lst [.int s, .int c, .ref g, al]) ∧ (al = .non ∨ ∃ n, al = .int n)
  hg : ∃ gs : List Int, H g = some (.lst (gs.map V.int)) ∧ gs.length ≤ 63
theorem Bag.kt {b g : Addr} (B : Bag H b g) (f : Frm b g H H') : KT K H H' := fun a xs q => by
  obtain ⟨s, c, al, hb, _⟩ := B.hb
  obtain ⟨gs, hg, _⟩ := B.hg
  rcases q with (q | ⟨o, q⟩) | q
  · refine .inl (.inl (f _ _ q ?_ ?_))
    · intro e
      rw [e, hb] at q
      cases q
    · intro e
      rw [e, hg] at q
      cases q
  · refine .inl (.inr ⟨o, f _ _ q ?_ ?_⟩)
    · intro e
      rw [e, hb] at q
      cases q
    · intro e
      rw [e, hg] at q
      cases q
  · exact .inr q
theorem Bag.keep {b g : Addr} (B : Bag H b g) (s : Same H H') : Bag H' b g :=
  ⟨B.ne, let ⟨x, c, al, h, r⟩ := B.hb; ⟨x, c, al, s _ _ h, r⟩, let ⟨gs, h, r⟩ := B.hg; ⟨gs, s _ _ h, r⟩⟩
/-- another list stands -/
theorem Bag.other {b g a : Addr} {o : HO} (B : Bag H b g) (h : H a = some o) (h2 : ∀ xs, o ≠ .lst xs) : a ≠ b ∧ a ≠ g := by
  obtain ⟨s, c, al, hb, _⟩ := B.hb
  obtain ⟨gs, hg, _⟩ := B.hg
  constructor
  · intro e
    rw [e, hb] at h
    exact h2 _ (Option.some.inj h).symm
  · intro e
    rw [e, hg] at h
    exact h2 _ (Option.some.inj h).symm
theorem Bag.neNew {b g a : Addr} (B : Bag H b g) (h : H a = none) : a ≠ b ∧ a ≠ g := by
  obtain ⟨s, c, al, hb, _⟩ := B.hb
  obtain ⟨gs, hg, _⟩ := B.hg
  refine ⟨fun e => ?_, fun e => ?_⟩
  · rw [e, hb] at h
    cases h
  · rw [e, hg] at h
    cases h
end Tl
/-! the rules with the written part named (for blocks) -/
namespace Tl
open PySem PySem.Spec PyProof.Rows L2 RZ
section
variable {X : Cx} {K : PySem.W.Frag} (h : X.K = K)
include h
theorem k_ixL : IxR X (rIxL K) := by subst h; exact ix_list
theorem k_ixT : IxR X (rIxT K) := by subst h; exact ix_tup
def rLen (K : PySem.W.Frag) : List V → Hp → VK → Prop := fun xs H Q => ∃ p ys, xs = [.ref p] ∧ (SqL K H p ys ∨ SqT K H p ys) ∧ Q (.int ys.length) H
theorem k_len : CallR X (.builtin "len") (rLen K) := by subst h; exact call_len_seq
theorem k_sum (hc : X.calm = true) : CallR X (.builtin "sum") (rSum K) := by subst h; exact cr_sum hc
theorem k_any (hc : X.calm = true) : CallR X (.builtin "any") (rAny K) := by subst h; exact cr_any hc
theorem k_all (hc : X.calm = true) : CallR X (.builtin "all") (rAll K) := by subst h; exact cr_all hc
theorem k_eqD (hu : X.A.units + 64 < cLine) : OpR X (compareOp .Eq) (rEqD K) := by subst h; exact op_eqD hu
theorem k_neD (hu : X.A.units + 64 < cLine) : OpR X (compareOp .NotEq) (rNeD K) := by subst h; exact op_neD hu
theorem k_ltT (hu : X.A.units < cLine) : OpR X (compareOp .Lt) (rLtT K) := by subst h; exact op_ltT hu
theorem k_rep : OpR X (binaryOp .Mult) (rRepP K) := by subst h; exact op_repP
def rCatP (K : PySem.W.Frag) : R2 := fun x y H Q => ∃ a b xs ys, x = .ref a ∧ y = .ref b ∧ SqT K H a xs ∧ SqT K H b ys ∧ xs.length + ys.length ≤ sizeLine ∧ ∀ p H', Same H H' → SqT K H' p (xs ++ ys) → Q (.ref p) H'
theorem k_cat : OpR X (binaryOp .Add) (rCatP K) := by
  subst h
  intro pins s σ H x y v u Q I rx ry ⟨a, b, xs, ys, e1, e2, ha, hb, hz, q⟩
  refine op_catA pins s σ H x y v u Q I rx ry ⟨a, b, xs, ys, e1, e2, ha, hb, hz, fun z => ?_, fun _ z => ?_, fun _ _ p hp => q p _ (same_upd hp) (.inl (.inl upd_same))⟩
  · subst z
    exact q b H (Same.refl H) hb
  · subst z
    exact q a H (Same.refl H) (by rw [List.append_nil]; exact ha)
def rTupOf (K : PySem.W.Frag) : List V → Hp → VK → Prop := fun xs H Q => ∃ p ys, xs = [.ref p] ∧ SqL K H p ys ∧ ∀ l H', Same H H' → SqT K H' l ys → Q (.ref l) H'
theorem k_tupOf : CallR X (.type "tuple") (rTupOf K) := by
  subst h
  intro pins s σ H xs us Q I r ⟨p, ys, e, hs, q⟩
  exact call_tuple_of pins s σ H xs us Q I r ⟨p, ys, e, .inl ⟨hs, fun l hl => q l _ (same_upd hl) (.inl (.inl upd_same))⟩⟩
theorem k_isi : CallR X (.builtin "isinstance") (rIsi K) := by subst h; exact call_isi
theorem k_repr (hu : X.A.units + 64 < cLine) (hg : X.A.guards = some []) : CallR X (.builtin "repr") (rReprD K) := by subst h; exact cr_reprD hu hg
theorem k_maxDf (hc : X.calm = true) (hu : X.A.units + 64 < cLine) : CallRK X (.builtin "max") [Str.ofString "default"] (rMaxDf K) := by subst h; exact cr_maxDf hc hu
theorem k_slL : SlR X (rSlL K) := by subst h; exact sl_list
theorem k_getL : PGet X (gAtL K) := by subst h; exact get_listP
theorem k_tup {pos : Pos} {es : List Expr} {k : Nat} {t : TGs} {n : Nat} (hc : X.calm = true) (hp : PGs X es t) (hn : (assignEach es X.env).length = n := by rfl) (hst : (assignEach es X.env).findIdx? (·.1) = none := by rfl) : PG X (.Tuple es k pos) (gTup K n t) := by
  subst h
  exact pg_tup hc hp hn hst
theorem k_iL {tg l : Expr} {tl : TE} (hl : PE X l tl) : PI X tg l (iList K tl) := by subst h; exact pi_list hl
theorem k_iT {tg l : Expr} {tl : TE} (hl : PE X l tl) : PI X tg l (iTup K tl) := by subst h; exact pi_tup hl
theorem k_enum {e : Expr} {ta : TA} {p pos tpos : Pos} {elts : List Expr} {kk : Nat} (hg : Gl X "enumerate") (hm : X.mg "enumerate" = none) (ha : PA X [e] ta) (hs : starEach [e] X.env = [(false, eval e X.env)] := by rfl) :
    PI X (.Tuple elts kk tpos) (.Call (.Name "enumerate" p) [e] [] pos) (iEnumT K ta) := by subst h; exact pi_enumT hg hm ha hs
theorem k_zip {e e2 : Expr} {ta : TA} {p pos tpos : Pos} {elts : List Expr} {kk : Nat} (hg : Gl X "zip") (hm : X.mg "zip" = none) (ha : PA X [e, e2] ta)
    (hs : starEach [e, e2] X.env = (false, eval e X.env) :: starEach [e2] X.env := by rfl) (hpl : (backTo pos (starEach [e2] X.env)).any (·.1) = false := by rfl) :
    PI X (.Tuple elts kk tpos) (.Call (.Name "zip" p) [e, e2] [] pos) (iZipA K ta) := by subst h; exact pi_zipA hg hm ha hs hpl
theorem k_fld {e : Expr} {ta : TE} {f : Str} {pos : Pos} (he : PE X e ta) (hb : attributeBase e f X.env (eval e X.env) = eval e X.env) : PE X (.Attribute e f pos) (tFld K ta f) := by subst h; exact pe_fld he hb
end
end Tl
/-! every second item: a[::2], a[1::2]; list(a) -/
namespace Tl
open PySem PySem.Spec PyProof.Rows L2 RZ
def ev2 {T : Type} : List T → List T
  | [] => []
  | [a] => [a]
  | a :: _ :: r => a :: ev2 r
theorem ev2_at {T : Type} : ∀ (l : List T) (i : Nat), (ev2 l)[i]? = l[2 * i]?
  | [], i => by
    show ([] : List T)[i]? = _
    rw [List.getElem?_nil, List.getElem?_nil]
  | [a], 0 => rfl
  | [a], i + 1 => by
    rw [List.getElem?_eq_none (by show 1 ≤ i + 1; omega), List.getElem?_eq_none (by show 1 ≤ 2 * (i + 1); omega)]
  | a :: b :: r, 0 => rfl
  | a :: b :: r, i + 1 => by
    show (ev2 r)[i]? = _
    rw [ev2_at r i, show 2 * (i + 1) = 2 * i + 1 + 1 by omega, List.getElem?_cons_succ, List.getElem?_cons_succ]
theorem ev2_len {T : Type} : ∀ l : List T, (ev2 l).length = (l.length + 1) / 2
  | [] => by
    show 0 = (0 + 1) / 2
    decide
  | [a] => by
    show 1 = (1 + 1) / 2
    decide
  | a :: b :: r => by
    show (ev2 r).length + 1 = (r.length + 1 + 1 + 1) / 2
    rw [ev2_len r]
    omega
theorem pick2 {T : Type} : ∀ l : List T, ((List.range ((l.length + 1) / 2)).filterMap fun k => l[2 * k]?) = ev2 l
  | [] => by
    have e : (([] : List T).length + 1) / 2 = 0 := by
      show (0 + 1) / 2 = 0
      decide
    rw [e]
    rfl
  | [a] => by
    have e : ([a].length + 1) / 2 = 1 := by
      show (1 + 1) / 2 = 1
      decide
    rw [e]
    rfl
  | a :: b :: r => by
    have e : ((a :: b :: r).length + 1) / 2 = (r.length + 1) / 2 + 1 := by
      show (r.length + 1 + 1 + 1) / 2 = _
      omega
    rw [e, List.range_succ_eq_map, List.filterMap_cons, List.filterMap_map]
    show a :: _ = a :: ev2 r
    rw [← pick2 r]
    congr 1
theorem pick2_from {T : Type} (l : List T) (a : Nat) (ha : a ≤ l.length) : ((sliceRange (a : Int) (l.length : Int) 2).filterMap fun k => l[k]?) = ev2 (l.drop a) := by
  have c : (if (2 : Int) > 0 then (if (a : Int) < (l.length : Int) then ((l.length : Int) - a + 2 - 1) / 2 else 0) else (if (a : Int) > (l.length : Int) then ((a : Int) - l.length - 2 - 1) / (-2) else 0)).toNat = ((l.drop a).length + 1) / 2 := by
    rw [if_pos (by decide), List.length_drop]
    split <;> omega
  unfold sliceRange
  simp only []
  rw [c, List.filterMap_map, ← pick2 (l.drop a)]
  congr 1
  funext k
  show l[((a : Int) + 2 * (k : Int)).toNat]? = (l.drop a)[2 * k]?
  rw [List.getElem?_drop]
  congr 1
/-- a[::2] and a[1::2] -/
def rSlS (K : PySem.W.Frag) : V → Option Int → Hp → VK → Prop := fun x lo H Q => ∃ (p : Addr) (xs : List V) (j : Nat), x = .ref p ∧ SqL K H p xs ∧ (lo = none ∧ j = 0 ∨ lo = some 1 ∧ j = 1) ∧ 1 ≤ xs.length ∧ ∀ q, H q = none → Q (.ref q) (upd H q (.lst (ev2 (xs.drop j))))
def tSlS (K : PySem.W.Frag) (te : TE) (tl : TO) : TE := fun σ H Q => te σ H fun x H1 => tl σ H1 fun lo H2 => rSlS K x lo H2 Q
theorem ev2_vals {xs : List V} {us : List Value} (r : Vals xs us) : Vals (ev2 xs) (ev2 us) := by
  have g : ∀ (n : Nat) (xs : List V) (us : List Value), xs.length ≤ n → Vals xs us → Vals (ev2 xs) (ev2 us) := by
    intro n
    induction n with
    | zero =>
      intro xs us h r
      cases r with
      | nil => exact .nil
      | cons _ _ => simp at h
    | succ n ih =>
      intro xs us h r
      cases r with
      | nil => exact .nil
      | cons r1 t =>
        cases t with
        | nil => exact .cons r1 .nil
        | cons r2 t => exact .cons r1 (ih _ _ (by simp at h; omega) t)
  exact g _ _ _ (Nat.le_refl _) r
section
variable {X : Cx} {K : PySem.W.Frag} (hK : X.K = K)
include hK
theorem k_slS {e : Expr} {lo : Option Expr} {te : TE} {tl : TO} {kk : Nat} {p3 p2 pos : Pos} (ee : PE X e te) (el : PO X lo tl) : PE X (.Subscript e (.Slice lo none (some (.Constant (.int 2) kk p3)) p2) pos) (tSlS K te tl) := by
  subst hK
  constructor
  intro pins s σ H Q I want
  refine Subscript_ (thn (ee.run pins s σ H _ I want) fun v sa za => ?_)
  obtain ⟨x, Ha, Ia, rx, want⟩ := za
  refine wpAny_Slice (thn (el.run pins sa σ Ha _ Ia want) fun vl sb zb => ?_)
  obtain ⟨l, Hb, Ib, pl, want⟩ := zb
  rw [evalPart_none, evalPart_some]
  refine wpAny_pure ?_
  refine thn ((pe_int (X := X) (i := 2) (j := kk) (pos := p3)).run pins sb σ Hb (fun z Hz => z = .int 2 ∧ Hz = Hb) Ib ⟨rfl, rfl⟩) fun vs sc zc => ?_
  obtain ⟨z, Hc, Ic, rz, rfl, rfl⟩ := zc
  obtain ⟨tk, rfl⟩ := rz
  have Id : Inv X pins σ Hc { sc with heap := sc.heap.push { cls := .type "slice", data := .fields #[vl, .none, .int 2 tk] } } := Ic.kept (t' := sc.toks) fun b ob q => Heap.get?_push_of_some _ q
  obtain ⟨p, xs, j, rfl, hx, hj, h1, want⟩ := want
  cases rx
  obtain ⟨its, rv, ht, hz⟩ := Id.list hx
  have hlen := rv.length
  show wpAny (model X.prog X.w) X.A (subscriptTail e (.Slice lo none (some (.Constant (.int 2) kk p3)) p2) (.ref p) (.ref sc.heap.objs.size)) (EP X pins σ Q) X.xe { sc with heap := sc.heap.push { cls := .type "slice", data := .fields #[vl, .none, .int 2 tk] } }
  refine tail_any (ops := [.ref p, .ref sc.heap.objs.size]) ht.isList.typeIs slot_list_getitem.lookup ?_ (by with_unfolding_all rfl)
  refine wpAny_getItem_list_slice (st := some 2) ht.isList (Heap.IsSliceOf.new ..) pl .none (.int 2 tk) (by decide) ?_ (by rw [List.size_toArray] <;> omega)
  have b1 : (sliceBounds l none (some 2) its.length).1 = (j : Int) := by
    rcases hj with ⟨rfl, rfl⟩ | ⟨rfl, rfl⟩
    · rfl
    · show (if (2 : Int) > 0 then max 0 (min (if (1 : Int) < 0 then 1 + (its.length : Int) else 1) (its.length : Int)) else max (-1) (min (if (1 : Int) < 0 then 1 + (its.length : Int) else 1) ((its.length : Int) - 1))) = ((1 : Nat) : Int)
      rw [if_pos (by decide), if_neg (by decide)]
      omega
  have jl : j ≤ its.length := by rcases hj with ⟨_, rfl⟩ | ⟨_, rfl⟩ <;> omega
  have pk : slicePick its.toArray l none (some 2) = (ev2 (its.drop j)).toArray := by
    unfold slicePick
    rw [List.size_toArray, b1]
    show ((sliceRange (j : Int) (its.length : Int) 2).filterMap (its.toArray[·]?)).toArray = _
    rw [← pick2_from its j jl]
    congr 2
    funext k
    exact List.getElem?_toArray
  rw [pk]
  refine ⟨.ref _, _, Id.laid (t' := sc.toks) (o := .lst (ev2 (xs.drop j))) (fun b ob q => Heap.get?_push_of_some _ q) (Nat.le_refl _) ?_, rfl, want _ (Id.hok.fresh (Nat.le_refl _))⟩
  refine ⟨?_, ev2 (its.drop j), 0, ev2_vals (rv.drop j), Heap.get?_push_size _ rfl⟩
  rw [ev2_len, List.length_drop]
  omega
def rListOf (K : PySem.W.Frag) : List V → Hp → VK → Prop := fun xs H Q => ∃ p ys, xs = [.ref p] ∧ (SqL K H p ys ∨ SqT K H p ys) ∧ ∀ l, H l = none → Q (.ref l) (upd H l (.lst ys))
theorem k_listOf : CallR X (.type "list") (rListOf K) := by
  subst hK
  exact call_list_of
end
end Tl
/-! math.lcm; a walk over a list or a tuple, whichever it is -/
namespace Tl
open PySem PySem.Spec PyProof.Rows L2 RZ
def rLcm : List V → Hp → VK → Prop := fun vs H Q => ∃ a b : Nat, vs = [.int (a : Int), .int (b : Int)] ∧ a < 2 ^ 6000 ∧ b < 2 ^ 6000 ∧ Q (.int ((Nat.lcm a b : Nat) : Int)) H
section
variable {X : Cx}
theorem cr_lcm : CallR X (.builtin "math.lcm") rLcm := by
  intro pins s σ H vs us Q I r h
  obtain ⟨a, b, rfl, ha, hb, q⟩ := h
  obtain ⟨t, u, rfl⟩ := Vals.int2 r
  have e1 : (Nat.lcm 1 ((a : Int)).natAbs).lcm ((b : Int)).natAbs = Nat.lcm a b := by
    rw [PySem.W.mc_lcm_one, Int.natAbs_natCast, Int.natAbs_natCast]
  have e3 : ((1 : Nat)) ≤ 2 ^ 6000 := Nat.one_le_two_pow
  have e4 : ((1 : Nat)) < 2 ^ 6000 := Nat.one_lt_two_pow (by decide)
  have h1 : (max 1 ((a : Int)).natAbs).log2 ≤ 5999 := PySem.W.mg_log (by
    rw [Int.natAbs_natCast]
    show max 1 a < 2 ^ 6000
    generalize (2 : Nat) ^ 6000 = Z at ha e4
    omega)
  have h2 : (max ((a : Int)).natAbs ((b : Int)).natAbs).log2 ≤ 5999 := PySem.W.mg_log (by
    rw [Int.natAbs_natCast, Int.natAbs_natCast]
    show max a b < 2 ^ 6000
    generalize (2 : Nat) ^ 6000 = Z at ha hb
    omega)
  have h3 : Nat.lcm a b < 2 ^ 12000 := by
    refine Nat.lt_of_le_of_lt (PySem.W.mc_lcm_le a b) ?_
    rw [show (12000 : Nat) = 6000 + 6000 from rfl, Nat.pow_add]
    exact Nat.mul_lt_mul'' ha hb
  have hsz : ((((Nat.lcm 1 ((a : Int)).natAbs).lcm ((b : Int)).natAbs : Nat) : Int)).natAbs.log2 < bitsLine := by
    rw [e1, Int.natAbs_natCast]
    refine Nat.lt_of_le_of_lt (PySem.W.mg_log (k := 11999) h3) (by decide)
  refine call_function_meets PySem.W.MGF.kind_lcm PySem.W.MGF.plain_lcm PySem.W.MGF.entry_lcm (PySem.W.MGF.args_lcm _ _) (PySem.W.mg_run_lcm (a : Int) t (b : Int) u (by omega) (by omega) hsz).meets ?_
  rw [e1]
  exact ⟨.int _, H, I.tok _, ⟨_, rfl⟩, q⟩
end
theorem KT.updL {K : PySem.W.Frag} {H : Hp} {e : Addr} {xs ys : List V} (h : H e = some (.lst xs)) : KT K H (upd H e (.lst ys)) := fun a zs q => by
  rcases q with (q | ⟨o, q⟩) | q
  · exact .inl (.inl (by rw [upd_ne (ne_of q h (by intro z; cases z))]; exact q))
  · exact .inl (.inr ⟨o, by rw [upd_ne (ne_of q h (by intro z; cases z))]; exact q⟩)
  · exact .inr q
def iLT (K : PySem.W.Frag) (tl : TE) : TI := fun σ H R => tl σ H fun x H1 => ∃ a xs, x = .ref a ∧ (SqL K H1 a xs ∨ SqT K H1 a xs) ∧ ∀ (J : It) (G : Hp → Prop), Walk J xs.length G (YAt xs) → (∀ H', Same H1 H' → G H') → R J H1
theorem k_iLT {X : Cx} {K : PySem.W.Frag} (hK : X.K = K) {tg l : Expr} {tl : TE} (hl : PE X l tl) : PI X tg l (iLT K tl) := by
  subst hK
  refine ⟨fun pins s σ H R I h => ?_⟩
  refine thn (hl.run pins s σ H _ I h) fun v s1 ⟨x, H1, I1, r1, q1⟩ => ?_
  obtain ⟨a, xs, e, hq, q⟩ := q1
  subst e
  cases r1
  rcases hq with hq | hq
  · obtain ⟨its, rv, p, hz⟩ := I1.list hq
    refine wpAny_pyIter_list p.isList ?_
    refine ⟨s1.heap.objs.size, [s1.heap.objs.size], _, _, H1, rfl, I1.kept (t' := s1.toks) fun b o e => Heap.get?_push_of_some _ e, turn_list a _, ⟨_, Heap.get?_push_size _ rfl, rfl, rfl⟩, fun b hb => ?_, q _ _ walk_list fun H' s => s.seq hq⟩
    have e : b = s1.heap.objs.size := by simpa using hb
    subst e
    exact I1.fpOk (Nat.le_refl _) (I1.hok.fresh (Nat.le_refl _))
  · obtain ⟨its, rv, p, hz⟩ := I1.tuple hq
    refine wpAny_pyIter_tuple (show s1.heap.IsTuple a its.toArray from p) ?_
    refine ⟨s1.heap.objs.size, [s1.heap.objs.size], _, _, H1, rfl, I1.kept (t' := s1.toks) fun b o e => Heap.get?_push_of_some _ e, turn_tuple a _, ⟨_, Heap.get?_push_size _ rfl, rfl, rfl⟩, fun b hb => ?_, q _ _ walk_tup fun H' s => Same.kt s _ _ hq⟩
    have e : b = s1.heap.objs.size := by simpa using hb
    subst e
    exact I1.fpOk (Nat.le_refl _) (I1.hok.fresh (Nat.le_refl _))
/-- xs[i] of a list or a tuple, whichever it is -/
def rIxLT (K : PySem.W.Frag) : V → V → Hp → VK → Prop := fun x y H Q => ∃ (p : Addr) (xs : List V) (i : Int) (v : V), x = .ref p ∧ y = .int i ∧ (SqL K H p xs ∨ SqT K H p xs) ∧ atI xs i = some v ∧ Q v H
theorem k_ixLT {X : Cx} {K : PySem.W.Frag} (hK : X.K = K) : IxR X (rIxLT K) := by
  subst hK
  intro value slice pins s σ H x y v u Q I rx ry h hs
  obtain ⟨p, xs, j, z, e1, e2, hq, he, q⟩ := h
  rcases hq with hq | hq
  · exact ix_list value slice pins s σ H x y v u Q I rx ry ⟨p, xs, j, z, e1, e2, hq, he, q⟩ hs
  · exact ix_tup value slice pins s σ H x y v u Q I rx ry ⟨p, xs, j, z, e1, e2, hq, he, q⟩ hs
def iEnumLT (K : PySem.W.Frag) (ta : TA) : TI := fun σ H R => ta σ H fun vs H1 => ∃ a xs, vs = [.ref a] ∧ (SqL K H1 a xs ∨ SqT K H1 a xs) ∧ ∀ (J : It) (G : Hp → Prop), Walk J xs.length G (YPair (fun i => some (.int (i : Nat))) (fun i => xs[i]?)) → (∀ H', Same H1 H' → G H') → R J H1
theorem k_enumLT {X : Cx} {K : PySem.W.Frag} (hK : X.K = K) {e : Expr} {ta : TA} {p pos tpos : Pos} {elts : List Expr} {kk : Nat} (hg : Gl X "enumerate") (hm : X.mg "enumerate" = none) (ha : PA X [e] ta) (hs : starEach [e] X.env = [(false, eval e X.env)] := by rfl) :
    PI X (.Tuple elts kk tpos) (.Call (.Name "enumerate" p) [e] [] pos) (iEnumLT K ta) := by
  subst hK
  refine ⟨fun pins s σ H R I h => Call_ (ld_blt I hg hm boot_enumerate (PyProof.Rows.callWith_type1 (thn (ha.run pos pins s σ H _ I h) fun us s1 hq => ?_) hs rfl))⟩
  obtain ⟨vs, H1, I1, r1, a, xs, rfl, hT, q⟩ := hq
  rw [Vals.ref1 r1]
  rcases hT with hT | hT
  · obtain ⟨its, rv, p', hz⟩ := I1.list hT
    refine call_enumerate_list p'.isList fun h' he hit hsz hk => wpAny_pyIter_enum he ?_
    have I2 : Inv X pins σ H1 { s1 with heap := h' } := I1.kept (t' := s1.toks) hk
    refine ⟨s1.heap.objs.size + 1, [s1.heap.objs.size + 1, s1.heap.objs.size], _, _, H1, rfl, I2, turn_enum a (s1.heap.objs.size + 1) s1.heap.objs.size, ⟨⟨.none, he⟩, hit, Nat.succ_ne_self _⟩, fun b hb => ?_, q _ _ walk_enum fun H' s => s.seq hT⟩
    have e' : b = s1.heap.objs.size + 1 ∨ b = s1.heap.objs.size := by simpa using hb
    have hle : s1.heap.objs.size ≤ b := by
      rcases e' with z | z
      · rw [z]; exact Nat.le_add_right _ _
      · rw [z]; exact Nat.le_refl _
    exact I1.fpOk hle (I1.hok.fresh hle)
  · obtain ⟨its, rv, pt, hz⟩ := I1.tuple hT
    have hat : a < s1.heap.objs.size := by
      obtain ⟨o, ho, _⟩ := id pt
      exact Heap.lt_size ho
    refine enum_tup (show s1.heap.IsTuple a its.toArray from pt) fun h' he hit hk => wpAny_pyIter_enum he ?_
    have I2 : Inv X pins σ H1 { s1 with heap := h' } := I1.kept (t' := s1.toks) hk
    refine ⟨_, [s1.heap.objs.size + 1, s1.heap.objs.size], _, _, H1, rfl, I2, turn_enumT a (s1.heap.objs.size + 1) s1.heap.objs.size, ⟨⟨.none, he⟩, hit, Nat.succ_ne_self _, Nat.ne_of_gt (Nat.lt_succ_of_lt hat), Nat.ne_of_lt hat⟩, fun b hb => ?_, q _ _ walk_enumT fun H' s => Same.kt s _ _ hT⟩
    have hle : s1.heap.objs.size ≤ b := by
      rcases (show b = s1.heap.objs.size + 1 ∨ b = s1.heap.objs.size by simpa using hb) with z | z
      · rw [z]; exact Nat.le_succ _
      · rw [z]; exact Nat.le_refl _
    exact I1.fpOk hle (I1.hok.fresh hle)
/-! comprehensions whose items are told one by one -/
theorem lc_td {K : PySem.W.Frag} {J : It} {n : Nat} {G : Hp → Prop} {Y : Nat → Hp → V → Hp → Prop} (w : Walk J n G Y) {g : TG} {tt : TT} {te : TE} {vs : List Nat} {σ : L2.St} {H : Hp} {T : Addr} {Qd : Hp → Prop} (es : List PyData) (hl : es.length = n) (hn : n ≤ 3000) (hT : H T = none) (hG : ∀ H', Same H H' → G H')
    (hs : ∀ (i : Nat) (x : V) (e : PyData) (H2 H3 : Hp) (Qy : V → Hp → Prop) (N : Hp → Prop), es[i]? = some e → Same H H2 → Y i H2 x H3 → (∀ y H5, Same H2 H5 → Td K H5 y e → Qy y H5) → g x (wipe σ vs) H3 fun σ2 H4 => wipe σ2 vs = wipe σ vs ∧ tt σ2 H4 fun b H5 => if b = true then te σ2 H5 Qy else N H5)
    (hd : ∀ H2 ws, H2 T = some (.lst ws) → TdAll K H2 ws es → Same H H2 → Qd H2) :
    ∃ W : Nat → Nat → Hp → Prop, (∃ m, W 0 m (upd H T (.lst []))) ∧ ∀ i m H, W i m H →
      (J.stop i H ∧ Qd H) ∨ (J.go i H ∧ ∃ Nx : Hp → Prop, (∀ H', Nx H' → ∃ m', m' < m ∧ W (i + 1) m' H') ∧ ∀ x H', J.yld i H x H' → g x (wipe σ vs) H' fun σ2 H2 => wipe σ2 vs = wipe σ vs ∧ tt σ2 H2 fun b H3 =>
        if b = true then te σ2 H3 fun y H4 => ∃ acc, H4 T = some (.lst acc) ∧ acc.length < sizeLine ∧ Nx (upd H4 T (.lst (acc ++ [y]))) else Nx H3) := by
  refine lc_it w (fun i H2 => ∃ ws : List V, H2 T = some (.lst ws) ∧ TdAll K H2 ws (es.take i) ∧ Same H H2) ⟨[], upd_same, .nil, same_upd hT⟩ (fun i H2 _ h => hG _ h.choose_spec.2.2) ?_ ?_
  · rintro i x H2 H3 hi ⟨ws, h2, t2, s2⟩ y
    have he : es[i]? = some (es[i]'(by omega)) := List.getElem?_eq_getElem _
    refine hs i x _ H2 H3 _ _ he s2 y fun v H5 s5 tv => ?_
    have h5 := s5 _ _ h2
    have kT : KT K H5 (upd H5 T (.lst (ws ++ [v]))) := KT.updL h5
    refine ⟨ws, h5, ?_, ws ++ [v], upd_same, ?_, fun c o z => ?_⟩
    · rw [t2.len, List.length_take]
      have : (3000 : Nat) < sizeLine := by decide
      omega
    · rw [List.take_add_one, he]
      exact (t2.keep ((Same.kt s5).trans kT)).app (.cons (tv.keep kT) .nil)
    · rw [upd_ne (ne_of_none z hT)]
      exact s5 _ _ (s2 _ _ z)
  · rintro H2 ⟨ws, h2, t2, s2⟩
    rw [List.take_of_length_le (by omega)] at t2
    exact hd H2 ws h2 t2 s2
end Tl
namespace Tl
open PySem PySem.Spec PyProof.Rows L2 RZ
def topS (i : Nat) : Stmt := PySem.Challenge.pw_tellsless_k41_whole_houses_tossed_and_hi.main.body.getD i (.Pass ⟨0, 0, 0, 0⟩)
abbrev s_BadHouse_init : Stmt := inClass (topS 3) 0
theorem sc_BadHouse_init : FnScope ["self", "place"] ["self", "place"] (defScope s_BadHouse_init) := ⟨rfl, rfl, rfl, by decide +kernel, rfl, by decide +kernel, by decide +kernel⟩
abbrev s_is_integral : Stmt := topS 10
theorem sc_is_integral : FnScope ["thing"] ["thing"] (defScope s_is_integral) := ⟨rfl, rfl, rfl, by decide +kernel, rfl, by decide +kernel, by decide +kernel⟩
abbrev s_is_number : Stmt := topS 11
theorem sc_is_number : FnScope ["thing", "least", "most"] ["thing", "least", "most"] (defScope s_is_number) := ⟨rfl, rfl, rfl, by decide +kernel, rfl, by decide +kernel, by decide +kernel⟩
abbrev s_is_fraction : Stmt := topS 12
theorem sc_is_fraction : FnScope ["thing", "top", "bottom"] ["thing"] (defScope s_is_fraction) := ⟨rfl, rfl, rfl, by decide +kernel, rfl, by decide +kernel, by decide +kernel⟩
abbrev s_is_chance : Stmt := topS 13
theorem sc_is_chance : FnScope ["thing"] ["thing"] (defScope s_is_chance) := ⟨rfl, rfl, rfl, by decide +kernel, rfl, by decide +kernel, by decide +kernel⟩
abbrev s_is_share : Stmt := topS 14
theorem sc_is_share : FnScope ["thing"] ["thing"] (defScope s_is_share) := ⟨rfl, rfl, rfl, by decide +kernel, rfl, by decide +kernel, by decide +kernel⟩
abbrev s_are_chances : Stmt := topS 15
theorem sc_are_chances : FnScope ["thing", "many", "chance"] ["thing", "many"] (defScope s_are_chances) := ⟨rfl, rfl, rfl, by decide +kernel, rfl, by decide +kernel, by decide +kernel⟩
abbrev s_reduced : Stmt := topS 16
theorem sc_reduced : FnScope ["top", "bottom", "common"] ["top", "bottom"] (defScope s_reduced) := ⟨rfl, rfl, rfl, by decide +kernel, rfl, by decide +kernel, by decide +kernel⟩
abbrev s_added : Stmt := topS 17
theorem sc_added : FnScope ["first", "second"] ["first", "second"] (defScope s_added) := ⟨rfl, rfl, rfl, by decide +kernel, rfl, by decide +kernel, by decide +kernel⟩
abbrev s_multiplied : Stmt := topS 18
theorem sc_multiplied : FnScope ["first", "second"] ["first", "second"] (defScope s_multiplied) := ⟨rfl, rfl, rfl, by decide +kernel, rfl, by decide +kernel, by decide +kernel⟩
abbrev s_less : Stmt := topS 19
theorem sc_less : FnScope ["fraction"] ["fraction"] (defScope s_less) := ⟨rfl, rfl, rfl, by decide +kernel, rfl, by decide +kernel, by decide +kernel⟩
abbrev s_common_bottom : Stmt := topS 20
theorem sc_common_bottom : FnScope ["fractions", "bottom", "fraction"] ["fractions"] (defScope s_common_bottom) := ⟨rfl, rfl, rfl, by decide +kernel, rfl, by decide +kernel, by decide +kernel⟩
abbrev s_times_whole : Stmt := topS 21
theorem sc_times_whole : FnScope ["fraction", "whole"] ["fraction", "whole"] (defScope s_times_whole) := ⟨rfl, rfl, rfl, by decide +kernel, rfl, by decide +kernel, by decide +kernel⟩
abbrev s_total : Stmt := topS 22
theorem sc_total : FnScope ["fractions", "whole", "fraction"] ["fractions"] (defScope s_total) := ⟨rfl, rfl, rfl, by decide +kernel, rfl, by decide +kernel, by decide +kernel⟩
abbrev s_added_weights : Stmt := topS 23
theorem sc_added_weights : FnScope ["first", "second", "one", "other"] ["first", "second"] (defScope s_added_weights) := ⟨rfl, rfl, rfl, by decide +kernel, rfl, by decide +kernel, by decide +kernel⟩
abbrev s_scaled_weights : Stmt := topS 24
theorem sc_scaled_weights : FnScope ["share", "weights", "weight"] ["share", "weights"] (defScope s_scaled_weights) := ⟨rfl, rfl, rfl, by decide +kernel, rfl, by decide +kernel, by decide +kernel⟩
abbrev s_total_weights : Stmt := topS 25
theorem sc_total_weights : FnScope ["rows", "worlds", "weights", "world"] ["rows", "worlds"] (defScope s_total_weights) := ⟨rfl, rfl, rfl, by decide +kernel, rfl, by decide +kernel, by decide +kernel⟩
abbrev s_is_word : Stmt := topS 32
theorem sc_is_word : FnScope ["thing", "number"] ["thing"] (defScope s_is_word) := ⟨rfl, rfl, rfl, by decide +kernel, rfl, by decide +kernel, by decide +kernel⟩
abbrev s_is_answer : Stmt := topS 33
theorem sc_is_answer : FnScope ["thing", "worlds"] ["thing", "worlds"] (defScope s_is_answer) := ⟨rfl, rfl, rfl, by decide +kernel, rfl, by decide +kernel, by decide +kernel⟩
abbrev s_is_ascending : Stmt := topS 34
theorem sc_is_ascending : FnScope ["rows", "low", "high"] ["rows"] (defScope s_is_ascending) := ⟨rfl, rfl, rfl, by decide +kernel, rfl, by decide +kernel, by decide +kernel⟩
abbrev s_check_tree : Stmt := topS 35
theorem sc_check_tree : FnScope ["worlds", "tree"] ["worlds", "tree"] (defScope s_check_tree) := ⟨rfl, rfl, rfl, by decide +kernel, rfl, by decide +kernel, by decide +kernel⟩
abbrev s_check_node : Stmt := topS 36
theorem sc_check_node : FnScope ["node", "place", "ahead", "number", "question"] ["node", "place", "ahead"] (defScope s_check_node) := ⟨rfl, rfl, rfl, by decide +kernel, rfl, by decide +kernel, by decide +kernel⟩
abbrev s_check_question : Stmt := topS 37
theorem sc_check_question : FnScope ["question", "place", "ahead", "number", "answer"] ["question", "place", "ahead"] (defScope s_check_question) := ⟨rfl, rfl, rfl, by decide +kernel, rfl, by decide +kernel, by decide +kernel⟩
abbrev s_answers_in : Stmt := topS 38
theorem sc_answers_in : FnScope ["node", "many", "question", "answer"] ["node"] (defScope s_answers_in) := ⟨rfl, rfl, rfl, by decide +kernel, rfl, by decide +kernel, by decide +kernel⟩
abbrev s_rounds_in : Stmt := topS 39
theorem sc_rounds_in : FnScope ["node", "question", "answer"] ["node"] (defScope s_rounds_in) := ⟨rfl, rfl, rfl, by decide +kernel, rfl, by decide +kernel, by decide +kernel⟩
abbrev s_outline : Stmt := topS 40
theorem sc_outline : FnScope ["node", "answer", "question"] ["node"] (defScope s_outline) := ⟨rfl, rfl, rfl, by decide +kernel, rfl, by decide +kernel, by decide +kernel⟩
abbrev s_House_init : Stmt := inClass (topS 44) 0
theorem sc_House_init : FnScope ["self", "worlds", "tree"] ["self", "worlds", "tree"] (defScope s_House_init) := ⟨rfl, rfl, rfl, by decide +kernel, rfl, by decide +kernel, by decide +kernel⟩
abbrev s_House_eq : Stmt := inClass (topS 44) 1
theorem sc_House_eq : FnScope ["self", "other"] ["self", "other"] (defScope s_House_eq) := ⟨rfl, rfl, rfl, by decide +kernel, rfl, by decide +kernel, by decide +kernel⟩
abbrev s_made_house : Stmt := topS 45
theorem sc_made_house : FnScope ["worlds", "tree", "house"] ["worlds", "tree"] (defScope s_made_house) := ⟨rfl, rfl, rfl, by decide +kernel, rfl, by decide +kernel, by decide +kernel⟩
abbrev s_check_alike : Stmt := topS 46
theorem sc_check_alike : FnScope ["house", "other"] ["house", "other"] (defScope s_check_alike) := ⟨rfl, rfl, rfl, by decide +kernel, rfl, by decide +kernel, by decide +kernel⟩
abbrev s_is_shaped : Stmt := topS 47
theorem sc_is_shaped : FnScope ["house", "other"] ["house", "other"] (defScope s_is_shaped) := ⟨rfl, rfl, rfl, by decide +kernel, rfl, by decide +kernel, by decide +kernel⟩
abbrev s_check_part : Stmt := topS 49
theorem sc_check_part : FnScope ["thing"] ["thing"] (defScope s_check_part) := ⟨rfl, rfl, rfl, by decide +kernel, rfl, by decide +kernel, by decide +kernel⟩
abbrev s_rest_of : Stmt := topS 50
theorem sc_rest_of : FnScope ["share"] ["share"] (defScope s_rest_of) := ⟨rfl, rfl, rfl, by decide +kernel, rfl, by decide +kernel, by decide +kernel⟩
abbrev s_scaled_node : Stmt := topS 51
theorem sc_scaled_node : FnScope ["share", "node", "word", "weights", "behind", "question"] ["share", "node"] (defScope s_scaled_node) := ⟨rfl, rfl, rfl, by decide +kernel, rfl, by decide +kernel, by decide +kernel⟩
abbrev s_tossed : Stmt := topS 52
theorem sc_tossed : FnScope ["share", "house", "other", "sure", "question", "number", "part", "tree"] ["share", "house", "other"] (defScope s_tossed) := ⟨rfl, rfl, rfl, by decide +kernel, rfl, by decide +kernel, by decide +kernel⟩
abbrev s_hidden_node : Stmt := topS 53
theorem sc_hidden_node : FnScope ["share", "rest", "node", "other", "first", "second", "question", "other_question"] ["share", "rest", "node", "other"] (defScope s_hidden_node) := ⟨rfl, rfl, rfl, by decide +kernel, rfl, by decide +kernel, by decide +kernel⟩
abbrev s_hidden : Stmt := topS 54
theorem sc_hidden : FnScope ["share", "house", "other"] ["share", "house", "other"] (defScope s_hidden) := ⟨rfl, rfl, rfl, by decide +kernel, rfl, by decide +kernel, by decide +kernel⟩
abbrev s_law_bag : Stmt := topS 56
theorem sc_law_bag : FnScope ["script", "seed", "cell", "great", "always"] ["script"] (defScope s_law_bag) := ⟨rfl, rfl, rfl, by decide +kernel, rfl, by decide +kernel, by decide +kernel⟩
abbrev s_law_pick : Stmt := topS 57
theorem sc_law_pick : FnScope ["bag", "many", "great", "digit", "number"] ["bag", "many"] (defScope s_law_pick) := ⟨rfl, rfl, rfl, by decide +kernel, rfl, by decide +kernel, by decide +kernel⟩
abbrev s_law_some : Stmt := topS 58
theorem sc_law_some : FnScope ["bag", "things"] ["bag", "things"] (defScope s_law_some) := ⟨rfl, rfl, rfl, by decide +kernel, rfl, by decide +kernel, by decide +kernel⟩
abbrev s_law_common : Stmt := topS 59
theorem sc_law_common : FnScope ["one", "other"] ["one", "other"] (defScope s_law_common) := ⟨rfl, rfl, rfl, by decide +kernel, rfl, by decide +kernel, by decide +kernel⟩
abbrev s_law_low : Stmt := topS 60
theorem sc_law_low : FnScope ["top", "bottom", "common"] ["top", "bottom"] (defScope s_law_low) := ⟨rfl, rfl, rfl, by decide +kernel, rfl, by decide +kernel, by decide +kernel⟩
abbrev s_law_plus : Stmt := topS 61
theorem sc_law_plus : FnScope ["one", "other"] ["one", "other"] (defScope s_law_plus) := ⟨rfl, rfl, rfl, by decide +kernel, rfl, by decide +kernel, by decide +kernel⟩
abbrev s_law_times : Stmt := topS 62
theorem sc_law_times : FnScope ["one", "other"] ["one", "other"] (defScope s_law_times) := ⟨rfl, rfl, rfl, by decide +kernel, rfl, by decide +kernel, by decide +kernel⟩
abbrev s_law_total : Stmt := topS 63
theorem sc_law_total : FnScope ["parts", "found", "part"] ["parts"] (defScope s_law_total) := ⟨rfl, rfl, rfl, by decide +kernel, rfl, by decide +kernel, by decide +kernel⟩
abbrev s_law_shares : Stmt := topS 64
theorem sc_law_shares : FnScope ["bag", "many", "least", "parts", "k", "part"] ["bag", "many", "least"] (defScope s_law_shares) := ⟨rfl, rfl, rfl, by decide +kernel, rfl, by decide +kernel, by decide +kernel⟩
abbrev s_law_question : Stmt := topS 65
theorem sc_law_question : FnScope ["bag", "worlds", "ahead", "rounds", "left", "many", "rows", "world", "found", "k", "word", "weights"] ["bag", "worlds", "ahead", "rounds", "left"] (defScope s_law_question) := ⟨rfl, rfl, rfl, by decide +kernel, rfl, by decide +kernel, by decide +kernel⟩
abbrev s_law_node : Stmt := topS 66
theorem sc_law_node : FnScope ["bag", "worlds", "ahead", "rounds", "left", "k"] ["bag", "worlds", "ahead", "rounds", "left"] (defScope s_law_node) := ⟨rfl, rfl, rfl, by decide +kernel, rfl, by decide +kernel, by decide +kernel⟩
abbrev s_law_tree : Stmt := topS 67
theorem sc_law_tree : FnScope ["bag", "worlds", "rounds", "answers", "ahead", "left", "some", "k"] ["bag", "worlds", "rounds", "answers"] (defScope s_law_tree) := ⟨rfl, rfl, rfl, by decide +kernel, rfl, by decide +kernel, by decide +kernel⟩
abbrev s_law_int : Stmt := topS 68
theorem sc_law_int : FnScope ["thing", "least", "most"] ["thing", "least", "most"] (defScope s_law_int) := ⟨rfl, rfl, rfl, by decide +kernel, rfl, by decide +kernel, by decide +kernel⟩
abbrev s_law_deep : Stmt := topS 69
theorem sc_law_deep : FnScope ["bag", "found", "turn"] ["bag"] (defScope s_law_deep) := ⟨rfl, rfl, rfl, by decide +kernel, rfl, by decide +kernel, by decide +kernel⟩
abbrev s_law_paths : Stmt := topS 70
theorem sc_law_paths : FnScope ["node", "path", "found", "number", "at"] ["node", "path"] (defScope s_law_paths) := ⟨rfl, rfl, rfl, by decide +kernel, rfl, by decide +kernel, by decide +kernel⟩
abbrev s_law_walked : Stmt := topS 71
theorem sc_law_walked : FnScope ["worlds", "tree", "path", "weights", "node", "number", "at"] ["worlds", "tree", "path"] (defScope s_law_walked) := ⟨rfl, rfl, rfl, by decide +kernel, rfl, by decide +kernel, by decide +kernel⟩
abbrev s_law_again : Stmt := topS 72
theorem sc_law_again : FnScope ["bag", "worlds", "node", "ahead", "found", "question", "rows", "world", "answers", "a", "word", "weights", "behind", "here"] ["bag", "worlds", "node", "ahead"] (defScope s_law_again) := ⟨rfl, rfl, rfl, by decide +kernel, rfl, by decide +kernel, by decide +kernel⟩
abbrev s_law_shape : Stmt := topS 73
theorem sc_law_shape : FnScope ["node", "answer", "question"] ["node"] (defScope s_law_shape) := ⟨rfl, rfl, rfl, by decide +kernel, rfl, by decide +kernel, by decide +kernel⟩
abbrev s_law_is_share : Stmt := topS 74
theorem sc_law_is_share : FnScope ["thing", "one"] ["thing"] (defScope s_law_is_share) := ⟨rfl, rfl, rfl, by decide +kernel, rfl, by decide +kernel, by decide +kernel⟩
abbrev s_law_word : Stmt := topS 75
theorem sc_law_word : FnScope ["which", "share", "house", "other", "word", "told", "e"] ["which", "share", "house", "other"] (defScope s_law_word) := ⟨rfl, rfl, rfl, by decide +kernel, rfl, by decide +kernel, by decide +kernel⟩
abbrev s_law_is_tossed : Stmt := topS 76
theorem sc_law_is_tossed : FnScope ["worlds", "share", "trees", "told", "parts", "answer", "side", "behind", "path", "node", "due", "one"] ["worlds", "share", "trees", "told"] (defScope s_law_is_tossed) := ⟨rfl, rfl, rfl, by decide +kernel, rfl, by decide +kernel, by decide +kernel⟩
abbrev s_law_is_hidden : Stmt := topS 77
theorem sc_law_is_hidden : FnScope ["worlds", "share", "trees", "told", "rest", "path", "node", "first", "second", "tree", "due", "one", "two"] ["worlds", "share", "trees", "told"] (defScope s_law_is_hidden) := ⟨rfl, rfl, rfl, by decide +kernel, rfl, by decide +kernel, by decide +kernel⟩
abbrev s_law : Stmt := topS 78
theorem sc_law : FnScope ["script", "bag", "turn", "worlds", "first", "second", "odd", "shares", "share", "house", "other", "shaped", "right", "strange", "which"] ["script"] (defScope s_law) := ⟨rfl, rfl, rfl, by decide +kernel, rfl, by decide +kernel, by decide +kernel⟩
end Tl
namespace Tl
open PySem PySem.Spec PyProof.Rows L2 RZ
/-- a def of the text as it stands behind the top -/
structure Dn (K : PySem.W.Frag) (mg : Str → Option Value) (x : Str) (st : Stmt) (ps : List Str) (f : Addr) (fd : FuncData) : Prop where
  F : Fun K x x st f fd
  b : Binds K fd ps []
  m : mg x = some (.ref f)
/-- the built-in names that the text uses -/
structure Blt (mg : Str → Option Value) : Prop where
  len : mg "len" = none
  int : mg "int" = none
  abs : mg "abs" = none
  sum : mg "sum" = none
  range : mg "range" = none
  repr : mg "repr" = none
  isinstance : mg "isinstance" = none
  any : mg "any" = none
  all : mg "all" = none
  tuple : mg "tuple" = none
  list : mg "list" = none
  zip : mg "zip" = none
  enumerate : mg "enumerate" = none
  max : mg "max" = none
  bool : mg "bool" = none
def spPick : Sp := fun vs H Q _ => ∃ (b g : Addr) (m : Int), vs = [.ref b, .int m] ∧ Bag H b g ∧ 0 < m ∧ m < 1000000 ∧
  ∀ (r : Int) (H' : Hp), 0 ≤ r → r < m → Bag H' b g → Frm b g H H' → Q (.int r) H'
theorem Bag.mk2 {H : Hp} {b g : Addr} {s c : Int} {al : V} {gs : List Int} (ne : b ≠ g) (hal : al = .non ∨ ∃ n, al = .int n) (h1 : H b = some (.lst [.int s, .int c, .ref g, al])) (h2 : H g = some (.lst (gs.map V.int))) (h3 : gs.length ≤ 63) : Bag H b g :=
  ⟨ne, ⟨s, c, al, h1, hal⟩, ⟨gs, h2, h3⟩⟩
section
variable {P : Program} {w : World} {K : PySem.W.Frag} {mg : Str → Option Value} {base : Heap}
theorem ok_law_pick {f : Addr} {fd : FuncData} (D : Dn K mg "_law_pick" s_law_pick ["bag", "many"] f fd) (B : Blt mg) : FnOk P w K mg base CX0 1 f fd ["bag", "many"] spPick := by
  refine D.F.ok sc_law_pick (fun vs H Q E h => ?_) (fun cdv A outer s H vs Q E hr h => ?_)
  · obtain ⟨b, g, m, rfl, _⟩ := h
    rfl
  obtain ⟨b, g, m, rfl, hB, hm0, hm1, q⟩ := h
  have nd := sc_law_pick.nd
  refine ⟨_, (pss_cons (ps_if (pt_cmpR op_notN (pe_ix (k_ixL (K := K) rfl) (pv 0) pe_int (fun _ _ => rfl)) pe_non (nomark _)) (pss_one (ps_ret (pe_op op_mod (pe_callTy call_int1 (by rfl) B.int (by decide +kernel) (pa_cons (pe_ix (k_ixL (K := K) rfl) (pv 0) pe_int (fun _ _ => rfl)) pa_nil)) (pv 1)))) pss_nil)
      (pss_cons (ps_asg (pe_op op_add (pe_ix (k_ixL (K := K) rfl) (pv 0) pe_int (fun _ _ => rfl)) pe_int) (pg_sub (pv 0) pe_int set_list))
      (pss_cons (ps_set (i := 2) nd rfl (.inl rfl) (pe_ix (k_ixL (K := K) rfl) (pv 0) pe_int (fun _ _ => rfl)))
      (pss_cons (ps_if (pt_cmpR op_gt (pe_callB (k_len (K := K) rfl) (by rfl) B.len PySem.boot_len (pa_cons (pv 2) pa_nil)) pe_int (nomark _)) (pss_cons (ps_set (i := 3) nd rfl (.inl rfl) (pe_op op_mod (pe_callTy call_int1 (by rfl) B.int (by decide +kernel) (pa_cons (pe_ix (k_ixL (K := K) rfl) (pv 2) pe_int (fun _ _ => rfl)) pa_nil)) (pv 1)))
      (pss_cons (ps_asg (pe_op op_fdivW (pe_callTy call_int1 (by rfl) B.int (by decide +kernel) (pa_cons (pe_ix (k_ixL (K := K) rfl) (pv 2) pe_int (fun _ _ => rfl)) pa_nil)) (pv 1)) (pg_sub (pv 2) pe_int set_list))
      (pss_cons (ps_if (pt_cmpR op_eq (pe_ix (k_ixL (K := K) rfl) (pv 2) pe_int (fun _ _ => rfl)) pe_int (nomark _)) (pss_one (ps_expr (pe_bm PySem.F.plainAttrs_list PySem.F.slot_list_pop PySem.F.type_list_pop mt_popAt (pv 2) (pa_cons pe_int pa_nil)))) pss_nil)
      (pss_one (ps_ret (pv 3)))))) pss_nil)
      (pss_cons (ps_set (i := 4) nd rfl (.inl rfl) (pe_op op_mod (pe_callTy call_int1 (by rfl) B.int (by decide +kernel) (pa_cons (pe_op op_mul (pe_op op_add (pe_ix (k_ixL (K := K) rfl) (pv 0) pe_int (fun _ _ => rfl)) (pe_op op_mul pe_int (pe_ix (k_ixL (K := K) rfl) (pv 0) pe_int (fun _ _ => rfl)))) pe_int) pa_nil)) pe_int))
      (pss_cons (ps_set (i := 4) nd rfl (.inl rfl) (pe_op op_mod (pe_callTy call_int1 (by rfl) B.int (by decide +kernel) (pa_cons (pe_op op_mul (pv 4) (pe_op op_add (pe_op op_fdivW (pv 4) pe_int) pe_int)) pa_nil)) pe_int))
      (pss_cons (ps_set (i := 4) nd rfl (.inl rfl) (pe_op op_mod (pe_callTy call_int1 (by rfl) B.int (by decide +kernel) (pa_cons (pe_op op_mul (pv 4) (pe_op op_add (pe_op op_fdivW (pv 4) pe_int) pe_int)) pa_nil)) pe_int))
      (pss_one (ps_ret (pe_op op_mod (pe_callTy call_int1 (by rfl) B.int (by decide +kernel) (pa_cons (pe_op op_fdivW (pv 4) pe_int) pa_nil)) (pv 1))))))))))), ?_⟩
  obtain ⟨s0, c0, al, hb, hal⟩ := hB.hb
  obtain ⟨gs, hg, hgl⟩ := hB.hg
  have hne := hB.ne
  refine ⟨_, rfl, b, _, 3, _, rfl, rfl, SqL.of hb, at_of (j := 3) rfl rfl, rfl, _, rfl, ?_⟩
  refine ite2 (fun c => ?_) (fun c => ?_)
  · -- always
    have c' : al ≠ .non := by simpa using c
    obtain ⟨n, rfl⟩ : ∃ n, al = .int n := by
      rcases hal with h | h
      · exact absurd h c'
      · exact h
    refine ⟨_, rfl, b, _, 3, _, rfl, rfl, SqL.of hb, at_of (j := 3) rfl rfl, .inl ⟨_, rfl, _, rfl, _, _, rfl, rfl, hm0, ?_⟩⟩
    exact q _ H (Int.emod_nonneg _ (by omega)) (Int.emod_lt_of_pos _ hm0) hB (Frm.refl _ _ _)
  -- bag[1] = bag[1] + 1
  refine ⟨_, rfl, b, _, 1, _, rfl, rfl, SqL.of hb, at_of (j := 1) rfl rfl, _, _, rfl, rfl, _, rfl, b, _, 1, 1, rfl, rfl, hb, rfl, ?_⟩
  have hb1 : (upd H b (.lst ([V.int s0, V.int c0, V.ref g, al].set 1 (V.int (c0 + 1))))) b = some (.lst [V.int s0, V.int (c0 + 1), V.ref g, al]) := upd_same
  have hg1 : (upd H b (.lst ([V.int s0, V.int c0, V.ref g, al].set 1 (V.int (c0 + 1))))) g = some (.lst (gs.map V.int)) := by
    rw [upd_ne hne.symm]
    exact hg
  generalize hH1 : upd H b (.lst ([V.int s0, V.int c0, V.ref g, al].set 1 (V.int (c0 + 1)))) = H1 at hb1 hg1
  have f1 : Frm b g H H1 := by
    rw [← hH1]
    exact Frm.updB
  clear hH1
  -- great = bag[2]
  refine ⟨_, rfl, b, _, 2, _, rfl, rfl, SqL.of hb1, at_of (j := 2) rfl rfl, ?_⟩
  refine ⟨_, rfl, g, _, rfl, .inl (SqL.of hg1), _, _, rfl, rfl, _, rfl, ?_⟩
  refine ite2 (fun c => ?_) (fun c => ?_)
  · -- a great one
    cases gs with
    | nil => simp at c
    | cons z zs =>
      have e0 : atI ((z :: zs).map V.int) 0 = some (V.int z) := at_of (j := 0) rfl rfl
      refine ⟨_, rfl, g, _, 0, _, rfl, rfl, SqL.of hg1, e0, .inl ⟨_, rfl, _, rfl, _, _, rfl, rfl, hm0, ?_⟩⟩
      have hm2 : m.natAbs < 2 ^ 20 := by omega
      refine ⟨_, rfl, g, _, 0, _, rfl, rfl, SqL.of hg1, e0, .inl ⟨_, rfl, _, rfl, _, _, rfl, rfl, wide_div hm0 hm2 (by decide) (by decide), _, rfl, g, _, 0, 0, rfl, rfl, hg1, by simp [ixN], ?_⟩⟩
      have hg2 : (upd H1 g (.lst (((z :: zs).map V.int).set 0 (V.int (z / m))))) g = some (.lst (((z / m) :: zs).map V.int)) := upd_same
      have hb2 : (upd H1 g (.lst (((z :: zs).map V.int).set 0 (V.int (z / m))))) b = some (.lst [V.int s0, V.int (c0 + 1), V.ref g, al]) := by
        rw [upd_ne hne]
        exact hb1
      generalize hH2 : upd H1 g (.lst (((z :: zs).map V.int).set 0 (V.int (z / m)))) = H2 at hg2 hb2
      have f2 : Frm b g H H2 := by
        rw [← hH2]
        exact f1.trans Frm.updG
      clear hH2
      have e1 : atI (((z / m) :: zs).map V.int) 0 = some (V.int (z / m)) := at_of (j := 0) rfl rfl
      refine ⟨_, rfl, g, _, 0, _, rfl, rfl, SqL.of hg2, e1, rfl, _, rfl, ?_⟩
      refine ite2 (fun c => ?_) (fun c => ?_)
      · refine ⟨_, rfl, .inl ⟨rfl, _, SqL.of hg2⟩, g, _, 0, 0, _, rfl, rfl, hg2, by decide, by decide, by simp [seqIndex?], rfl, ?_⟩
        have hg3 : (upd H2 g (.lst ((((z / m) :: zs).map V.int).eraseIdx 0))) g = some (.lst (zs.map V.int)) := upd_same
        refine ⟨_, rfl, q _ _ (Int.emod_nonneg _ (by omega)) (Int.emod_lt_of_pos _ hm0) (.mk2 hne hal ((upd_ne hne).trans hb2) hg3 (by simp at hgl; omega)) (f2.trans Frm.updG)⟩
      · exact ⟨_, rfl, q _ H2 (Int.emod_nonneg _ (by omega)) (Int.emod_lt_of_pos _ hm0) (.mk2 hne hal hb2 hg2 (by simpa using hgl)) f2⟩
  · have mod0 : ∀ i j : Int, 0 < j → 0 ≤ i % j ∧ i % j < j := fun i j h => ⟨Int.emod_nonneg _ (by omega), Int.emod_lt_of_pos _ h⟩
    refine ⟨_, rfl, b, _, 0, _, rfl, rfl, SqL.of hb1, at_of (j := 0) rfl rfl, _, rfl, b, _, 1, _, rfl, rfl, SqL.of hb1, at_of (j := 1) rfl rfl, _, _, rfl, rfl, .inl ⟨by decide, by decide⟩, _, _, rfl, rfl, _, _, rfl, rfl, .inr ⟨by decide, by decide⟩, .inl ⟨_, rfl, _, _, rfl, rfl, (by show (0 : Int) < 2147483647; decide), ?_⟩⟩
    obtain ⟨l1, u1⟩ := mod0 ((s0 + 7919 * (c0 + 1)) * 48271) 2147483647 (by decide)
    generalize (s0 + 7919 * (c0 + 1)) * 48271 % 2147483647 = n1 at l1 u1 ⊢
    refine ⟨_, rfl, _, rfl, _, _, rfl, rfl, wide_div (b := 40) (by decide) (by decide) (by decide) (by decide), _, _, rfl, rfl, _, _, rfl, rfl, .inl ⟨by omega, by omega⟩, .inl ⟨_, rfl, _, _, rfl, rfl, (by show (0 : Int) < 2147483647; decide), ?_⟩⟩
    obtain ⟨l2, u2⟩ := mod0 (n1 * (n1 / 1009 + 69621)) 2147483647 (by decide)
    generalize n1 * (n1 / 1009 + 69621) % 2147483647 = n2 at l2 u2 ⊢
    refine ⟨_, rfl, _, rfl, _, _, rfl, rfl, wide_div (b := 40) (by decide) (by decide) (by decide) (by decide), _, _, rfl, rfl, _, _, rfl, rfl, .inl ⟨by omega, by omega⟩, .inl ⟨_, rfl, _, _, rfl, rfl, (by show (0 : Int) < 2147483399; decide), ?_⟩⟩
    generalize n2 * (n2 / 2003 + 40692) % 2147483399 = n3
    refine ⟨_, rfl, _, _, rfl, rfl, wide_div (b := 40) (by decide) (by decide) (by decide) (by decide), .inl ⟨_, rfl, _, rfl, _, _, rfl, rfl, hm0, ?_⟩⟩
    exact q _ H1 (mod0 _ _ hm0).1 (mod0 _ _ hm0).2 (.mk2 hne hal hb1 hg1 hgl) f1
end
end Tl
namespace Tl
open PySem PySem.Spec PyProof.Rows L2 RZ
theorem int_at {ns : List Int} {i : Nat} {y : V} (h : (ns.map V.int)[i]? = some y) : ∃ z, ns[i]? = some z ∧ y = .int z := by
  rw [List.getElem?_map] at h
  cases e : ns[i]? with
  | none =>
    rw [e] at h
    cases h
  | some z =>
    rw [e] at h
    exact ⟨z, rfl, (Option.some.inj h).symm⟩
theorem cut_ints (ns : List Int) (lo hi : Option Int) : ∃ ms : List Int, cutV (ns.map V.int) lo hi = ms.map V.int ∧ ms.length ≤ ns.length := by
  unfold cutV
  refine ⟨(ns.drop (HT.sIx (ns.map V.int).length 0 lo)).take (HT.sIx (ns.map V.int).length (ns.map V.int).length hi - HT.sIx (ns.map V.int).length 0 lo), by rw [List.map_take, List.map_drop], ?_⟩
  rw [List.length_take, List.length_drop]
  omega
def spBag (K : PySem.W.Frag) : Sp := fun vs H Q _ => ∃ (a : Addr) (ns : List Int), vs = [.ref a] ∧ SqL K H a (ns.map V.int) ∧ ns.length ≤ 63 ∧
  ∀ (b g : Addr) (H' : Hp), Same H H' → Bag H' b g → H b = none → H g = none → Q (.ref b) H'
theorem small63 {n : Nat} (h : n ≤ 63) : n < sizeLine := small1000 (by omega)
section
variable {P : Program} {w : World} {K : PySem.W.Frag} {mg : Str → Option Value} {base : Heap}
theorem ok_law_bag {f : Addr} {fd : FuncData} (D : Dn K mg "_law_bag" s_law_bag ["script"] f fd) (B : Blt mg) : FnOk P w K mg base CX0 1 f fd ["script"] (spBag K) := by
  refine D.F.ok sc_law_bag (fun vs H Q E h => ?_) (fun cdv A outer s H vs Q E hr h => ?_)
  · obtain ⟨a, ns, rfl, _⟩ := h
    rfl
  obtain ⟨a, ns, rfl, hS, hn, q⟩ := h
  have nd := sc_law_bag.nd
  refine ⟨_, (pss_cons (ps_set (i := 1) nd rfl (.inl rfl) (pe_op op_add pe_int (pe_callB (k_len (K := K) rfl) (by rfl) B.len PySem.boot_len (pa_cons (pv 0) pa_nil))))
      (pss_cons (ps_for PassesOwn.never rfl (k_iL (K := K) rfl (pe_slice (k_slL (K := K) rfl) (pv 0) po_none (po_some pe_int))) (pg_name (i := 2) nd rfl (.inl rfl)) (pss_one (ps_set (i := 1) nd rfl (.inl rfl) (pe_op op_mod (pe_callTy call_int1 (by rfl) B.int (by decide +kernel) (pa_cons (pe_op op_add (pe_op op_add (pe_op op_mul (pv 1) pe_int) (pe_op op_mod (pe_callTy call_int1 (by rfl) B.int (by decide +kernel) (pa_cons (pv 2) pa_nil)) pe_int)) pe_int) pa_nil)) pe_int))))
      (pss_cons (ps_setLc (i := 3) (own := [("cell", 2)]) rfl nd rfl rfl (sw_true rfl rfl rfl (by decide +kernel)) (k_iL (K := K) rfl (pe_slice (k_slL (K := K) rfl) (pv 0) po_none (po_some pe_int))) (blkOk_by (own := [("cell", 2)]) (by kernel_rfl)) (fun _ _ _ _ _ => (pg_name (i := 2) nd rfl (.inl rfl))) (fun _ _ _ _ _ => pts_one (pt_cmpR op_ge (pe_callB call_abs (by rfl) B.abs (by decide +kernel) (pa_cons (pe_callTy call_int1 (by rfl) B.int (by decide +kernel) (pa_cons (pv 2) pa_nil)) pa_nil)) (pe_op op_pow pe_int pe_int) (nomark _))) (fun _ _ _ _ _ => (pe_callB call_abs (by rfl) B.abs (by decide +kernel) (pa_cons (pe_callTy call_int1 (by rfl) B.int (by decide +kernel) (pa_cons (pv 2) pa_nil)) pa_nil))))
      (pss_cons (ps_set (i := 4) nd rfl (.inl rfl) pe_non)
      (pss_cons (ps_if (PW.pt (pw_and (pt_cmpR op_lt (pe_callB (k_len (K := K) rfl) (by rfl) B.len PySem.boot_len (pa_cons (pv 0) pa_nil)) pe_int (nomark _)) (pw_and1 (pt_cmpR op_eq (pe_callB (k_len (K := K) rfl) (by rfl) B.len PySem.boot_len (pa_cons (pv 3) pa_nil)) pe_int (nomark _))))) (pss_one (ps_set (i := 4) nd rfl (.inl rfl) (pe_callB call_abs (by rfl) B.abs (by decide +kernel) (pa_cons (pe_callB (k_sum (K := K) rfl rfl) (by rfl) B.sum (by decide +kernel) (pa_cons (pe_lc (own := [("cell", 2)]) rfl nd (k_iL (K := K) rfl (pv 0)) (blkOk_by (own := [("cell", 2)]) (by kernel_rfl)) (fun _ _ _ _ _ => (pg_name (i := 2) nd rfl (.inl rfl))) (fun _ _ _ _ _ => pts_nil) (fun _ _ _ _ _ => (pe_callTy call_int1 (by rfl) B.int (by decide +kernel) (pa_cons (pv 2) pa_nil)))) pa_nil)) pa_nil)))) pss_nil)
      (pss_one (ps_ret (pe_lst (pa_cons (pv 1) (pa_cons pe_int (pa_cons (pv 3) (pa_cons (pv 4) pa_nil)))))))))))), ?_⟩
  obtain ⟨ms, em, hm⟩ := cut_ints ns none (some 63)
  -- seed = 29 + len(script)
  refine ⟨_, rfl, a, _, rfl, .inl hS, _, _, rfl, rfl, ?_⟩
  -- for cell in script[:63]
  refine ⟨_, rfl, _, rfl, a, _, rfl, hS, fun p hp => ?_⟩
  rw [em]
  have s1 : Same H (upd H p (.lst (ms.map V.int))) := same_upd hp
  refine ⟨p, rfl, ⟨_, SqL.of upd_same⟩, for_list (K := K) (a := p) (xs := ms.map V.int) (fun i σ H2 => ∃ (z : Int) (v : Option V), σ = [some (.ref a), some (.int z), v, none, none] ∧ H2 = upd H p (.lst (ms.map V.int))) ⟨_, none, rfl, rfl⟩ (fun i σ H2 _ h => ?_) ?_ ?_⟩
  · obtain ⟨_, _, _, rfl⟩ := h
    exact SqL.of upd_same
  · rintro i y σ H2 hi ⟨z, v, rfl, rfl⟩
    obtain ⟨n, _, rfl⟩ := int_at hi
    refine ⟨_, rfl, _, _, rfl, rfl, .inr ⟨by decide, by decide⟩, _, rfl, .inl ⟨_, rfl, _, _, rfl, rfl, (by show (0 : Int) < 1000003; decide), _, _, rfl, rfl, _, _, rfl, rfl, .inl ⟨_, rfl, _, _, rfl, rfl, (by show (0 : Int) < 2147483647; decide), ?_⟩⟩⟩
    exact ⟨_, _, rfl, rfl⟩
  rintro σ H2 ⟨z, v, rfl, rfl⟩
  -- great = [..]
  refine ⟨_, rfl, _, rfl, a, _, rfl, s1.seq hS, fun p2 hp2 => ?_⟩
  rw [em]
  have s2 : Same (upd H p (.lst (ms.map V.int))) (upd (upd H p (.lst (ms.map V.int))) p2 (.lst (ms.map V.int))) := same_upd hp2
  generalize hH2 : upd (upd H p (.lst (ms.map V.int))) p2 (.lst (ms.map V.int)) = H2 at s2
  have hp2' : H2 p2 = some (.lst (ms.map V.int)) := by
    rw [← hH2]
    exact upd_same
  have s12 : Same H H2 := s1.trans s2
  clear hH2 s2 s1 hp
  refine ⟨p2, rfl, ⟨_, SqL.of hp2'⟩, fun g hg => ?_⟩
  have sg : Same H2 (upd H2 g (.lst [])) := same_upd hg
  refine lc_list (K := K) (a := p2) (xs := ms.map V.int) (fun i H3 => ∃ gs : List Int, gs.length ≤ i ∧ H3 g = some (.lst (gs.map V.int)) ∧ Same H2 H3) ⟨[], Nat.le_refl _, upd_same, sg⟩ (fun i H3 _ h => ?_) ?_ ?_
  · obtain ⟨_, _, _, h⟩ := h
    exact h.seq (SqL.of hp2')
  · rintro i y H3 hi ⟨gs, hl, h3, s3⟩
    obtain ⟨n, hn', rfl⟩ := int_at hi
    have hi2 : i < ms.length := (List.getElem?_eq_some_iff.mp hn').1
    refine ⟨rfl, ?_⟩
    refine ⟨_, rfl, .inl ⟨_, rfl, _, rfl, _, _, rfl, rfl, ⟨by decide, by decide, by decide⟩, _, _, rfl, rfl, _, rfl, ?_⟩⟩
    refine ite2 (fun c => ?_) (fun c => ?_)
    · refine ⟨_, rfl, .inl ⟨_, rfl, _, rfl, _, h3, by rw [List.length_map]; exact small63 (by omega), ?_⟩⟩
      refine ⟨gs ++ [_], by rw [List.length_append]; exact Nat.add_le_add_right hl 1, by rw [List.map_append]; exact upd_same, fun c o e => ?_⟩
      rw [upd_ne (ne_of_none e hg)]
      exact s3 _ _ e
    · exact ⟨gs, Nat.le_succ_of_le hl, h3, s3⟩
  rintro H3 ⟨gs, hl, h3, s3⟩
  rw [List.length_map] at hl
  have s13 := s12.trans s3
  -- always
  have fin : ∀ (H4 : Hp) (al : V), Same H3 H4 → (al = .non ∨ ∃ n, al = .int n) → (∀ b, H4 b = none → Q (.ref b) (upd H4 b (.lst [.int z, .int 1, .ref g, al]))) := by
    intro H4 al s4 hal b hb
    have e4 := s4 _ _ h3
    have hbg : b ≠ g := fun e => by
      rw [e, e4] at hb
      cases hb
    have hn1 : H b = none := (s13.trans s4).free hb
    exact q b g _ ((s13.trans s4).trans (same_upd hb)) (.mk2 hbg hal upd_same ((upd_ne hbg.symm).trans e4) (by omega)) hn1 (s12.free hg)
  refine ⟨_, rfl, a, _, rfl, .inl (s13.seq hS), _, _, rfl, rfl, _, rfl, ?_⟩
  refine ite2 (fun c => ?_) (fun c => ?_)
  · refine ⟨_, rfl, g, _, rfl, .inl (SqL.of h3), rfl, _, rfl, ?_⟩
    refine ite2 (fun c => ?_) (fun c => ?_)
    · -- sum([int(cell) for cell in script])
      refine ⟨_, rfl, a, rfl, ⟨_, s13.seq hS⟩, fun l hl2 => ?_⟩
      refine lc_list (K := K) (a := a) (xs := ns.map V.int) (fun i H4 => H4 l = some (.lst ((ns.take i).map V.int)) ∧ Same H3 H4) ⟨upd_same, same_upd hl2⟩ (fun i H4 _ h => h.2.seq (s13.seq hS)) ?_ ?_
      · rintro i y H4 hi ⟨h4, s4⟩
        obtain ⟨n, hn', rfl⟩ := int_at hi
        have hi2 : i < ns.length := (List.getElem?_eq_some_iff.mp hn').1
        refine ⟨rfl, ?_⟩
        refine iteT (B := H4 l = some (.lst ((ns.take (i + 1)).map V.int)) ∧ Same H3 H4) ?_
        refine ⟨_, rfl, .inl ⟨_, rfl, _, h4, ?_, ?_, fun c o e => ?_⟩⟩
        · rw [List.length_map, List.length_take]
          exact small63 (by omega)
        · rw [upd_same, List.take_add_one, hn', List.map_append]
          rfl
        · rw [upd_ne (ne_of_none e hl2)]
          exact s4 _ _ e
      · rintro H4 ⟨h4, s4⟩
        refine ⟨l, _, rfl, SqL.of h4, _, rfl, ?_⟩
        refine ⟨_, rfl, _, rfl, _, rfl, (by show 4 ≤ sizeLine; decide), fun b hb => ?_⟩
        exact fin H4 _ s4 (.inr ⟨_, rfl⟩) b hb
    · exact ⟨_, rfl, _, rfl, _, rfl, (by show 4 ≤ sizeLine; decide), fun b hb => fin H3 _ (Same.refl _) (.inl rfl) b hb⟩
  · exact iteF ⟨_, rfl, _, rfl, _, rfl, (by show 4 ≤ sizeLine; decide), fun b hb => fin H3 _ (Same.refl _) (.inl rfl) b hb⟩
end
end Tl
namespace Tl
open PySem PySem.Spec PyProof.Rows L2 RZ
/-! ### fractions -/
def rD (q : Rat) : PyData := .tuple [.int q.num, .int (q.den : Int)]
theorem mkRat_parts (t : Int) (b : Nat) (h : 0 < b) : (mkRat t b).num = t / (Nat.gcd t.natAbs b : Nat) ∧ ((mkRat t b).den : Int) = (b : Int) / (Nat.gcd t.natAbs b : Nat) := by
  have hb : b ≠ 0 := by omega
  rw [mkRat, dif_neg hb, Rat.normalize_eq]
  exact ⟨rfl, rfl⟩
theorem mkRat_den_le (t : Int) (b : Nat) (h : 0 < b) : (mkRat t b).den ≤ b := by
  rw [Rat.den_mkRat, if_neg (by omega)]
  exact Nat.div_le_self _ _
theorem rat_mk (q : Rat) : mkRat q.num q.den = q := Rat.mkRat_self q
theorem td_rD {K : PySem.W.Frag} {H : Hp} {p : Addr} {t : Int} {b : Nat} (h : 0 < b) (hp : H p = some (.tup [.int (t / (Nat.gcd t.natAbs b : Nat)), .int ((b : Int) / (Nat.gcd t.natAbs b : Nat))])) : Td K H (.ref p) (rD (mkRat t b)) := by
  obtain ⟨e1, e2⟩ := mkRat_parts t b h
  unfold rD
  rw [e1, e2]
  exact .tup (.inl (.inl hp)) (.cons (.int _) (.cons (.int _) .nil))
theorem Td.rE {K : PySem.W.Frag} {H : Hp} {v : V} {q : Rat} (h : Td K H v (rD q)) : ∃ a, v = .ref a ∧ SqT K H a [.int q.num, .int (q.den : Int)] := by
  obtain ⟨a, xs, rfl, hs, ht⟩ := h.tupE
  cases ht with
  | cons h1 t =>
    cases t with
    | cons h2 t =>
      cases t
      cases h1
      cases h2
      exact ⟨a, rfl, hs⟩
def spCommon : Sp := fun vs H Q _ => ∃ a b : Int, vs = [.int a, .int b] ∧ 0 ≤ a ∧ 0 ≤ b ∧ Q (.int ((Nat.gcd a.toNat b.toNat : Nat) : Int)) H
def spLow (K : PySem.W.Frag) : Sp := fun vs H Q _ => ∃ (t : Int) (b : Nat), vs = [.int t, .int (b : Int)] ∧ 0 < b ∧ b < 2 ^ 4000 ∧ ∀ v H', Same H H' → Td K H' v (rD (mkRat t b)) → Q v H'
def spTimes (K : PySem.W.Frag) : Sp := fun vs H Q _ => ∃ (x y : V) (p q : Rat), vs = [x, y] ∧ Td K H x (rD p) ∧ Td K H y (rD q) ∧ p.den < 2 ^ 2000 ∧ q.den < 2 ^ 2000 ∧ p.num.natAbs < 2 ^ 2000 ∧ q.num.natAbs < 2 ^ 2000 ∧ ∀ v H', Same H H' → Td K H' v (rD (p * q)) → Q v H'
theorem gcd_step {a b : Int} (ha : 0 ≤ a) (hb : 0 < b) : Nat.gcd b.toNat (a % b).toNat = Nat.gcd a.toNat b.toNat := by
  rw [Int.toNat_emod ha (by omega), Nat.gcd_comm a.toNat b.toNat, Nat.gcd_rec b.toNat a.toNat, Nat.gcd_comm]
section
variable {P : Program} {w : World} {K : PySem.W.Frag} {mg : Str → Option Value} {base : Heap}
theorem ok_law_common {f : Addr} {fd : FuncData} (D : Dn K mg "_law_common" s_law_common ["one", "other"] f fd) (B : Blt mg) : FnOk P w K mg base CX0 1 f fd ["one", "other"] spCommon := by
  refine D.F.ok sc_law_common (fun vs H Q E h => ?_) (fun cdv A outer s H vs Q E hr h => ?_)
  · obtain ⟨a, b, rfl, _⟩ := h
    rfl
  obtain ⟨a, b, rfl, ha, hb, q⟩ := h
  have nd := sc_law_common.nd
  refine ⟨_, (pss_cons (ps_while PassesOwn.never (pt_cmpR op_ne (pv 1) pe_int (nomark _)) (pss_one (ps_par (i := 0) (j := 1) rfl nd rfl rfl (by decide) rfl rfl (pa_cons (pv 1) (pa_cons (pe_op op_mod (pv 0) (pv 1)) pa_nil)) (by rfl))))
      (pss_one (ps_ret (pv 0)))), ?_⟩
  refine while_by (fun σ H2 => H2 = H ∧ ∃ x y : Int, σ = [some (.int x), some (.int y)] ∧ 0 ≤ x ∧ 0 ≤ y ∧ Nat.gcd x.toNat y.toNat = Nat.gcd a.toNat b.toNat) (fun σ _ => match σ with | [_, some (.int y)] => y.toNat | _ => 0) ⟨rfl, a, b, rfl, ha, hb, rfl⟩ ?_ ?_
  · rintro σ H2 ⟨rfl, x, y, rfl, hx, hy, e⟩
    refine ⟨_, rfl, rfl, _, rfl, ?_⟩
    refine ite2 (fun c => ?_) (fun c => ?_)
    · have hy0 : y ≠ 0 := by
        intro z
        rw [z] at c
        simp at c
      have hy1 : 0 < y := by omega
      refine ⟨_, rfl, _, rfl, _, rfl, _, _, rfl, rfl, hy1, _, _, rfl, ?_⟩
      refine ⟨⟨rfl, y, x % y, rfl, hy, Int.emod_nonneg _ hy0, (gcd_step hx hy1).trans e⟩, ?_⟩
      have l := Int.emod_lt_of_pos x hy1
      have l0 := Int.emod_nonneg x hy0
      show (x % y).toNat < y.toNat
      omega
    · have hy0 : y = 0 := by
        by_cases z : y = 0
        · exact z
        · exact absurd (by simp [z]) c
      subst hy0
      refine ⟨_, rfl, ?_⟩
      have e3 : x.toNat.gcd (Int.toNat 0) = x.toNat := Nat.gcd_zero_right _
      have e4 : ((x.toNat : Nat) : Int) = x := by omega
      rw [← e, e3, e4] at q
      exact q
  · rintro σ H2 Q1 Q2 h ⟨x, hx, h1, k, hk, h2⟩
    exact ⟨x, hx, h1, k, hk, h _ _ h2⟩
theorem ok_law_low {f f1 : Addr} {fd fd1 : FuncData} (D : Dn K mg "_law_low" s_law_low ["top", "bottom"] f fd) (B : Blt mg) (D_law_common : Dn K mg "_law_common" s_law_common ["one", "other"] f1 fd1) : FnOk P w K mg base CX0 2 f fd ["top", "bottom"] (spLow K) := by
  have G_law_common : FnOk P w K mg base CX0 1 f1 fd1 ["one", "other"] spCommon := ok_law_common D_law_common B
  refine D.F.ok sc_law_low (fun vs H Q E h => ?_) (fun cdv A outer s H vs Q E hr h => ?_)
  · obtain ⟨a, b, rfl, _⟩ := h
    rfl
  obtain ⟨t, b, rfl, hb, hz, q⟩ := h
  have nd := sc_law_low.nd
  refine ⟨_, (pss_cons (ps_set (i := 2) nd rfl (.inl rfl) (pe_call G_law_common (hr.mono (by omega)) (by rfl) D_law_common.m D_law_common.F.kp D_law_common.b .nil pass0 (pa_cons (pe_callB call_abs (by rfl) B.abs (by decide +kernel) (pa_cons (pv 0) pa_nil)) (pa_cons (pv 1) pa_nil))))
      (pss_one (ps_ret (pe_tup (pa_cons (pe_op op_fdivW (pv 0) (pv 2)) (pa_cons (pe_op op_fdivW (pv 1) (pv 2)) pa_nil)))))), ?_⟩
  refine ⟨_, rfl, _, rfl, _, rfl, _, _, rfl, ?_, by omega, ?_⟩
  · split <;> omega
  have e1 : (if t < 0 then -t else t).toNat = t.natAbs := by split <;> omega
  have e2 : (b : Int).toNat = b := Int.toNat_natCast b
  rw [e1, e2]
  have hg0 : 0 < Nat.gcd t.natAbs b := Nat.gcd_pos_of_pos_right _ hb
  have hg1 : Nat.gcd t.natAbs b ≤ b := Nat.gcd_le_right _ hb
  have hg2 : ((Nat.gcd t.natAbs b : Nat) : Int).natAbs < 2 ^ 4000 := by
    rw [Int.natAbs_natCast]
    omega
  have dv : ∀ i : Int, CDivW i ((Nat.gcd t.natAbs b : Nat) : Int) := fun i => wide_div (b := 4000) (by omega) hg2 (by decide) (by decide)
  refine ⟨_, rfl, _, rfl, _, _, rfl, rfl, dv _, _, rfl, _, rfl, _, _, rfl, rfl, dv _, (by show 2 ≤ sizeLine; decide), fun p hp => ?_⟩
  exact q _ _ (same_upd hp) (td_rD hb upd_same)
theorem ok_law_times {f f1 f2 : Addr} {fd fd1 fd2 : FuncData} (D : Dn K mg "_law_times" s_law_times ["one", "other"] f fd) (B : Blt mg) (D_law_low : Dn K mg "_law_low" s_law_low ["top", "bottom"] f1 fd1) (D_law_common : Dn K mg "_law_common" s_law_common ["one", "other"] f2 fd2) : FnOk P w K mg base CX0 3 f fd ["one", "other"] (spTimes K) := by
  have G_law_low : FnOk P w K mg base CX0 2 f1 fd1 ["top", "bottom"] (spLow K) := ok_law_low D_law_low B D_law_common
  refine D.F.ok sc_law_times (fun vs H Q E h => ?_) (fun cdv A outer s H vs Q E hr h => ?_)
  · obtain ⟨x, y, p, q, rfl, _⟩ := h
    rfl
  obtain ⟨x, y, p, q, rfl, hx, hy, z1, z2, z3, z4, k⟩ := h
  have nd := sc_law_times.nd
  refine ⟨_, (pss_one (ps_ret (pe_call G_law_low (hr.mono (by omega)) (by rfl) D_law_low.m D_law_low.F.kp D_law_low.b .nil pass0 (pa_cons (pe_op op_mulW (pe_ix (k_ixT (K := K) rfl) (pv 0) pe_int (fun _ _ => rfl)) (pe_ix (k_ixT (K := K) rfl) (pv 1) pe_int (fun _ _ => rfl))) (pa_cons (pe_op op_mulW (pe_ix (k_ixT (K := K) rfl) (pv 0) pe_int (fun _ _ => rfl)) (pe_ix (k_ixT (K := K) rfl) (pv 1) pe_int (fun _ _ => rfl))) pa_nil))))), ?_⟩
  obtain ⟨a, rfl, ha⟩ := hx.rE
  obtain ⟨b, rfl, hb⟩ := hy.rE
  have i0 : atI [V.int p.num, .int (p.den : Int)] 0 = some (.int p.num) := at_of (j := 0) rfl rfl
  have i1 : atI [V.int p.num, .int (p.den : Int)] 1 = some (.int (p.den : Int)) := at_of (j := 1) rfl rfl
  have j0 : atI [V.int q.num, .int (q.den : Int)] 0 = some (.int q.num) := at_of (j := 0) rfl rfl
  have j1 : atI [V.int q.num, .int (q.den : Int)] 1 = some (.int (q.den : Int)) := at_of (j := 1) rfl rfl
  have hp0 : 0 < p.den := Nat.pos_of_ne_zero p.den_nz
  have hq0 : 0 < q.den := Nat.pos_of_ne_zero q.den_nz
  have c1 : CMulW p.num q.num := wide_mul z3 z4 (by decide) (by decide) (by decide)
  have c2 : CMulW (p.den : Int) (q.den : Int) := wide_mul (a := 2000) (b := 2000) (by rw [Int.natAbs_natCast]; exact z1) (by rw [Int.natAbs_natCast]; exact z2) (by decide) (by decide) (by decide)
  refine ⟨_, rfl, a, _, 0, _, rfl, rfl, ha, i0, _, rfl, b, _, 0, _, rfl, rfl, hb, j0, _, _, rfl, rfl, c1, _, rfl, a, _, 1, _, rfl, rfl, ha, i1, _, rfl, b, _, 1, _, rfl, rfl, hb, j1, _, _, rfl, rfl, c2, ?_⟩
  refine ⟨p.num * q.num, p.den * q.den, by rw [Int.natCast_mul]; rfl, Nat.mul_pos hp0 hq0, ?_, fun v H' s' hv => k v H' s' ?_⟩
  · rw [show (4000 : Nat) = 2000 + 2000 from rfl, Nat.pow_add]
    exact Nat.mul_lt_mul'' z1 z2
  · rw [← Rat.mkRat_mul_mkRat, rat_mk, rat_mk] at hv
    exact hv
end
end Tl
namespace Tl
open PySem PySem.Spec PyProof.Rows L2 RZ
theorem Frm.updN {b g p : Addr} {H H' : Hp} {o : HO} (f : Frm b g H H') (h : H p = none) : Frm b g H (upd H' p o) := fun a x e h1 h2 => by
  rw [upd_ne (ne_of_none e h)]
  exact f a x e h1 h2
theorem Bag.updN {b g p : Addr} {H : Hp} {o : HO} (B : Bag H b g) (h1 : p ≠ b) (h2 : p ≠ g) : Bag (upd H p o) b g := by
  obtain ⟨ne, ⟨s, c, al, h, r⟩, ⟨gs, h', r'⟩⟩ := B
  exact ⟨ne, ⟨s, c, al, by rw [upd_ne h1.symm]; exact h, r⟩, ⟨gs, by rw [upd_ne h2.symm]; exact h', r'⟩⟩
def nI (ps : List Nat) : List Int := ps.map fun (p : Nat) => (p : Int)
theorem nI_sum : ∀ ps : List Nat, (nI ps).sum = ((ps.sum : Nat) : Int)
  | [] => rfl
  | p :: r => by
    show ((p : Int)) + (nI r).sum = (((p + r.sum : Nat)) : Int)
    rw [nI_sum r]
    omega
/-- shares of a whole by small parts -/
def IsShares (m : Nat) (rs : List Rat) : Prop := ∃ ps : List Nat, ps.length = m ∧ 0 < ps.sum ∧ ps.sum ≤ 5 * m + 1 ∧ rs = ps.map fun (p : Nat) => mkRat (p : Int) ps.sum
theorem sum_le5 : ∀ ps : List Nat, (∀ p ∈ ps, p ≤ 4) → ps.sum ≤ 4 * ps.length
  | [], _ => Nat.le_refl _
  | p :: r, h => by
    have h1 := h p (List.mem_cons_self ..)
    have h2 := sum_le5 r fun x hx => h x (List.mem_cons_of_mem _ hx)
    show p + r.sum ≤ 4 * (r.length + 1)
    omega
theorem sum_bump : ∀ (ps : List Nat) (j : Nat) (v : Nat), ps[j]? = some v → (ps.set j (v + 1)).sum = ps.sum + 1
  | [], _, _, h => by simp at h
  | p :: r, 0, v, h => by
    have e : p = v := by simpa using h
    subst e
    show (p + 1) + r.sum = (p + r.sum) + 1
    omega
  | p :: r, j + 1, v, h => by
    have ih := sum_bump r j v (by simpa using h)
    show p + (r.set j (v + 1)).sum = (p + r.sum) + 1
    omega
def spShares (K : PySem.W.Frag) : Sp := fun vs H Q _ => ∃ (b g : Addr) (m : Nat) (l : Int), vs = [.ref b, .int (m : Int), .int l] ∧ Bag H b g ∧ 1 ≤ m ∧ m ≤ 12 ∧ 0 ≤ l ∧ l ≤ 1 ∧
  ∀ (r : Addr) (rs : List Rat) (us : List V) (H' : Hp), IsShares m rs → H' r = some (.lst us) → TdAll K H' us (rs.map rD) → H r = none → Bag H' b g → Frm b g H H' → Q (.ref r) H'
section
variable {P : Program} {w : World} {K : PySem.W.Frag} {mg : Str → Option Value} {base : Heap}
theorem ok_law_shares {f f1 f2 f3 : Addr} {fd fd1 fd2 fd3 : FuncData} (D : Dn K mg "_law_shares" s_law_shares ["bag", "many", "least"] f fd) (B : Blt mg) (D_law_low : Dn K mg "_law_low" s_law_low ["top", "bottom"] f1 fd1) (D_law_common : Dn K mg "_law_common" s_law_common ["one", "other"] f2 fd2)
    (D_law_pick : Dn K mg "_law_pick" s_law_pick ["bag", "many"] f3 fd3) : FnOk P w K mg base CX0 3 f fd ["bag", "many", "least"] (spShares K) := by
  have G_law_low : FnOk P w K mg base CX0 2 f1 fd1 ["top", "bottom"] (spLow K) := ok_law_low D_law_low B D_law_common
  have G_law_pick : FnOk P w K mg base CX0 1 f3 fd3 ["bag", "many"] spPick := ok_law_pick D_law_pick B
  refine D.F.ok sc_law_shares (fun vs H Q E h => ?_) (fun cdv A outer s H vs Q E hr h => ?_)
  · obtain ⟨b, g, m, l, rfl, _⟩ := h
    rfl
  obtain ⟨b, g, m, l, rfl, hB, hm1, hm2, hl0, hl1, q⟩ := h
  have nd := sc_law_shares.nd
  refine ⟨_, (pss_cons (ps_set (i := 3) nd rfl (.inr rfl) (pe_lc (own := [("k", 4)]) rfl nd (pi_range1 (by rfl) B.range (pa_cons (pv 1) pa_nil)) (blkOk_by (own := [("k", 4)]) (by kernel_rfl)) (fun _ _ _ _ _ => (pg_name (i := 4) nd rfl (.inl rfl))) (fun _ _ _ _ _ => pts_nil) (fun _ _ _ _ _ => (pe_op op_add (pv 2) (pe_call G_law_pick (hr.mono (by omega)) (by rfl) D_law_pick.m D_law_pick.F.kp D_law_pick.b .nil pass0 (pa_cons (pv 0) (pa_cons pe_int pa_nil)))))))
      (pss_cons (ps_augS (pv 3) (pe_call G_law_pick (hr.mono (by omega)) (by rfl) D_law_pick.m D_law_pick.F.kp D_law_pick.b .nil pass0 (pa_cons (pv 0) (pa_cons (pv 1) pa_nil))) (k_getL (K := K) rfl) pe_int ip_add set_list)
      (pss_one (ps_ret (pe_lc (own := [("part", 5)]) rfl nd (k_iL (K := K) rfl (pv 3)) (blkOk_by (own := [("part", 5)]) (by kernel_rfl)) (fun _ _ _ _ _ => (pg_name (i := 5) nd rfl (.inl rfl))) (fun _ _ _ _ _ => pts_nil) (fun _ _ _ _ _ => (pe_call G_law_low (hr.mono (by omega)) (by rfl) D_law_low.m D_law_low.F.kp D_law_low.b .nil pass0 (pa_cons (pv 5) (pa_cons (pe_callB (k_sum (K := K) rfl rfl) (by rfl) B.sum (by decide +kernel) (pa_cons (pv 3) pa_nil)) pa_nil))))))))), ?_⟩
  -- parts = [least + _law_pick(bag, 4) for k in range(many)]
  refine ⟨_, rfl, _, rfl, by omega, by omega, fun d hd => ?_⟩
  obtain ⟨db, dg⟩ := hB.neNew hd
  refine lc_range (lo := 0) (n := m) (fun i H3 => ∃ ps : List Nat, ps.length = i ∧ (∀ p ∈ ps, p ≤ 4) ∧ H3 d = some (.lst ((nI ps).map V.int)) ∧ Bag H3 b g ∧ Frm b g H H3) ⟨[], rfl, fun _ h => absurd h List.not_mem_nil, upd_same, hB.updN db dg, (Frm.refl b g H).updN hd⟩ ?_ ?_
  · rintro i H3 hi ⟨ps, hp1, hp2, h3, B3, F3⟩
    refine ⟨rfl, ?_⟩
    refine iteT (B := ∃ ps : List Nat, ps.length = i + 1 ∧ (∀ p ∈ ps, p ≤ 4) ∧ H3 d = some (.lst ((nI ps).map V.int)) ∧ Bag H3 b g ∧ Frm b g H H3) ?_
    refine ⟨_, rfl, _, rfl, b, g, 4, rfl, B3, by decide, by decide, fun r H4 r0 r1 B4 F4 => ⟨_, _, rfl, rfl, ?_⟩⟩
    have h4 := F4 d _ h3 db dg
    refine ⟨_, h4, by rw [List.length_map, nI, List.length_map]; exact small1000 (by omega), ps ++ [(l + r).toNat], by rw [List.length_append, hp1]; rfl, ?_, ?_, B4.updN db dg, (F3.trans F4).updN hd⟩
    · intro p hp
      rcases List.mem_append.mp hp with hp | hp
      · exact hp2 p hp
      · rw [List.mem_singleton.mp hp]
        omega
    · rw [upd_same, nI, nI, List.map_append, List.map_append]
      show some (HO.lst (_ ++ [V.int (l + r)])) = some (HO.lst (_ ++ [V.int (((l + r).toNat : Nat) : Int)]))
      rw [show (((l + r).toNat : Nat) : Int) = l + r by omega]
  rintro H3 ⟨ps, hp1, hp2, h3, B3, F3⟩
  -- parts[_law_pick(bag, many)] += 1
  refine ⟨_, rfl, _, rfl, _, rfl, b, g, (m : Int), rfl, B3, by omega, by omega, fun r H4 r0 r1 B4 F4 => ?_⟩
  have h4 := F4 d _ h3 db dg
  obtain ⟨j, ej⟩ : ∃ j : Nat, r = (j : Int) := ⟨r.toNat, by omega⟩
  have hj : j < ps.length := by omega
  have gj : ps[j]? = some ps[j] := List.getElem?_eq_getElem hj
  have gI : ((nI ps).map V.int)[j]? = some (.int ((ps[j] : Nat) : Int)) := by
    rw [List.getElem?_map, nI, List.getElem?_map, gj]
    rfl
  refine ⟨d, _, j, _, rfl, by rw [ej], SqL.of h4, gI, _, _, rfl, rfl, d, _, r, j, rfl, rfl, h4, ?_, ?_⟩
  · rw [List.length_map, nI, List.length_map]
    unfold ixN
    rw [if_pos r0, if_pos (by omega)]
    exact congrArg some (by omega)
  have h5 : (upd H4 d (.lst (((nI ps).map V.int).set j (.int (((ps[j] : Nat) : Int) + 1))))) d = some (.lst ((nI (ps.set j (ps[j] + 1))).map V.int)) := by
    rw [upd_same, nI, nI, List.map_set, List.map_set]
    rfl
  have B5 : Bag (upd H4 d (.lst (((nI ps).map V.int).set j (.int (((ps[j] : Nat) : Int) + 1))))) b g := B4.updN db dg
  have F5 : Frm b g H (upd H4 d (.lst (((nI ps).map V.int).set j (.int (((ps[j] : Nat) : Int) + 1))))) := (F3.trans F4).updN hd
  generalize upd H4 d (.lst (((nI ps).map V.int).set j (.int (((ps[j] : Nat) : Int) + 1)))) = H5 at h5 B5 F5
  have hsum := sum_bump ps j _ gj
  have hle := sum_le5 ps hp2
  have hlen : (ps.set j (ps[j] + 1)).length = m := by rw [List.length_set]; exact hp1
  generalize ps.set j (ps[j] + 1) = us at h5 hsum hlen
  -- return [_law_low(part, sum(parts)) for part in parts]
  have hs0 : 0 < us.sum := by omega
  have hs1 : us.sum ≤ 5 * m + 1 := by omega
  refine ⟨_, rfl, d, rfl, ⟨_, SqL.of h5⟩, fun e he => ?_⟩
  obtain ⟨eb, eg⟩ := B5.neNew he
  have heH : H e = none := by
    cases z : H e with
    | none => rfl
    | some o =>
      rw [F5 e o z eb eg] at he
      cases he
  have hl5 : ((nI us).map V.int).length = m := by rw [List.length_map, nI, List.length_map, hlen]
  refine lc_list (K := K) (a := d) (xs := (nI us).map V.int) (fun i H6 => ∃ ws : List V, H6 e = some (.lst ws) ∧ TdAll K H6 ws ((us.take i).map fun (p : Nat) => rD (mkRat (p : Int) us.sum)) ∧ Same H5 H6) ⟨[], upd_same, .nil, same_upd he⟩ (fun i H6 _ h => by obtain ⟨_, _, _, s6⟩ := h; exact s6.seq (SqL.of h5)) ?_ ?_
  · rintro i y H6 hi ⟨ws, h6, t6, s6⟩
    obtain ⟨z, hz, rfl⟩ := int_at hi
    obtain ⟨p, hp, rfl⟩ : ∃ p : Nat, us[i]? = some p ∧ z = (p : Int) := by
      rw [nI, List.getElem?_map] at hz
      cases q2 : us[i]? with
      | none =>
        rw [q2] at hz
        cases hz
      | some p =>
        rw [q2] at hz
        exact ⟨p, rfl, (Option.some.inj hz).symm⟩
    have hi2 : i < us.length := (List.getElem?_eq_some_iff.mp hp).1
    refine ⟨rfl, ?_⟩
    refine iteT (B := ∃ ws : List V, H6 e = some (.lst ws) ∧ TdAll K H6 ws ((us.take (i + 1)).map fun (p : Nat) => rD (mkRat (p : Int) us.sum)) ∧ Same H5 H6) ?_
    refine ⟨_, rfl, _, rfl, d, nI us, rfl, SqL.of (s6 _ _ h5), (p : Int), us.sum, by rw [nI_sum]; rfl, hs0, ?_, fun v H7 s7 hv => ?_⟩
    · exact Nat.lt_of_le_of_lt (Nat.le_trans hs1 (show 5 * m + 1 ≤ 2 ^ 10 by omega)) (Nat.pow_lt_pow_right (by decide) (by decide))
    · have h7 := s7 _ _ h6
      have kt7 : KT K H7 (upd H7 e (.lst (ws ++ [v]))) := KT.updL h7
      have kt : KT K H6 (upd H7 e (.lst (ws ++ [v]))) := (Same.kt s7).trans kt7
      refine ⟨ws, h7, ?_, ws ++ [v], upd_same, ?_, fun a o q => ?_⟩
      · rw [t6.len, List.length_map, List.length_take]
        exact small1000 (by omega)
      · rw [List.take_add_one, hp, List.map_append]
        exact (t6.keep kt).app (.cons (hv.keep kt7) .nil)
      · rw [upd_ne (ne_of_none q he)]
        exact s7 _ _ (s6 _ _ q)
  · rintro H6 ⟨ws, h6, t6, s6⟩
    rw [hl5, ← hlen, List.take_length] at t6
    have t7 : TdAll K H6 ws ((us.map fun (p : Nat) => mkRat (p : Int) us.sum).map rD) := by
      rw [List.map_map]
      exact t6
    exact q e _ ws H6 ⟨us, hlen, hs0, hs1, rfl⟩ h6 t7 heH (B5.keep s6) (F5.trans (Frm.of s6))
end
end Tl
/-! trees -/
namespace Tl
open PySem PySem.Spec PyProof.Rows L2 RZ
/-- nodes of at most n rounds: questions of answers (word, weights, node) -/
def Nd : Nat → Type
  | 0 => Unit
  | n + 1 => List (List (List Int × List Rat × Nd n))
abbrev An (n : Nat) : Type := List Int × List Rat × Nd n
abbrev Qn (n : Nat) : Type := List (An n)
def wdD (w : List Int) : PyData := .tuple (w.map .int)
def wsD (ws : List Rat) : PyData := .tuple (ws.map rD)
def ndD : (n : Nat) → Nd n → PyData
  | 0, _ => .tuple []
  | n + 1, qs => .tuple ((show List (Qn n) from qs).map fun q => .tuple (q.map fun a => .tuple [wdD a.1, wsD a.2.1, ndD n a.2.2]))
def anD (n : Nat) (a : An n) : PyData := .tuple [wdD a.1, wsD a.2.1, ndD n a.2.2]
def qnD (n : Nat) (q : Qn n) : PyData := .tuple (q.map (anD n))
theorem ndD_succ (n : Nat) (qs : List (Qn n)) : ndD (n + 1) qs = .tuple (qs.map (qnD n)) := rfl
/-- how many answers -/
def cnt : (n : Nat) → Nd n → Nat
  | 0, _ => 0
  | n + 1, qs => ((show List (Qn n) from qs).map fun q => (q.map fun a => 1 + cnt n a.2.2).sum).sum
def cntQ (n : Nat) (q : Qn n) : Nat := (q.map fun a => 1 + cnt n a.2.2).sum
theorem cnt_succ (n : Nat) (qs : List (Qn n)) : cnt (n + 1) qs = (qs.map (cntQ n)).sum := rfl
def emptyNd : (n : Nat) → Nd n
  | 0 => ()
  | _ + 1 => ([] : List _)
theorem ndD_empty (n : Nat) : ndD n (emptyNd n) = .tuple [] := by cases n <;> rfl
theorem cnt_empty (n : Nat) : cnt n (emptyNd n) = 0 := by cases n <;> rfl
/-! sums of fractions from the left -/
def fsum (l : List Rat) : Rat := l.foldl (· + ·) 0
theorem foldl_add (l : List Rat) : ∀ a : Rat, l.foldl (· + ·) a = a + fsum l := by
  induction l with
  | nil =>
    intro a
    exact (Rat.add_zero a).symm
  | cons x r ih =>
    intro a
    unfold fsum
    rw [List.foldl_cons, List.foldl_cons, ih, ih (0 + x), Rat.zero_add, Rat.add_assoc]
theorem fsum_nil : fsum [] = 0 := rfl
theorem fsum_cons (x : Rat) (r : List Rat) : fsum (x :: r) = x + fsum r := by
  unfold fsum
  rw [List.foldl_cons, foldl_add, Rat.zero_add]
  rfl
theorem fsum_snoc (l : List Rat) (x : Rat) : fsum (l ++ [x]) = fsum l + x := by
  unfold fsum
  rw [List.foldl_append]
  rfl
theorem fsum_mul (a : Rat) : ∀ l : List Rat, fsum (l.map fun x => a * x) = a * fsum l
  | [] => by
    rw [List.map_nil, fsum_nil, Rat.mul_zero]
  | x :: r => by
    rw [List.map_cons, fsum_cons, fsum_cons, fsum_mul a r, Rat.mul_add]
theorem mk_add (p q : Int) (s : Nat) (hs : 0 < s) : mkRat p s + mkRat q s = mkRat (p + q) s := by
  have h : s ≠ 0 := by omega
  rw [Rat.mkRat_add_mkRat _ _ h h, ← Int.add_mul, Rat.mkRat_mul_right h]
theorem fsum_mk (s : Nat) (hs : 0 < s) : ∀ ps : List Nat, fsum (ps.map fun (p : Nat) => mkRat (p : Int) s) = mkRat ((ps.sum : Nat) : Int) s
  | [] => by
    show (0 : Rat) = mkRat 0 s
    rw [Rat.zero_mkRat]
  | p :: r => by
    rw [List.map_cons, fsum_cons, fsum_mk s hs r, mk_add _ _ _ hs]
    congr 1
theorem mk_same (s : Nat) (hs : 0 < s) : mkRat (s : Int) s = 1 := by
  have h : s ≠ 0 := by omega
  have e := Rat.mkRat_mul_right (n := 1) (d := 1) h
  rw [Int.one_mul, Nat.one_mul] at e
  rw [e]
  rfl
theorem mk_nonneg (p s : Nat) (hs : 0 < s) : 0 ≤ mkRat (p : Int) s := by
  refine Rat.num_nonneg.mp ?_
  rw [(mkRat_parts (p : Int) s hs).1]
  exact Int.ediv_nonneg (by omega) (by omega)
theorem mk_le_one (p s : Nat) (hs : 0 < s) (h : p ≤ s) : mkRat (p : Int) s ≤ 1 := by
  refine (Rat.le_iff _ _).mpr ?_
  obtain ⟨e1, e2⟩ := mkRat_parts (p : Int) s hs
  rw [e2, e1]
  show _ / _ * 1 ≤ 1 * (_ / _)
  rw [Int.mul_one, Int.one_mul]
  exact Int.ediv_le_ediv (by have := Nat.gcd_pos_of_pos_right (p : Int).natAbs hs; omega) (by omega)
/-- all numbers up to 61 divide it -/
def LL : Nat := 591133442051411133755680800
theorem ll_dvd : ∀ s : Nat, 0 < s → s ≤ 61 → s ∣ LL := fun s h1 h2 => by
  have h : ∀ s : Fin 62, 0 < s.val → s.val ∣ LL := by decide +kernel
  exact h ⟨s, by omega⟩ h1
theorem ll_pos (e : Nat) : 0 < LL ^ e := Nat.pow_pos (by decide)
theorem ll_mono {e f : Nat} (h : e ≤ f) : LL ^ e ∣ LL ^ f := Nat.pow_dvd_pow LL h
theorem ll_le {e : Nat} : LL ^ e ≤ 2 ^ (89 * e) := by
  rw [Nat.pow_mul]
  exact Nat.pow_le_pow_left (by decide) e
theorem ll_small {e k : Nat} (h : 89 * e ≤ k) : LL ^ e ≤ 2 ^ k := Nat.le_trans ll_le (Nat.pow_le_pow_right (by decide) h)
/-- from NOUGHT to ONE, the bottom divides the e-th power -/
def Ch (e : Nat) (r : Rat) : Prop := 0 ≤ r ∧ r ≤ 1 ∧ r.den ∣ LL ^ e
theorem Ch.den {e : Nat} {r : Rat} (h : Ch e r) : r.den ≤ LL ^ e := Nat.le_of_dvd (ll_pos e) h.2.2
theorem Ch.num {e : Nat} {r : Rat} (h : Ch e r) : r.num.natAbs ≤ LL ^ e := by
  have d3 := h.den
  obtain ⟨h0, h1, h2⟩ := h
  have a := (Rat.le_iff r 1).mp h1
  have b := Rat.num_nonneg.mpr h0
  have c : (1 : Rat).num = 1 := rfl
  have d : (1 : Rat).den = 1 := rfl
  rw [c, d] at a
  omega
theorem Ch.mono {e f : Nat} {r : Rat} (h : Ch e r) (l : e ≤ f) : Ch f r := ⟨h.1, h.2.1, Nat.dvd_trans h.2.2 (ll_mono l)⟩
theorem mk_den_dvd {t : Int} {b : Nat} (h : 0 < b) : (mkRat t b).den ∣ b := by
  rw [Rat.den_mkRat, if_neg (by omega)]
  exact Nat.div_dvd_of_dvd (Nat.gcd_dvd_left _ _)
theorem mul_den_dvd (a b : Rat) : (a * b).den ∣ a.den * b.den := by
  have e : a * b = mkRat (a.num * b.num) (a.den * b.den) := by
    rw [← Rat.mkRat_mul_mkRat, rat_mk, rat_mk]
  rw [e]
  exact mk_den_dvd (Nat.mul_pos (Nat.pos_of_ne_zero a.den_nz) (Nat.pos_of_ne_zero b.den_nz))
theorem Ch.mul {e p s : Nat} {a : Rat} (h : Ch e a) (hs : 0 < s) (h21 : s ≤ 61) (hp : p ≤ s) : Ch (e + 1) (a * mkRat (p : Int) s) := by
  obtain ⟨h0, h1, h2⟩ := h
  have m0 := mk_nonneg p s hs
  have m1 := mk_le_one p s hs hp
  refine ⟨Rat.mul_nonneg h0 m0, ?_, Nat.dvd_trans (mul_den_dvd _ _) ?_⟩
  · have z := Rat.mul_le_mul_of_nonneg_left m1 h0
    rw [Rat.mul_one] at z
    exact Rat.le_trans z h1
  · rw [Nat.pow_succ]
    exact Nat.mul_dvd_mul h2 (Nat.dvd_trans (mk_den_dvd hs) (ll_dvd s hs h21))
theorem ch_zero {e : Nat} : Ch e 0 := ⟨by decide, by decide, Nat.one_dvd _⟩
theorem ch_one {e : Nat} : Ch e 1 := ⟨by decide, by decide, Nat.one_dvd _⟩
theorem ch_share {p s : Nat} (hs : 0 < s) (h21 : s ≤ 61) (hp : p ≤ s) : Ch 1 (mkRat (p : Int) s) := by
  have z := ch_one.mul (e := 0) hs h21 hp
  rw [Rat.one_mul] at z
  exact z
/-! ### right trees -/
def col {n : Nat} (q : Qn n) (j : Nat) : List Rat := q.map fun a => a.2.1.getD j 0
def WordOk (w : List Int) : Prop := w.length ≤ 8 ∧ ∀ x ∈ w, 0 ≤ x ∧ x ≤ 99
/-- one question right but for what is behind -/
structure QnOk (W : Nat) {n : Nat} (ahead : List Rat) (q : Qn n) : Prop where
  one : 1 ≤ q.length
  most : q.length ≤ 12
  words : ∀ a ∈ q, WordOk a.1
  asc : ∀ i (x y : An n), q[i]? = some x → q[i + 1]? = some y → HT.lexLt x.1 y.1 = true
  wide : ∀ a ∈ q, a.2.1.length = W
  chs : ∀ a ∈ q, ∀ r ∈ a.2.1, Ch 6 r
  whole : ∀ j, j < W → fsum (col q j) = ahead.getD j 0
def NdOk (W : Nat) : (n : Nat) → List Rat → Nd n → Prop
  | 0, _, _ => True
  | n + 1, ahead, qs => (show List (Qn n) from qs).length ≤ 5 ∧ ∀ q ∈ (show List (Qn n) from qs), QnOk W ahead q ∧ ∀ a ∈ q, NdOk W n a.2.1 a.2.2
theorem ndOk_empty (W n : Nat) (ws : List Rat) : NdOk W n ws (emptyNd n) := by
  cases n with
  | zero => trivial
  | succ n => exact ⟨Nat.zero_le _, fun q h => absurd h List.not_mem_nil⟩
end Tl
namespace Tl
open PySem PySem.Spec PyProof.Rows L2 RZ
/-- all but the lists at b, g, l stays -/
def Frl (b g l : Addr) (H H' : Hp) : Prop := ∀ a o, H a = some o → a ≠ b → a ≠ g → a ≠ l → H' a = some o
theorem Frl.refl (b g l : Addr) (H : Hp) : Frl b g l H H := fun _ _ h _ _ _ => h
theorem Frl.trans {b g l : Addr} {H1 H2 H3 : Hp} (x : Frl b g l H1 H2) (y : Frl b g l H2 H3) : Frl b g l H1 H3 := fun a o h h1 h2 h3 => y a o (x a o h h1 h2 h3) h1 h2 h3
theorem Frl.of {b g l : Addr} {H H' : Hp} (h : Same H H') : Frl b g l H H' := fun a o q _ _ _ => h a o q
theorem Frl.ofF {b g l : Addr} {H H' : Hp} (h : Frm b g H H') : Frl b g l H H' := fun a o q h1 h2 _ => h a o q h1 h2
theorem Frl.updL {b g l : Addr} {H : Hp} {o : HO} : Frl b g l H (upd H l o) := fun a x h _ _ h3 => by rw [upd_ne h3]; exact h
theorem Frl.updN {b g l p : Addr} {H H' : Hp} {o : HO} (f : Frl b g l H H') (h : H p = none) : Frl b g l H (upd H' p o) := fun a x e h1 h2 h3 => by
  rw [upd_ne (ne_of_none e h)]
  exact f a x e h1 h2 h3
/-- the bag and the list that tells how many answers are left -/
structure BagL (H : Hp) (b g l : Addr) (L : Int) : Prop where
  B : Bag H b g
  hl : H l = some (.lst [.int L])
  lb : l ≠ b
  lg : l ≠ g
theorem BagL.kt {K : PySem.W.Frag} {b g l : Addr} {L : Int} {H H' : Hp} (B : BagL H b g l L) (f : Frl b g l H H') : KT K H H' := fun a xs q => by
  have ne : ∀ {o : HO}, H a = some o → (∀ xs, o ≠ .lst xs) → a ≠ b ∧ a ≠ g ∧ a ≠ l := fun {o} e z => by
    obtain ⟨h1, h2⟩ := B.B.other e z
    exact ⟨h1, h2, fun y => by rw [y, B.hl] at e; exact z _ (Option.some.inj e).symm⟩
  rcases q with (q | ⟨o, q⟩) | q
  · obtain ⟨h1, h2, h3⟩ := ne q (fun xs z => by cases z)
    exact .inl (.inl (f _ _ q h1 h2 h3))
  · obtain ⟨h1, h2, h3⟩ := ne q (fun xs z => by cases z)
    exact .inl (.inr ⟨o, f _ _ q h1 h2 h3⟩)
  · exact .inr q
theorem BagL.keep {b g l : Addr} {L : Int} {H H' : Hp} (B : BagL H b g l L) (s : Same H H') : BagL H' b g l L := ⟨B.B.keep s, s _ _ B.hl, B.lb, B.lg⟩
theorem BagL.neNew {b g l p : Addr} {L : Int} {H : Hp} (B : BagL H b g l L) (h : H p = none) : p ≠ b ∧ p ≠ g ∧ p ≠ l := by
  obtain ⟨h1, h2⟩ := B.B.neNew h
  exact ⟨h1, h2, fun e => by rw [e, B.hl] at h; cases h⟩
theorem BagL.bag {b g l : Addr} {L : Int} {H H' : Hp} (B : BagL H b g l L) (B' : Bag H' b g) (f : Frm b g H H') : BagL H' b g l L := ⟨B', f _ _ B.hl B.lb B.lg, B.lb, B.lg⟩
theorem BagL.updN {b g l p : Addr} {L : Int} {H : Hp} {o : HO} (B : BagL H b g l L) (h1 : p ≠ b) (h2 : p ≠ g) (h3 : p ≠ l) : BagL (upd H p o) b g l L :=
  ⟨B.B.updN h1 h2, by rw [upd_ne h3.symm]; exact B.hl, B.lb, B.lg⟩
theorem BagL.updL {b g l : Addr} {L M : Int} {H : Hp} (B : BagL H b g l L) : BagL (upd H l (.lst [.int M])) b g l M :=
  ⟨B.B.updN B.lb B.lg, upd_same, B.lb, B.lg⟩
theorem Frl.none {b g l p : Addr} {H H' : Hp} (f : Frl b g l H H') (h : H' p = Option.none) (h1 : p ≠ b) (h2 : p ≠ g) (h3 : p ≠ l) : H p = Option.none := by
  cases e : H p with
  | none => rfl
  | some o =>
    rw [f p o e h1 h2 h3] at h
    cases h
def spSome : Sp := fun vs H Q _ => ∃ (b g t : Addr) (xs : List V), vs = [.ref b, .ref t] ∧ Bag H b g ∧ H t = some (.lst xs) ∧ t ≠ b ∧ t ≠ g ∧ 0 < xs.length ∧ xs.length ≤ 1000 ∧
  ∀ (i : Nat) (x : V) (H' : Hp), xs[i]? = some x → Bag H' b g → Frm b g H H' → Q x H'
section
variable {P : Program} {w : World} {K : PySem.W.Frag} {mg : Str → Option Value} {base : Heap}
theorem ok_law_some {f f3 : Addr} {fd fd3 : FuncData} (D : Dn K mg "_law_some" s_law_some ["bag", "things"] f fd) (B : Blt mg) (D_law_pick : Dn K mg "_law_pick" s_law_pick ["bag", "many"] f3 fd3) : FnOk P w K mg base CX0 2 f fd ["bag", "things"] spSome := by
  have G_law_pick : FnOk P w K mg base CX0 1 f3 fd3 ["bag", "many"] spPick := ok_law_pick D_law_pick B
  refine D.F.ok sc_law_some (fun vs H Q E h => ?_) (fun cdv A outer s H vs Q E hr h => ?_)
  · obtain ⟨b, g, t, xs, rfl, _⟩ := h
    rfl
  obtain ⟨b, g, t, xs, rfl, hB, ht, tb, tg, h1, h2, q⟩ := h
  have nd := sc_law_some.nd
  refine ⟨_, (pss_one (ps_ret (pe_ix (k_ixL (K := K) rfl) (pv 1) (pe_call G_law_pick (hr.mono (by omega)) (by rfl) D_law_pick.m D_law_pick.F.kp D_law_pick.b .nil pass0 (pa_cons (pv 0) (pa_cons (pe_callB (k_len (K := K) rfl) (by rfl) B.len PySem.boot_len (pa_cons (pv 1) pa_nil)) pa_nil))) (fun _ _ => rfl)))), ?_⟩
  refine ⟨_, rfl, _, rfl, _, rfl, t, _, rfl, .inl (SqL.of ht), b, g, _, rfl, hB, by omega, by omega, fun r H' r0 r1 B' F' => ?_⟩
  obtain ⟨j, ej⟩ : ∃ j : Nat, r = (j : Int) := ⟨r.toNat, by omega⟩
  have hj : j < xs.length := by omega
  have gj : xs[j]? = some xs[j] := List.getElem?_eq_getElem hj
  exact ⟨t, xs, r, xs[j], rfl, rfl, SqL.of (F' _ _ ht tb tg), at_of (j := j) ej gj, q j _ H' gj B' F'⟩
end
/-! ### questions and nodes that the law draws -/
/-- sharper weights -/
def Sharp {n : Nat} (q : Qn n) : Prop := ∀ a ∈ q, ∀ r ∈ a.2.1, Ch 5 r
def QnG (W : Nat) {n : Nat} (ahead : List Rat) (q : Qn n) : Prop := QnOk W ahead q ∧ Sharp q
def NdG (W : Nat) : (n : Nat) → List Rat → Nd n → Prop
  | 0, _, _ => True
  | n + 1, ahead, qs => (show List (Qn n) from qs).length ≤ 5 ∧ ∀ q ∈ (show List (Qn n) from qs), QnG W ahead q ∧ ∀ a ∈ q, NdG W n a.2.1 a.2.2
theorem ndG_empty (W n : Nat) (ws : List Rat) : NdG W n ws (emptyNd n) := by
  cases n with
  | zero => trivial
  | succ n => exact ⟨Nat.zero_le _, fun q h => absurd h List.not_mem_nil⟩
theorem NdG.ok : ∀ {W n : Nat} {ahead : List Rat} {t : Nd n}, NdG W n ahead t → NdOk W n ahead t
  | _, 0, _, _, _ => trivial
  | _, _ + 1, _, _, h => ⟨h.1, fun q hq => ⟨(h.2 q hq).1.1, fun a ha => NdG.ok ((h.2 q hq).2 a ha)⟩⟩
def Few {n : Nat} (q : Qn n) : Prop := q.length ≤ 3 ∧ Sharp q
/-- right nodes of questions of at most three answers -/
def NdF (W : Nat) : (n : Nat) → List Rat → Nd n → Prop
  | 0, _, _ => True
  | n + 1, ahead, qs => (show List (Qn n) from qs).length ≤ 5 ∧ ∀ q ∈ (show List (Qn n) from qs), (QnOk W ahead q ∧ Few q) ∧ ∀ a ∈ q, NdF W n a.2.1 a.2.2
theorem ndF_empty (W n : Nat) (ws : List Rat) : NdF W n ws (emptyNd n) := by
  cases n with
  | zero => trivial
  | succ n => exact ⟨Nat.zero_le _, fun q h => absurd h List.not_mem_nil⟩
theorem NdF.ok : ∀ {W n : Nat} {ahead : List Rat} {t : Nd n}, NdF W n ahead t → NdOk W n ahead t
  | _, 0, _, _, _ => trivial
  | _, _ + 1, _, _, h => ⟨h.1, fun q hq => ⟨(h.2 q hq).1.1, fun a ha => NdF.ok ((h.2 q hq).2 a ha)⟩⟩
theorem NdF.g : ∀ {W n : Nat} {ahead : List Rat} {t : Nd n}, NdF W n ahead t → NdG W n ahead t
  | _, 0, _, _, _ => trivial
  | _, _ + 1, _, _, h => ⟨h.1, fun q hq => ⟨⟨(h.2 q hq).1.1, (h.2 q hq).1.2.2⟩, fun a ha => NdF.g ((h.2 q hq).2 a ha)⟩⟩
def lowL (n : Nat) : Int := -(3 * (n : Int) + 2)
def spQ (K : PySem.W.Frag) : Nat → Sp
  | 0 => fun _ _ _ _ => False
  | n + 1 => fun vs H Q _ => ∃ (b g l : Addr) (W e : Nat) (av : V) (ahead : List Rat) (L : Int), vs = [.ref b, .int (W : Int), av, .int ((n + 1 : Nat) : Int), .ref l] ∧ BagL H b g l L ∧ Td K H av (wsD ahead) ∧
      ahead.length = W ∧ (∀ r ∈ ahead, Ch e r) ∧ e + (n + 1) ≤ 5 ∧ 1 ≤ W ∧ W ≤ 5 ∧
      ∀ (v : V) (q : Qn n) (L' : Int) (H' : Hp), Td K H' v (qnD n q) → (QnOk W ahead q ∧ Few q) → (∀ a ∈ q, NdF W n a.2.1 a.2.2) → ((cntQ n q : Nat) : Int) + L' = L → (L - 3 ≤ L' ∨ lowL n ≤ L') → BagL H' b g l L' → Frl b g l H H' → Q v H'
def spN (K : PySem.W.Frag) (n : Nat) : Sp := fun vs H Q _ => ∃ (b g l : Addr) (W e : Nat) (av : V) (ahead : List Rat) (L : Int), vs = [.ref b, .int (W : Int), av, .int (n : Int), .ref l] ∧ BagL H b g l L ∧ Td K H av (wsD ahead) ∧
      ahead.length = W ∧ (∀ r ∈ ahead, Ch e r) ∧ e + n ≤ 5 ∧ 1 ≤ W ∧ W ≤ 5 ∧
      ∀ (v : V) (t : Nd n) (L' : Int) (H' : Hp), Td K H' v (ndD n t) → NdF W n ahead t → ((cnt n t : Nat) : Int) + L' = L → (L ≤ L' ∨ lowL n ≤ L') → BagL H' b g l L' → Frl b g l H H' → Q v H'
/-- lists of fractions, told by their places, away from Z -/
def RowsAt (K : PySem.W.Frag) (b g l : Addr) (Z : Addr → Prop) (H : Hp) (R : Addr) (ds : List (List Rat)) : Prop := R ≠ b ∧ R ≠ g ∧ R ≠ l ∧ ¬ Z R ∧ ∃ rs : List Addr, H R = some (.lst (rs.map V.ref)) ∧ rs.length = ds.length ∧
  ∀ (i : Nat) (r : Addr) (d : List Rat), rs[i]? = some r → ds[i]? = some d → (r ≠ R ∧ ¬ Z r) ∧ r ≠ b ∧ r ≠ g ∧ r ≠ l ∧ ∃ us, H r = some (.lst us) ∧ TdAll K H us (d.map rD)
theorem RowsAt.keep {K : PySem.W.Frag} {b g l R : Addr} {Z : Addr → Prop} {H H' : Hp} {ds : List (List Rat)} (h : RowsAt K b g l Z H R ds) (k : KT K H H') (f : Frl b g l H H') : RowsAt K b g l Z H' R ds := by
  obtain ⟨n1, n2, n3, n4, rs, h1, h2, h3⟩ := h
  refine ⟨n1, n2, n3, n4, rs, f _ _ h1 n1 n2 n3, h2, fun i r d e1 e2 => ?_⟩
  obtain ⟨m0, m1, m2, m3, us, u1, u2⟩ := h3 i r d e1 e2
  exact ⟨m0, m1, m2, m3, us, f _ _ u1 m1 m2 m3, u2.keep k⟩
theorem RowsAt.avoid {K : PySem.W.Frag} {b g l R φ : Addr} {Z : Addr → Prop} {H : Hp} {ds : List (List Rat)} (h : RowsAt K b g l Z H R ds) (n : H φ = none) : RowsAt K b g l (fun x => x = φ) H R ds := by
  obtain ⟨n1, n2, n3, _, rs, h1, h2, h3⟩ := h
  refine ⟨n1, n2, n3, ne_of_none h1 n, rs, h1, h2, fun i r d e1 e2 => ?_⟩
  obtain ⟨m0, m1, m2, m3, us, u1, u2⟩ := h3 i r d e1 e2
  exact ⟨⟨m0.1, ne_of_none u1 n⟩, m1, m2, m3, us, u1, u2⟩
end Tl
namespace Tl
open PySem PySem.Spec PyProof.Rows L2 RZ
def cntB (n : Nat) (q : Qn n) : Nat := (q.map fun a => cnt n a.2.2).sum
theorem cntQ_eq (n : Nat) : ∀ q : Qn n, cntQ n q = q.length + cntB n q
  | [] => rfl
  | a :: r => by
    have ih := cntQ_eq n r
    show (1 + cnt n a.2.2) + cntQ n r = (r.length + 1) + (cnt n a.2.2 + cntB n r)
    omega
theorem cntB_snoc (n : Nat) (q : Qn n) (a : An n) : cntB n (q ++ [a]) = cntB n q + cnt n a.2.2 := by
  unfold cntB
  rw [List.map_append, List.sum_append]
  rfl
/-- the weights of the i-th answer -/
def wk (W : Nat) (ahead : List Rat) (ds : List (List Rat)) (i : Nat) : List Rat := (List.range W).map fun j => ahead.getD j 0 * (ds.getD j []).getD i 0
/-- a drawn answer in its place -/
structure AnIs (W n : Nat) (ahead : List Rat) (ds : List (List Rat)) (i : Nat) (a : An n) : Prop where
  w : ∃ r : List Int, a.1 = 11 * (i : Int) :: r ∧ r.length ≤ 7 ∧ ∀ x ∈ r, 0 ≤ x ∧ x ≤ 99
  ws : a.2.1 = wk W ahead ds i
  ok : NdF W n a.2.1 a.2.2
theorem getD_of {α : Type} {l : List α} {i : Nat} {x d : α} (h : l[i]? = some x) : l.getD i d = x := by
  rw [List.getD_eq_getElem?_getD, h]
  rfl
theorem wk_at {W : Nat} {ahead : List Rat} {ds : List (List Rat)} {i j : Nat} (hj : j < W) : (wk W ahead ds i).getD j 0 = ahead.getD j 0 * (ds.getD j []).getD i 0 := by
  refine getD_of ?_
  unfold wk
  rw [List.getElem?_map, List.getElem?_range hj]
  rfl
theorem mem_getD0 {l : List Rat} {P : Rat → Prop} (h : ∀ r ∈ l, P r) {j : Nat} (hj : j < l.length) : P (l.getD j 0) := by
  rw [getD_of (List.getElem?_eq_getElem hj)]
  exact h _ (List.getElem_mem hj)
theorem share_at {m i : Nat} {rs : List Rat} (h : IsShares m rs) (hi : i < m) : ∃ p s : Nat, 0 < s ∧ s ≤ 5 * m + 1 ∧ p ≤ s ∧ rs.getD i 0 = mkRat (p : Int) s := by
  obtain ⟨ps, h1, h2, h3, rfl⟩ := h
  have hi2 : i < ps.length := by omega
  refine ⟨ps[i], ps.sum, h2, h3, ?_, getD_of (by rw [List.getElem?_map, List.getElem?_eq_getElem hi2]; rfl)⟩
  have : ∀ (l : List Nat) (x : Nat), x ∈ l → x ≤ l.sum := fun l => by
    induction l with
    | nil =>
      intro x h
      exact absurd h List.not_mem_nil
    | cons y r ih =>
      intro x h
      rcases List.mem_cons.mp h with rfl | h
      · show x ≤ x + r.sum
        omega
      · have := ih x h
        show x ≤ y + r.sum
        omega
  exact this ps _ (List.getElem_mem hi2)
theorem shares_col {m : Nat} {rs : List Rat} (h : IsShares m rs) (a : Rat) : fsum (rs.map fun x => a * x) = a := by
  obtain ⟨ps, h1, h2, h3, rfl⟩ := h
  rw [fsum_mul, fsum_mk _ h2, mk_same _ h2, Rat.mul_one]
/-- a drawn question is right -/
theorem drawn_ok {W n m e : Nat} {ahead : List Rat} {ds : List (List Rat)} {q : Qn n} (hm1 : 1 ≤ m) (hm : m ≤ 3) (hq : q.length = m) (hd : ds.length = W) (ha : ahead.length = W) (hS : ∀ d ∈ ds, IsShares m d) (hA : ∀ r ∈ ahead, Ch e r) (he : e + 1 ≤ 6)
    (h : ∀ i a, q[i]? = some a → AnIs W n ahead ds i a) : QnOk W ahead q ∧ (∀ a ∈ q, ∀ r ∈ a.2.1, Ch (e + 1) r) := by
  have dj : ∀ j, j < W → IsShares m (ds.getD j []) := fun j hj => by
    have hj2 : j < ds.length := by omega
    rw [getD_of (List.getElem?_eq_getElem hj2)]
    exact hS _ (List.getElem_mem hj2)
  have aj : ∀ j, j < W → Ch e (ahead.getD j 0) := fun j hj => mem_getD0 hA (by omega)
  have chw : ∀ a ∈ q, ∀ r ∈ a.2.1, Ch (e + 1) r := by
    intro a hm' r hr
    obtain ⟨i, hi, rfl⟩ := List.getElem_of_mem hm'
    have A := h i _ (List.getElem?_eq_getElem hi)
    rw [A.ws] at hr
    unfold wk at hr
    obtain ⟨j, hj, rfl⟩ := List.mem_map.mp hr
    have hj := List.mem_range.mp hj
    obtain ⟨p, s, s0, s1, ps, e1⟩ := share_at (dj j hj) (show i < m by omega)
    rw [e1]
    exact (aj j hj).mul s0 (by omega) ps
  have colj : ∀ j, j < W → col q j = (ds.getD j []).map fun x => ahead.getD j 0 * x := by
    intro j hj
    have lj : (ds.getD j []).length = m := by
      obtain ⟨ps, h1, _, _, e1⟩ := dj j hj
      rw [e1, List.length_map, h1]
    refine List.ext_getElem? fun i => ?_
    unfold col
    rw [List.getElem?_map, List.getElem?_map]
    by_cases hi : i < m
    · have g1 : q[i]? = some q[i] := List.getElem?_eq_getElem (by omega)
      have g2 : (ds.getD j [])[i]? = some (ds.getD j [])[i] := List.getElem?_eq_getElem (by omega)
      rw [g1, g2]
      have e3 : (q[i]).2.1 = wk W ahead ds i := (h i _ g1).ws
      show some ((q[i]).2.1.getD j 0) = some (ahead.getD j 0 * (ds.getD j [])[i])
      rw [e3, wk_at hj, getD_of g2]
    · rw [List.getElem?_eq_none (by omega), List.getElem?_eq_none (by omega)]
      rfl
  refine ⟨⟨by omega, by omega, ?_, ?_, ?_, ?_, ?_⟩, chw⟩
  · intro a hm'
    obtain ⟨i, hi, rfl⟩ := List.getElem_of_mem hm'
    obtain ⟨r, e1, e2, e3⟩ := (h i _ (List.getElem?_eq_getElem hi)).w
    rw [e1]
    refine ⟨by rw [List.length_cons]; omega, fun x hx => ?_⟩
    rcases List.mem_cons.mp hx with rfl | hx
    · omega
    · exact e3 x hx
  · intro i x y hx hy
    obtain ⟨r, e1, _⟩ := (h i _ hx).w
    obtain ⟨r2, e2, _⟩ := (h (i + 1) _ hy).w
    rw [e1, e2]
    show (if 11 * (i : Int) = 11 * ((i + 1 : Nat) : Int) then HT.lexLt r r2 else decide (11 * (i : Int) < 11 * ((i + 1 : Nat) : Int))) = true
    rw [if_neg (by omega)]
    exact decide_eq_true (by omega)
  · intro a hm'
    obtain ⟨i, hi, rfl⟩ := List.getElem_of_mem hm'
    rw [(h i _ (List.getElem?_eq_getElem hi)).ws]
    unfold wk
    rw [List.length_map, List.length_range]
  · exact fun a h1 r h2 => (chw a h1 r h2).mono he
  · intro j hj
    rw [colj j hj]
    exact shares_col (dj j hj) _
end Tl
namespace Tl
open PySem PySem.Spec PyProof.Rows L2 RZ
theorem cmul_small {i j : Int} (h1 : i.natAbs < 1024) (h2 : j.natAbs < 1024) : CMulW i j := wide_mul (a := 10) (b := 10) h1 h2 (by decide) (by decide) (by decide)
theorem pow_lt2000 {e : Nat} (h : e ≤ 14) : LL ^ e < 2 ^ 2000 := Nat.lt_of_le_of_lt (ll_small (k := 1500) (by omega)) (Nat.pow_lt_pow_right (by decide) (by decide))
/-- the five words that the law picks from -/
def five (k : Int) : List (List Int) := [[k], [7 * k, 3], [9 * k + 1, 0, 99], List.replicate 7 (90 + k), []]
theorem five_ok {k : Int} (h0 : 0 ≤ k) (h2 : k ≤ 2) : ∀ r ∈ five k, r.length ≤ 7 ∧ ∀ x ∈ r, 0 ≤ x ∧ x ≤ 99 := by
  intro r hr
  unfold five at hr
  simp only [List.mem_cons, List.not_mem_nil, or_false] at hr
  rcases hr with rfl | rfl | rfl | rfl | rfl
  · exact ⟨by simp, fun x hx => by simp at hx; omega⟩
  · exact ⟨by simp, fun x hx => by simp at hx; omega⟩
  · exact ⟨by simp, fun x hx => by simp at hx; omega⟩
  · exact ⟨by simp, fun x hx => by rw [List.mem_replicate] at hx; omega⟩
  · exact ⟨by simp, fun x hx => absurd hx List.not_mem_nil⟩
section
variable {P : Program} {w : World} {K : PySem.W.Frag} {mg : Str → Option Value} {base : Heap}
theorem ok_law_question {m : Nat} {f f1 f2 f3 f4 f5 f6 f7 : Addr} {fd fd1 fd2 fd3 fd4 fd5 fd6 fd7 : FuncData} (D : Dn K mg "_law_question" s_law_question ["bag", "worlds", "ahead", "rounds", "left"] f fd) (B : Blt mg) (D_law_low : Dn K mg "_law_low" s_law_low ["top", "bottom"] f1 fd1) (D_law_common : Dn K mg "_law_common" s_law_common ["one", "other"] f2 fd2)
    (D_law_pick : Dn K mg "_law_pick" s_law_pick ["bag", "many"] f3 fd3) (D_law_shares : Dn K mg "_law_shares" s_law_shares ["bag", "many", "least"] f4 fd4) (D_law_some : Dn K mg "_law_some" s_law_some ["bag", "things"] f5 fd5) (D_law_times : Dn K mg "_law_times" s_law_times ["one", "other"] f6 fd6)
    (D_law_node : Dn K mg "_law_node" s_law_node ["bag", "worlds", "ahead", "rounds", "left"] f7 fd7) (G_law_node : FnOk P w K mg base CX0 (6 + 2 * m) f7 fd7 ["bag", "worlds", "ahead", "rounds", "left"] (spN K m)) :
    FnOk P w K mg base CX0 (7 + 2 * m) f fd ["bag", "worlds", "ahead", "rounds", "left"] (spQ K (m + 1)) := by
  have G_law_pick : FnOk P w K mg base CX0 1 f3 fd3 ["bag", "many"] spPick := ok_law_pick D_law_pick B
  have G_law_shares : FnOk P w K mg base CX0 3 f4 fd4 ["bag", "many", "least"] (spShares K) := ok_law_shares D_law_shares B D_law_low D_law_common D_law_pick
  have G_law_some : FnOk P w K mg base CX0 2 f5 fd5 ["bag", "things"] spSome := ok_law_some D_law_some B D_law_pick
  have G_law_times : FnOk P w K mg base CX0 3 f6 fd6 ["one", "other"] (spTimes K) := ok_law_times D_law_times B D_law_low D_law_common
  rw [show 7 + 2 * m = (6 + 2 * m) + 1 by omega]
  refine D.F.ok sc_law_question (fun vs H Q E h => ?_) (fun cdv A outer s H vs Q E hr h => ?_)
  · obtain ⟨b, g, l, W, e, av, ahead, L, rfl, _⟩ := h
    rfl
  obtain ⟨b, g, l, W, e, av, ahead, L, rfl, hB, hav, hla, hch, hel, hW1, hW5, q⟩ := h
  have nd := sc_law_question.nd
  refine ⟨_, (pss_cons (ps_set (i := 5) nd rfl (.inr rfl) (pe_op op_add pe_int (pe_call G_law_pick (hr.mono (by omega)) (by rfl) D_law_pick.m D_law_pick.F.kp D_law_pick.b .nil pass0 (pa_cons (pv 0) (pa_cons pe_int pa_nil)))))
      (pss_cons (ps_augS (pv 4) pe_int (k_getL (K := K) rfl) (pv 5) ip_sub set_list)
      (pss_cons (ps_set (i := 6) nd rfl (.inr rfl) (pe_lc (own := [("world", 7)]) rfl nd (pi_range1 (by rfl) B.range (pa_cons (pv 1) pa_nil)) (blkOk_by (own := [("world", 7)]) (by kernel_rfl)) (fun _ _ _ _ _ => (pg_name (i := 7) nd rfl (.inl rfl))) (fun _ _ _ _ _ => pts_nil) (fun _ _ _ _ _ => (pe_call G_law_shares (hr.mono (by omega)) (by rfl) D_law_shares.m D_law_shares.F.kp D_law_shares.b .nil pass0 (pa_cons (pv 0) (pa_cons (pv 5) (pa_cons (pe_call G_law_pick (hr.mono (by omega)) (by rfl) D_law_pick.m D_law_pick.F.kp D_law_pick.b .nil pass0 (pa_cons (pv 0) (pa_cons pe_int pa_nil))) pa_nil)))))))
      (pss_cons (ps_set (i := 8) nd rfl (.inl rfl) (pe_lst pa_nil))
      (pss_cons (ps_for PassesOwn.never rfl (pi_range1 (by rfl) B.range (pa_cons (pv 5) pa_nil)) (pg_name (i := 9) nd rfl (.inr rfl)) (pss_cons (ps_set (i := 10) nd rfl (.inl rfl) (pe_call G_law_some (hr.mono (by omega)) (by rfl) D_law_some.m D_law_some.F.kp D_law_some.b .nil pass0 (pa_cons (pv 0) (pa_cons (pe_lst (pa_cons (pe_tup (pa_cons (pv 9) pa_nil)) (pa_cons (pe_tup (pa_cons (pe_op op_mulW pe_int (pv 9)) (pa_cons pe_int pa_nil))) (pa_cons (pe_tup (pa_cons (pe_op op_add (pe_op op_mulW pe_int (pv 9)) pe_int) (pa_cons pe_int (pa_cons pe_int pa_nil)))) (pa_cons (pe_op (k_rep (K := K) rfl) (pe_tup (pa_cons (pe_op op_add pe_int (pv 9)) pa_nil)) pe_int) (pa_cons (pe_tup pa_nil) pa_nil)))))) pa_nil))))
      (pss_cons (ps_set (i := 11) nd rfl (.inl rfl) (pe_callTy (k_tupOf (K := K) rfl) (by rfl) B.tuple (by decide +kernel) (pa_cons (pe_lc (own := [("world", 7)]) rfl nd (pi_range1 (by rfl) B.range (pa_cons (pv 1) pa_nil)) (blkOk_by (own := [("world", 7)]) (by kernel_rfl)) (fun _ _ _ _ _ => (pg_name (i := 7) nd rfl (.inl rfl))) (fun _ _ _ _ _ => pts_nil) (fun _ _ _ _ _ => (pe_call G_law_times (hr.mono (by omega)) (by rfl) D_law_times.m D_law_times.F.kp D_law_times.b .nil pass0 (pa_cons (pe_ix (k_ixT (K := K) rfl) (pv 2) (pv 7) (fun _ _ => rfl)) (pa_cons (pe_ix (k_ixL (K := K) rfl) (pe_ix (k_ixL (K := K) rfl) (pv 6) (pv 7) (fun _ _ => rfl)) (pv 9) (fun _ _ => rfl)) pa_nil))))) pa_nil)))
      (pss_one (ps_expr (pe_bm PySem.F.plainAttrs_list PySem.F.slot_list_append PySem.F.type_list_append mt_append (pv 8) (pa_cons (pe_tup (pa_cons (pe_op (k_cat (K := K) rfl) (pe_tup (pa_cons (pe_op op_mulW pe_int (pv 9)) pa_nil)) (pv 10)) (pa_cons (pv 11) (pa_cons (pe_call G_law_node (hr.mono (by omega)) (by rfl) D_law_node.m D_law_node.F.kp D_law_node.b .nil pass0 (pa_cons (pv 0) (pa_cons (pv 1) (pa_cons (pv 11) (pa_cons (pe_op op_sub (pv 3) pe_int) (pa_cons (pv 4) pa_nil)))))) pa_nil)))) pa_nil)))))))
      (pss_one (ps_ret (pe_callTy (k_tupOf (K := K) rfl) (by rfl) B.tuple (by decide +kernel) (pa_cons (pv 8) pa_nil))))))))), ?_⟩
  -- many = 1 + _law_pick(bag, 3)
  refine ⟨_, rfl, b, g, 3, rfl, hB.B, by decide, by decide, fun r H1 r0 r1 B1 F1 => ⟨_, _, rfl, rfl, ?_⟩⟩
  obtain ⟨mm, em⟩ : ∃ mm : Nat, 1 + r = (mm : Int) := ⟨(1 + r).toNat, by omega⟩
  have mm1 : 1 ≤ mm := by omega
  have mm3 : mm ≤ 3 := by omega
  show gName 5 (V.int (1 + r)) _ _ _
  rw [em]
  have B1 := hB.bag B1 F1
  have F1 : Frl b g l H H1 := .ofF F1
  have hav1 := hav.keep (hB.kt F1)
  -- left[0] -= many
  refine ⟨_, rfl, l, _, 0, _, rfl, rfl, SqL.of B1.hl, rfl, _, rfl, _, _, rfl, rfl, l, _, 0, 0, rfl, rfl, B1.hl, rfl, ?_⟩
  have B2 : BagL (upd H1 l (.lst ([V.int L].set 0 (.int (L - (mm : Int)))))) b g l (L - (mm : Int)) := B1.updL
  have F2 : Frl b g l H1 (upd H1 l (.lst ([V.int L].set 0 (.int (L - (mm : Int)))))) := Frl.updL
  generalize upd H1 l (.lst ([V.int L].set 0 (.int (L - (mm : Int))))) = H2 at B2 F2
  have hav2 := hav1.keep (B1.kt F2)
  have F02 := F1.trans F2
  clear F1 F2 B1 hav1
  -- rows
  refine ⟨_, rfl, _, rfl, by omega, by omega, fun R hR => ?_⟩
  obtain ⟨Rb, Rg, Rl⟩ := B2.neNew hR
  refine lc_range (lo := 0) (n := W) (fun i H3 => ∃ ds : List (List Rat), ds.length = i ∧ RowsAt K b g l (fun _ => False) H3 R ds ∧ (∀ d ∈ ds, IsShares mm d) ∧ BagL H3 b g l (L - (mm : Int)) ∧ Frl b g l H2 H3)
    ⟨[], rfl, ⟨Rb, Rg, Rl, (fun z => z), [], upd_same, rfl, fun i r d e1 _ => by simp at e1⟩, fun d h => absurd h List.not_mem_nil, B2.updN Rb Rg Rl, (Frl.refl b g l H2).updN hR⟩ ?_ ?_
  · rintro i H3 hi ⟨ds, hd, hRows, hS, B3, F3⟩
    refine ⟨rfl, ?_⟩
    refine iteT (B := ∃ ds : List (List Rat), ds.length = i + 1 ∧ RowsAt K b g l (fun _ => False) H3 R ds ∧ (∀ d ∈ ds, IsShares mm d) ∧ BagL H3 b g l (L - (mm : Int)) ∧ Frl b g l H2 H3) ?_
    refine ⟨_, rfl, _, rfl, _, rfl, b, g, 2, rfl, B3.B, by decide, by decide, fun r H4 r0 r1 B4 F4 => ?_⟩
    refine ⟨b, g, mm, r, rfl, B4, mm1, by omega, r0, by omega, fun ρ d us H5 hI h5 t5 fr B5 F5 => ?_⟩
    have B4 := B3.bag B4 F4
    have F4 : Frl b g l H3 H4 := .ofF F4
    have k4 := B3.kt (K := K) F4
    have nρ4 := B4.neNew fr
    have B5 := B4.bag B5 F5
    have F5 : Frl b g l H4 H5 := .ofF F5
    have k5 := k4.trans (B4.kt F5)
    have F35 := F4.trans F5
    obtain ⟨_, _, _, _, rs, h1, h2, h3⟩ := hRows.keep k5 F35
    have ρR : ρ ≠ R := fun z => by
      rw [z] at fr
      obtain ⟨_, _, _, _, rs', h1', _⟩ := hRows.keep k4 F4
      rw [h1'] at fr
      cases fr
    have kR : KT K H5 (upd H5 R (.lst (rs.map V.ref ++ [V.ref ρ]))) := KT.updL h1
    refine ⟨_, h1, by rw [List.length_map]; exact small1000 (by omega), ds ++ [d], by rw [List.length_append, hd]; rfl, ⟨Rb, Rg, Rl, (fun z => z), rs ++ [ρ], by rw [upd_same, List.map_append]; rfl, by rw [List.length_append, List.length_append, h2]; rfl, ?_⟩, ?_, B5.updN Rb Rg Rl, (F3.trans F35).updN hR⟩
    · intro j ρ' d' e1 e2
      by_cases hj : j < rs.length
      · rw [List.getElem?_append_left hj] at e1
        rw [List.getElem?_append_left (by omega)] at e2
        obtain ⟨nR, m1, m2, m3, us', u1, u2⟩ := h3 j ρ' d' e1 e2
        exact ⟨nR, m1, m2, m3, us', by rw [upd_ne nR.1]; exact u1, u2.keep kR⟩
      · have ej : j = rs.length := by
          have := (List.getElem?_eq_some_iff.mp e1).1
          rw [List.length_append] at this
          simp at this
          omega
        subst ej
        rw [List.getElem?_append_right (Nat.le_refl _), Nat.sub_self] at e1
        rw [h2, List.getElem?_append_right (Nat.le_refl _), Nat.sub_self] at e2
        cases e1
        cases e2
        exact ⟨⟨ρR, fun z => z⟩, nρ4.1, nρ4.2.1, nρ4.2.2, us, by rw [upd_ne ρR]; exact h5, t5.keep kR⟩
    · intro d' hd'
      rcases List.mem_append.mp hd' with h | h
      · exact hS d' h
      · rw [List.mem_singleton.mp h]
        exact hI
  rintro H3 ⟨ds, hd, hRows, hS, B3, F3⟩
  have hav3 := hav2.keep (B2.kt F3)
  have F03 := F02.trans F3
  clear F3 F02 hav2 B2
  -- found = []
  refine ⟨Nat.zero_le _, fun φ hφ => ?_⟩
  obtain ⟨φb, φg, φl⟩ := B3.neNew hφ
  have sφ : Same H3 (upd H3 φ (.lst [])) := same_upd hφ
  have hφ0 : H φ = none := F03.none hφ φb φg φl
  -- for k in range(many)
  refine ⟨_, rfl, _, rfl, by omega, by omega, for_range (lo := 0) (n := mm) (fun i σ H4 => ∃ (qs : Qn m) (us : List V) (L4 : Int) (o7 o9 o10 o11 : Option V),
      σ = [some (.ref b), some (.int (W : Int)), some av, some (.int ((m + 1 : Nat) : Int)), some (.ref l), some (.int (mm : Int)), some (.ref R), o7, some (.ref φ), o9, o10, o11] ∧ qs.length = i ∧ H4 φ = some (.lst us) ∧ TdAll K H4 us (qs.map (anD m)) ∧
      (∀ j a, qs[j]? = some a → AnIs W m ahead ds j a) ∧ ((cntB m qs : Nat) : Int) + L4 = L - (mm : Int) ∧ (L - (mm : Int) ≤ L4 ∨ lowL m ≤ L4) ∧ RowsAt K b g l (fun x => x = φ) H4 R ds ∧ R ≠ φ ∧ Td K H4 av (wsD ahead) ∧ BagL H4 b g l L4 ∧ Frl b g l H H4)
    ⟨[], [], L - (mm : Int), none, none, none, none, rfl, rfl, upd_same, .nil, fun j a h => by simp at h, by show ((0 : Nat) : Int) + _ = _; omega, .inl (Int.le_refl _), (hRows.avoid hφ).keep (Same.kt sφ) (.of sφ), ?_, hav3.keep (Same.kt sφ), B3.updN φb φg φl, F03.updN hφ0⟩ ?_ ?_⟩
  · intro z
    obtain ⟨_, _, _, _, rs, h1, _⟩ := hRows
    rw [z, hφ] at h1
    cases h1
  · clear sφ hRows B3 F03 hφ hav3
    rintro i σ H4 hi ⟨qs, us, L4, o7, o9, o10, o11, rfl, hq, h4, t4, hA, hc, hlow, hRows, hRφ, hav4, B4, F4⟩
    have hk : (0 : Int) + (i : Int) = (i : Int) := by omega
    show gName 9 (.int (0 + (i : Int))) _ _ _
    rw [hk]
    -- the five words
    refine ⟨_, rfl, _, rfl, (by show 1 ≤ sizeLine; decide), fun p1 n1 => ?_⟩
    refine ⟨_, rfl, _, _, rfl, rfl, cmul_small (by decide) (by omega), (by show 2 ≤ sizeLine; decide), fun p2 n2 => ?_⟩
    refine ⟨_, rfl, _, _, rfl, rfl, cmul_small (by decide) (by omega), _, _, rfl, rfl, (by show 3 ≤ sizeLine; decide), fun p3 n3 => ?_⟩
    refine ⟨_, rfl, _, _, rfl, rfl, (by show 1 ≤ sizeLine; decide), fun p4 n4 => ?_⟩
    have s4 : Same H4 (upd (upd (upd (upd H4 p1 (.tup [.int (i : Int)])) p2 (.tup [.int (7 * (i : Int)), .int 3])) p3 (.tup [.int (9 * (i : Int) + 1), .int 0, .int 99])) p4 (.tup [.int (90 + (i : Int))])) :=
      (((same_upd n1).trans (same_upd n2)).trans (same_upd n3)).trans (same_upd n4)
    refine ⟨p4, 7, _, rfl, rfl, .inl (.inl upd_same), by simp, by decide, by decide, by simp, fun p5 H5 s5 t5 => ?_⟩
    refine ⟨Nat.zero_le _, fun p6 n6 => ?_⟩
    refine ⟨(by show 5 ≤ sizeLine; decide), fun t nt => ?_⟩
    have t1 : SqT K (upd (upd H5 p6 (.tup [])) t (.lst [.ref p1, .ref p2, .ref p3, .ref p5, .ref p6])) p1 [.int (i : Int)] := Same.kt (same_upd nt) _ _ (Same.kt (same_upd n6) _ _ (Same.kt s5 _ _ (Same.kt (same_upd n4) _ _ (Same.kt (same_upd n3) _ _ (Same.kt (same_upd n2) _ _ (.inl (.inl upd_same)))))))
    have t2 : SqT K (upd (upd H5 p6 (.tup [])) t (.lst [.ref p1, .ref p2, .ref p3, .ref p5, .ref p6])) p2 [.int (7 * (i : Int)), .int 3] := Same.kt (same_upd nt) _ _ (Same.kt (same_upd n6) _ _ (Same.kt s5 _ _ (Same.kt (same_upd n4) _ _ (Same.kt (same_upd n3) _ _ (.inl (.inl upd_same))))))
    have t3 : SqT K (upd (upd H5 p6 (.tup [])) t (.lst [.ref p1, .ref p2, .ref p3, .ref p5, .ref p6])) p3 [.int (9 * (i : Int) + 1), .int 0, .int 99] := Same.kt (same_upd nt) _ _ (Same.kt (same_upd n6) _ _ (Same.kt s5 _ _ (Same.kt (same_upd n4) _ _ (.inl (.inl upd_same)))))
    have t5' : SqT K (upd (upd H5 p6 (.tup [])) t (.lst [.ref p1, .ref p2, .ref p3, .ref p5, .ref p6])) p5 _ := Same.kt (same_upd nt) _ _ (Same.kt (same_upd n6) _ _ t5)
    have t6 : SqT K (upd (upd H5 p6 (.tup [])) t (.lst [.ref p1, .ref p2, .ref p3, .ref p5, .ref p6])) p6 [] := Same.kt (same_upd nt) _ _ (.inl (.inl upd_same))
    have s6 : Same H4 (upd (upd H5 p6 (.tup [])) t (.lst [.ref p1, .ref p2, .ref p3, .ref p5, .ref p6])) := ((s4.trans s5).trans (same_upd n6)).trans (same_upd nt)
    have ht : (upd (upd H5 p6 (.tup [])) t (.lst [.ref p1, .ref p2, .ref p3, .ref p5, .ref p6])) t = some (.lst [.ref p1, .ref p2, .ref p3, .ref p5, .ref p6]) := upd_same
    have nt4 : H4 t = none := ((s4.trans s5).trans (same_upd n6)).free nt
    generalize upd (upd H5 p6 (.tup [])) t (.lst [.ref p1, .ref p2, .ref p3, .ref p5, .ref p6]) = H6 at t1 t2 t3 t5' t6 s6 ht ⊢
    have tw : TdAll K H6 [.ref p1, .ref p2, .ref p3, .ref p5, .ref p6] ((five (i : Int)).map wdD) := by
      refine .cons (.tup t1 (tdAll_ints [(i : Int)])) (.cons (.tup t2 (tdAll_ints [7 * (i : Int), 3])) (.cons (.tup t3 (tdAll_ints [9 * (i : Int) + 1, 0, 99])) (.cons (.tup t5' ?_) (.cons (.tup t6 .nil) .nil))))
      have e : (List.replicate (Int.toNat 7) [V.int (90 + (i : Int))]).flatten = (List.replicate 7 (90 + (i : Int))).map V.int := rfl
      rw [e]
      exact tdAll_ints _
    clear t1 t2 t3 t5' t6 t5 n6 n4 n3 n2 n1 nt s5 s4
    obtain ⟨tb, tg, tl⟩ := B4.neNew nt4
    have B6 := B4.keep s6
    refine ⟨b, g, t, _, rfl, B6.B, ht, tb, tg, by simp, by simp, fun jj x H7 hx B7 F7 => ?_⟩
    obtain ⟨dx, hdx, tx⟩ := tw.getV hx
    obtain ⟨wd, hwd, rfl⟩ : ∃ wd, (five (i : Int))[jj]? = some wd ∧ dx = wdD wd := by
      rw [List.getElem?_map] at hdx
      cases e : (five (i : Int))[jj]? with
      | none =>
        rw [e] at hdx
        cases hdx
      | some wd =>
        rw [e] at hdx
        exact ⟨wd, rfl, (Option.some.inj hdx).symm⟩
    have hwok := five_ok (k := (i : Int)) (by omega) (by omega) wd (List.mem_of_getElem? hwd)
    have B7 := B6.bag B7 F7
    have F7 : Frl b g l H6 H7 := .ofF F7
    have F67 : Frl b g l H4 H7 := (Frl.of s6).trans F7
    have k67 : KT K H4 H7 := (Same.kt s6).trans (B6.kt F7)
    have tx7 := tx.keep (B6.kt F7)
    have hR7 := hRows.keep k67 F67
    have t7 := t4.keep k67
    have h7 := F67 φ _ h4 φb φg φl
    have hav7 := hav4.keep k67
    have F07 := F4.trans F67
    clear hRows t4 h4 hav4 F4 F67 k67 F7 tx tw hx hdx B6 ht s6 nt4 B4
    -- weights
    refine ⟨_, rfl, _, rfl, by omega, by omega, fun wd' nw => ?_⟩
    obtain ⟨wb, wg, wl⟩ := B7.neNew nw
    obtain ⟨aA, aX, rfl, aS, aT⟩ := hav7.tupE
    refine lc_range (lo := 0) (n := W) (fun j H8 => ∃ vs : List V, H8 wd' = some (.lst vs) ∧ TdAll K H8 vs (((wk W ahead ds i).take j).map rD) ∧ Same H7 H8) ⟨[], upd_same, .nil, same_upd nw⟩ ?_ ?_
    · rintro j H8 hj ⟨vs, h8, t8, s8⟩
      refine ⟨rfl, ?_⟩
      refine iteT (B := ∃ vs : List V, H8 wd' = some (.lst vs) ∧ TdAll K H8 vs (((wk W ahead ds i).take (j + 1)).map rD) ∧ Same H7 H8) ?_
      have aj : ahead[j]? = some ahead[j] := List.getElem?_eq_getElem (by omega)
      obtain ⟨va, ea, ta⟩ := aT.get (i := j) (d := rD ahead[j]) (by rw [List.getElem?_map, aj]; rfl)
      obtain ⟨_, _, _, _, rs, h1, h2, h3⟩ := hR7.keep (Same.kt s8) (.of s8)
      have rj : rs[j]? = some rs[j] := List.getElem?_eq_getElem (by omega)
      have dj : ds[j]? = some ds[j] := List.getElem?_eq_getElem (by omega)
      obtain ⟨_, _, _, _, us', u1, u2⟩ := h3 j _ _ rj dj
      obtain ⟨ps, c1, c2, c3, c4⟩ := hS _ (List.getElem_mem (show j < ds.length by omega))
      have lj : ds[j].length = mm := by rw [c4, List.length_map, c1]
      have di : ds[j][i]? = some (ds[j][i]'(by omega)) := List.getElem?_eq_getElem _
      obtain ⟨vb, eb, tb'⟩ := u2.get (i := i) (d := rD (ds[j][i]'(by omega))) (by rw [List.getElem?_map, di]; rfl)
      have hj0 : (0 : Int) + (j : Int) = ((j : Nat) : Int) := by omega
      have ca := hch _ (List.getElem_mem (show j < ahead.length by omega))
      obtain ⟨pp, ss, q1, q2, q3, q4⟩ := share_at (hS _ (List.getElem_mem (show j < ds.length by omega))) hi
      have eqi : ds[j][i]'(by omega) = mkRat (pp : Int) ss := by rw [← q4]; exact (getD_of di).symm
      have cb : Ch 1 (ds[j][i]'(by omega)) := by
        rw [eqi]
        exact ch_share q1 (by omega) q3
      have z1 : LL ^ e < 2 ^ 2000 := pow_lt2000 (by omega)
      have z2 : LL ^ 1 < 2 ^ 2000 := pow_lt2000 (by decide)
      refine ⟨_, rfl, _, rfl, aA, aX, _, va, rfl, by rw [hj0], Same.kt s8 _ _ aS, atI_nat ea, ?_⟩
      refine ⟨_, rfl, _, rfl, R, _, _, _, rfl, by rw [hj0], SqL.of h1, atI_nat (by rw [List.getElem?_map, rj]; rfl), _, rfl, rs[j], us', (i : Int), vb, rfl, rfl, SqL.of u1, atI_nat eb, ?_⟩
      refine ⟨va, vb, _, _, rfl, ta.keep (Same.kt s8), tb', Nat.lt_of_le_of_lt ca.den z1, Nat.lt_of_le_of_lt cb.den z2, Nat.lt_of_le_of_lt ca.num z1, Nat.lt_of_le_of_lt cb.num z2, fun v H9 s9 tv => ?_⟩
      have h9 := s9 _ _ h8
      have kw : KT K H9 (upd H9 wd' (.lst (vs ++ [v]))) := KT.updL h9
      refine ⟨vs, h9, ?_, vs ++ [v], upd_same, ?_, fun a o z => ?_⟩
      · rw [t8.len, List.length_map, List.length_take]
        exact small1000 (by omega)
      · have ewk : (wk W ahead ds i)[j]? = some (ahead[j] * (ds[j][i]'(by omega))) := by
          unfold wk
          rw [List.getElem?_map, List.getElem?_range hj]
          show some (ahead.getD j 0 * (ds.getD j []).getD i 0) = some (ahead[j] * (ds[j][i]'(by omega)))
          rw [getD_of aj, getD_of dj, getD_of di]
        rw [List.take_add_one, ewk, List.map_append]
        exact (t8.keep ((Same.kt s9).trans kw)).app (.cons (tv.keep kw) .nil)
      · rw [upd_ne (ne_of_none z nw)]
        exact s9 _ _ (s8 _ _ z)
    · rintro H8 ⟨vs, h8, t8, s8⟩
      have lw : (wk W ahead ds i).length = W := by
        unfold wk
        rw [List.length_map, List.length_range]
      rw [List.take_of_length_le (by omega)] at t8
      refine ⟨wd', vs, rfl, SqL.of h8, fun wt H9 s9 q9 => ?_⟩
      have s79 := s8.trans s9
      have twt : Td K H9 (.ref wt) (wsD (wk W ahead ds i)) := .tup q9 (t8.keep (Same.kt s9))
      -- found.append(..)
      have h9 := s79 _ _ h7
      refine ⟨_, rfl, .inl ⟨rfl, _, SqL.of h9⟩, _, rfl, _, _, rfl, rfl, cmul_small (by decide) (by omega), (by show 1 ≤ sizeLine; decide), fun p1 n1 => ?_⟩
      obtain ⟨xa, xs, rfl, xS, xT⟩ := tx7.tupE
      have xe := tdAll_intsE xT
      subst xe
      refine ⟨_, rfl, p1, xa, _, _, rfl, rfl, .inl (.inl upd_same), Same.kt (same_upd n1) _ _ (Same.kt s79 _ _ xS), ?_, fun pw H10 s10 q10 => ?_⟩
      · rw [List.length_map]
        have := hwok.1
        exact Nat.le_of_lt (small1000 (by simp; omega))
      have s910 : Same H9 H10 := (same_upd n1).trans s10
      have s710 := s79.trans s910
      have B10 := B7.keep s710
      have hlev : (((m + 1 : Nat) : Int)) - 1 = (m : Int) := by omega
      refine ⟨_, rfl, _, rfl, _, rfl, _, rfl, _, rfl, _, _, rfl, rfl, _, rfl, ?_⟩
      have hdr : ∀ (a : An m), NdF W m a.2.1 a.2.2 → a.1 = 11 * (i : Int) :: wd → a.2.1 = wk W ahead ds i → ∀ j a', (qs ++ [a])[j]? = some a' → AnIs W m ahead ds j a' := by
        intro a o1 o2 o3 j a' ea
        by_cases hj : j < qs.length
        · rw [List.getElem?_append_left hj] at ea
          exact hA j a' ea
        · have ej : j = qs.length := by
            have := (List.getElem?_eq_some_iff.mp ea).1
            rw [List.length_append] at this
            simp at this
            omega
          subst ej
          rw [List.getElem?_append_right (Nat.le_refl _), Nat.sub_self] at ea
          cases ea
          exact ⟨⟨wd, by rw [o2, hq], hwok.1, hwok.2⟩, by rw [o3, hq], o1⟩
      have chk : ∀ r ∈ wk W ahead ds i, Ch (e + 1) r := by
        intro r hr
        unfold wk at hr
        obtain ⟨j, hj, rfl⟩ := List.mem_map.mp hr
        have hj := List.mem_range.mp hj
        have hj2 : j < ds.length := by omega
        rw [getD_of (List.getElem?_eq_getElem hj2)]
        obtain ⟨p, s, s0, s1, ps, e1⟩ := share_at (hS _ (List.getElem_mem hj2)) hi
        rw [e1]
        exact (mem_getD0 hch (by omega)).mul s0 (by omega) ps
      refine ⟨b, g, l, W, e + 1, .ref wt, wk W ahead ds i, L4, congrArg (fun z => [V.ref b, V.int (W : Int), V.ref wt, V.int z, V.ref l]) hlev, B10, twt.keep (Same.kt s910), lw, chk, by omega, hW1, hW5, fun v tn L5 H11 tv nok hcnt hlow5 B11 F11 => ?_⟩
      refine ⟨(by show 3 ≤ sizeLine; decide), fun pa na => ?_⟩
      have F911 : Frl b g l H7 H11 := (Frl.of s710).trans F11
      have k711 : KT K H7 H11 := (Same.kt s710).trans (B10.kt F11)
      have h11 := F911 φ _ h7 φb φg φl
      have naφ : φ ≠ pa := ne_of_none h11 na
      have h12 : (upd H11 pa (.tup [.ref pw, .ref wt, v])) φ = some (.lst us) := by
        rw [upd_ne naφ]
        exact h11
      have s12 : Same H11 (upd H11 pa (.tup [.ref pw, .ref wt, v])) := same_upd na
      refine ⟨φ, us, _, rfl, rfl, h12, ?_, ?_⟩
      · rw [t7.len, List.length_map]
        exact small1000 (by omega)
      have kf : KT K (upd H11 pa (.tup [.ref pw, .ref wt, v])) (upd (upd H11 pa (.tup [.ref pw, .ref wt, v])) φ (.lst (us ++ [.ref pa]))) := KT.updL h12
      have kall : KT K H7 (upd (upd H11 pa (.tup [.ref pw, .ref wt, v])) φ (.lst (us ++ [.ref pa]))) := (k711.trans (Same.kt s12)).trans kf
      have k1011 : KT K H10 (upd (upd H11 pa (.tup [.ref pw, .ref wt, v])) φ (.lst (us ++ [.ref pa]))) := ((B10.kt F11).trans (Same.kt s12)).trans kf
      have tan : Td K (upd (upd H11 pa (.tup [.ref pw, .ref wt, v])) φ (.lst (us ++ [.ref pa]))) (.ref pa) (anD m (11 * (i : Int) :: wd, wk W ahead ds i, tn)) := by
        refine .tup (kf _ _ (.inl (.inl upd_same))) (.cons ?_ (.cons ?_ (.cons (tv.keep ((Same.kt s12).trans kf)) .nil)))
        · exact .tup (k1011 _ _ q10) (tdAll_ints (11 * (i : Int) :: wd))
        · exact twt.keep ((Same.kt s910).trans k1011)
      have F712 : Frl b g l H7 (upd H11 pa (.tup [.ref pw, .ref wt, v])) := F911.trans (.of s12)
      have R12 := hR7.keep (k711.trans (Same.kt s12)) F712
      refine ⟨qs ++ [(11 * (i : Int) :: wd, wk W ahead ds i, tn)], us ++ [.ref pa], L5, _, _, _, _, rfl, by rw [List.length_append, hq]; rfl, upd_same, ?_, hdr _ nok rfl rfl, ?_, ?_, ?_, hRφ, hav7.keep kall, ?_, ?_⟩
      · rw [List.map_append]
        exact (t7.keep kall).app (.cons tan .nil)
      · rw [cntB_snoc]
        show ((cntB m qs + cnt m tn : Nat) : Int) + L5 = _
        omega
      · rcases hlow with hl | hl <;> rcases hlow5 with hl5 | hl5 <;> omega
      · obtain ⟨_, _, _, _, rs, h1, h2, h3⟩ := R12
        refine ⟨Rb, Rg, Rl, hRφ, rs, by rw [upd_ne hRφ]; exact h1, h2, fun j r d e1 e2 => ?_⟩
        obtain ⟨m0, m1, m2, m3, us', u1, u2⟩ := h3 j r d e1 e2
        exact ⟨m0, m1, m2, m3, us', by rw [upd_ne m0.2]; exact u1, u2.keep kf⟩
      · exact (B11.keep s12).updN φb φg φl
      · exact (F07.trans F712).updN hφ0
  · rintro σ H4 ⟨qs, us, L4, o7, o9, o10, o11, rfl, hq, h4, t4, hA, hc, hlow, hRows, hRφ, hav4, B4, F4⟩
    refine ⟨_, rfl, φ, us, rfl, SqL.of h4, fun v H5 s5 q5 => ?_⟩
    obtain ⟨ok1, ok2⟩ := drawn_ok mm1 mm3 hq hd hla hS hch (by omega) hA
    refine q (.ref v) qs L4 H5 (.tup q5 (t4.keep (Same.kt s5))) ⟨ok1, by omega, fun a ha r hr => (ok2 a ha r hr).mono (by omega)⟩ ?_ ?_ ?_ (B4.keep s5) (F4.trans (.of s5))
    · intro a ha
      obtain ⟨j, hj, rfl⟩ := List.getElem_of_mem ha
      exact (hA j _ (List.getElem?_eq_getElem hj)).ok
    · rw [cntQ_eq]
      omega
    · rcases hlow with hl | hl
      · exact .inl (by omega)
      · exact .inr hl
end
end Tl
namespace Tl
open PySem PySem.Spec PyProof.Rows L2 RZ
theorem cnt_snoc (n : Nat) (qs : List (Qn n)) (q : Qn n) : cnt (n + 1) (qs ++ [q] : List (Qn n)) = cnt (n + 1) qs + cntQ n q := by
  rw [cnt_succ, cnt_succ, List.map_append, List.sum_append]
  rfl
section
variable {P : Program} {w : World} {K : PySem.W.Frag} {mg : Str → Option Value} {base : Heap}
theorem ok_law_node {n : Nat} {f f1 f2 : Addr} {fd fd1 fd2 : FuncData} (D : Dn K mg "_law_node" s_law_node ["bag", "worlds", "ahead", "rounds", "left"] f fd) (B : Blt mg) (D_law_pick : Dn K mg "_law_pick" s_law_pick ["bag", "many"] f1 fd1)
    (D_law_question : Dn K mg "_law_question" s_law_question ["bag", "worlds", "ahead", "rounds", "left"] f2 fd2) (G_law_question : FnOk P w K mg base CX0 (5 + 2 * n) f2 fd2 ["bag", "worlds", "ahead", "rounds", "left"] (spQ K n)) :
    FnOk P w K mg base CX0 (6 + 2 * n) f fd ["bag", "worlds", "ahead", "rounds", "left"] (spN K n) := by
  have G_law_pick : FnOk P w K mg base CX0 1 f1 fd1 ["bag", "many"] spPick := ok_law_pick D_law_pick B
  rw [show 6 + 2 * n = (5 + 2 * n) + 1 by omega]
  refine D.F.ok sc_law_node (fun vs H Q E h => ?_) (fun cdv A outer s H vs Q E hr h => ?_)
  · obtain ⟨b, g, l, W, e, av, ahead, L, rfl, _⟩ := h
    rfl
  obtain ⟨b, g, l, W, e, av, ahead, L, rfl, hB, hav, hla, hch, hel, hW1, hW5, q⟩ := h
  have nd := sc_law_node.nd
  refine ⟨_, (pss_cons (ps_if (PW.pt (pw_or (pt_cmpR op_eq (pv 3) pe_int (nomark _)) (pw_or1 (pt_cmpR op_le (pe_ix (k_ixL (K := K) rfl) (pv 4) pe_int (fun _ _ => rfl)) pe_int (nomark _))))) (pss_one (ps_ret (pe_tup pa_nil))) pss_nil)
      (pss_one (ps_ret (pe_callTy (k_tupOf (K := K) rfl) (by rfl) B.tuple (by decide +kernel) (pa_cons (pe_lc (own := [("k", 5)]) rfl nd (pi_range1 (by rfl) B.range (pa_cons (pe_call G_law_pick (hr.mono (by omega)) (by rfl) D_law_pick.m D_law_pick.F.kp D_law_pick.b .nil pass0 (pa_cons (pv 0) (pa_cons pe_int pa_nil))) pa_nil)) (blkOk_by (own := [("k", 5)]) (by kernel_rfl)) (fun _ _ _ _ _ => (pg_name (i := 5) nd rfl (.inl rfl))) (fun _ _ _ _ _ => pts_nil) (fun _ _ _ _ _ => (pe_call G_law_question (hr.mono (by omega)) (by rfl) D_law_question.m D_law_question.F.kp D_law_question.b .nil pass0 (pa_cons (pv 0) (pa_cons (pv 1) (pa_cons (pv 2) (pa_cons (pv 3) (pa_cons (pv 4) pa_nil)))))))) pa_nil))))), ?_⟩
  have none_ : ∀ p, H p = none → Q (.ref p) (upd H p (.tup [])) := fun p np => by
    refine q (.ref p) (emptyNd n) L _ ?_ (ndF_empty _ _ _) (by rw [cnt_empty]; omega) (.inl (Int.le_refl _)) (hB.keep (same_upd np)) (.of (same_upd np))
    rw [ndD_empty]
    exact .tup (.inl (.inl upd_same)) .nil
  refine ⟨_, rfl, rfl, _, rfl, ?_⟩
  refine ite2 (fun c => ?_) (fun c => ?_)
  · exact iteT ⟨Nat.zero_le _, none_⟩
  refine ⟨_, rfl, l, _, 0, _, rfl, rfl, SqL.of hB.hl, at_of (j := 0) rfl rfl, _, _, rfl, rfl, _, rfl, ?_⟩
  refine ite2 (fun c2 => ?_) (fun c2 => ?_)
  · exact ⟨Nat.zero_le _, none_⟩
  have hL : 0 < L := by
    have : ¬ L ≤ 0 := by simpa using c2
    omega
  cases n with
  | zero => exact absurd rfl c
  | succ n =>
    refine ⟨_, rfl, b, g, 3, rfl, hB.B, by decide, by decide, fun r H1 r0 r1 B1 F1 => ⟨_, rfl, by omega, by omega, fun T hT => ?_⟩⟩
    have B1 := hB.bag B1 F1
    have F1 : Frl b g l H H1 := .ofF F1
    have hav1 := hav.keep (hB.kt F1)
    obtain ⟨Tb, Tg, Tl'⟩ := B1.neNew hT
    obtain ⟨mm, em⟩ : ∃ mm : Nat, r = (mm : Int) := ⟨r.toNat, by omega⟩
    have emm : r.toNat = mm := by omega
    rw [emm]
    have T0 : H T = none := F1.none hT Tb Tg Tl'
    refine lc_range (lo := 0) (n := mm) (fun i H2 => ∃ (us : List V) (qs : List (Qn n)) (L2 : Int), qs.length = i ∧ H2 T = some (.lst us) ∧ TdAll K H2 us (qs.map (qnD n)) ∧ (∀ q ∈ qs, (QnOk W ahead q ∧ Few q) ∧ ∀ a ∈ q, NdF W n a.2.1 a.2.2) ∧ ((cnt (n + 1) qs : Nat) : Int) + L2 = L ∧
        (L2 = L ∨ lowL (n + 1) + 3 * ((2 : Int) - i) ≤ L2) ∧ Td K H2 av (wsD ahead) ∧ BagL H2 b g l L2 ∧ Frl b g l H H2)
      ⟨[], [], L, rfl, upd_same, .nil, fun q h => absurd h List.not_mem_nil, by show ((0 : Nat) : Int) + L = L; omega, .inl rfl, hav1.keep (Same.kt (same_upd hT)), B1.updN Tb Tg Tl', F1.updN T0⟩ ?_ ?_
    · rintro i H2 hi ⟨us, qs, L2, hq, h2, t2, ok2, c2, low2, av2, B2, F2⟩
      refine ⟨rfl, ?_⟩
      refine iteT (B := ∃ (us : List V) (qs : List (Qn n)) (L2 : Int), qs.length = i + 1 ∧ H2 T = some (.lst us) ∧ TdAll K H2 us (qs.map (qnD n)) ∧ (∀ q ∈ qs, (QnOk W ahead q ∧ Few q) ∧ ∀ a ∈ q, NdF W n a.2.1 a.2.2) ∧ ((cnt (n + 1) qs : Nat) : Int) + L2 = L ∧
        (L2 = L ∨ lowL (n + 1) + 3 * ((2 : Int) - ((i + 1 : Nat) : Int)) ≤ L2) ∧ Td K H2 av (wsD ahead) ∧ BagL H2 b g l L2 ∧ Frl b g l H H2) ?_
      refine ⟨_, rfl, _, rfl, _, rfl, _, rfl, _, rfl, ?_⟩
      refine ⟨b, g, l, W, e, av, ahead, L2, rfl, B2, av2, hla, hch, hel, hW1, hW5, fun v qn L3 H3 tv ok3 nok3 c3 low3 B3 F3 => ?_⟩
      have k3 := B2.kt (K := K) F3
      have h3 := F3 T _ h2 Tb Tg Tl'
      have kT : KT K H3 (upd H3 T (.lst (us ++ [v]))) := KT.updL h3
      refine ⟨us, h3, ?_, us ++ [v], qs ++ [qn], L3, by rw [List.length_append, hq]; rfl, upd_same, ?_, ?_, ?_, ?_, av2.keep (k3.trans kT), B3.updN Tb Tg Tl', (F2.trans F3).updN T0⟩
      · rw [t2.len, List.length_map]
        exact small1000 (by omega)
      · rw [List.map_append]
        exact (t2.keep (k3.trans kT)).app (.cons (tv.keep kT) .nil)
      · intro q' hq'
        rcases List.mem_append.mp hq' with h | h
        · exact ok2 q' h
        · rw [List.mem_singleton.mp h]
          exact ⟨ok3, nok3⟩
      · rw [cnt_snoc]
        omega
      · have e1 : lowL (n + 1) = lowL n - 3 := by
          unfold lowL
          omega
        have e2 : lowL n = -(3 * (n : Int) + 2) := rfl
        refine .inr ?_
        rcases low2 with l2 | l2 <;> rcases low3 with l3 | l3 <;> omega
    · rintro H2 ⟨us, qs, L2, hq, h2, t2, ok2, c2, low2, av2, B2, F2⟩
      refine ⟨T, us, rfl, SqL.of h2, fun v H3 s3 q3 => ?_⟩
      refine q (.ref v) qs L2 H3 (.tup q3 (t2.keep (Same.kt s3))) ⟨by show qs.length ≤ 5; omega, ok2⟩ c2 ?_ (B2.keep s3) (F2.trans (.of s3))
      rcases low2 with l2 | l2
      · exact .inl (by omega)
      · exact .inr (by omega)
/-- both, by the number of levels -/
theorem ok_law_qn {f f1 f2 f3 f4 f5 f6 f7 : Addr} {fd fd1 fd2 fd3 fd4 fd5 fd6 fd7 : FuncData} (D_law_question : Dn K mg "_law_question" s_law_question ["bag", "worlds", "ahead", "rounds", "left"] f fd) (B : Blt mg) (D_law_low : Dn K mg "_law_low" s_law_low ["top", "bottom"] f1 fd1) (D_law_common : Dn K mg "_law_common" s_law_common ["one", "other"] f2 fd2)
    (D_law_pick : Dn K mg "_law_pick" s_law_pick ["bag", "many"] f3 fd3) (D_law_shares : Dn K mg "_law_shares" s_law_shares ["bag", "many", "least"] f4 fd4) (D_law_some : Dn K mg "_law_some" s_law_some ["bag", "things"] f5 fd5) (D_law_times : Dn K mg "_law_times" s_law_times ["one", "other"] f6 fd6)
    (D_law_node : Dn K mg "_law_node" s_law_node ["bag", "worlds", "ahead", "rounds", "left"] f7 fd7) :
    ∀ n : Nat, FnOk P w K mg base CX0 (5 + 2 * n) f fd ["bag", "worlds", "ahead", "rounds", "left"] (spQ K n) ∧ FnOk P w K mg base CX0 (6 + 2 * n) f7 fd7 ["bag", "worlds", "ahead", "rounds", "left"] (spN K n)
  | 0 => by
    have h0 : FnOk P w K mg base CX0 (5 + 2 * 0) f fd ["bag", "worlds", "ahead", "rounds", "left"] (spQ K 0) := ⟨fun vs H Q E h => h.elim, fun A outer s H args us vs Q E _ _ _ _ h => h.elim⟩
    exact ⟨h0, ok_law_node D_law_node B D_law_pick D_law_question h0⟩
  | n + 1 => by
    have ih := ok_law_qn D_law_question B D_law_low D_law_common D_law_pick D_law_shares D_law_some D_law_times D_law_node n
    have h1 : FnOk P w K mg base CX0 (5 + 2 * (n + 1)) f fd ["bag", "worlds", "ahead", "rounds", "left"] (spQ K (n + 1)) := by
      have := ok_law_question D_law_question B D_law_low D_law_common D_law_pick D_law_shares D_law_some D_law_times D_law_node ih.2
      rw [show 5 + 2 * (n + 1) = 7 + 2 * n by omega]
      exact this
    exact ⟨h1, ok_law_node D_law_node B D_law_pick D_law_question h1⟩
end
end Tl
namespace Tl
open PySem PySem.Spec PyProof.Rows L2 RZ
def ones (W : Nat) : List Rat := List.replicate W 1
theorem ones_ch {W e : Nat} : ∀ r ∈ ones W, Ch e r := fun r hr => by
  rw [(List.mem_replicate.mp hr).2]
  exact ch_one
theorem rD_one : rD 1 = .tuple [.int 1, .int 1] := rfl
theorem rD_zero : rD 0 = .tuple [.int 0, .int 1] := rfl
theorem tdAll_rep {K : PySem.W.Frag} {H : Hp} {v : V} {d : PyData} (h : Td K H v d) : ∀ n : Nat, TdAll K H (List.replicate n v) (List.replicate n d)
  | 0 => .nil
  | n + 1 => by
    rw [List.replicate_succ, List.replicate_succ]
    exact .cons h (tdAll_rep h n)
theorem flat_rep {α : Type} (v : α) : ∀ n : Nat, (List.replicate n [v]).flatten = List.replicate n v
  | 0 => rfl
  | n + 1 => by
    rw [List.replicate_succ, List.flatten_cons, flat_rep v n, List.replicate_succ]
    rfl
theorem ones_td {K : PySem.W.Frag} {H : Hp} {p q : Addr} {W : Nat} (hq : Td K H (.ref q) (rD 1)) (hp : SqT K H p (List.replicate (W : Int).toNat [V.ref q]).flatten) : Td K H (.ref p) (wsD (ones W)) := by
  rw [flat_rep, Int.toNat_natCast] at hp
  refine .tup hp ?_
  unfold ones
  rw [List.map_replicate]
  exact tdAll_rep hq W
/-- a drawn tree -/
def spTree (K : PySem.W.Frag) (n : Nat) : Sp := fun vs H Q _ => ∃ (b g : Addr) (W : Nat) (A : Nat), vs = [.ref b, .int (W : Int), .int ((n + 1 : Nat) : Int), .int (A : Int)] ∧ Bag H b g ∧ n + 1 ≤ 5 ∧ 1 ≤ W ∧ W ≤ 5 ∧
  ∀ (v : V) (t : Nd (n + 1)) (H' : Hp), Td K H' v (ndD (n + 1) t) → NdF W (n + 1) (ones W) t → cnt (n + 1) t ≤ A + 3 * n + 8 → Bag H' b g → Frm b g H H' → Q v H'
section
variable {P : Program} {w : World} {K : PySem.W.Frag} {mg : Str → Option Value} {base : Heap}
theorem ok_law_tree {n : Nat} {f f1 f2 : Addr} {fd fd1 fd2 : FuncData} (D : Dn K mg "_law_tree" s_law_tree ["bag", "worlds", "rounds", "answers"] f fd) (B : Blt mg) (D_law_pick : Dn K mg "_law_pick" s_law_pick ["bag", "many"] f1 fd1)
    (D_law_question : Dn K mg "_law_question" s_law_question ["bag", "worlds", "ahead", "rounds", "left"] f2 fd2) (G_law_question : FnOk P w K mg base CX0 (5 + 2 * (n + 1)) f2 fd2 ["bag", "worlds", "ahead", "rounds", "left"] (spQ K (n + 1))) :
    FnOk P w K mg base CX0 (6 + 2 * (n + 1)) f fd ["bag", "worlds", "rounds", "answers"] (spTree K n) := by
  have G_law_pick : FnOk P w K mg base CX0 1 f1 fd1 ["bag", "many"] spPick := ok_law_pick D_law_pick B
  rw [show 6 + 2 * (n + 1) = (5 + 2 * (n + 1)) + 1 by omega]
  refine D.F.ok sc_law_tree (fun vs H Q E h => ?_) (fun cdv A outer s H vs Q E hr h => ?_)
  · obtain ⟨b, g, W, A, rfl, _⟩ := h
    rfl
  obtain ⟨b, g, W, A, rfl, hB, hn, hW1, hW5, q⟩ := h
  have nd := sc_law_tree.nd
  refine ⟨_, (pss_cons (ps_asg (pe_tup (pa_cons (pe_op (k_rep (K := K) rfl) (pe_tup (pa_cons (pe_tup (pa_cons pe_int (pa_cons pe_int pa_nil))) pa_nil)) (pv 1)) (pa_cons (pe_lst (pa_cons (pv 3) pa_nil)) pa_nil))) (k_tup (K := K) (n := 2) rfl rfl (pgs_cons (pg_name (i := 4) nd rfl (.inr rfl)) (pgs_cons (pg_name (i := 5) nd rfl (.inr rfl)) pgs_nil))))
      (pss_cons (ps_setLc (i := 6) (own := [("k", 7)]) rfl nd rfl rfl (sw_true rfl rfl rfl (by decide +kernel)) (pi_range1 (by rfl) B.range (pa_cons (pe_op op_add pe_int (pe_call G_law_pick (hr.mono (by omega)) (by rfl) D_law_pick.m D_law_pick.F.kp D_law_pick.b .nil pass0 (pa_cons (pv 0) (pa_cons pe_int pa_nil)))) pa_nil)) (blkOk_by (own := [("k", 7)]) (by kernel_rfl)) (fun _ _ _ _ _ => (pg_name (i := 7) nd rfl (.inl rfl))) (fun _ _ _ _ _ => pts_nil) (fun _ _ _ _ _ => (pe_call G_law_question (hr.mono (by omega)) (by rfl) D_law_question.m D_law_question.F.kp D_law_question.b .nil pass0 (pa_cons (pv 0) (pa_cons (pv 1) (pa_cons (pv 4) (pa_cons (pv 2) (pa_cons (pv 5) pa_nil))))))))
      (pss_one (ps_ret (pe_callTy (k_tupOf (K := K) rfl) (by rfl) B.tuple (by decide +kernel) (pa_cons (pv 6) pa_nil)))))), ?_⟩
  refine ⟨(by show 2 ≤ sizeLine; decide), fun p1 n1 => ⟨(by show 1 ≤ sizeLine; decide), fun p2 n2 => ?_⟩⟩
  have s2 : Same H (upd (upd H p1 (.tup [.int 1, .int 1])) p2 (.tup [.ref p1])) := (same_upd n1).trans (same_upd n2)
  refine ⟨_, rfl, p2, (W : Int), _, rfl, rfl, .inl (.inl upd_same), by simp, by omega, by omega, by simp, fun pa H3 s3 q3 => ?_⟩
  refine ⟨_, rfl, (by show 1 ≤ sizeLine; decide), fun l nl => ?_⟩
  refine ⟨(by show 2 ≤ sizeLine; decide), fun pt npt => ?_⟩
  have hl : (upd (upd H3 l (.lst [.int (A : Int)])) pt (.tup [.ref pa, .ref l])) l = some (.lst [.int (A : Int)]) := by
    rw [upd_ne (ne_of_none (H := upd H3 l (.lst [.int (A : Int)])) upd_same npt)]
    exact upd_same
  have s35 : Same H3 (upd (upd H3 l (.lst [.int (A : Int)])) pt (.tup [.ref pa, .ref l])) := (same_upd nl).trans (same_upd npt)
  have s5 := (s2.trans s3).trans s35
  have t1 : Td K (upd (upd H3 l (.lst [.int (A : Int)])) pt (.tup [.ref pa, .ref l])) (.ref p1) (rD 1) := by
    rw [rD_one]
    exact .tup (Same.kt s35 _ _ (Same.kt s3 _ _ (Same.kt (same_upd n2) _ _ (.inl (.inl upd_same))))) (tdAll_ints [1, 1])
  have ta : Td K (upd (upd H3 l (.lst [.int (A : Int)])) pt (.tup [.ref pa, .ref l])) (.ref pa) (wsD (ones W)) := ones_td t1 (Same.kt s35 _ _ q3)
  have nl0 : H l = none := (s2.trans s3).free nl
  obtain ⟨lb, lg⟩ := hB.neNew nl0
  refine ⟨pt, [.ref pa, .ref l], rfl, .inl (.inl upd_same), rfl, _, _, rfl, _, _, rfl, rfl, ?_⟩
  generalize upd (upd H3 l (.lst [.int (A : Int)])) pt (.tup [.ref pa, .ref l]) = H5 at hl s5 ta
  have B5 : BagL H5 b g l (A : Int) := ⟨hB.keep s5, hl, lb, lg⟩
  clear t1
  -- some
  refine ⟨_, rfl, b, g, 2, rfl, B5.B, by decide, by decide, fun r H6 r0 r1 B6 F6 => ⟨_, _, rfl, rfl, _, rfl, by omega, by omega, fun T hT => ?_⟩⟩
  have B6 := B5.bag B6 F6
  have F6 : Frl b g l H5 H6 := .ofF F6
  have ta6 := ta.keep (B5.kt F6)
  obtain ⟨Tb, Tg, Tl'⟩ := B6.neNew hT
  obtain ⟨mm, em⟩ : ∃ mm : Nat, (1 + r).toNat = mm := ⟨_, rfl⟩
  rw [em]
  have F06 : Frl b g l H H6 := (Frl.of s5).trans F6
  have T0 : H T = none := F06.none hT Tb Tg Tl'
  refine lc_range (lo := 0) (n := mm) (fun i H2 => ∃ (us : List V) (qs : List (Qn n)) (L2 : Int), qs.length = i ∧ H2 T = some (.lst us) ∧ TdAll K H2 us (qs.map (qnD n)) ∧ (∀ q ∈ qs, (QnOk W (ones W) q ∧ Few q) ∧ ∀ a ∈ q, NdF W n a.2.1 a.2.2) ∧ ((cnt (n + 1) qs : Nat) : Int) + L2 = (A : Int) ∧
      ((A : Int) - 3 * i ≤ L2 ∨ lowL n - 3 * i ≤ L2) ∧ Td K H2 (.ref pa) (wsD (ones W)) ∧ BagL H2 b g l L2 ∧ Frl b g l H H2)
    ⟨[], [], (A : Int), rfl, upd_same, .nil, fun q h => absurd h List.not_mem_nil, by show ((0 : Nat) : Int) + (A : Int) = A; omega, .inl (by omega), ta6.keep (Same.kt (same_upd hT)), B6.updN Tb Tg Tl', F06.updN T0⟩ ?_ ?_
  · rintro i H2 hi ⟨us, qs, L2, hq, h2, t2, ok2, c2, low2, av2, B2, F2⟩
    refine ⟨rfl, ?_⟩
    refine iteT (B := ∃ (us : List V) (qs : List (Qn n)) (L2 : Int), qs.length = i + 1 ∧ H2 T = some (.lst us) ∧ TdAll K H2 us (qs.map (qnD n)) ∧ (∀ q ∈ qs, (QnOk W (ones W) q ∧ Few q) ∧ ∀ a ∈ q, NdF W n a.2.1 a.2.2) ∧ ((cnt (n + 1) qs : Nat) : Int) + L2 = (A : Int) ∧
      ((A : Int) - 3 * ((i + 1 : Nat) : Int) ≤ L2 ∨ lowL n - 3 * ((i + 1 : Nat) : Int) ≤ L2) ∧ Td K H2 (.ref pa) (wsD (ones W)) ∧ BagL H2 b g l L2 ∧ Frl b g l H H2) ?_
    refine ⟨_, rfl, _, rfl, _, rfl, _, rfl, _, rfl, ?_⟩
    refine ⟨b, g, l, W, 0, .ref pa, ones W, L2, rfl, B2, av2, by unfold ones; rw [List.length_replicate], ones_ch, by omega, hW1, hW5, fun v qn L3 H3 tv ok3 nok3 c3 low3 B3 F3 => ?_⟩
    have k3 := B2.kt (K := K) F3
    have h3 := F3 T _ h2 Tb Tg Tl'
    have kT : KT K H3 (upd H3 T (.lst (us ++ [v]))) := KT.updL h3
    refine ⟨us, h3, ?_, us ++ [v], qs ++ [qn], L3, by rw [List.length_append, hq]; rfl, upd_same, ?_, ?_, ?_, ?_, av2.keep (k3.trans kT), B3.updN Tb Tg Tl', (F2.trans F3).updN T0⟩
    · rw [t2.len, List.length_map]
      exact small1000 (by omega)
    · rw [List.map_append]
      exact (t2.keep (k3.trans kT)).app (.cons (tv.keep kT) .nil)
    · intro q' hq'
      rcases List.mem_append.mp hq' with h | h
      · exact ok2 q' h
      · rw [List.mem_singleton.mp h]
        exact ⟨ok3, nok3⟩
    · rw [cnt_snoc]
      omega
    · rcases low2 with l2 | l2 <;> rcases low3 with l3 | l3 <;> omega
  · rintro H2 ⟨us, qs, L2, hq, h2, t2, ok2, c2, low2, av2, B2, F2⟩
    refine ⟨_, rfl, T, us, rfl, SqL.of h2, fun v H3 s3 q3 => ?_⟩
    refine q (.ref v) qs H3 (.tup q3 (t2.keep (Same.kt s3))) ⟨by show qs.length ≤ 5; omega, ok2⟩ ?_ ((B2.keep s3).B) ?_
    · have e2 : lowL n = -(3 * (n : Int) + 2) := rfl
      rcases low2 with l2 | l2 <;> omega
    · intro a o ha h1 h2'
      exact (F2.trans (.of s3)) a o ha h1 h2' (fun z => by rw [z, nl0] at ha; cases ha)
end
end Tl
namespace Tl
open PySem PySem.Spec PyProof.Rows L2 RZ
/-- the module's constants -/
structure Cst (K : PySem.W.Frag) (mg : Str → Option Value) (aN aO : Addr) (t1 t2 t3 t4 t5 t6 t7 : Tok) : Prop where
  gcd : mg "gcd" = some (.builtin "math.gcd")
  lcm : mg "lcm" = some (.builtin "math.lcm")
  ONE : mg "ONE" = some (.ref aO)
  tO : ∀ H, SqT K H aO [.int 1, .int 1]
  MOST_QUESTIONS : mg "MOST_QUESTIONS" = some (.int 5 t1)
  MOST_WORDS : mg "MOST_WORDS" = some (.int 12 t2)
  MOST_NUMBERS : mg "MOST_NUMBERS" = some (.int 8 t3)
  MOST_ON_A_WAY : mg "MOST_ON_A_WAY" = some (.int 8 t4)
  MOST_PASSED : mg "MOST_PASSED" = some (.int 1500 t5)
  MOST_ROUNDS : mg "MOST_ROUNDS" = some (.int 12 t6)
  MOST_ANSWERS : mg "MOST_ANSWERS" = some (.int 3000 t7)
theorem tyx_tup {K : PySem.W.Frag} {H : Hp} {a : Addr} {xs : List V} (h : SqT K H a xs) : TyX K H (.ref a) (.type "tuple") := by
  rcases h with (h | ⟨o, h⟩) | ⟨o, its, n, h, c, _⟩
  · exact .base (.tup h)
  · exact .fTuple h
  · exact .kTuple h c
def spIntegral : Sp := fun vs H Q _ => ∃ i : Int, vs = [.int i] ∧ Q (.bl true) H
def spNumber : Sp := fun vs H Q _ => ∃ i lo hi : Int, vs = [.int i, .int lo, .int hi] ∧ Q (.bl (decide (lo ≤ i) && decide (i ≤ hi))) H
def spFraction (K : PySem.W.Frag) : Sp := fun vs H Q _ => ∃ (v : V) (q : Rat), vs = [v] ∧ Td K H v (rD q) ∧ Q (.bl true) H
def spChance (K : PySem.W.Frag) : Sp := fun vs H Q _ => ∃ (v : V) (q : Rat), vs = [v] ∧ Td K H v (rD q) ∧ 0 ≤ q ∧ q ≤ 1 ∧ Q (.bl true) H
def spReduced (K : PySem.W.Frag) : Sp := fun vs H Q _ => ∃ (t : Int) (b : Nat), vs = [.int t, .int (b : Int)] ∧ 0 < b ∧ b < 2 ^ 4000 ∧ ∀ v H', Same H H' → Td K H' v (rD (mkRat t b)) → Q v H'
/-- small enough to be reckoned with -/
def Sm (q : Rat) : Prop := q.den < 2 ^ 1500 ∧ q.num.natAbs < 2 ^ 1500
theorem ll_lt1500 {e : Nat} (h : e ≤ 16) : LL ^ e < 2 ^ 1500 := Nat.lt_of_le_of_lt (ll_small (k := 1450) (by omega)) (Nat.pow_lt_pow_right (by decide) (by decide))
theorem Ch.sm {e : Nat} {q : Rat} (h : Ch e q) (he : e ≤ 16) : Sm q := ⟨Nat.lt_of_le_of_lt h.den (ll_lt1500 he), Nat.lt_of_le_of_lt h.num (ll_lt1500 he)⟩
def spAdded (K : PySem.W.Frag) : Sp := fun vs H Q _ => ∃ (x y : V) (p q : Rat), vs = [x, y] ∧ Td K H x (rD p) ∧ Td K H y (rD q) ∧ Sm p ∧ Sm q ∧ ∀ v H', Same H H' → Td K H' v (rD (p + q)) → Q v H'
theorem mapAt {α β : Type} {l : List α} {f : α → β} {i : Nat} {y : β} (h : (l.map f)[i]? = some y) : ∃ x, l[i]? = some x ∧ y = f x := by
  rw [List.getElem?_map] at h
  cases e : l[i]? with
  | none =>
    rw [e] at h
    cases h
  | some x =>
    rw [e] at h
    exact ⟨x, rfl, (Option.some.inj h).symm⟩
/-! fractions with one bottom -/
def fr (D : Nat) (n : Int) : Rat := mkRat n D
theorem fr_add {D : Nat} (hD : 0 < D) (m n : Int) : fr D m + fr D n = fr D (m + n) := mk_add m n D hD
theorem fsum_fr {D : Nat} (hD : 0 < D) : ∀ ns : List Int, fsum (ns.map (fr D)) = fr D ns.sum
  | [] => by
    show (0 : Rat) = mkRat 0 D
    rw [Rat.zero_mkRat]
  | n :: r => by
    rw [List.map_cons, fsum_cons, fsum_fr hD r, fr_add hD]
    rfl
def abssum (ns : List Int) : Nat := (ns.map Int.natAbs).sum
theorem abssum_cons (n : Int) (r : List Int) : abssum (n :: r) = n.natAbs + abssum r := rfl
theorem abssum_mem {ns : List Int} {n : Int} (h : n ∈ ns) : n.natAbs ≤ abssum ns := by
  induction ns with
  | nil => exact absurd h List.not_mem_nil
  | cons x r ih =>
    rw [abssum_cons]
    rcases List.mem_cons.mp h with rfl | h
    · omega
    · have := ih h
      omega
theorem fr_sm {D : Nat} (hD : 0 < D) (h : D < 2 ^ 1500) {n : Int} (hn : n.natAbs < 2 ^ 1500) : Sm (fr D n) := by
  refine ⟨Nat.lt_of_le_of_lt (mkRat_den_le n D hD) h, Nat.lt_of_le_of_lt ?_ hn⟩
  show (mkRat n D).num.natAbs ≤ _
  rw [(mkRat_parts n D hD).1]
  exact Int.natAbs_ediv_le_natAbs _ _
/-- the sums of pairs -/
def prs : List Int → List Int
  | a :: b :: r => (a + b) :: prs r
  | _ => []
theorem prs_len : ∀ ns : List Int, (prs ns).length = ns.length / 2
  | [] => by
    show 0 = 0 / 2
    decide
  | [a] => by
    show 0 = 1 / 2
    decide
  | a :: b :: r => by
    show (prs r).length + 1 = (r.length + 1 + 1) / 2
    rw [prs_len r]
    omega
theorem prs_at : ∀ (ns : List Int) (i : Nat) (x y : Int), ns[2 * i]? = some x → ns[2 * i + 1]? = some y → (prs ns)[i]? = some (x + y)
  | [], i, x, y, h, _ => by simp at h
  | [a], i, x, y, _, h => by simp at h
  | a :: b :: r, 0, x, y, h1, h2 => by
    cases h1
    cases h2
    rfl
  | a :: b :: r, i + 1, x, y, h1, h2 => by
    rw [show 2 * (i + 1) = 2 * i + 1 + 1 by omega] at h1 h2
    exact prs_at r i x y (by simpa using h1) (by simpa using h2)
def pw (ns : List Int) : List Int := prs ns ++ ns.drop (2 * (prs ns).length)
theorem pw_cons (a b : Int) (r : List Int) : pw (a :: b :: r) = (a + b) :: pw r := rfl
theorem pw_sum : ∀ ns : List Int, (pw ns).sum = ns.sum
  | [] => rfl
  | [a] => rfl
  | a :: b :: r => by
    rw [pw_cons]
    show (a + b) + (pw r).sum = a + (b + r.sum)
    rw [pw_sum r]
    omega
theorem pw_abs : ∀ ns : List Int, abssum (pw ns) ≤ abssum ns
  | [] => Nat.le_refl _
  | [a] => Nat.le_refl _
  | a :: b :: r => by
    rw [pw_cons, abssum_cons, abssum_cons, abssum_cons]
    have := pw_abs r
    omega
theorem pw_len (ns : List Int) : (pw ns).length = ns.length - (prs ns).length := by
  unfold pw
  have := prs_len ns
  rw [List.length_append, List.length_drop]
  omega
def frN (D : Nat) (r : Rat) : Int := r.num * ((D / r.den : Nat) : Int)
theorem fr_frN {D : Nat} (hD : 0 < D) {r : Rat} (h : r.den ∣ D) : fr D (frN D r) = r := by
  obtain ⟨k, e⟩ := h
  have d0 : 0 < r.den := Nat.pos_of_ne_zero r.den_nz
  have k0 : k ≠ 0 := fun z => by
    rw [z, Nat.mul_zero] at e
    omega
  have ek : D / r.den = k := by rw [e]; exact Nat.mul_div_cancel_left k d0
  unfold fr frN
  rw [ek]
  show mkRat (r.num * (k : Int)) D = r
  rw [e, Rat.mkRat_mul_right k0]
  exact rat_mk r
theorem frs_frN {D : Nat} (hD : 0 < D) : ∀ {rs : List Rat}, (∀ r ∈ rs, r.den ∣ D) → (rs.map (frN D)).map (fr D) = rs
  | [], _ => rfl
  | r :: rs, h => by
    rw [List.map_cons, List.map_cons, fr_frN hD (h r (List.mem_cons_self ..)), frs_frN hD fun x hx => h x (List.mem_cons_of_mem _ hx)]
theorem frN_abs {D : Nat} {r : Rat} (h : r.den ∣ D) (h0 : 0 ≤ r) (h1 : r ≤ 1) : (frN D r).natAbs ≤ D := by
  have a := (Rat.le_iff r 1).mp h1
  have b := Rat.num_nonneg.mpr h0
  have c : (1 : Rat).num = 1 := rfl
  have d : (1 : Rat).den = 1 := rfl
  rw [c, d] at a
  have n1 : r.num.natAbs ≤ r.den := by omega
  unfold frN
  rw [Int.natAbs_mul, Int.natAbs_natCast]
  have := Nat.mul_le_mul_right (D / r.den) n1
  rw [Nat.mul_div_cancel' h] at this
  exact this
theorem frNs_abs {D : Nat} : ∀ {rs : List Rat}, (∀ r ∈ rs, r.den ∣ D ∧ 0 ≤ r ∧ r ≤ 1) → abssum (rs.map (frN D)) ≤ rs.length * D
  | [], _ => by
    rw [List.length_nil, Nat.zero_mul]
    exact Nat.le_refl 0
  | r :: rs, h => by
    rw [List.map_cons, abssum_cons, List.length_cons, Nat.add_mul, Nat.one_mul]
    obtain ⟨a, b, c⟩ := h r (List.mem_cons_self ..)
    have := frN_abs a b c
    have := frNs_abs fun x hx => h x (List.mem_cons_of_mem _ hx)
    omega
theorem TdAll.drop {K : PySem.W.Frag} {H : Hp} : ∀ {us : List V} {ds : List PyData} (k : Nat), TdAll K H us ds → TdAll K H (us.drop k) (ds.drop k)
  | _, _, 0, h => h
  | _, _, _ + 1, .nil => .nil
  | _, _, k + 1, .cons _ t => TdAll.drop k t
theorem cut_drop {xs : List V} {k : Nat} (h : k ≤ xs.length) : cutV xs (some (k : Int)) none = xs.drop k := by
  unfold cutV
  rw [HT.sIx_nat, HT.sIx_none, Nat.min_eq_left h]
  exact List.take_of_length_le (by rw [List.length_drop]; omega)
theorem rat0_td {K : PySem.W.Frag} {H : Hp} {a : Addr} (h : SqT K H a [.int 0, .int 1]) : Td K H (.ref a) (rD 0) := by
  have e : rD 0 = .tuple [.int 0, .int 1] := rfl
  rw [e]
  exact .tup h (tdAll_ints [0, 1])
def spTotal (K : PySem.W.Frag) : Sp := fun vs H Q _ => ∃ (r : Addr) (us : List V) (D : Nat) (ns : List Int), vs = [.ref r] ∧ (SqL K H r us ∨ SqT K H r us) ∧ TdAll K H us ((ns.map (fr D)).map rD) ∧ 0 < D ∧ D < 2 ^ 1500 ∧ abssum ns < 2 ^ 1500 ∧ ns.length ≤ 1000 ∧
  ∀ v H', Same H H' → Td K H' v (rD (fsum (ns.map (fr D)))) → Q v H'
def tot (W : Nat) (rows : List (List Rat)) : List Rat := (List.range W).map fun j => fsum (rows.map fun r => r.getD j 0)
def spTotW (K : PySem.W.Frag) : Sp := fun vs H Q _ => ∃ (r : Addr) (us : List V) (W : Nat) (rows : List (List Rat)), vs = [.ref r, .int (W : Int)] ∧ SqL K H r us ∧ TdAll K H us (rows.map wsD) ∧ 1 ≤ W ∧ W ≤ 5 ∧ rows.length ≤ 900 ∧ (∀ x ∈ rows, x.length = W) ∧
  (∀ j, j < W → ∃ D : Nat, 0 < D ∧ D < 2 ^ 1500 ∧ (∀ x ∈ rows, (x.getD j 0).den ∣ D) ∧ abssum ((rows.map fun x => x.getD j 0).map (frN D)) < 2 ^ 1500) ∧ ∀ v H', Same H H' → Td K H' v (wsD (tot W rows)) → Q v H'
def spChances (K : PySem.W.Frag) : Sp := fun vs H Q _ => ∃ (v : V) (ws : List Rat), vs = [v, .int ((ws.length : Nat) : Int)] ∧ Td K H v (wsD ws) ∧ ws.length ≤ 100 ∧ (∀ r ∈ ws, 0 ≤ r ∧ r ≤ 1) ∧ ∀ H', Same H H' → Q (.bl true) H'
theorem tot_len (W : Nat) (rows : List (List Rat)) : (tot W rows).length = W := by
  unfold tot
  rw [List.length_map, List.length_range]
/-! the least common bottom -/
def lcmL (rs : List Rat) : Nat := rs.foldl (fun b r => Nat.lcm b r.den) 1
theorem lcmL_snoc (rs : List Rat) (r : Rat) : lcmL (rs ++ [r]) = Nat.lcm (lcmL rs) r.den := by
  unfold lcmL
  rw [List.foldl_append]
  rfl
theorem foldlcm : ∀ (rs : List Rat) (b : Nat), b ∣ rs.foldl (fun b r => Nat.lcm b r.den) b ∧ (∀ r ∈ rs, r.den ∣ rs.foldl (fun b r => Nat.lcm b r.den) b) ∧ (∀ D, b ∣ D → (∀ r ∈ rs, r.den ∣ D) → rs.foldl (fun b r => Nat.lcm b r.den) b ∣ D)
  | [], b => ⟨Nat.dvd_refl _, fun r h => absurd h List.not_mem_nil, fun D h _ => h⟩
  | x :: rs, b => by
    obtain ⟨h1, h2, h3⟩ := foldlcm rs (Nat.lcm b x.den)
    rw [List.foldl_cons]
    refine ⟨Nat.dvd_trans (Nat.dvd_lcm_left b x.den) h1, fun r hr => ?_, fun D hb hr => h3 D (Nat.lcm_dvd hb (hr x (List.mem_cons_self ..))) fun r h => hr r (List.mem_cons_of_mem _ h)⟩
    rcases List.mem_cons.mp hr with rfl | hr
    · exact Nat.dvd_trans (Nat.dvd_lcm_right b r.den) h1
    · exact h2 r hr
theorem lcmL_mem {rs : List Rat} {r : Rat} (h : r ∈ rs) : r.den ∣ lcmL rs := (foldlcm rs 1).2.1 r h
theorem lcmL_dvd {rs : List Rat} {D : Nat} (h : ∀ r ∈ rs, r.den ∣ D) : lcmL rs ∣ D := (foldlcm rs 1).2.2 D (Nat.one_dvd _) h
theorem lcmL_pos {rs : List Rat} {D : Nat} (hD : 0 < D) (h : ∀ r ∈ rs, r.den ∣ D) : 0 < lcmL rs := Nat.pos_of_dvd_of_pos (lcmL_dvd h) hD
theorem fr_den {D : Nat} (hD : 0 < D) (n : Int) : (fr D n).den ∣ D := by
  unfold fr
  rw [Rat.den_mkRat, if_neg (by omega)]
  exact Nat.div_dvd_of_dvd (Nat.gcd_dvd_left _ _)
theorem fr_num_le {D : Nat} (hD : 0 < D) (n : Int) : (fr D n).num.natAbs ≤ n.natAbs := by
  show (mkRat n D).num.natAbs ≤ _
  rw [(mkRat_parts n D hD).1]
  exact Int.natAbs_ediv_le_natAbs _ _
theorem fsum_lcm {rs : List Rat} {D : Nat} (hD : 0 < D) (h : ∀ r ∈ rs, r.den ∣ D) : mkRat (rs.map (frN (lcmL rs))).sum (lcmL rs) = fsum rs := by
  have e := frs_frN (lcmL_pos hD h) (rs := rs) fun r hr => lcmL_mem hr
  have s := fsum_fr (lcmL_pos hD h) (rs.map (frN (lcmL rs)))
  rw [e] at s
  exact s.symm
def spCB (K : PySem.W.Frag) : Sp := fun vs H Q _ => ∃ (r : Addr) (us : List V) (D : Nat) (rs : List Rat), vs = [.ref r] ∧ (SqL K H r us ∨ SqT K H r us) ∧ TdAll K H us (rs.map rD) ∧ 0 < D ∧ D < 2 ^ 1500 ∧ (∀ x ∈ rs, x.den ∣ D) ∧ Q (.int ((lcmL rs : Nat) : Int)) H
def spTW (K : PySem.W.Frag) : Sp := fun vs H Q _ => ∃ (v : V) (r : Rat) (m : Nat), vs = [v, .int (m : Int)] ∧ Td K H v (rD r) ∧ m < 2 ^ 1500 ∧ r.num.natAbs < 2 ^ 1500 ∧ r.den < 2 ^ 1500 ∧ Q (.int (frN m r)) H
def DTot (K : PySem.W.Frag) (mg : Str → Option Value) (f : Addr) (fd : FuncData) : Prop := Dn K mg "common_bottom" s_common_bottom ["fractions"] f fd ∧ ∃ f2 fd2, Dn K mg "times_whole" s_times_whole ["fraction", "whole"] f2 fd2
section
variable {P : Program} {w : World} {K : PySem.W.Frag} {mg : Str → Option Value} {base : Heap} {aN aO : Addr} {t1 t2 t3 t4 t5 t6 t7 : Tok}
theorem ok_is_integral {f : Addr} {fd : FuncData} (D : Dn K mg "is_integral" s_is_integral ["thing"] f fd) (B : Blt mg) : FnOk P w K mg base CX0 1 f fd ["thing"] spIntegral := by
  refine D.F.ok sc_is_integral (fun vs H Q E h => ?_) (fun cdv A outer s H vs Q E hr h => ?_)
  · obtain ⟨i, rfl, _⟩ := h
    rfl
  obtain ⟨i, rfl, q⟩ := h
  have nd := sc_is_integral.nd
  refine ⟨_, (pss_one (ps_ret (pe_and (pe_callB (k_isi (K := K) rfl) (by rfl) B.isinstance (by decide +kernel) (pa_cons (pv 0) (pa_cons (pe_bltn (v := .ty "int") (u := .type "int") (by rfl) B.int (by decide +kernel) rfl) pa_nil))) (pe_one (pe_not (pe_callB (k_isi (K := K) rfl) (by rfl) B.isinstance (by decide +kernel) (pa_cons (pv 0) (pa_cons (pe_bltn (v := .ty "bool") (u := .type "bool") (by rfl) B.bool (by decide +kernel) rfl) pa_nil)))))))), ?_⟩
  refine ⟨_, rfl, _, _, _, _, true, rfl, .ty "int", .base (.int i), kit_ty (by decide +kernel), _, rfl, ?_⟩
  refine iteT ⟨_, rfl, _, _, _, _, false, rfl, .ty "bool", .base (.int i), kit_ty (by decide +kernel), _, rfl, q⟩
theorem ok_is_number {f f1 : Addr} {fd fd1 : FuncData} (D : Dn K mg "is_number" s_is_number ["thing", "least", "most"] f fd) (B : Blt mg) (D_is_integral : Dn K mg "is_integral" s_is_integral ["thing"] f1 fd1) : FnOk P w K mg base CX0 2 f fd ["thing", "least", "most"] spNumber := by
  have G_is_integral : FnOk P w K mg base CX0 1 f1 fd1 ["thing"] spIntegral := ok_is_integral D_is_integral B
  refine D.F.ok sc_is_number (fun vs H Q E h => ?_) (fun cdv A outer s H vs Q E hr h => ?_)
  · obtain ⟨i, lo, hi, rfl, _⟩ := h
    rfl
  obtain ⟨i, lo, hi, rfl, q⟩ := h
  have nd := sc_is_number.nd
  refine ⟨_, (pss_one (ps_ret (pe_and (pe_call G_is_integral (hr.mono (by omega)) (by rfl) D_is_integral.m D_is_integral.F.kp D_is_integral.b .nil pass0 (pa_cons (pv 0) pa_nil)) (pe_one (pe_chain op_le op_le (pv 1) (pv 0) (pv 2)))))), ?_⟩
  refine ⟨_, rfl, i, rfl, _, rfl, iteT ⟨_, rfl, _, rfl, _, _, rfl, rfl, _, rfl, ?_⟩⟩
  refine ite2 (fun c => ?_) (fun c => ?_)
  · have e : (decide (lo ≤ i) && decide (i ≤ hi)) = decide (i ≤ hi) := by rw [c, Bool.true_and]
    rw [e] at q
    exact ⟨_, rfl, _, _, rfl, rfl, q⟩
  · have c : decide (lo ≤ i) = false := Bool.eq_false_iff.mpr c
    rw [c, Bool.false_and] at q
    exact q
theorem ok_is_fraction {f f1 : Addr} {fd fd1 : FuncData} (D : Dn K mg "is_fraction" s_is_fraction ["thing"] f fd) (B : Blt mg) (C : Cst K mg aN aO t1 t2 t3 t4 t5 t6 t7) (D_is_integral : Dn K mg "is_integral" s_is_integral ["thing"] f1 fd1) : FnOk P w K mg base CX0 2 f fd ["thing"] (spFraction K) := by
  have G_is_integral : FnOk P w K mg base CX0 1 f1 fd1 ["thing"] spIntegral := ok_is_integral D_is_integral B
  refine D.F.ok sc_is_fraction (fun vs H Q E h => ?_) (fun cdv A outer s H vs Q E hr h => ?_)
  · obtain ⟨v, r, rfl, _⟩ := h
    rfl
  obtain ⟨v, r, rfl, hv, q⟩ := h
  have nd := sc_is_fraction.nd
  refine ⟨_, (pss_cons (ps_if (PW.pt (pw_or (pt_not (pt_val (pe_callB (k_isi (K := K) rfl) (by rfl) B.isinstance (by decide +kernel) (pa_cons (pv 0) (pa_cons (pe_bltn (v := .ty "tuple") (u := .type "tuple") (by rfl) B.tuple (by decide +kernel) rfl) pa_nil))))) (pw_or1 (pt_cmpR op_ne (pe_callB (k_len (K := K) rfl) (by rfl) B.len PySem.boot_len (pa_cons (pv 0) pa_nil)) pe_int (nomark _))))) (pss_one (ps_ret pe_bl)) pss_nil)
      (pss_cons (ps_asg (pv 0) (k_tup (K := K) (n := 2) rfl rfl (pgs_cons (pg_name (i := 1) nd rfl (.inl rfl)) (pgs_cons (pg_name (i := 2) nd rfl (.inl rfl)) pgs_nil))))
      (pss_one (ps_ret (pe_and (pe_call G_is_integral (hr.mono (by omega)) (by rfl) D_is_integral.m D_is_integral.F.kp D_is_integral.b .nil pass0 (pa_cons (pv 1) pa_nil)) (pe_and (pe_call G_is_integral (hr.mono (by omega)) (by rfl) D_is_integral.m D_is_integral.F.kp D_is_integral.b .nil pass0 (pa_cons (pv 2) pa_nil)) (pe_and (pe_cmpR op_ge (pv 2) pe_int (nomark _)) (pe_one (pe_cmpR op_eq (pe_callBfun cr_gcd (by rfl) C.gcd (pa_cons (pv 1) (pa_cons (pv 2) pa_nil))) pe_int (nomark _)))))))))), ?_⟩
  obtain ⟨a, rfl, hs⟩ := hv.rE
  refine ⟨_, rfl, _, _, _, _, true, rfl, .ty "tuple", tyx_tup hs, kit_ty (by decide +kernel), _, rfl, iteF ?_⟩
  refine ⟨_, rfl, a, _, rfl, .inr hs, rfl, _, rfl, iteF ?_⟩
  refine ⟨_, rfl, a, _, rfl, hs, rfl, _, _, rfl, _, _, rfl, rfl, ?_⟩
  have hd : 0 < r.den := Nat.pos_of_ne_zero r.den_nz
  have hd1 : decide ((r.den : Int) ≥ 1) = true := decide_eq_true (by omega)
  refine ⟨_, rfl, _, rfl, _, rfl, iteT ⟨_, rfl, _, rfl, _, rfl, iteT ⟨_, rfl, _, _, rfl, rfl, _, rfl, ?_⟩⟩⟩
  rw [hd1]
  refine iteT ⟨_, rfl, _, rfl, _, _, rfl, rfl, ?_⟩
  have hg : Nat.gcd r.num.natAbs ((r.den : Int)).natAbs = 1 := by
    rw [Int.natAbs_natCast]
    exact r.reduced
  show Q (.bl (decide (V.int ((Nat.gcd r.num.natAbs ((r.den : Int)).natAbs : Nat) : Int) = V.int 1))) H
  rw [hg]
  exact q
theorem rat_bound {q : Rat} (h0 : 0 ≤ q) (h1 : q ≤ 1) : 0 ≤ q.num ∧ q.num ≤ (q.den : Int) := by
  have a := (Rat.le_iff q 1).mp h1
  have b := Rat.num_nonneg.mpr h0
  have c : (1 : Rat).num = 1 := rfl
  have d : (1 : Rat).den = 1 := rfl
  rw [c, d] at a
  omega
theorem ok_is_chance {f f1 f2 : Addr} {fd fd1 fd2 : FuncData} (D : Dn K mg "is_chance" s_is_chance ["thing"] f fd) (B : Blt mg) (C : Cst K mg aN aO t1 t2 t3 t4 t5 t6 t7) (D_is_integral : Dn K mg "is_integral" s_is_integral ["thing"] f1 fd1) (D_is_fraction : Dn K mg "is_fraction" s_is_fraction ["thing"] f2 fd2) : FnOk P w K mg base CX0 3 f fd ["thing"] (spChance K) := by
  have G_is_fraction : FnOk P w K mg base CX0 2 f2 fd2 ["thing"] (spFraction K) := ok_is_fraction D_is_fraction B C D_is_integral
  refine D.F.ok sc_is_chance (fun vs H Q E h => ?_) (fun cdv A outer s H vs Q E hr h => ?_)
  · obtain ⟨v, r, rfl, _⟩ := h
    rfl
  obtain ⟨v, r, rfl, hv, h0, h1, q⟩ := h
  have nd := sc_is_chance.nd
  refine ⟨_, (pss_one (ps_ret (pe_and (pe_call G_is_fraction (hr.mono (by omega)) (by rfl) D_is_fraction.m D_is_fraction.F.kp D_is_fraction.b .nil pass0 (pa_cons (pv 0) pa_nil)) (pe_one (pe_chain op_le op_le pe_int (pe_ix (k_ixT (K := K) rfl) (pv 0) pe_int (fun _ _ => rfl)) (pe_ix (k_ixT (K := K) rfl) (pv 0) pe_int (fun _ _ => rfl))))))), ?_⟩
  obtain ⟨a, rfl, hs⟩ := id hv.rE
  obtain ⟨b0, b1⟩ := rat_bound h0 h1
  refine ⟨_, rfl, _, r, rfl, hv, _, rfl, iteT ⟨_, rfl, a, _, 0, _, rfl, rfl, hs, at_of (j := 0) rfl rfl, _, _, rfl, rfl, _, rfl, ?_⟩⟩
  rw [decide_eq_true b0]
  refine iteT ⟨_, rfl, a, _, 1, _, rfl, rfl, hs, at_of (j := 1) rfl rfl, _, _, rfl, rfl, ?_⟩
  show Q (.bl (decide (r.num ≤ (r.den : Int)))) H
  rw [decide_eq_true b1]
  exact q
theorem ok_reduced {f : Addr} {fd : FuncData} (D : Dn K mg "reduced" s_reduced ["top", "bottom"] f fd) (B : Blt mg) (C : Cst K mg aN aO t1 t2 t3 t4 t5 t6 t7) : FnOk P w K mg base CX0 1 f fd ["top", "bottom"] (spReduced K) := by
  refine D.F.ok sc_reduced (fun vs H Q E h => ?_) (fun cdv A outer s H vs Q E hr h => ?_)
  · obtain ⟨a, b, rfl, _⟩ := h
    rfl
  obtain ⟨t, b, rfl, hb, hz, q⟩ := h
  have nd := sc_reduced.nd
  refine ⟨_, (pss_cons (ps_set (i := 2) nd rfl (.inl rfl) (pe_callBfun cr_gcd (by rfl) C.gcd (pa_cons (pv 0) (pa_cons (pv 1) pa_nil))))
      (pss_one (ps_ret (pe_tup (pa_cons (pe_op op_fdivW (pv 0) (pv 2)) (pa_cons (pe_op op_fdivW (pv 1) (pv 2)) pa_nil)))))), ?_⟩
  refine ⟨_, rfl, _, rfl, _, _, rfl, ?_⟩
  rw [Int.natAbs_natCast]
  have hg0 : 0 < Nat.gcd t.natAbs b := Nat.gcd_pos_of_pos_right _ hb
  have hg1 : Nat.gcd t.natAbs b ≤ b := Nat.gcd_le_right _ hb
  have hg2 : ((Nat.gcd t.natAbs b : Nat) : Int).natAbs < 2 ^ 4000 := by
    rw [Int.natAbs_natCast]
    omega
  have dv : ∀ i : Int, CDivW i ((Nat.gcd t.natAbs b : Nat) : Int) := fun i => wide_div (b := 4000) (by omega) hg2 (by decide) (by decide)
  refine ⟨_, rfl, _, rfl, _, _, rfl, rfl, dv _, _, rfl, _, rfl, _, _, rfl, rfl, dv _, (by show 2 ≤ sizeLine; decide), fun p hp => ?_⟩
  exact q _ _ (same_upd hp) (td_rD hb upd_same)
theorem ok_added {f f1 : Addr} {fd fd1 : FuncData} (D : Dn K mg "added" s_added ["first", "second"] f fd) (B : Blt mg) (C : Cst K mg aN aO t1 t2 t3 t4 t5 t6 t7) (D_reduced : Dn K mg "reduced" s_reduced ["top", "bottom"] f1 fd1) : FnOk P w K mg base CX0 2 f fd ["first", "second"] (spAdded K) := by
  have G_reduced : FnOk P w K mg base CX0 1 f1 fd1 ["top", "bottom"] (spReduced K) := ok_reduced D_reduced B C
  refine D.F.ok sc_added (fun vs H Q E h => ?_) (fun cdv A outer s H vs Q E hr h => ?_)
  · obtain ⟨x, y, p, q, rfl, _⟩ := h
    rfl
  obtain ⟨x, y, p, q, rfl, hx, hy, z1, z2, k⟩ := h
  have nd := sc_added.nd
  refine ⟨_, (pss_one (ps_ret (pe_call G_reduced (hr.mono (by omega)) (by rfl) D_reduced.m D_reduced.F.kp D_reduced.b .nil pass0 (pa_cons (pe_op op_add (pe_op op_mulW (pe_ix (k_ixT (K := K) rfl) (pv 0) pe_int (fun _ _ => rfl)) (pe_ix (k_ixT (K := K) rfl) (pv 1) pe_int (fun _ _ => rfl))) (pe_op op_mulW (pe_ix (k_ixT (K := K) rfl) (pv 1) pe_int (fun _ _ => rfl)) (pe_ix (k_ixT (K := K) rfl) (pv 0) pe_int (fun _ _ => rfl)))) (pa_cons (pe_op op_mulW (pe_ix (k_ixT (K := K) rfl) (pv 0) pe_int (fun _ _ => rfl)) (pe_ix (k_ixT (K := K) rfl) (pv 1) pe_int (fun _ _ => rfl))) pa_nil))))), ?_⟩
  obtain ⟨a, rfl, ha⟩ := hx.rE
  obtain ⟨b, rfl, hb⟩ := hy.rE
  have i0 : atI [V.int p.num, .int (p.den : Int)] 0 = some (.int p.num) := at_of (j := 0) rfl rfl
  have i1 : atI [V.int p.num, .int (p.den : Int)] 1 = some (.int (p.den : Int)) := at_of (j := 1) rfl rfl
  have j0 : atI [V.int q.num, .int (q.den : Int)] 0 = some (.int q.num) := at_of (j := 0) rfl rfl
  have j1 : atI [V.int q.num, .int (q.den : Int)] 1 = some (.int (q.den : Int)) := at_of (j := 1) rfl rfl
  have hp0 : 0 < p.den := Nat.pos_of_ne_zero p.den_nz
  have hq0 : 0 < q.den := Nat.pos_of_ne_zero q.den_nz
  have dp : ((p.den : Int)).natAbs < 2 ^ 1500 := by rw [Int.natAbs_natCast]; exact z1.1
  have dq : ((q.den : Int)).natAbs < 2 ^ 1500 := by rw [Int.natAbs_natCast]; exact z2.1
  have c1 : CMulW p.num (q.den : Int) := wide_mul z1.2 dq (by decide) (by decide) (by decide)
  have c2 : CMulW q.num (p.den : Int) := wide_mul z2.2 dp (by decide) (by decide) (by decide)
  have c3 : CMulW (p.den : Int) (q.den : Int) := wide_mul dp dq (by decide) (by decide) (by decide)
  refine ⟨_, rfl, a, _, 0, _, rfl, rfl, ha, i0, _, rfl, b, _, 1, _, rfl, rfl, hb, j1, _, _, rfl, rfl, c1, _, rfl, b, _, 0, _, rfl, rfl, hb, j0, _, rfl, a, _, 1, _, rfl, rfl, ha, i1, _, _, rfl, rfl, c2, _, _, rfl, rfl,
    _, rfl, a, _, 1, _, rfl, rfl, ha, i1, _, rfl, b, _, 1, _, rfl, rfl, hb, j1, _, _, rfl, rfl, c3, ?_⟩
  refine ⟨p.num * q.den + q.num * p.den, p.den * q.den, by rw [Int.natCast_mul]; rfl, Nat.mul_pos hp0 hq0, ?_, fun v H' s' hv => k v H' s' ?_⟩
  · have z := Nat.mul_lt_mul'' z1.1 z2.1
    rw [← Nat.pow_add] at z
    exact Nat.lt_trans z (Nat.pow_lt_pow_right (by decide) (by decide))
  · rw [← Rat.mkRat_add_mkRat _ _ p.den_nz q.den_nz, rat_mk, rat_mk] at hv
    exact hv
theorem ok_common_bottom {f : Addr} {fd : FuncData} (D : Dn K mg "common_bottom" s_common_bottom ["fractions"] f fd) (B : Blt mg) (C : Cst K mg aN aO t1 t2 t3 t4 t5 t6 t7) : FnOk P w K mg base CX0 1 f fd ["fractions"] (spCB K) := by
  refine D.F.ok sc_common_bottom (fun vs H Q E h => ?_) (fun cdv A outer s H vs Q E hr h => ?_)
  · obtain ⟨r, us, D, rs, rfl, _⟩ := h
    rfl
  obtain ⟨r, us, d, rs, rfl, hS, tS, d0, d1, hdv, q⟩ := h
  have nd := sc_common_bottom.nd
  refine ⟨_, (pss_cons (ps_set (i := 1) nd rfl (.inl rfl) pe_int)
      (pss_cons (ps_for PassesOwn.never rfl (k_iLT (K := K) rfl (pv 0)) (pg_name (i := 2) nd rfl (.inl rfl)) (pss_one (ps_set (i := 1) nd rfl (.inl rfl) (pe_callBfun cr_lcm (by rfl) C.lcm (pa_cons (pv 1) (pa_cons (pe_ix (k_ixT (K := K) rfl) (pv 2) pe_int (fun _ _ => rfl)) pa_nil))))))
      (pss_one (ps_ret (pv 1))))), ?_⟩
  have lu : us.length = rs.length := by rw [tS.len, List.length_map]
  refine ⟨_, rfl, r, us, rfl, hS, fun J G w1 hG => for_it w1 (fun i σ H2 => H2 = H ∧ ∃ o2 : Option V, σ = [some (.ref r), some (.int ((lcmL (rs.take i) : Nat) : Int)), o2]) ⟨rfl, none, rfl⟩ (fun i σ H2 _ h => by rw [h.1]; exact hG _ (Same.refl _)) ?_ ?_⟩
  · rintro i x σ H0 H2 hi ⟨rfl, o2, rfl⟩ ⟨rfl, e1⟩
    obtain ⟨dx, ex, tx⟩ := tS.getV e1
    obtain ⟨x', er, rfl⟩ := mapAt ex
    obtain ⟨a, rfl, ha⟩ := tx.rE
    have l1 : lcmL (rs.take i) ∣ d := lcmL_dvd fun z hz => hdv z (List.mem_of_mem_take hz)
    have l2 := hdv x' (List.mem_of_getElem? er)
    have z : ∀ {m : Nat}, m ∣ d → m < 2 ^ 6000 := fun {m} h => Nat.lt_of_le_of_lt (Nat.le_of_dvd d0 h) (Nat.lt_trans d1 (Nat.pow_lt_pow_right (by decide) (by decide)))
    refine ⟨_, rfl, _, rfl, a, _, 1, _, rfl, rfl, ha, at_of (j := 1) rfl rfl, _, _, rfl, z l1, z l2, rfl, some (.ref a), ?_⟩
    rw [List.take_add_one, er]
    show [some (V.ref r), some (.int ((Nat.lcm (lcmL (rs.take i)) x'.den : Nat) : Int)), some (V.ref a)] = [some (V.ref r), some (.int ((lcmL (rs.take i ++ [x']) : Nat) : Int)), _]
    rw [lcmL_snoc]
  · rintro σ H2 ⟨rfl, o2, rfl⟩
    rw [lu, List.take_length]
    exact ⟨_, rfl, q⟩
theorem ok_times_whole {f : Addr} {fd : FuncData} (D : Dn K mg "times_whole" s_times_whole ["fraction", "whole"] f fd) (B : Blt mg) (C : Cst K mg aN aO t1 t2 t3 t4 t5 t6 t7) : FnOk P w K mg base CX0 1 f fd ["fraction", "whole"] (spTW K) := by
  refine D.F.ok sc_times_whole (fun vs H Q E h => ?_) (fun cdv A outer s H vs Q E hr h => ?_)
  · obtain ⟨v, r, m, rfl, _⟩ := h
    rfl
  obtain ⟨v, r, m, rfl, tv, m0, n0, b0, q⟩ := h
  have nd := sc_times_whole.nd
  refine ⟨_, (pss_one (ps_ret (pe_op op_mulW (pe_ix (k_ixT (K := K) rfl) (pv 0) pe_int (fun _ _ => rfl)) (pe_op op_fdivW (pv 1) (pe_ix (k_ixT (K := K) rfl) (pv 0) pe_int (fun _ _ => rfl)))))), ?_⟩
  obtain ⟨a, rfl, ha⟩ := tv.rE
  have hd : 0 < r.den := Nat.pos_of_ne_zero r.den_nz
  have q0 : ((m : Int) / (r.den : Int)) = ((m / r.den : Nat) : Int) := (Int.natCast_ediv _ _).symm
  have q1 : m / r.den < 2 ^ 1500 := Nat.lt_of_le_of_lt (Nat.div_le_self _ _) m0
  refine ⟨_, rfl, a, _, 0, _, rfl, rfl, ha, at_of (j := 0) rfl rfl, _, rfl, _, rfl, a, _, 1, _, rfl, rfl, ha, at_of (j := 1) rfl rfl, _, _, rfl, rfl, wide_div (b := 1500) (by omega) (by rw [Int.natAbs_natCast]; exact b0) (by decide) (by decide), _, _, rfl, rfl, ?_, ?_⟩
  · rw [q0]
    exact wide_mul n0 (by rw [Int.natAbs_natCast]; exact q1) (by decide) (by decide) (by decide)
  · show Q (.int (r.num * ((m : Int) / (r.den : Int)))) H
    rw [q0]
    exact q
theorem ok_total {f f1 f2 : Addr} {fd fd1 fd2 : FuncData} (D : Dn K mg "total" s_total ["fractions"] f fd) (B : Blt mg) (C : Cst K mg aN aO t1 t2 t3 t4 t5 t6 t7) (D_reduced : Dn K mg "reduced" s_reduced ["top", "bottom"] f1 fd1) (D_added : DTot K mg f2 fd2) : FnOk P w K mg base CX0 3 f fd ["fractions"] (spTotal K) := by
  obtain ⟨D_common_bottom, f3, fd3, D_times_whole⟩ := D_added
  have G_reduced : FnOk P w K mg base CX0 1 f1 fd1 ["top", "bottom"] (spReduced K) := ok_reduced D_reduced B C
  have G_common_bottom : FnOk P w K mg base CX0 1 f2 fd2 ["fractions"] (spCB K) := ok_common_bottom D_common_bottom B C
  have G_times_whole : FnOk P w K mg base CX0 1 f3 fd3 ["fraction", "whole"] (spTW K) := ok_times_whole D_times_whole B C
  refine D.F.ok sc_total (fun vs H Q E h => ?_) (fun cdv A outer s H vs Q E hr h => ?_)
  · obtain ⟨r, us, d, ns, rfl, _⟩ := h
    rfl
  obtain ⟨r, us, d, ns, rfl, hS, tS, hd0, hd1, hb, hl, k⟩ := h
  have nd := sc_total.nd
  refine ⟨_, (pss_cons (ps_set (i := 1) nd rfl (.inr rfl) (pe_call G_common_bottom (hr.mono (by omega)) (by rfl) D_common_bottom.m D_common_bottom.F.kp D_common_bottom.b .nil pass0 (pa_cons (pv 0) pa_nil)))
      (pss_one (ps_ret (pe_call G_reduced (hr.mono (by omega)) (by rfl) D_reduced.m D_reduced.F.kp D_reduced.b .nil pass0 (pa_cons (pe_callB (k_sum (K := K) rfl rfl) (by rfl) B.sum (by decide +kernel) (pa_cons (pe_lc (own := [("fraction", 2)]) rfl nd (k_iLT (K := K) rfl (pv 0)) (blkOk_by (own := [("fraction", 2)]) (by kernel_rfl)) (fun _ _ _ _ _ => (pg_name (i := 2) nd rfl (.inl rfl))) (fun _ _ _ _ _ => pts_nil) (fun _ _ _ _ _ => (pe_call G_times_whole (hr.mono (by omega)) (by rfl) D_times_whole.m D_times_whole.F.kp D_times_whole.b .nil pass0 (pa_cons (pv 2) (pa_cons (pv 1) pa_nil))))) pa_nil)) (pa_cons (pv 1) pa_nil)))))), ?_⟩
  have hdv : ∀ x ∈ ns.map (fr d), x.den ∣ d := fun x hx => by
    obtain ⟨n, _, rfl⟩ := List.mem_map.mp hx
    exact fr_den hd0 n
  have hnum : ∀ x ∈ ns.map (fr d), x.num.natAbs < 2 ^ 1500 := fun x hx => by
    obtain ⟨n, hn, rfl⟩ := List.mem_map.mp hx
    exact Nat.lt_of_le_of_lt (Nat.le_trans (fr_num_le hd0 n) (abssum_mem hn)) hb
  have lu : us.length = ns.length := by rw [tS.len, List.length_map, List.length_map]
  have lr : (ns.map (fr d)).length = ns.length := List.length_map ..
  have esum := fsum_lcm hd0 hdv
  have lpos := lcmL_pos hd0 hdv
  have lle := Nat.le_of_dvd hd0 (lcmL_dvd hdv)
  generalize ns.map (fr d) = rs at tS hdv hnum k esum lpos lle lr
  refine ⟨_, rfl, r, us, d, rs, rfl, hS, tS, hd0, hd1, hdv, ?_⟩
  refine ⟨_, rfl, r, us, rfl, hS, fun J G w1 hG T hT => lc_it w1 (fun i H2 => H2 T = some (.lst (((rs.map (frN (lcmL rs))).take i).map V.int)) ∧ Same H H2) ⟨upd_same, same_upd hT⟩ (fun i H2 _ h => hG H2 h.2) ?_ ?_⟩
  · rintro i x H0 H2 hi ⟨h2, s2⟩ ⟨rfl, e1⟩
    obtain ⟨dx, ex, tx⟩ := tS.getV e1
    obtain ⟨x', er, rfl⟩ := mapAt ex
    have m1 := List.mem_of_getElem? er
    refine ⟨rfl, ?_⟩
    refine iteT (B := H2 T = some (.lst (((rs.map (frN (lcmL rs))).take (i + 1)).map V.int)) ∧ Same H H2) ?_
    refine ⟨_, rfl, _, rfl, x, x', lcmL rs, rfl, tx.keep (Same.kt s2), Nat.lt_of_le_of_lt lle hd1, hnum _ m1, Nat.lt_of_le_of_lt (Nat.le_of_dvd hd0 (hdv _ m1)) hd1, _, h2, ?_, ?_, fun c o y => ?_⟩
    · rw [List.length_map, List.length_take]
      exact small1000 (by omega)
    · rw [upd_same, List.take_add_one, List.getElem?_map, er, List.map_append]
      rfl
    · rw [upd_ne (ne_of_none y hT)]
      exact s2 _ _ y
  · rintro H2 ⟨h2, s2⟩
    rw [lu, ← lr] at h2
    rw [List.take_of_length_le (by rw [List.length_map]; exact Nat.le_refl _)] at h2
    refine ⟨T, _, rfl, SqL.of h2, _, rfl, _, lcmL rs, rfl, lpos, Nat.lt_of_le_of_lt lle (Nat.lt_trans hd1 (Nat.pow_lt_pow_right (by decide) (by decide))), fun v H3 s3 tv => ?_⟩
    rw [esum] at tv
    exact k v H3 (s2.trans s3) tv
theorem ok_total_weights {f f1 f2 f3 : Addr} {fd fd1 fd2 fd3 : FuncData} (D : Dn K mg "total_weights" s_total_weights ["rows", "worlds"] f fd) (B : Blt mg) (C : Cst K mg aN aO t1 t2 t3 t4 t5 t6 t7) (D_reduced : Dn K mg "reduced" s_reduced ["top", "bottom"] f1 fd1) (D_added : DTot K mg f2 fd2)
    (D_total : Dn K mg "total" s_total ["fractions"] f3 fd3) : FnOk P w K mg base CX0 4 f fd ["rows", "worlds"] (spTotW K) := by
  have G_total : FnOk P w K mg base CX0 3 f3 fd3 ["fractions"] (spTotal K) := ok_total D_total B C D_reduced D_added
  refine D.F.ok sc_total_weights (fun vs H Q E h => ?_) (fun cdv A outer s H vs Q E hr h => ?_)
  · obtain ⟨x, y, p, q, rfl, _⟩ := h
    rfl
  obtain ⟨r, us, W, rows, rfl, hS, tS, hW1, hW5, hlr, hrow, hcol, k⟩ := h
  have nd := sc_total_weights.nd
  refine ⟨_, (pss_one (ps_ret (pe_callTy (k_tupOf (K := K) rfl) (by rfl) B.tuple (by decide +kernel) (pa_cons (pe_lc (own := [("world", 3)]) rfl nd (pi_range1 (by rfl) B.range (pa_cons (pv 1) pa_nil)) (blkOk_by (own := [("world", 3)]) (by kernel_rfl)) (fun _ _ _ _ _ => (pg_name (i := 3) nd rfl (.inr rfl))) (fun _ _ _ _ _ => pts_nil) (fun _ _ _ _ _ => (pe_call G_total (hr.mono (by omega)) (by rfl) D_total.m D_total.F.kp D_total.b .nil pass0 (pa_cons (pe_lc (own := [("weights", 2)]) rfl nd (k_iL (K := K) rfl (pv 0)) (blkOk_by (own := [("weights", 2)]) (by kernel_rfl)) (fun _ _ _ _ _ => (pg_name (i := 2) nd rfl (.inl rfl))) (fun _ _ _ _ _ => pts_nil) (fun _ _ _ _ _ => (pe_ix (k_ixT (K := K) rfl) (pv 2) (pv 3) (fun _ _ => rfl)))) pa_nil)))) pa_nil)))), ?_⟩
  have lu : us.length = rows.length := by rw [tS.len, List.length_map]
  refine ⟨_, rfl, _, rfl, by omega, by omega, fun T hT => ?_⟩
  refine lc_range (lo := 0) (n := W) (fun i H2 => ∃ vs : List V, H2 T = some (.lst vs) ∧ TdAll K H2 vs (((tot W rows).take i).map rD) ∧ Same H H2) ⟨[], upd_same, .nil, same_upd hT⟩ ?_ ?_
  · rintro i H2 hi ⟨vs, h2, t2, s2⟩
    refine ⟨rfl, ?_⟩
    refine iteT (B := ∃ vs : List V, H2 T = some (.lst vs) ∧ TdAll K H2 vs (((tot W rows).take (i + 1)).map rD) ∧ Same H H2) ?_
    obtain ⟨d, d0, d1, hdv, hab⟩ := hcol i hi
    refine ⟨_, rfl, r, rfl, ⟨_, s2.seq hS⟩, fun T2 hT2 => ?_⟩
    refine lc_list (K := K) (a := r) (xs := us) (fun j H3 => ∃ ws : List V, H3 T2 = some (.lst ws) ∧ TdAll K H3 ws (((rows.take j).map fun x => x.getD i 0).map rD) ∧ Same H2 H3) ⟨[], upd_same, .nil, same_upd hT2⟩ (fun j H3 _ h => ?_) ?_ ?_
    · obtain ⟨_, _, _, s3⟩ := h
      exact s3.seq (s2.seq hS)
    · rintro j y H3 hj ⟨ws, h3, t3, s3⟩
      obtain ⟨dy, ey, ty⟩ := tS.getV hj
      obtain ⟨x, hx, rfl⟩ := mapAt ey
      have lx := hrow x (List.mem_of_getElem? hx)
      have ty3 := ty.keep (Same.kt (s2.trans s3))
      obtain ⟨b, zs, rfl, hb, tz⟩ := ty3.tupE
      have gx : x[i]? = some (x.getD i 0) := by
        rw [List.getD_eq_getElem?_getD, List.getElem?_eq_getElem (show i < x.length by omega)]
        rfl
      obtain ⟨z, ez, tz1⟩ := tz.get (i := i) (d := rD (x.getD i 0)) (by rw [List.getElem?_map, gx]; rfl)
      have kT : KT K H3 (upd H3 T2 (.lst (ws ++ [z]))) := KT.updL h3
      refine ⟨rfl, ?_⟩
      refine iteT (B := ∃ ws : List V, H3 T2 = some (.lst ws) ∧ TdAll K H3 ws (((rows.take (j + 1)).map fun x => x.getD i 0).map rD) ∧ Same H2 H3) ?_
      refine ⟨_, rfl, _, rfl, b, zs, (0 + (i : Int)), z, rfl, rfl, hb, at_of (j := i) (by omega) ez, ws, h3, ?_, ws ++ [z], upd_same, ?_, fun c o w => ?_⟩
      · rw [t3.len, List.length_map, List.length_map, List.length_take]
        exact small1000 (by omega)
      · rw [List.take_add_one, hx, List.map_append, List.map_append]
        exact (t3.keep kT).app (.cons (tz1.keep kT) .nil)
      · rw [upd_ne (ne_of_none w hT2)]
        exact s3 _ _ w
    · rintro H3 ⟨ws, h3, t3, s3⟩
      rw [lu, List.take_length] at t3
      have er : ((rows.map fun x => x.getD i 0).map (frN d)).map (fr d) = rows.map fun x => x.getD i 0 := frs_frN d0 fun q hq => by
        obtain ⟨x, hx, rfl⟩ := List.mem_map.mp hq
        exact hdv x hx
      refine ⟨T2, ws, d, (rows.map fun x => x.getD i 0).map (frN d), rfl, .inl (SqL.of h3), by rw [er]; exact t3, d0, d1, hab, by rw [List.length_map, List.length_map]; omega, fun v H4 s4 tv => ?_⟩
      rw [er] at tv
      have s34 := s3.trans s4
      have h4 := s34 _ _ h2
      have kT : KT K H4 (upd H4 T (.lst (vs ++ [v]))) := KT.updL h4
      refine ⟨vs, h4, ?_, vs ++ [v], upd_same, ?_, fun c o w => ?_⟩
      · rw [t2.len, List.length_map, List.length_take]
        exact small1000 (by omega)
      · have et : (tot W rows)[i]? = some (fsum (rows.map fun x => x.getD i 0)) := by
          unfold tot
          rw [List.getElem?_map, List.getElem?_range hi]
          rfl
        rw [List.take_add_one, et, List.map_append]
        exact (t2.keep ((Same.kt s34).trans kT)).app (.cons (tv.keep kT) .nil)
      · rw [upd_ne (ne_of_none w hT)]
        exact s34 _ _ (s2 _ _ w)
  · rintro H2 ⟨vs, h2, t2, s2⟩
    rw [show (tot W rows).take W = tot W rows from List.take_of_length_le (by rw [tot_len]; omega)] at t2
    refine ⟨T, vs, rfl, SqL.of h2, fun l H3 s3 q3 => k (.ref l) H3 (s2.trans s3) (.tup q3 (t2.keep (Same.kt s3)))⟩
theorem ok_are_chances {f f2 f4 f5 : Addr} {fd fd2 fd4 fd5 : FuncData} (D : Dn K mg "are_chances" s_are_chances ["thing", "many"] f fd) (B : Blt mg) (C : Cst K mg aN aO t1 t2 t3 t4 t5 t6 t7) (D_is_integral : Dn K mg "is_integral" s_is_integral ["thing"] f2 fd2) (D_is_fraction : Dn K mg "is_fraction" s_is_fraction ["thing"] f4 fd4) (D_is_chance : Dn K mg "is_chance" s_is_chance ["thing"] f5 fd5) : FnOk P w K mg base CX0 4 f fd ["thing", "many"] (spChances K) := by
  have G_is_chance : FnOk P w K mg base CX0 3 f5 fd5 ["thing"] (spChance K) := ok_is_chance D_is_chance B C D_is_integral D_is_fraction
  refine D.F.ok sc_are_chances (fun vs H Q E h => ?_) (fun cdv A outer s H vs Q E hr h => ?_)
  · obtain ⟨v, ws, rfl, _⟩ := h
    rfl
  obtain ⟨v, ws, rfl, hv, hl, hch, q⟩ := h
  have nd := sc_are_chances.nd
  refine ⟨_, (pss_cons (ps_if (PW.pt (pw_or (pt_not (pt_val (pe_callB (k_isi (K := K) rfl) (by rfl) B.isinstance (by decide +kernel) (pa_cons (pv 0) (pa_cons (pe_bltn (v := .ty "tuple") (u := .type "tuple") (by rfl) B.tuple (by decide +kernel) rfl) pa_nil))))) (pw_or1 (pt_cmpR op_ne (pe_callB (k_len (K := K) rfl) (by rfl) B.len PySem.boot_len (pa_cons (pv 0) pa_nil)) (pv 1) (nomark _))))) (pss_one (ps_ret pe_bl)) pss_nil)
      (pss_one (ps_ret (pe_callB (k_all (K := K) rfl rfl) (by rfl) B.all (by decide +kernel) (pa_cons (pe_lc (own := [("chance", 2)]) rfl nd (k_iT (K := K) rfl (pv 0)) (blkOk_by (own := [("chance", 2)]) (by kernel_rfl)) (fun _ _ _ _ _ => (pg_name (i := 2) nd rfl (.inl rfl))) (fun _ _ _ _ _ => pts_nil) (fun _ _ _ _ _ => (pe_call G_is_chance (hr.mono (by omega)) (by rfl) D_is_chance.m D_is_chance.F.kp D_is_chance.b .nil pass0 (pa_cons (pv 2) pa_nil)))) pa_nil))))), ?_⟩
  obtain ⟨b, ys, rfl, hb, tb⟩ := hv.tupE
  have ly : ys.length = ws.length := by rw [tb.len, List.length_map]
  refine ⟨_, rfl, _, _, _, _, true, rfl, .ty "tuple", tyx_tup hb, kit_ty (by decide +kernel), _, rfl, iteF ?_⟩
  refine ⟨_, rfl, b, _, rfl, .inr hb, _, rfl, rfl, _, rfl, ?_⟩
  rw [ly, decide_eq_true rfl]
  refine iteF ?_
  refine ⟨_, rfl, b, rfl, ⟨_, hb⟩, fun T hT => ?_⟩
  refine lc_it (walk_tup (K := K) (a := b) (xs := ys)) (fun i H2 => H2 T = some (.lst ((List.replicate i true).map V.bl)) ∧ Same H H2) ⟨upd_same, same_upd hT⟩ (fun i H2 _ h => Same.kt h.2 _ _ hb) ?_ ?_
  · rintro i x H0 H2 hi ⟨h2, s2⟩ ⟨rfl, e1⟩
    obtain ⟨dx, ex, tx⟩ := tb.getV e1
    obtain ⟨r, er, rfl⟩ := mapAt ex
    obtain ⟨r0, r1⟩ := hch r (List.mem_of_getElem? er)
    refine ⟨rfl, ?_⟩
    refine iteT (B := H2 T = some (.lst ((List.replicate (i + 1) true).map V.bl)) ∧ Same H H2) ?_
    refine ⟨_, rfl, x, r, rfl, tx.keep (Same.kt s2), r0, r1, _, h2, ?_, ?_, fun c o y => ?_⟩
    · rw [List.length_map, List.length_replicate]
      exact small1000 (by omega)
    · rw [upd_same, List.replicate_succ', List.map_append]
      rfl
    · rw [upd_ne (ne_of_none y hT)]
      exact s2 _ _ y
  · rintro H2 ⟨h2, s2⟩
    refine ⟨T, _, rfl, SqL.of h2, ?_⟩
    have e : ∀ n : Nat, (List.replicate n true).all id = true := fun n => by
      induction n with
      | zero => rfl
      | succ n ih =>
        rw [List.replicate_succ]
        exact ih
    rw [e]
    exact q H2 s2
end
end Tl
namespace Tl
open PySem PySem.Spec PyProof.Rows L2 RZ
/-- data that may be compared -/
structure Good (k : Nat) (d : PyData) : Prop where
  lay : d.canLay0 = true
  deep : d.depth ≤ k
  dict : d.hasDict = false
theorem Good.mono {k k' : Nat} {d : PyData} (h : Good k d) (l : k ≤ k') : Good k' d := ⟨h.lay, Nat.le_trans h.deep l, h.dict⟩
theorem good_int (k : Nat) (i : Int) : Good k (.int i) := ⟨rfl, Nat.zero_le _, rfl⟩
theorem good_all {k : Nat} : ∀ {xs : List PyData}, (∀ x ∈ xs, Good k x) → PyData.canLayAll0 xs = true ∧ PyData.depthAll xs ≤ k ∧ PyData.hasDictAll xs = false
  | [], _ => ⟨rfl, Nat.zero_le _, rfl⟩
  | x :: xs, h => by
    obtain ⟨h1, h2, h3⟩ := h x (List.mem_cons_self ..)
    obtain ⟨a1, a2, a3⟩ := good_all fun y hy => h y (List.mem_cons_of_mem _ hy)
    refine ⟨?_, ?_, ?_⟩
    · show (PyData.canLay0 x && PyData.canLayAll0 xs) = true
      rw [h1, a1]
      rfl
    · show max (PyData.depth x) (PyData.depthAll xs) ≤ k
      omega
    · show (PyData.hasDict x || PyData.hasDictAll xs) = false
      rw [h3, a3]
      rfl
theorem good_tup {k : Nat} {xs : List PyData} (h : ∀ x ∈ xs, Good k x) : Good (k + 1) (.tuple xs) := by
  obtain ⟨a1, a2, a3⟩ := good_all h
  exact ⟨a1, Nat.succ_le_succ a2, a3⟩
theorem good_ints (ns : List Int) : Good 1 (.tuple (ns.map PyData.int)) := good_tup fun x hx => by
  obtain ⟨i, _, rfl⟩ := List.mem_map.mp hx
  exact good_int 0 i
theorem good_rD (q : Rat) : Good 1 (rD q) := good_ints [q.num, (q.den : Int)]
theorem good_wdD (w : List Int) : Good 1 (wdD w) := good_ints w
theorem good_wsD (ws : List Rat) : Good 2 (wsD ws) := good_tup fun x hx => by
  obtain ⟨q, _, rfl⟩ := List.mem_map.mp hx
  exact good_rD q
theorem good_ndD : ∀ (n : Nat) (t : Nd n), Good (3 * n + 2) (ndD n t)
  | 0, _ => (good_tup (k := 0) (xs := []) fun x hx => absurd hx List.not_mem_nil).mono (by decide)
  | n + 1, qs => by
    rw [show 3 * (n + 1) + 2 = ((3 * n + 2 + 1) + 1) + 1 by omega]
    refine good_tup fun x hx => ?_
    obtain ⟨q, _, rfl⟩ := List.mem_map.mp hx
    refine good_tup fun y hy => ?_
    obtain ⟨a, _, rfl⟩ := List.mem_map.mp hy
    refine good_tup fun z hz => ?_
    simp only [List.mem_cons, List.not_mem_nil, or_false] at hz
    rcases hz with rfl | rfl | rfl
    · exact (good_wdD _).mono (by omega)
    · exact (good_wsD _).mono (by omega)
    · exact good_ndD n _
theorem Good.shaped {k : Nat} {d : PyData} (h : Good k d) (l : k ≤ 64) : SeqAt.shaped d = true := by
  show (d.canLay0 && decide (d.depth ≤ 64)) = true
  rw [h.lay, decide_eq_true (Nat.le_trans h.deep l)]
  rfl
theorem Good.refl {k : Nat} {d : PyData} (h : Good k d) : PyData.eqv d d = true := SeqAt.eqv_refl d h.lay
theorem eqv_rD (p q : Rat) : PyData.eqv (rD p) (rD q) = decide (p = q) := by
  show ((p.num == q.num) && (((p.den : Int) == (q.den : Int)) && true)) = decide (p = q)
  rw [Bool.and_true]
  by_cases h : p = q
  · subst h
    rw [beq_self_eq_true, beq_self_eq_true, decide_eq_true rfl]
    rfl
  · rw [decide_eq_false h]
    by_cases h1 : p.num = q.num
    · have h2 : (p.den : Int) ≠ (q.den : Int) := fun e => h (Rat.ext h1 (by omega))
      rw [beq_eq_false_iff_ne.mpr h2, Bool.and_false]
    · rw [beq_eq_false_iff_ne.mpr h1, Bool.false_and]
end Tl
namespace Tl
open PySem PySem.Spec PyProof.Rows L2 RZ
def isZ (ws : List Rat) : Bool := ws.all fun q => decide (q = 0)
def spNought (K : PySem.W.Frag) : Sp := fun vs H Q _ => ∃ (v : V) (ws : List Rat), vs = [v] ∧ Td K H v (wsD ws) ∧ ws.length ≤ 100 ∧ ∀ H', Same H H' → Q (.bl (isZ ws)) H'
def spWord (K : PySem.W.Frag) : Sp := fun vs H Q _ => ∃ (v : V) (r : List Int), vs = [v] ∧ Td K H v (wdD r) ∧ WordOk r ∧ ∀ H', Same H H' → Q (.bl true) H'
def spAnswer (K : PySem.W.Frag) (n : Nat) : Sp := fun vs H Q _ => ∃ (v : V) (a : An n), vs = [v, .int ((a.2.1.length : Nat) : Int)] ∧ Td K H v (anD n a) ∧ WordOk a.1 ∧ a.2.1.length ≤ 100 ∧ (∀ r ∈ a.2.1, 0 ≤ r ∧ r ≤ 1) ∧ ∀ H', Same H H' → Q (.bl true) H'
def spAsc (K : PySem.W.Frag) : Sp := fun vs H Q _ => ∃ (r : Addr) (us : List V) (ws : List (List Int)), vs = [.ref r] ∧ SqL K H r us ∧ TdAll K H us (ws.map wdD) ∧ ws.length ≤ 900 ∧ (∀ i x y, ws[i]? = some x → ws[i + 1]? = some y → HT.lexLt x y = true) ∧ ∀ H', Same H H' → Q (.bl true) H'
theorem map_at {α β : Type} {l : List α} {f : α → β} {i : Nat} {y : β} (h : (l.map f)[i]? = some y) : ∃ x, l[i]? = some x ∧ y = f x := by
  rw [List.getElem?_map] at h
  cases e : l[i]? with
  | none =>
    rw [e] at h
    cases h
  | some x =>
    rw [e] at h
    exact ⟨x, rfl, (Option.some.inj h).symm⟩
theorem all_rep : ∀ n : Nat, (List.replicate n true).all id = true
  | 0 => rfl
  | n + 1 => by
    rw [List.replicate_succ]
    exact all_rep n
theorem rep_snoc {α : Type} (x : α) (n : Nat) : List.replicate n x ++ [x] = List.replicate (n + 1) x := List.replicate_succ'.symm
section
variable {P : Program} {w : World} {K : PySem.W.Frag} {mg : Str → Option Value} {base : Heap} {aN aO : Addr} {t1 t2 t3 t4 t5 t6 t7 : Tok}
theorem ok_is_word {f f1 f2 : Addr} {fd fd1 fd2 : FuncData} (D : Dn K mg "is_word" s_is_word ["thing"] f fd) (B : Blt mg) (C : Cst K mg aN aO t1 t2 t3 t4 t5 t6 t7) (D_is_number : Dn K mg "is_number" s_is_number ["thing", "least", "most"] f1 fd1) (D_is_integral : Dn K mg "is_integral" s_is_integral ["thing"] f2 fd2) : FnOk P w K mg base CX0 3 f fd ["thing"] (spWord K) := by
  have G_is_number : FnOk P w K mg base CX0 2 f1 fd1 ["thing", "least", "most"] spNumber := ok_is_number D_is_number B D_is_integral
  refine D.F.ok sc_is_word (fun vs H Q E h => ?_) (fun cdv A outer s H vs Q E hr h => ?_)
  · obtain ⟨v, ws, rfl, _⟩ := h
    rfl
  obtain ⟨v, ws, rfl, hv, hok, q⟩ := h
  have nd := sc_is_word.nd
  refine ⟨_, (pss_cons (ps_if (PW.pt (pw_or (pt_not (pt_val (pe_callB (k_isi (K := K) rfl) (by rfl) B.isinstance (by decide +kernel) (pa_cons (pv 0) (pa_cons (pe_bltn (v := .ty "tuple") (u := .type "tuple") (by rfl) B.tuple (by decide +kernel) rfl) pa_nil))))) (pw_or1 (pt_cmpR op_gt (pe_callB (k_len (K := K) rfl) (by rfl) B.len PySem.boot_len (pa_cons (pv 0) pa_nil)) (pe_glob (v := .int _) rfl C.MOST_NUMBERS ⟨_, rfl⟩) (nomark _))))) (pss_one (ps_ret pe_bl)) pss_nil)
      (pss_one (ps_ret (pe_callB (k_all (K := K) rfl rfl) (by rfl) B.all (by decide +kernel) (pa_cons (pe_lc (own := [("number", 1)]) rfl nd (k_iT (K := K) rfl (pv 0)) (blkOk_by (own := [("number", 1)]) (by kernel_rfl)) (fun _ _ _ _ _ => (pg_name (i := 1) nd rfl (.inl rfl))) (fun _ _ _ _ _ => pts_nil) (fun _ _ _ _ _ => (pe_call G_is_number (hr.mono (by omega)) (by rfl) D_is_number.m D_is_number.F.kp D_is_number.b .nil pass0 (pa_cons (pv 1) (pa_cons pe_int (pa_cons pe_int pa_nil)))))) pa_nil))))), ?_⟩
  obtain ⟨a, xs, rfl, ha, ta⟩ := hv.tupE
  have ex := tdAll_intsE ta
  subst ex
  have l8 := hok.1
  refine ⟨_, rfl, _, _, _, _, true, rfl, .ty "tuple", tyx_tup ha, kit_ty (by decide +kernel), _, rfl, iteF ?_⟩
  refine ⟨_, rfl, a, _, rfl, .inr ha, _, _, rfl, rfl, _, rfl, ?_⟩
  rw [List.length_map, decide_eq_false (show ¬ (8 : Int) < ((ws.length : Nat) : Int) by omega)]
  refine iteF ?_
  refine ⟨_, rfl, a, rfl, ⟨_, ha⟩, fun T hT => ?_⟩
  refine lc_it (walk_tup (K := K) (a := a) (xs := ws.map V.int)) (fun i H2 => H2 T = some (.lst ((List.replicate i true).map V.bl)) ∧ Same H H2) ⟨upd_same, same_upd hT⟩ (fun i H2 _ h => Same.kt h.2 _ _ ha) ?_ ?_
  · rintro i x H0 H2 hi ⟨h2, s2⟩ ⟨rfl, e1⟩
    obtain ⟨z, ez, rfl⟩ := int_at e1
    obtain ⟨z0, z1⟩ := hok.2 z (List.mem_of_getElem? ez)
    rw [List.length_map] at hi
    refine ⟨rfl, ?_⟩
    refine iteT (B := H2 T = some (.lst ((List.replicate (i + 1) true).map V.bl)) ∧ Same H H2) ?_
    refine ⟨_, rfl, z, 0, 99, rfl, _, h2, ?_, ?_, fun c o y => ?_⟩
    · rw [List.length_map, List.length_replicate]
      exact small1000 (by omega)
    · rw [upd_same, decide_eq_true z0, decide_eq_true z1, ← rep_snoc, List.map_append]
      rfl
    · rw [upd_ne (ne_of_none y hT)]
      exact s2 _ _ y
  · rintro H2 ⟨h2, s2⟩
    refine ⟨T, _, rfl, SqL.of h2, ?_⟩
    rw [all_rep]
    exact q H2 s2
theorem ok_is_answer {n : Nat} {f f1 f2 f3 f4 f5 f6 : Addr} {fd fd1 fd2 fd3 fd4 fd5 fd6 : FuncData} (D : Dn K mg "is_answer" s_is_answer ["thing", "worlds"] f fd) (B : Blt mg) (C : Cst K mg aN aO t1 t2 t3 t4 t5 t6 t7) (D_is_number : Dn K mg "is_number" s_is_number ["thing", "least", "most"] f1 fd1) (D_is_integral : Dn K mg "is_integral" s_is_integral ["thing"] f2 fd2)
    (D_is_word : Dn K mg "is_word" s_is_word ["thing"] f3 fd3) (D_is_fraction : Dn K mg "is_fraction" s_is_fraction ["thing"] f4 fd4) (D_is_chance : Dn K mg "is_chance" s_is_chance ["thing"] f5 fd5) (D_are_chances : Dn K mg "are_chances" s_are_chances ["thing", "many"] f6 fd6) : FnOk P w K mg base CX0 5 f fd ["thing", "worlds"] (spAnswer K n) := by
  have G_is_word : FnOk P w K mg base CX0 3 f3 fd3 ["thing"] (spWord K) := ok_is_word D_is_word B C D_is_number D_is_integral
  have G_are_chances : FnOk P w K mg base CX0 4 f6 fd6 ["thing", "many"] (spChances K) := ok_are_chances D_are_chances B C D_is_integral D_is_fraction D_is_chance
  refine D.F.ok sc_is_answer (fun vs H Q E h => ?_) (fun cdv A outer s H vs Q E hr h => ?_)
  · obtain ⟨v, ws, rfl, _⟩ := h
    rfl
  obtain ⟨v, an, rfl, hv, hok, hl, hch, q⟩ := h
  have nd := sc_is_answer.nd
  refine ⟨_, (pss_cons (ps_if (PW.pt (pw_or (pt_not (pt_val (pe_callB (k_isi (K := K) rfl) (by rfl) B.isinstance (by decide +kernel) (pa_cons (pv 0) (pa_cons (pe_bltn (v := .ty "tuple") (u := .type "tuple") (by rfl) B.tuple (by decide +kernel) rfl) pa_nil))))) (pw_or (pt_cmpR op_ne (pe_callB (k_len (K := K) rfl) (by rfl) B.len PySem.boot_len (pa_cons (pv 0) pa_nil)) pe_int (nomark _)) (pw_or1 (pt_not (pt_val (pe_call G_is_word (hr.mono (by omega)) (by rfl) D_is_word.m D_is_word.F.kp D_is_word.b .nil pass0 (pa_cons (pe_ix (k_ixT (K := K) rfl) (pv 0) pe_int (fun _ _ => rfl)) pa_nil)))))))) (pss_one (ps_ret pe_bl)) pss_nil)
      (pss_one (ps_ret (pe_call G_are_chances (hr.mono (by omega)) (by rfl) D_are_chances.m D_are_chances.F.kp D_are_chances.b .nil pass0 (pa_cons (pe_ix (k_ixT (K := K) rfl) (pv 0) pe_int (fun _ _ => rfl)) (pa_cons (pv 1) pa_nil)))))), ?_⟩
  obtain ⟨a, xs, rfl, ha, ta⟩ := id hv.tupE
  obtain ⟨vw, ew, tw⟩ := ta.get (i := 0) rfl
  obtain ⟨vs, es, ts⟩ := ta.get (i := 1) rfl
  have l3 : xs.length = 3 := ta.len
  refine ⟨_, rfl, _, _, _, _, true, rfl, .ty "tuple", tyx_tup ha, kit_ty (by decide +kernel), _, rfl, iteF ?_⟩
  refine ⟨_, rfl, a, _, rfl, .inr ha, rfl, _, rfl, ?_⟩
  rw [l3]
  refine iteF ?_
  refine ⟨_, rfl, a, _, 0, vw, rfl, rfl, ha, at_of (j := 0) rfl ew, vw, an.1, rfl, tw, hok, fun H1 s1 => ⟨_, rfl, iteF ?_⟩⟩
  have ha1 := Same.kt s1 _ _ ha
  exact ⟨_, rfl, a, _, 1, vs, rfl, rfl, ha1, at_of (j := 1) rfl es, _, rfl, vs, an.2.1, rfl, ts.keep (Same.kt s1), hl, hch, fun H2 s2 => q H2 (s1.trans s2)⟩
theorem ok_is_ascending {f : Addr} {fd : FuncData} (D : Dn K mg "is_ascending" s_is_ascending ["rows"] f fd) (B : Blt mg) : FnOk P w K mg base CX0 1 f fd ["rows"] (spAsc K) := by
  refine D.F.ok sc_is_ascending (fun vs H Q E h => ?_) (fun cdv A outer s H vs Q E hr h => ?_)
  · obtain ⟨v, ws, x, rfl, _⟩ := h
    rfl
  obtain ⟨r, us, ws, rfl, hS, tS, hl, hasc, q⟩ := h
  have nd := sc_is_ascending.nd
  refine ⟨_, (pss_one (ps_ret (pe_callB (k_all (K := K) rfl rfl) (by rfl) B.all (by decide +kernel) (pa_cons (pe_lc (own := [("low", 1), ("high", 2)]) rfl nd (k_zip (K := K) rfl (by rfl) B.zip (pa_cons (pv 0) (pa_cons (pe_slice (k_slL (K := K) rfl) (pv 0) (po_some pe_int) po_none) pa_nil))) (blkOk_by (own := [("low", 1), ("high", 2)]) (by kernel_rfl)) (fun _ _ _ _ _ => (k_tup (K := K) (n := 2) rfl rfl (pgs_cons (pg_name (i := 1) nd rfl (.inl rfl)) (pgs_cons (pg_name (i := 2) nd rfl (.inl rfl)) pgs_nil)))) (fun _ _ _ _ _ => pts_nil) (fun _ _ _ _ _ => (pe_cmpR (k_ltT (K := K) rfl hr.units0) (pv 1) (pv 2) (nomark _)))) pa_nil)))), ?_⟩
  have lu : us.length = ws.length := by rw [tS.len, List.length_map]
  refine ⟨_, rfl, _, rfl, _, rfl, r, us, rfl, hS, fun p hp => ?_⟩
  have s1 : Same H (upd H p (.lst (cutV us (some 1) none))) := same_upd hp
  have ec : cutV us (some 1) none = us.drop 1 := by
    unfold cutV
    rw [show HT.sIx us.length 0 (some 1) = min 1 us.length from HT.sIx_nat us.length 0 1, HT.sIx_none]
    cases us with
    | nil => rfl
    | cons x rr =>
      rw [show min 1 (x :: rr).length = 1 by rw [List.length_cons]; omega]
      exact List.take_of_length_le (by simp)
  rw [ec] at s1 ⊢
  refine ⟨r, p, us, us.drop 1, rfl, .inl ⟨s1.seq hS, SqL.of upd_same, fun T hT => ?_⟩⟩
  generalize hH1 : upd H p (.lst (us.drop 1)) = H1 at s1 hT ⊢
  have hp1 : H1 p = some (.lst (us.drop 1)) := by
    rw [← hH1]
    exact upd_same
  refine lc_it (walk_zip (K := K) (a := r) (b := p) (xs := us) (ys := us.drop 1) (n := min us.length (us.drop 1).length) rfl) (fun i H2 => H2 T = some (.lst ((List.replicate i true).map V.bl)) ∧ Same H1 H2) ⟨upd_same, same_upd hT⟩ (fun i H2 _ h => ⟨h.2.seq (s1.seq hS), h.2.seq (SqL.of hp1)⟩) ?_ ?_
  · rintro i x H2 H3 hi ⟨h2, s2⟩ ⟨T2, x', y', rfl, n2, rfl, e1, e2⟩
    replace e2 : (us.drop 1)[i]? = some y' := e2
    rw [List.getElem?_drop, Nat.add_comm 1 i] at e2
    obtain ⟨dx, ex, tx⟩ := tS.getV e1
    obtain ⟨dy, ey, ty⟩ := tS.getV e2
    obtain ⟨wx, gx, rfl⟩ := map_at ex
    obtain ⟨wy, gy, rfl⟩ := map_at ey
    have s3 : Same H2 (upd H2 T2 (.tup [x', y'])) := same_upd n2
    have k3 : KT K H (upd H2 T2 (.tup [x', y'])) := Same.kt ((s1.trans s2).trans s3)
    obtain ⟨ax, xs, rfl, hx, sx⟩ := (tx.keep k3).tupE
    obtain ⟨ay, ys, rfl, hy, sy⟩ := (ty.keep k3).tupE
    have e3 := tdAll_intsE sx
    have e4 := tdAll_intsE sy
    subst e3
    subst e4
    refine ⟨T2, _, rfl, .inl (.inl upd_same), rfl, _, _, rfl, _, _, rfl, rfl, rfl, ?_⟩
    refine iteT (B := (upd H2 T2 (.tup [V.ref ax, V.ref ay])) T = some (.lst ((List.replicate (i + 1) true).map V.bl)) ∧ Same H1 (upd H2 T2 (.tup [V.ref ax, V.ref ay]))) ?_
    have h3 := s3 _ _ h2
    refine ⟨_, rfl, _, rfl, ax, ay, wx, wy, rfl, rfl, hx, hy, _, h3, ?_, ?_, fun c o y => ?_⟩
    · rw [List.length_map, List.length_replicate]
      exact small1000 (by omega)
    · rw [upd_same, hasc i wx wy gx gy, ← rep_snoc, List.map_append]
      rfl
    · rw [upd_ne (ne_of_none y hT)]
      exact s3 _ _ (s2 _ _ y)
  · rintro H2 ⟨h2, s2⟩
    refine ⟨T, _, rfl, SqL.of h2, ?_⟩
    rw [all_rep]
    exact q H2 (s1.trans s2)
end
end Tl
namespace Tl
open PySem PySem.Spec PyProof.Rows L2 RZ
/-- a node judged: d answers ahead of it -/
def spCkN (K : PySem.W.Frag) (n : Nat) : Sp := fun vs H Q _ => ∃ (W d : Nat) (v av : V) (pl : Addr) (ps : List V) (ahead : List Rat) (t : Nd n), vs = [v, .ref pl, av] ∧ Td K H v (ndD n t) ∧ Td K H av (wsD ahead) ∧ SqT K H pl ps ∧ ps.length = 2 * d ∧ d + n ≤ 8 ∧
  1 ≤ W ∧ W ≤ 5 ∧ ahead.length = W ∧ NdOk W n ahead t ∧ ∀ H', Same H H' → Q .non H'
def spCkQ (K : PySem.W.Frag) : Nat → Sp
  | 0 => fun _ _ _ _ => False
  | n + 1 => fun vs H Q _ => ∃ (W d : Nat) (v av : V) (pl : Addr) (ps : List V) (ahead : List Rat) (q : Qn n), vs = [v, .ref pl, av] ∧ Td K H v (qnD n q) ∧ Td K H av (wsD ahead) ∧ SqT K H pl ps ∧ ps.length = 2 * d + 1 ∧ d + (n + 1) ≤ 8 ∧
      1 ≤ W ∧ W ≤ 5 ∧ ahead.length = W ∧ QnOk W ahead q ∧ (∀ a ∈ q, NdOk W n a.2.1 a.2.2) ∧ ∀ H', Same H H' → Q .non H'
theorem small25 {n : Nat} (h : n ≤ 25) : n ≤ sizeLine := Nat.le_of_lt (small1000 (by omega))
theorem tot_whole {W n : Nat} {ahead : List Rat} {q : Qn n} (ha : ahead.length = W) (h : QnOk W ahead q) : tot W (q.map fun a => a.2.1) = ahead := by
  refine List.ext_getElem? fun j => ?_
  unfold tot
  rw [List.getElem?_map]
  by_cases hj : j < W
  · rw [List.getElem?_range hj, List.getElem?_eq_getElem (show j < ahead.length by omega)]
    show some (fsum ((q.map fun a => a.2.1).map fun r => r.getD j 0)) = some _
    have e : ((q.map fun a => a.2.1).map fun r => r.getD j 0) = col q j := by
      unfold col
      rw [List.map_map]
      rfl
    rw [e, h.whole j hj, getD_of (List.getElem?_eq_getElem (show j < ahead.length by omega))]
  · rw [List.getElem?_eq_none (by rw [List.length_range]; omega), List.getElem?_eq_none (by omega)]
    rfl
theorem tot_cols {W n : Nat} {ahead : List Rat} {q : Qn n} (h : QnOk W ahead q) (j : Nat) (hj : j < W) : ∃ D : Nat, 0 < D ∧ D < 2 ^ 1500 ∧ (∀ x ∈ q.map (fun a => a.2.1), (x.getD j 0).den ∣ D) ∧ abssum (((q.map fun a => a.2.1).map fun x => x.getD j 0).map (frN D)) < 2 ^ 1500 := by
  have z2 : 12 * LL ^ 6 < 2 ^ 1500 := by
    have := @ll_small 6 800 (by decide)
    have z3 : 12 * 2 ^ 800 < 2 ^ 1500 := by
      rw [show (1500 : Nat) = 700 + 800 from rfl, Nat.pow_add]
      exact Nat.mul_lt_mul_of_pos_right (by decide) (Nat.two_pow_pos 800)
    exact Nat.lt_of_le_of_lt (Nat.mul_le_mul_left 12 this) z3
  have d2 : ∀ r ∈ col q j, r.den ∣ LL ^ 6 ∧ 0 ≤ r ∧ r ≤ 1 := fun r hr => by
    unfold col at hr
    obtain ⟨a, ha, rfl⟩ := List.mem_map.mp hr
    have hw := h.wide a ha
    have hm := h.chs a ha (a.2.1.getD j 0) (by rw [getD_of (List.getElem?_eq_getElem (show j < a.2.1.length by omega))]; exact List.getElem_mem _)
    exact ⟨hm.2.2, hm.1, hm.2.1⟩
  have e : ((q.map fun a => a.2.1).map fun x => x.getD j 0) = col q j := by
    unfold col
    rw [List.map_map]
    rfl
  refine ⟨LL ^ 6, ll_pos 6, ll_lt1500 (by decide), fun x hx => ?_, ?_⟩
  · obtain ⟨a, ha, rfl⟩ := List.mem_map.mp hx
    exact (d2 _ (List.mem_map.mpr ⟨a, ha, rfl⟩)).1
  · rw [e]
    exact Nat.lt_of_le_of_lt (frNs_abs d2) (Nat.lt_of_le_of_lt (Nat.mul_le_mul_right _ (show (col q j).length ≤ 12 by unfold col; rw [List.length_map]; exact h.most)) z2)
section
variable {P : Program} {w : World} {K : PySem.W.Frag} {mg : Str → Option Value} {base : Heap} {aN aO : Addr} {t1 t2 t3 t4 t5 t6 t7 : Tok}
theorem ok_check_node {n : Nat} {f f1 : Addr} {fd fd1 : FuncData} (D : Dn K mg "check_node" s_check_node ["node", "place", "ahead"] f fd) (B : Blt mg) (C : Cst K mg aN aO t1 t2 t3 t4 t5 t6 t7) (D_check_question : Dn K mg "check_question" s_check_question ["question", "place", "ahead"] f1 fd1)
    (G_check_question : FnOk P w K mg base CX0 (5 + 2 * n) f1 fd1 ["question", "place", "ahead"] (spCkQ K n)) : FnOk P w K mg base CX0 (6 + 2 * n) f fd ["node", "place", "ahead"] (spCkN K n) := by
  rw [show 6 + 2 * n = (5 + 2 * n) + 1 by omega]
  refine D.F.ok sc_check_node (fun vs H Q E h => ?_) (fun cdv A outer s H vs Q E hr h => ?_)
  · obtain ⟨W, d, v, av, pl, ps, ahead, t, rfl, _⟩ := h
    rfl
  obtain ⟨W, d, v, av, pl, ps, ahead, t, rfl, hv, hav, hpl, lp, hd, hW1, hW5, hla, hok, q⟩ := h
  have nd := sc_check_node.nd
  refine ⟨_, (pss_cons (ps_if (PW.pt (pw_or (pt_not (pt_val (pe_callB (k_isi (K := K) rfl) (by rfl) B.isinstance (by decide +kernel) (pa_cons (pv 0) (pa_cons (pe_bltn (v := .ty "tuple") (u := .type "tuple") (by rfl) B.tuple (by decide +kernel) rfl) pa_nil))))) (pw_or1 (pt_cmpR op_gt (pe_callB (k_len (K := K) rfl) (by rfl) B.len PySem.boot_len (pa_cons (pv 0) pa_nil)) (pe_glob (v := .int _) rfl C.MOST_QUESTIONS ⟨_, rfl⟩) (nomark _))))) (pss_one ps_never) pss_nil)
      (pss_cons (ps_if (PW.pt (pw_and (pt_cmpR op_gt (pe_callB (k_len (K := K) rfl) (by rfl) B.len PySem.boot_len (pa_cons (pv 0) pa_nil)) pe_int (nomark _)) (pw_and1 (pt_cmpR op_ge (pe_callB (k_len (K := K) rfl) (by rfl) B.len PySem.boot_len (pa_cons (pv 1) pa_nil)) (pe_op op_mulW pe_int (pe_glob (v := .int _) rfl C.MOST_ON_A_WAY ⟨_, rfl⟩)) (nomark _))))) (pss_one ps_never) pss_nil)
      (pss_one (ps_for PassesOwn.never rfl (k_enum (K := K) rfl (by rfl) B.enumerate (pa_cons (pv 0) pa_nil)) (k_tup (K := K) (n := 2) rfl rfl (pgs_cons (pg_name (i := 3) nd rfl (.inl rfl)) (pgs_cons (pg_name (i := 4) nd rfl (.inl rfl)) pgs_nil))) (pss_one (ps_expr (pe_call G_check_question (hr.mono (by omega)) (by rfl) D_check_question.m D_check_question.F.kp D_check_question.b .nil pass0 (pa_cons (pv 4) (pa_cons (pe_op (k_cat (K := K) rfl) (pv 1) (pe_tup (pa_cons (pv 3) pa_nil))) (pa_cons (pv 2) pa_nil)))))))))), ?_⟩
  obtain ⟨ds, eds, l5, l0⟩ : ∃ ds, ndD n t = .tuple ds ∧ ds.length ≤ 5 ∧ (n = 0 → ds.length = 0) := by
    cases n with
    | zero => exact ⟨[], rfl, by decide, fun _ => rfl⟩
    | succ n => exact ⟨_, rfl, by rw [List.length_map]; exact hok.1, fun h => by cases h⟩
  have hv2 := hv
  rw [eds] at hv2
  obtain ⟨a, xs, rfl, ha, ta⟩ := hv2.tupE
  have lx := ta.len
  refine ⟨_, rfl, _, _, _, _, true, rfl, .ty "tuple", tyx_tup ha, kit_ty (by decide +kernel), _, rfl, iteF ?_⟩
  refine ⟨_, rfl, a, _, rfl, .inr ha, _, _, rfl, rfl, _, rfl, ?_⟩
  rw [decide_eq_false (show ¬ (5 : Int) < ((xs.length : Nat) : Int) by omega)]
  refine iteF ?_
  refine ⟨_, rfl, a, _, rfl, .inr ha, _, _, rfl, rfl, _, rfl, ?_⟩
  have rest : tFor (iEnumT K (tCons (tVar 0) tNil)) (gTup K 2 (gCons (gName 3) (gCons (gName 4) gNil))) (tDrop (tCall (spCkQ K n) [] E0 (tCons (tVar 4) (tCons (tOp (rCatP K) (tVar 1) (tTup (tCons (tVar 3) tNil))) (tCons (tVar 2) tNil))))) { nx := fun _ H' => Q .non H', rt := Q } [some (.ref a), some (.ref pl), some av, none, none] H := by
    refine ⟨_, rfl, a, xs, rfl, ha, for_it (walk_enumT (K := K) (a := a) (xs := xs)) (fun i σ H2 => ∃ o3 o4 : Option V, σ = [some (.ref a), some (.ref pl), some av, o3, o4] ∧ Same H H2) ⟨none, none, rfl, Same.refl _⟩ (fun i σ H2 _ h => ?_) ?_ ?_⟩
    · obtain ⟨_, _, _, s2⟩ := h
      exact Same.kt s2 _ _ ha
    · rintro i x σ H2 H3 hi ⟨o3, o4, rfl, s2⟩ ⟨T, x1, x2, rfl, nT, rfl, e1, e2⟩
      cases n with
      | zero =>
        have := l0 rfl
        omega
      | succ n =>
        cases eds
        have s3 : Same H2 (upd H2 T (.tup [x1, x2])) := same_upd nT
        cases e1
        obtain ⟨dx, ex, tx⟩ := ta.getV e2
        obtain ⟨qn, eq, rfl⟩ := map_at ex
        obtain ⟨qok, nok⟩ := hok.2 qn (List.mem_of_getElem? eq)
        refine ⟨T, _, rfl, .inl (.inl upd_same), rfl, _, _, rfl, _, _, rfl, rfl, ?_⟩
        refine ⟨_, rfl, _, rfl, _, rfl, (by show 1 ≤ sizeLine; decide), fun p np => ?_⟩
        have s4 : Same (upd H2 T (.tup [.int (i : Int), x2])) (upd (upd H2 T (.tup [.int (i : Int), x2])) p (.tup [.int (i : Int)])) := same_upd np
        have s24 := (s2.trans s3).trans s4
        refine ⟨pl, p, ps, _, rfl, rfl, Same.kt s24 _ _ hpl, .inl (.inl upd_same), by rw [lp]; exact small25 (by simp; omega), fun p2 H5 s5 q5 => ?_⟩
        have s25 := s24.trans s5
        refine ⟨_, rfl, W, d, x2, av, p2, _, ahead, qn, rfl, tx.keep (Same.kt s25), hav.keep (Same.kt s25), q5, by rw [List.length_append, lp]; rfl, by omega, hW1, hW5, hla, qok, nok, fun H6 s6 => ?_⟩
        exact ⟨_, _, rfl, s25.trans s6⟩
    · rintro σ H2 ⟨o3, o4, rfl, s2⟩
      exact q H2 s2
  refine ite2 (fun c => ?_) (fun c => ?_)
  · refine ⟨_, rfl, pl, _, rfl, .inr hpl, _, _, rfl, rfl, cmul_small (by decide) (by decide), _, _, rfl, rfl, _, rfl, ?_⟩
    have c0 : 0 < xs.length := by
      have := of_decide_eq_true c
      omega
    have n0 : n ≠ 0 := fun e => by
      have := l0 e
      omega
    rw [decide_eq_false (show ¬ ((ps.length : Nat) : Int) ≥ 2 * 8 by omega)]
    refine iteF ?_
    exact rest
  · refine iteF ?_
    exact rest
end
end Tl
namespace Tl
open PySem PySem.Spec PyProof.Rows L2 RZ
section
variable {P : Program} {w : World} {K : PySem.W.Frag} {mg : Str → Option Value} {base : Heap} {aN aO : Addr} {t1 t2 t3 t4 t5 t6 t7 : Tok}
theorem ok_check_question {n : Nat} {f f1 f2 f3 f4 : Addr} {fd fd1 fd2 fd3 fd4 : FuncData} (D : Dn K mg "check_question" s_check_question ["question", "place", "ahead"] f fd) (B : Blt mg) (C : Cst K mg aN aO t1 t2 t3 t4 t5 t6 t7) (D_check_node : Dn K mg "check_node" s_check_node ["node", "place", "ahead"] f1 fd1)
    (G_check_node : FnOk P w K mg base CX0 (6 + 2 * n) f1 fd1 ["node", "place", "ahead"] (spCkN K n)) (D_is_answer : Dn K mg "is_answer" s_is_answer ["thing", "worlds"] f2 fd2) (G_is_answer : FnOk P w K mg base CX0 5 f2 fd2 ["thing", "worlds"] (spAnswer K n))
    (D_is_ascending : Dn K mg "is_ascending" s_is_ascending ["rows"] f3 fd3) (G_is_ascending : FnOk P w K mg base CX0 1 f3 fd3 ["rows"] (spAsc K)) (D_total_weights : Dn K mg "total_weights" s_total_weights ["rows", "worlds"] f4 fd4) (G_total_weights : FnOk P w K mg base CX0 4 f4 fd4 ["rows", "worlds"] (spTotW K)) :
    FnOk P w K mg base CX0 (7 + 2 * n) f fd ["question", "place", "ahead"] (spCkQ K (n + 1)) := by
  rw [show 7 + 2 * n = (6 + 2 * n) + 1 by omega]
  refine D.F.ok sc_check_question (fun vs H Q E h => ?_) (fun cdv A outer s H vs Q E hr h => ?_)
  · obtain ⟨W, d, v, av, pl, ps, ahead, t, rfl, _⟩ := h
    rfl
  obtain ⟨W, d, v, av, pl, ps, ahead, qn, rfl, hv, hav, hpl, lp, hd, hW1, hW5, hla, qok, nok, q⟩ := h
  have nd := sc_check_question.nd
  refine ⟨_, (pss_cons (ps_if (PW.pt (pw_or (pt_not (pt_val (pe_callB (k_isi (K := K) rfl) (by rfl) B.isinstance (by decide +kernel) (pa_cons (pv 0) (pa_cons (pe_bltn (v := .ty "tuple") (u := .type "tuple") (by rfl) B.tuple (by decide +kernel) rfl) pa_nil))))) (pw_or1 (pt_not (pt_chain op_le op_le pe_int (pe_callB (k_len (K := K) rfl) (by rfl) B.len PySem.boot_len (pa_cons (pv 0) pa_nil)) (pe_glob (v := .int _) rfl C.MOST_WORDS ⟨_, rfl⟩)))))) (pss_one ps_never) pss_nil)
      (pss_cons (ps_for PassesOwn.never rfl (k_enum (K := K) rfl (by rfl) B.enumerate (pa_cons (pv 0) pa_nil)) (k_tup (K := K) (n := 2) rfl rfl (pgs_cons (pg_name (i := 3) nd rfl (.inl rfl)) (pgs_cons (pg_name (i := 4) nd rfl (.inl rfl)) pgs_nil))) (pss_one (ps_if (pt_not (pt_val (pe_call G_is_answer (hr.mono (by omega)) (by rfl) D_is_answer.m D_is_answer.F.kp D_is_answer.b .nil pass0 (pa_cons (pv 4) (pa_cons (pe_callB (k_len (K := K) rfl) (by rfl) B.len PySem.boot_len (pa_cons (pv 2) pa_nil)) pa_nil))))) (pss_one ps_never) pss_nil)))
      (pss_cons (ps_if (pt_not (pt_val (pe_call G_is_ascending (hr.mono (by omega)) (by rfl) D_is_ascending.m D_is_ascending.F.kp D_is_ascending.b .nil pass0 (pa_cons (pe_lc (own := [("answer", 4)]) rfl nd (k_iT (K := K) rfl (pv 0)) (blkOk_by (own := [("answer", 4)]) (by kernel_rfl)) (fun _ _ _ _ _ => (pg_name (i := 4) nd rfl (.inl rfl))) (fun _ _ _ _ _ => pts_nil) (fun _ _ _ _ _ => (pe_ix (k_ixT (K := K) rfl) (pv 4) pe_int (fun _ _ => rfl)))) pa_nil)))) (pss_one ps_never) pss_nil)
      (pss_cons (ps_if (pt_cmpR (k_neD (K := K) rfl hr.units) (pe_call G_total_weights (hr.mono (by omega)) (by rfl) D_total_weights.m D_total_weights.F.kp D_total_weights.b .nil pass0 (pa_cons (pe_lc (own := [("answer", 4)]) rfl nd (k_iT (K := K) rfl (pv 0)) (blkOk_by (own := [("answer", 4)]) (by kernel_rfl)) (fun _ _ _ _ _ => (pg_name (i := 4) nd rfl (.inl rfl))) (fun _ _ _ _ _ => pts_nil) (fun _ _ _ _ _ => (pe_ix (k_ixT (K := K) rfl) (pv 4) pe_int (fun _ _ => rfl)))) (pa_cons (pe_callB (k_len (K := K) rfl) (by rfl) B.len PySem.boot_len (pa_cons (pv 2) pa_nil)) pa_nil))) (pv 2) (nomark _)) (pss_one ps_never) pss_nil)
      (pss_one (ps_for PassesOwn.never rfl (k_enum (K := K) rfl (by rfl) B.enumerate (pa_cons (pv 0) pa_nil)) (k_tup (K := K) (n := 2) rfl rfl (pgs_cons (pg_name (i := 3) nd rfl (.inl rfl)) (pgs_cons (pg_name (i := 4) nd rfl (.inl rfl)) pgs_nil))) (pss_one (ps_expr (pe_call G_check_node (hr.mono (by omega)) (by rfl) D_check_node.m D_check_node.F.kp D_check_node.b .nil pass0 (pa_cons (pe_ix (k_ixT (K := K) rfl) (pv 4) pe_int (fun _ _ => rfl)) (pa_cons (pe_op (k_cat (K := K) rfl) (pv 1) (pe_tup (pa_cons (pv 3) pa_nil))) (pa_cons (pe_ix (k_ixT (K := K) rfl) (pv 4) pe_int (fun _ _ => rfl)) pa_nil)))))))))))), ?_⟩
  obtain ⟨a, xs, rfl, ha, ta⟩ := id hv.tupE
  obtain ⟨aa, axs, rfl, haa, taa⟩ := id hav.tupE
  have lx : xs.length = qn.length := by rw [ta.len, List.length_map]
  have la : axs.length = W := by rw [taa.len, List.length_map, hla]
  have o1 := qok.one
  have o12 := qok.most
  -- the answers at their places
  have at_ : ∀ {i : Nat} {x : V} {H2 : Hp}, xs[i]? = some x → Same H H2 → ∃ an, qn[i]? = some an ∧ an ∈ qn ∧ Td K H2 x (anD n an) ∧ ∃ p vw vs vt, x = .ref p ∧ SqT K H2 p [vw, vs, vt] ∧ Td K H2 vw (wdD an.1) ∧ Td K H2 vs (wsD an.2.1) ∧ Td K H2 vt (ndD n an.2.2) := by
    intro i x H2 e s2
    obtain ⟨dx, ex, tx⟩ := ta.getV e
    obtain ⟨an, ea, rfl⟩ := map_at ex
    have tx2 := tx.keep (Same.kt s2)
    obtain ⟨p, ys, rfl, hp, tp⟩ := id tx2.tupE
    cases tp with
    | cons h1 tp => cases tp with
      | cons h2 tp => cases tp with
        | cons h3 tp =>
          cases tp
          exact ⟨an, ea, List.mem_of_getElem? ea, tx2, p, _, _, _, rfl, hp, h1, h2, h3⟩
  refine ⟨_, rfl, _, _, _, _, true, rfl, .ty "tuple", tyx_tup ha, kit_ty (by decide +kernel), _, rfl, iteF ?_⟩
  refine ⟨_, rfl, a, _, rfl, .inr ha, _, _, rfl, rfl, _, rfl, ?_⟩
  rw [decide_eq_true (show (1 : Int) ≤ ((xs.length : Nat) : Int) by omega)]
  refine iteT ⟨_, _, rfl, rfl, _, rfl, ?_⟩
  rw [decide_eq_true (show ((xs.length : Nat) : Int) ≤ 12 by omega)]
  refine iteF ?_
  -- each answer
  refine ⟨_, rfl, a, xs, rfl, ha, for_it (walk_enumT (K := K) (a := a) (xs := xs)) (fun i σ H2 => ∃ o3 o4 : Option V, σ = [some (.ref a), some (.ref pl), some (.ref aa), o3, o4] ∧ Same H H2) ⟨none, none, rfl, Same.refl _⟩ (fun i σ H2 _ h => ?_) ?_ ?_⟩
  · obtain ⟨_, _, _, s2⟩ := h
    exact Same.kt s2 _ _ ha
  · rintro i x σ H2 H3 hi ⟨o3, o4, rfl, s2⟩ ⟨T, x1, x2, rfl, nT, rfl, e1, e2⟩
    have s3 : Same H2 (upd H2 T (.tup [x1, x2])) := same_upd nT
    have s23 := s2.trans s3
    obtain ⟨an, ea, ma, tan, _⟩ := at_ e2 s23
    refine ⟨T, _, rfl, .inl (.inl upd_same), rfl, _, _, rfl, _, _, rfl, rfl, ?_⟩
    refine ⟨_, rfl, _, rfl, aa, _, rfl, .inr (Same.kt s23 _ _ haa), x2, an, ?_, tan, qok.words _ ma, ?_, fun r hr => ?_, fun H4 s4 => ⟨_, rfl, iteF ⟨_, _, rfl, s23.trans s4⟩⟩⟩
    · rw [la, qok.wide _ ma]
      rfl
    · rw [qok.wide _ ma]
      omega
    · have := qok.chs _ ma r hr
      exact ⟨this.1, this.2.1⟩
  rintro σ H2 ⟨o3, o4, rfl, s2⟩
  -- ascending
  have ha2 := Same.kt s2 _ _ ha
  refine ⟨_, rfl, a, rfl, ⟨_, ha2⟩, fun T hT => ?_⟩
  refine lc_it (walk_tup (K := K) (a := a) (xs := xs)) (fun i H3 => ∃ us : List V, H3 T = some (.lst us) ∧ TdAll K H3 us ((qn.take i).map fun an => wdD an.1) ∧ Same H2 H3) ⟨[], upd_same, .nil, same_upd hT⟩ (fun i H3 _ h => ?_) ?_ ?_
  · obtain ⟨_, _, _, s3⟩ := h
    exact Same.kt s3 _ _ ha2
  · rintro i x H0 H3 hi ⟨us, h3, t3, s3⟩ ⟨rfl, e1⟩
    obtain ⟨an, ea, ma, tan, p, vw, vs, vt, rfl, hp, h1, h2, h4⟩ := at_ e1 (s2.trans s3)
    have kT : KT K H3 (upd H3 T (.lst (us ++ [vw]))) := KT.updL h3
    refine ⟨rfl, ?_⟩
    refine iteT (B := ∃ us : List V, H3 T = some (.lst us) ∧ TdAll K H3 us ((qn.take (i + 1)).map fun an => wdD an.1) ∧ Same H2 H3) ?_
    refine ⟨_, rfl, p, _, 0, vw, rfl, rfl, hp, at_of (j := 0) rfl rfl, us, h3, ?_, us ++ [vw], upd_same, ?_, fun c o y => ?_⟩
    · rw [t3.len, List.length_map, List.length_take]
      exact small1000 (by omega)
    · rw [List.take_add_one, ea, List.map_append]
      exact (t3.keep kT).app (.cons (h1.keep kT) .nil)
    · rw [upd_ne (ne_of_none y hT)]
      exact s3 _ _ y
  rintro H3 ⟨us, h3, t3, s3⟩
  rw [lx, List.take_length] at t3
  have s03 := s2.trans s3
  refine ⟨T, us, qn.map (fun an => an.1), rfl, SqL.of h3, by rw [List.map_map]; exact t3, by rw [List.length_map]; omega, ?_, fun H4 s4 => ⟨_, rfl, iteF ?_⟩⟩
  · intro i x y hx hy
    obtain ⟨ax, gx, rfl⟩ := map_at hx
    obtain ⟨ay, gy, rfl⟩ := map_at hy
    exact qok.asc i ax ay gx gy
  have s04 := s03.trans s4
  clear t3 h3 s3
  -- the weights
  have ha4 := Same.kt s04 _ _ ha
  refine ⟨_, rfl, a, rfl, ⟨_, ha4⟩, fun T2 hT2 => ?_⟩
  refine lc_it (walk_tup (K := K) (a := a) (xs := xs)) (fun i H3 => ∃ us : List V, H3 T2 = some (.lst us) ∧ TdAll K H3 us ((qn.take i).map fun an => wsD an.2.1) ∧ Same H4 H3) ⟨[], upd_same, .nil, same_upd hT2⟩ (fun i H3 _ h => ?_) ?_ ?_
  · obtain ⟨_, _, _, s3⟩ := h
    exact Same.kt s3 _ _ ha4
  · rintro i x H0 H5 hi ⟨us, h3, t3, s3⟩ ⟨rfl, e1⟩
    obtain ⟨an, ea, ma, tan, p, vw, vs, vt, rfl, hp, h1, h2, h4⟩ := at_ e1 (s04.trans s3)
    have kT : KT K H5 (upd H5 T2 (.lst (us ++ [vs]))) := KT.updL h3
    refine ⟨rfl, ?_⟩
    refine iteT (B := ∃ us : List V, H5 T2 = some (.lst us) ∧ TdAll K H5 us ((qn.take (i + 1)).map fun an => wsD an.2.1) ∧ Same H4 H5) ?_
    refine ⟨_, rfl, p, _, 1, vs, rfl, rfl, hp, at_of (j := 1) rfl rfl, us, h3, ?_, us ++ [vs], upd_same, ?_, fun c o y => ?_⟩
    · rw [t3.len, List.length_map, List.length_take]
      exact small1000 (by omega)
    · rw [List.take_add_one, ea, List.map_append]
      exact (t3.keep kT).app (.cons (h2.keep kT) .nil)
    · rw [upd_ne (ne_of_none y hT2)]
      exact s3 _ _ y
  rintro H5 ⟨us5, h5, t5, s5⟩
  rw [lx, List.take_length] at t5
  have s05 := s04.trans s5
  refine ⟨_, rfl, aa, _, rfl, .inr (Same.kt s05 _ _ haa), ?_⟩
  refine ⟨T2, us5, W, qn.map (fun an => an.2.1), by rw [la]; rfl, SqL.of h5, by rw [List.map_map]; exact t5, hW1, hW5, by rw [List.length_map]; omega, fun x hx => ?_, tot_cols qok, fun v6 H6 s6 t6 => ?_⟩
  · obtain ⟨an, ma, rfl⟩ := List.mem_map.mp hx
    exact qok.wide _ ma
  rw [tot_whole hla qok] at t6
  have s06 := s05.trans s6
  have g2 := good_wsD ahead
  refine ⟨_, rfl, wsD ahead, wsD ahead, t6.dp, (hav.keep (Same.kt s06)).dp, g2.shaped (by decide), g2.shaped (by decide), _, rfl, ?_⟩
  rw [g2.refl]
  refine iteF ?_
  clear t6 t5 h5 s5 s6 ha4 ha2 s4 s03 s2
  -- the nodes behind
  have ha6 := Same.kt s06 _ _ ha
  refine ⟨_, rfl, a, xs, rfl, ha6, for_it (walk_enumT (K := K) (a := a) (xs := xs)) (fun i σ H2 => ∃ o3 o4 : Option V, σ = [some (.ref a), some (.ref pl), some (.ref aa), o3, o4] ∧ Same H H2) ⟨_, _, rfl, s06⟩ (fun i σ H2 _ h => ?_) ?_ ?_⟩
  · obtain ⟨_, _, _, s2⟩ := h
    exact Same.kt s2 _ _ ha
  · rintro i x σ H2 H3 hi ⟨o3, o4, rfl, s2⟩ ⟨T, x1, x2, rfl, nT, rfl, e1, e2⟩
    have s3 : Same H2 (upd H2 T (.tup [x1, x2])) := same_upd nT
    cases e1
    have s23 := s2.trans s3
    obtain ⟨an, ea, ma, tan, p, vw, vs, vt, rfl, hp, h1, h2, h4⟩ := at_ e2 s23
    refine ⟨T, _, rfl, .inl (.inl upd_same), rfl, _, _, rfl, _, _, rfl, rfl, ?_⟩
    refine ⟨_, rfl, p, _, 2, vt, rfl, rfl, hp, at_of (j := 2) rfl rfl, ?_⟩
    refine ⟨_, rfl, _, rfl, (by show 1 ≤ sizeLine; decide), fun p3 np => ?_⟩
    have s4 : Same (upd H2 T (.tup [.int (i : Int), .ref p])) (upd (upd H2 T (.tup [.int (i : Int), .ref p])) p3 (.tup [.int (i : Int)])) := same_upd np
    have s24 := s23.trans s4
    refine ⟨pl, p3, ps, _, rfl, rfl, Same.kt s24 _ _ hpl, .inl (.inl upd_same), by rw [lp]; exact small25 (by simp; omega), fun p2 H5 s5 q5 => ?_⟩
    have s25 := s24.trans s5
    have k35 : KT K (upd H2 T (.tup [.int (i : Int), .ref p])) H5 := Same.kt (s4.trans s5)
    refine ⟨_, rfl, p, _, 1, vs, rfl, rfl, k35 _ _ hp, at_of (j := 1) rfl rfl, ?_⟩
    refine ⟨W, d + 1, vt, vs, p2, _, an.2.1, an.2.2, rfl, h4.keep k35, h2.keep k35, q5, by rw [List.length_append, lp]; show 2 * d + 1 + 1 = 2 * (d + 1); omega, by omega, hW1, hW5, qok.wide _ ma, nok _ ma, fun H6 s6 => ?_⟩
    exact ⟨_, _, rfl, s25.trans s6⟩
  · rintro σ H2 ⟨o3, o4, rfl, s2⟩
    exact q H2 s2
end
end Tl
namespace Tl
open PySem PySem.Spec PyProof.Rows L2 RZ
/-- a comprehension over two walks -/
theorem lc2_it {J : It} {n : Nat} {G : Hp → Prop} {Y : Nat → Hp → V → Hp → Prop} (w1 : Walk J n G Y) {wi1 : TI} {g g1 : TG} {tt tt1 : TT} {te : TE} {vs vs1 : List Nat} {σ : L2.St} {H1 : Hp} {D : Addr} {Qd : Hp → Prop} (Pv : Nat → Hp → Prop) (h0 : Pv 0 (upd H1 D (.lst []))) (hG : ∀ i H, i ≤ n → Pv i H → G H)
    (hs : ∀ i x H H', i < n → Pv i H → Y i H x H' → g x (wipe σ vs) H' fun σ2 H2 => wipe σ2 vs = wipe σ vs ∧ tt σ2 H2 fun b H3 => if b = true then wi1 σ2 H3 fun J1 H4 => ∃ (k : Nat) (G1 : Hp → Prop) (Y1 : Nat → Hp → V → Hp → Prop) (Pw : Nat → Hp → Prop), Walk J1 k G1 Y1 ∧ Pw 0 H4 ∧ (∀ j H, j ≤ k → Pw j H → G1 H) ∧ (∀ H, Pw k H → Pv (i + 1) H) ∧
        ∀ j y H H', j < k → Pw j H → Y1 j H y H' → g1 y (wipe σ2 vs1) H' fun σ3 H5 => wipe σ3 vs1 = wipe σ2 vs1 ∧ tt1 σ3 H5 fun b H6 => if b = true then te σ3 H6 fun z H7 => ∃ acc, H7 D = some (.lst acc) ∧ acc.length < sizeLine ∧ Pw (j + 1) (upd H7 D (.lst (acc ++ [z]))) else Pw (j + 1) H6 else Pv (i + 1) H3) (hd : ∀ H, Pv n H → Qd H)
    (mg1 : ∀ x σ H Q Q', (∀ σ' H', Q σ' H' → Q' σ' H') → g x σ H Q → g x σ H Q') (mt : ∀ σ H Q Q', (∀ b H', Q b H' → Q' b H') → tt σ H Q → tt σ H Q') (mw : ∀ σ H (Q Q' : It → Hp → Prop), (∀ J H', Q J H' → Q' J H') → wi1 σ H Q → wi1 σ H Q') :
    ∃ W : Nat → Nat → Hp → Prop, (∃ m, W 0 m (upd H1 D (.lst []))) ∧ ∀ i m H, W i m H →
      (J.stop i H ∧ Qd H) ∨ (J.go i H ∧ ∃ Nx : Hp → Prop, (∀ H', Nx H' → ∃ m', m' < m ∧ W (i + 1) m' H') ∧ ∀ x H', J.yld i H x H' → g x (wipe σ vs) H' fun σ2 H2 => wipe σ2 vs = wipe σ vs ∧ tt σ2 H2 fun b H3 =>
        if b = true then wi1 σ2 H3 fun J1 H4 => ∃ W1 : Nat → Nat → Hp → Prop, (∃ m, W1 0 m H4) ∧ ∀ j k H, W1 j k H →
          (J1.stop j H ∧ Nx H) ∨ (J1.go j H ∧ ∃ Nx1 : Hp → Prop, (∀ H', Nx1 H' → ∃ k', k' < k ∧ W1 (j + 1) k' H') ∧ ∀ x H', J1.yld j H x H' → g1 x (wipe σ2 vs1) H' fun σ3 H5 => wipe σ3 vs1 = wipe σ2 vs1 ∧ tt1 σ3 H5 fun b H6 =>
            if b = true then te σ3 H6 fun y H7 => ∃ acc, H7 D = some (.lst acc) ∧ acc.length < sizeLine ∧ Nx1 (upd H7 D (.lst (acc ++ [y]))) else Nx1 H6)
        else Nx H3) := by
  refine ⟨fun i m H => m = n - i ∧ i ≤ n ∧ Pv i H, ⟨n, by simp, Nat.zero_le _, h0⟩, ?_⟩
  rintro i m H ⟨rfl, hi, p⟩
  have q := hG i H hi p
  by_cases hlt : i < n
  · refine .inr ⟨w1.goes i H hlt q, Pv (i + 1), fun H' p' => ⟨n - (i + 1), by omega, rfl, hlt, p'⟩, fun x H' y => ?_⟩
    refine mg1 _ _ _ _ _ (fun σ2 H2 h => ⟨h.1, mt _ _ _ _ (fun b H3 h => ?_) h.2⟩) (hs i x H H' hlt p (w1.yields i H x H' hlt q y))
    cases b with
    | false => exact h
    | true =>
      refine mw _ _ _ _ (fun J1 H4 h => ?_) h
      obtain ⟨k, G1, Y1, Pw, v1, p0, pG, pe, ps⟩ := h
      refine ⟨fun j l H => l = k - j ∧ j ≤ k ∧ Pw j H, ⟨k, by simp, Nat.zero_le _, p0⟩, ?_⟩
      rintro j l H ⟨rfl, hj, pp⟩
      have q2 := pG j H hj pp
      by_cases hl2 : j < k
      · exact .inr ⟨v1.goes j H hl2 q2, Pw (j + 1), fun H' p' => ⟨k - (j + 1), by omega, rfl, hl2, p'⟩, fun x H' y => ps j x H H' hl2 pp (v1.yields j H x H' hl2 q2 y)⟩
      · obtain rfl : j = k := by omega
        exact .inl ⟨v1.stops H q2, pe H pp⟩
  · obtain rfl : i = n := by omega
    exact .inl ⟨w1.stops H q, hd H p⟩
def spCnt (K : PySem.W.Frag) (n : Nat) : Sp := fun vs H Q _ => ∃ (v : V) (t : Nd n), vs = [v] ∧ Td K H v (ndD n t) ∧ Q (.int ((cnt n t : Nat) : Int)) H
def spRnd (K : PySem.W.Frag) (n : Nat) : Sp := fun vs H Q _ => ∃ (v : V) (t : Nd n), vs = [v] ∧ Td K H v (ndD n t) ∧ cnt n t ≤ 10000 ∧ ∀ (r : Int) (H' : Hp), 0 ≤ r → r ≤ n → Same H H' → Q (.int r) H'
/-- the questions of a node at their places -/
theorem td_qs {K : PySem.W.Frag} {H : Hp} {n : Nat} {t : Nd n} {v : V} (h : Td K H v (ndD n t)) : ∃ (a : Addr) (xs : List V) (ds : List PyData), v = .ref a ∧ SqT K H a xs ∧ ndD n t = .tuple ds ∧ TdAll K H xs ds ∧ (n = 0 → xs = []) := by
  cases n with
  | zero =>
    obtain ⟨a, xs, e, hs, ht⟩ := Td.tupE (ds := []) h
    refine ⟨a, xs, [], e, hs, rfl, ht, fun _ => ?_⟩
    cases ht
    rfl
  | succ n =>
    obtain ⟨a, xs, e, hs, ht⟩ := Td.tupE h
    exact ⟨a, xs, _, e, hs, rfl, ht, fun z => by cases z⟩
theorem cntQ_take (n : Nat) (q : Qn n) (i : Nat) (an : An n) (h : q[i]? = some an) : cntQ n (q.take (i + 1)) = cntQ n (q.take i) + (1 + cnt n an.2.2) := by
  unfold cntQ
  rw [List.take_add_one, h, List.map_append, List.sum_append]
  rfl
theorem cnt_take (n : Nat) (qs : List (Qn n)) (i : Nat) (q : Qn n) (h : qs[i]? = some q) : cnt (n + 1) (qs.take (i + 1) : List (Qn n)) = cnt (n + 1) (qs.take i : List (Qn n)) + cntQ n q := by
  rw [List.take_add_one, h]
  exact cnt_snoc n _ q
section
variable {P : Program} {w : World} {K : PySem.W.Frag} {mg : Str → Option Value} {base : Heap} {aN aO : Addr} {t1 t2 t3 t4 t5 t6 t7 : Tok}
theorem ok_answers_in {f : Addr} {fd : FuncData} (D : Dn K mg "answers_in" s_answers_in ["node"] f fd) (B : Blt mg) : ∀ n : Nat, FnOk P w K mg base CX0 (1 + n) f fd ["node"] (spCnt K n) := by
  intro n
  have G_answers_in : n = 0 ∨ ∃ m, n = m + 1 ∧ FnOk P w K mg base CX0 n f fd ["node"] (spCnt K m) := by
    cases n with
    | zero => exact .inl rfl
    | succ m =>
      have := ok_answers_in D B m
      rw [show 1 + m = m + 1 by omega] at this
      exact .inr ⟨m, rfl, this⟩
  obtain ⟨sp0, G_answers_in, hsp⟩ : ∃ sp0, FnOk P w K mg base CX0 n f fd ["node"] sp0 ∧ (∀ m, n = m + 1 → sp0 = spCnt K m) := by
    rcases G_answers_in with h | ⟨m, h, G⟩
    · exact ⟨fun _ _ _ _ => False, ⟨fun vs H Q E h => h.elim, fun A outer s H args us vs Q E _ _ _ _ h => h.elim⟩, fun m e => by omega⟩
    · exact ⟨_, G, fun m' e => by rw [show m' = m by omega]⟩
  rw [show 1 + n = n + 1 by omega]
  refine D.F.ok sc_answers_in (fun vs H Q E h => ?_) (fun cdv A outer s H vs Q E hr h => ?_)
  · obtain ⟨v, t, rfl, _⟩ := h
    rfl
  obtain ⟨v, t, rfl, hv, q⟩ := h
  have nd := sc_answers_in.nd
  have D_answers_in := D
  refine ⟨_, (pss_cons (ps_set (i := 1) nd rfl (.inl rfl) pe_int)
      (pss_cons (ps_for PassesOwn.never rfl (k_iT (K := K) rfl (pv 0)) (pg_name (i := 2) nd rfl (.inl rfl)) (pss_one (ps_for PassesOwn.never rfl (k_iT (K := K) rfl (pv 2)) (pg_name (i := 3) nd rfl (.inl rfl)) (pss_one (ps_aug (i := 1) nd rfl (.inl rfl) (pe_op op_add pe_int (pe_call G_answers_in (hr.mono (by omega)) (by rfl) D_answers_in.m D_answers_in.F.kp D_answers_in.b .nil pass0 (pa_cons (pe_ix (k_ixT (K := K) rfl) (pv 3) pe_int (fun _ _ => rfl)) pa_nil))) ip_add)))))
      (pss_one (ps_ret (pv 1))))), ?_⟩
  obtain ⟨a, xs, ds, rfl, ha, ed, ta, l0⟩ := td_qs hv
  cases n with
  | zero =>
    have := l0 rfl
    subst this
    refine ⟨_, rfl, a, rfl, ⟨_, ha⟩, for_it (walk_tup (K := K) (a := a) (xs := [])) (fun i σ H2 => H2 = H ∧ σ = [some (.ref a), some (.int 0), none, none]) ⟨rfl, rfl⟩ (fun i σ H2 _ h => by rw [h.1]; exact ha) ?_ ?_⟩
    · rintro i x σ H2 H3 hi
      exact absurd hi (Nat.not_lt_zero _)
    · rintro σ H2 ⟨rfl, rfl⟩
      exact ⟨_, rfl, q⟩
  | succ n =>
    cases ed
    have hsp := hsp n rfl
    subst hsp
    have lx : xs.length = (show List (Qn n) from t).length := by rw [ta.len, List.length_map]
    refine ⟨_, rfl, a, rfl, ⟨_, ha⟩, for_it (walk_tup (K := K) (a := a) (xs := xs)) (fun i σ H2 => H2 = H ∧ ∃ o2 o3 : Option V, σ = [some (.ref a), some (.int ((cnt (n + 1) ((show List (Qn n) from t).take i : List (Qn n)) : Nat) : Int)), o2, o3]) ⟨rfl, none, none, rfl⟩ (fun i σ H2 _ h => by rw [h.1]; exact ha) ?_ ?_⟩
    · rintro i x σ H0 H2 hi ⟨rfl, o2, o3, rfl⟩ ⟨e0, e1⟩
      subst e0
      obtain ⟨dx, ex, tx⟩ := ta.getV e1
      obtain ⟨qn, eq, rfl⟩ := map_at ex
      obtain ⟨b, ys, rfl, hb, tb⟩ := id tx.tupE
      have ly : ys.length = qn.length := by rw [tb.len, List.length_map]
      refine ⟨_, rfl, b, rfl, ⟨_, hb⟩, for_it (walk_tup (K := K) (a := b) (xs := ys)) (fun j σ H3 => H3 = H2 ∧ ∃ o3 : Option V, σ = [some (.ref a), some (.int ((cnt (n + 1) ((show List (Qn n) from t).take i : List (Qn n)) + cntQ n (qn.take j) : Nat) : Int)), some (.ref b), o3]) ⟨rfl, _, rfl⟩ (fun j σ H3 _ h => by rw [h.1]; exact hb) ?_ ?_⟩
      · rintro j y σ H0 H3 hj ⟨rfl, o3, rfl⟩ ⟨e0, e2⟩
        subst e0
        obtain ⟨dy, ey, ty⟩ := tb.getV e2
        obtain ⟨an, ea, rfl⟩ := map_at ey
        obtain ⟨p, zs, rfl, hp, tp⟩ := id ty.tupE
        obtain ⟨vt, et, tt⟩ := tp.get (i := 2) rfl
        refine ⟨_, rfl, _, rfl, p, zs, 2, vt, rfl, rfl, hp, at_of (j := 2) rfl et, vt, an.2.2, rfl, tt, _, _, rfl, rfl, _, _, rfl, rfl, ?_⟩
        refine ⟨rfl, some (.ref p), ?_⟩
        rw [cntQ_take n qn j an ea]
        show [some (V.ref a), some (V.int (_ + (1 + ((cnt n an.2.2 : Nat) : Int)))), _, _] = _
        have e9 : (((cnt (n + 1) ((show List (Qn n) from t).take i : List (Qn n)) + cntQ n (qn.take j) : Nat) : Int)) + (1 + ((cnt n an.2.2 : Nat) : Int)) = ((cnt (n + 1) ((show List (Qn n) from t).take i : List (Qn n)) + (cntQ n (qn.take j) + (1 + cnt n an.2.2)) : Nat) : Int) := by omega
        rw [e9]
      · rintro σ H3 ⟨rfl, o3, rfl⟩
        refine ⟨rfl, some (.ref b), o3, ?_⟩
        rw [ly, List.take_length, cnt_take n _ i qn eq]
    · rintro σ H2 ⟨rfl, o2, o3, rfl⟩
      rw [lx, List.take_length]
      exact ⟨_, rfl, q⟩
end
end Tl
namespace Tl
open PySem PySem.Spec PyProof.Rows L2 RZ
theorem max_le {n : Int} : ∀ (l : List Int) (x : Int), 0 ≤ x → x ≤ n → (∀ y ∈ l, 0 ≤ y ∧ y ≤ n) → 0 ≤ l.foldl max x ∧ l.foldl max x ≤ n
  | [], x, h0, h1, _ => ⟨h0, h1⟩
  | y :: r, x, h0, h1, h => by
    obtain ⟨y0, y1⟩ := h y (List.mem_cons_self ..)
    exact max_le r (max x y) (by omega) (by omega) fun z hz => h z (List.mem_cons_of_mem _ hz)
theorem top_le {n : Int} (hn : 0 ≤ n) (l : List Int) (h : ∀ y ∈ l, 0 ≤ y ∧ y ≤ n) : 0 ≤ topOf 0 l ∧ topOf 0 l ≤ n := by
  cases l with
  | nil => exact ⟨Int.le_refl _, hn⟩
  | cons x r =>
    obtain ⟨x0, x1⟩ := h x (List.mem_cons_self ..)
    exact max_le r x x0 x1 fun z hz => h z (List.mem_cons_of_mem _ hz)
theorem cntQ_len (n : Nat) (q : Qn n) : q.length ≤ cntQ n q := by
  rw [cntQ_eq]
  omega
theorem cnt_le_of_mem {n : Nat} {q : Qn n} : ∀ {qs : List (Qn n)}, q ∈ qs → cntQ n q ≤ cnt (n + 1) qs
  | [], h => absurd h List.not_mem_nil
  | x :: r, h => by
    rw [cnt_succ, List.map_cons, List.sum_cons]
    rcases List.mem_cons.mp h with rfl | h
    · omega
    · have := cnt_le_of_mem h
      rw [cnt_succ] at this
      omega
theorem cnt_le_ans {n : Nat} {an : An n} : ∀ {q : Qn n}, an ∈ q → cnt n an.2.2 ≤ cntQ n q
  | [], h => absurd h List.not_mem_nil
  | x :: r, h => by
    unfold cntQ
    rw [List.map_cons, List.sum_cons]
    rcases List.mem_cons.mp h with rfl | h
    · omega
    · have := cnt_le_ans h
      unfold cntQ at this
      omega
theorem cnt_take_le {n : Nat} (qs : List (Qn n)) (i : Nat) : cnt (n + 1) (qs.take i : List (Qn n)) ≤ cnt (n + 1) qs := by
  have e : cnt (n + 1) (qs.take i ++ qs.drop i : List (Qn n)) = cnt (n + 1) (qs.take i : List (Qn n)) + cnt (n + 1) (qs.drop i : List (Qn n)) := by
    rw [cnt_succ, cnt_succ, cnt_succ, List.map_append, List.sum_append]
  rw [List.take_append_drop] at e
  omega
section
variable {P : Program} {w : World} {K : PySem.W.Frag} {mg : Str → Option Value} {base : Heap} {aN aO : Addr} {t1 t2 t3 t4 t5 t6 t7 : Tok}
theorem ok_rounds_in {f : Addr} {fd : FuncData} (D : Dn K mg "rounds_in" s_rounds_in ["node"] f fd) (B : Blt mg) : ∀ n : Nat, FnOk P w K mg base CX0 (1 + n) f fd ["node"] (spRnd K n) := by
  intro n
  obtain ⟨sp0, G_rounds_in, hsp⟩ : ∃ sp0, FnOk P w K mg base CX0 n f fd ["node"] sp0 ∧ (∀ m, n = m + 1 → sp0 = spRnd K m) := by
    cases n with
    | zero => exact ⟨fun _ _ _ _ => False, ⟨fun vs H Q E h => h.elim, fun A outer s H args us vs Q E _ _ _ _ h => h.elim⟩, fun m e => by omega⟩
    | succ m =>
      have G := ok_rounds_in D B m
      rw [show 1 + m = m + 1 by omega] at G
      exact ⟨_, G, fun m' e => by rw [show m' = m by omega]⟩
  rw [show 1 + n = n + 1 by omega]
  refine D.F.ok sc_rounds_in (fun vs H Q E h => ?_) (fun cdv A outer s H vs Q E hr h => ?_)
  · obtain ⟨v, t, rfl, _⟩ := h
    rfl
  obtain ⟨v, t, rfl, hv, hc, q⟩ := h
  have nd := sc_rounds_in.nd
  have D_rounds_in := D
  refine ⟨_, (pss_one (ps_ret (pe_callBK (k_maxDf (K := K) rfl rfl hr.units) (by rfl) B.max (by decide +kernel) (pa_cons (pe_lc2 (own := [("question", 1), ("answer", 2)]) (vs1 := [2]) rfl nd (k_iT (K := K) rfl (pv 0)) (blkOk_by (own := [("question", 1), ("answer", 2)]) (by kernel_rfl)) (by decide) (fun _ _ _ _ _ => (pg_name (i := 1) nd rfl (.inl rfl))) (fun _ _ _ _ _ => pts_nil) (fun _ _ _ _ _ => (k_iT (K := K) rfl (pv 1))) (fun _ _ _ _ _ => (pg_name (i := 2) nd rfl (.inl rfl))) (fun _ _ _ _ _ => pts_nil) (fun _ _ _ _ _ => (pe_op op_add pe_int (pe_call G_rounds_in (hr.mono (by omega)) (by rfl) D_rounds_in.m D_rounds_in.F.kp D_rounds_in.b .nil pass0 (pa_cons (pe_ix (k_ixT (K := K) rfl) (pv 2) pe_int (fun _ _ => rfl)) pa_nil))))) pa_nil) (pk_cons pe_int pk_nil)))), ?_⟩
  obtain ⟨a, xs, ds, rfl, ha, ed, ta, l0⟩ := td_qs hv
  refine ⟨_, rfl, a, rfl, ⟨_, ha⟩, fun T hT => ?_⟩
  refine lc2_it (walk_tup (K := K) (a := a) (xs := xs)) (fun i H2 => ∃ ns : List Int, H2 T = some (.lst (ns.map V.int)) ∧ (∀ y ∈ ns, 0 ≤ y ∧ y ≤ (n : Int)) ∧ (∀ m, n = m + 1 → ∃ qs : List (Qn m), HEq t qs ∧ ns.length ≤ cnt (m + 1) (qs.take i : List (Qn m))) ∧ Same H H2) ⟨[], upd_same, fun y h => absurd h List.not_mem_nil, fun m e => by subst e; exact ⟨t, HEq.rfl, Nat.zero_le _⟩, same_upd hT⟩ (fun i H2 _ h => ?_) ?_ ?_ ?_ ?_ ?_
  · obtain ⟨_, _, _, _, s2⟩ := h
    exact Same.kt s2 _ _ ha
  · rintro i x H0 H2 hi ⟨ns, h2, b2, l2, s2⟩ ⟨rfl, e1⟩
    cases n with
    | zero =>
      have := l0 rfl
      subst this
      exact absurd hi (Nat.not_lt_zero _)
    | succ n =>
      have hsp := hsp n rfl
      subst hsp
      obtain ⟨qs', hq', l2⟩ := l2 n rfl
      obtain ⟨qs0, hq0⟩ : ∃ qs0 : List (Qn n), (qs0 : Nd (n + 1)) = t := ⟨t, rfl⟩
      subst hq0
      cases ed
      have hq2 := eq_of_heq hq'
      subst hq2
      obtain ⟨dx, ex, tx⟩ := ta.getV e1
      obtain ⟨qn, eq0, rfl⟩ := map_at ex
      have eq : qs0[i]? = some qn := eq0
      obtain ⟨b, ys, rfl, hb, tb⟩ := id tx.tupE
      have ly : ys.length = qn.length := by rw [tb.len, List.length_map]
      refine ⟨rfl, ?_⟩
      refine iteT (B := ∃ ns : List Int, H2 T = some (.lst (ns.map V.int)) ∧ (∀ y ∈ ns, 0 ≤ y ∧ y ≤ ((n + 1 : Nat) : Int)) ∧ (∀ m, n + 1 = m + 1 → ∃ qs : List (Qn m), HEq qs0 qs ∧ ns.length ≤ cnt (m + 1) (qs.take (i + 1) : List (Qn m))) ∧ Same H H2) ?_
      refine ⟨_, rfl, b, rfl, ⟨_, Same.kt s2 _ _ hb⟩, ?_⟩
      refine ⟨_, _, _, fun j H3 => ∃ ns : List Int, H3 T = some (.lst (ns.map V.int)) ∧ (∀ y ∈ ns, 0 ≤ y ∧ y ≤ ((n + 1 : Nat) : Int)) ∧ ns.length ≤ cnt (n + 1) (qs0.take i : List (Qn n)) + j ∧ Same H H3, walk_tup (K := K) (a := b) (xs := ys), ⟨ns, h2, b2, l2, s2⟩, fun j H3 _ h => ?_, ?_, ?_⟩
      · obtain ⟨_, _, _, _, s3⟩ := h
        exact Same.kt s3 _ _ hb
      · rintro H3 ⟨ns3, h3, b3, l3, s3⟩
        refine ⟨ns3, h3, b3, fun m e => ?_, s3⟩
        cases e
        refine ⟨qs0, HEq.rfl, ?_⟩
        rw [cnt_take n qs0 i qn eq]
        have := cntQ_len n qn
        omega
      · rintro j y H0 H3 hj ⟨ns3, h3, b3, l3, s3⟩ ⟨rfl, e2⟩
        obtain ⟨dy, ey, ty⟩ := tb.getV e2
        obtain ⟨an, ea, rfl⟩ := map_at ey
        obtain ⟨p, zs, rfl, hp, tp⟩ := id ty.tupE
        obtain ⟨vt, et, tt⟩ := tp.get (i := 2) rfl
        refine ⟨rfl, ?_⟩
        refine iteT (B := ∃ ns : List Int, H3 T = some (.lst (ns.map V.int)) ∧ (∀ y ∈ ns, 0 ≤ y ∧ y ≤ ((n + 1 : Nat) : Int)) ∧ ns.length ≤ cnt (n + 1) (qs0.take i : List (Qn n)) + (j + 1) ∧ Same H H3) ?_
        have hc2 : cnt n an.2.2 ≤ 10000 := Nat.le_trans (Nat.le_trans (cnt_le_ans (List.mem_of_getElem? ea)) (cnt_le_of_mem (List.mem_of_getElem? eq))) hc
        refine ⟨_, rfl, p, zs, 2, vt, rfl, rfl, Same.kt s3 _ _ hp, at_of (j := 2) rfl et, vt, an.2.2, rfl, tt.keep (Same.kt s3), hc2, fun r H4 r0 r1 s4 => ⟨_, _, rfl, rfl, ?_⟩⟩
        refine ⟨_, s4 _ _ h3, ?_, ns3 ++ [1 + r], ?_, ?_, ?_, fun c o z => ?_⟩
        · rw [List.length_map]
          have := cnt_take_le qs0 i
          have hjl : j < 13000 := by
            have e5 := cntQ_len n qn
            have e6 : cntQ n qn ≤ cnt (n + 1) qs0 := cnt_le_of_mem (List.mem_of_getElem? eq)
            rw [ly] at hj
            exact Nat.lt_of_lt_of_le hj (by omega)
          show ns3.length < sizeLine
          rw [sizeLine_eq]
          omega
        · rw [upd_same, List.map_append]
          rfl
        · intro z hz
          rcases List.mem_append.mp hz with h | h
          · exact b3 z h
          · rw [List.mem_singleton.mp h]
            omega
        · rw [List.length_append]
          show ns3.length + 1 ≤ _
          omega
        · rw [upd_ne (ne_of_none z hT)]
          exact s4 _ _ (s3 _ _ z)
  · rintro H2 ⟨ns, h2, b2, l2, s2⟩
    obtain ⟨m0, m1⟩ := top_le (n := (n : Int)) (by omega) ns b2
    exact ⟨T, ns, 0, rfl, rfl, SqL.of h2, q _ H2 m0 m1 s2⟩
  · intro x σ H Q Q' h z
    exact h _ _ z
  · intro σ H Q Q' h z
    exact h _ _ z
  · rintro σ H Q Q' h ⟨x, hx, a', e', z1, z2⟩
    exact ⟨x, hx, a', e', z1, h _ _ z2⟩
end
end Tl
namespace Tl
open PySem PySem.Spec PyProof.Rows L2 RZ
/-- a method as it stands behind the top -/
structure Dm (K : PySem.W.Frag) (x q : Str) (st : Stmt) (ps : List Str) (f : Addr) (fd : FuncData) : Prop where
  F : Fun K x q st f fd
  b : Binds K fd ps []
/-- the class House -/
structure Hcl (K : PySem.W.Frag) (mg : Str → Option Value) (C fi fe : Addr) : Prop where
  cl : Cls K C
  nw : NoAttr K C "worlds"
  nt : NoAttr K C "tree"
  mkH : Mk K C fi
  eq : PySem.W.findIn K (.ref C) "__eq__" = some (some (.ref fe))
  eqf : PySem.W.isFn K (.ref fe) = true
  gHouse : mg "House" = some (.ref C)
  ha : PySem.W.findIn K (.ref C) "__class__" = some (some (.builtin "object.__class__"))
  hn : PySem.W.specialIn K (.builtin "object.__class__") "__get__" = some (some (.builtin "getset_descriptor.__get__"))
  htk : PySem.W.takesIn K (.builtin "object.__class__") = some true
  hm : PySem.W.mroIn K C (.type "object") = some true
def hf (W : Nat) (v : V) : List (Str × V) := putF "tree" v (putF "worlds" (.int (W : Int)) [])
theorem wt : ¬ (("worlds" : Str) = "tree") := by decide +kernel
theorem hf_eq (W : Nat) (v : V) : hf W v = ([("worlds", .int (W : Int)), ("tree", v)] : List (Str × V)) := by
  show (if ("worlds" : Str) = "tree" then [(("worlds" : Str), v)] else (("worlds" : Str), V.int (W : Int)) :: putF "tree" v []) = ([("worlds", V.int (W : Int)), ("tree", v)] : List (Str × V))
  rw [if_neg wt]
  all_goals rfl
theorem hf_w (W : Nat) (v : V) : (hf W v).lookup ("worlds" : Str) = some (.int (W : Int)) := by
  unfold hf
  rw [lookup_putF, if_neg wt, lookup_putF, if_pos rfl]
theorem hf_t (W : Nat) (v : V) : (hf W v).lookup ("tree" : Str) = some v := by
  unfold hf
  rw [lookup_putF, if_pos rfl]
theorem hf_putw (W : Nat) (v : V) (W' : Nat) : putF "worlds" (.int (W' : Int)) (hf W v) = hf W' v := by
  rw [hf_eq, hf_eq]
  show (if ("worlds" : Str) = "worlds" then (("worlds" : Str), V.int (W' : Int)) :: [(("tree" : Str), v)] else _) = _
  rw [if_pos rfl]
theorem hf_putt (W : Nat) (v v' : V) : putF "tree" v' (hf W v) = hf W v' := by
  rw [hf_eq, hf_eq]
  show (if ("worlds" : Str) = "tree" then _ else (("worlds" : Str), V.int (W : Int)) :: (if ("tree" : Str) = "tree" then [(("tree" : Str), v')] else _)) = _
  rw [if_neg wt, if_pos rfl]
/-- a house of W worlds stands at p, its tree is v -/
def HouseAt (C : Addr) (H : Hp) (p : Addr) (W : Nat) (v : V) : Prop := ∃ dx, H p = some (.ins C dx (hf W v))
theorem HouseAt.keep {C p : Addr} {H H' : Hp} {W : Nat} {v : V} (h : HouseAt C H p W v) (s : Same H H') : HouseAt C H' p W v := let ⟨dx, e⟩ := h; ⟨dx, s _ _ e⟩
/-- the tree of a right house -/
structure TreeOk (K : PySem.W.Frag) (H : Hp) (W n : Nat) (v : V) (t : Nd n) : Prop where
  td : Td K H v (ndD n t)
  ok : NdOk W n (ones W) t
  few : cnt n t ≤ 1500
  deep : n ≤ 8
  w1 : 1 ≤ W
  w5 : W ≤ 5
def spCkT (K : PySem.W.Frag) (n : Nat) : Sp := fun vs H Q _ => ∃ (W : Nat) (v : V) (t : Nd n), vs = [.int (W : Int), v] ∧ TreeOk K H W n v t ∧ ∀ H', Same H H' → Q .non H'
def spInit (K : PySem.W.Frag) (C : Addr) (n : Nat) : Sp := fun vs H Q _ => ∃ (p dx : Addr) (W : Nat) (v : V) (t : Nd n), vs = [.ref p, .int (W : Int), v] ∧ H p = some (.ins C dx []) ∧ TreeOk K H W n v t ∧ ∀ H', H' p = some (.ins C dx (hf W v)) → (∀ b o, H b = some o → b ≠ p → H' b = some o) → Q .non H'
def spMade (K : PySem.W.Frag) (C : Addr) (n : Nat) : Sp := fun vs H Q _ => ∃ (W : Nat) (v : V) (t : Nd n), vs = [.int (W : Int), v] ∧ Td K H v (ndD n t) ∧ n ≤ 12 ∧ cnt n t ≤ 3000 ∧ ∀ p H', Same H H' → HouseAt C H' p W v → Q (.ref p) H'
/-- two houses of equal worlds and trees -/
def HEq2 (K : PySem.W.Frag) (C : Addr) : Addr → Addr → Hp → Prop := fun a b H => ∃ (W : Nat) (v v' : V) (d : PyData) (k : Nat), HouseAt C H a W v ∧ HouseAt C H b W v' ∧ Td K H v d ∧ Td K H v' d ∧ Good k d ∧ k ≤ 64
section
variable {P : Program} {w : World} {K : PySem.W.Frag} {mg : Str → Option Value} {base : Heap} {aN aO : Addr} {t1 t2 t3 t4 t5 t6 t7 : Tok}
/-- both judges, by the rounds -/
theorem ok_checks {f1 f2 f3 f4 f5 f6 f7 f8 f9 g1 g2 g3 : Addr} {fd1 fd2 fd3 fd4 fd5 fd6 fd7 fd8 fd9 gd1 gd2 gd3 : FuncData} (B : Blt mg) (C : Cst K mg aN aO t1 t2 t3 t4 t5 t6 t7) (D_check_node : Dn K mg "check_node" s_check_node ["node", "place", "ahead"] f1 fd1) (D_check_question : Dn K mg "check_question" s_check_question ["question", "place", "ahead"] f2 fd2)
    (D_is_answer : Dn K mg "is_answer" s_is_answer ["thing", "worlds"] f3 fd3) (D_is_ascending : Dn K mg "is_ascending" s_is_ascending ["rows"] f4 fd4) (D_total_weights : Dn K mg "total_weights" s_total_weights ["rows", "worlds"] f5 fd5)
    (D_is_number : Dn K mg "is_number" s_is_number ["thing", "least", "most"] f6 fd6) (D_is_integral : Dn K mg "is_integral" s_is_integral ["thing"] f7 fd7) (D_is_word : Dn K mg "is_word" s_is_word ["thing"] f8 fd8) (D_is_fraction : Dn K mg "is_fraction" s_is_fraction ["thing"] f9 fd9) (D_is_chance : Dn K mg "is_chance" s_is_chance ["thing"] g1 gd1)
    (D_reduced : Dn K mg "reduced" s_reduced ["top", "bottom"] g2 gd2) (D_added : DTot K mg g3 gd3) {h1 h2 : Addr} {hd1 hd2 : FuncData} (D_total : Dn K mg "total" s_total ["fractions"] h1 hd1) (D_are_chances : Dn K mg "are_chances" s_are_chances ["thing", "many"] h2 hd2) :
    ∀ n : Nat, FnOk P w K mg base CX0 (5 + 2 * n) f2 fd2 ["question", "place", "ahead"] (spCkQ K n) ∧ FnOk P w K mg base CX0 (6 + 2 * n) f1 fd1 ["node", "place", "ahead"] (spCkN K n)
  | 0 => by
    have h0 : FnOk P w K mg base CX0 (5 + 2 * 0) f2 fd2 ["question", "place", "ahead"] (spCkQ K 0) := ⟨fun vs H Q E h => h.elim, fun A outer s H args us vs Q E _ _ _ _ h => h.elim⟩
    exact ⟨h0, ok_check_node D_check_node B C D_check_question h0⟩
  | n + 1 => by
    have ih := ok_checks B C D_check_node D_check_question D_is_answer D_is_ascending D_total_weights D_is_number D_is_integral D_is_word D_is_fraction D_is_chance D_reduced D_added D_total D_are_chances n
    have h1 : FnOk P w K mg base CX0 (5 + 2 * (n + 1)) f2 fd2 ["question", "place", "ahead"] (spCkQ K (n + 1)) := by
      have := ok_check_question D_check_question B C D_check_node ih.2 D_is_answer (ok_is_answer D_is_answer B C D_is_number D_is_integral D_is_word D_is_fraction D_is_chance D_are_chances) D_is_ascending (ok_is_ascending D_is_ascending B) D_total_weights (ok_total_weights D_total_weights B C D_reduced D_added D_total)
      rw [show 5 + 2 * (n + 1) = 7 + 2 * n by omega]
      exact this
    exact ⟨h1, ok_check_node D_check_node B C D_check_question h1⟩
theorem ok_check_tree {n : Nat} {f f1 f2 : Addr} {fd fd1 fd2 : FuncData} (D : Dn K mg "check_tree" s_check_tree ["worlds", "tree"] f fd) (B : Blt mg) (C : Cst K mg aN aO t1 t2 t3 t4 t5 t6 t7) (D_check_node : Dn K mg "check_node" s_check_node ["node", "place", "ahead"] f1 fd1) (G_check_node : FnOk P w K mg base CX0 (6 + 2 * n) f1 fd1 ["node", "place", "ahead"] (spCkN K n))
    (D_answers_in : Dn K mg "answers_in" s_answers_in ["node"] f2 fd2) : FnOk P w K mg base CX0 (7 + 2 * n) f fd ["worlds", "tree"] (spCkT K n) := by
  have G_answers_in : FnOk P w K mg base CX0 (1 + n) f2 fd2 ["node"] (spCnt K n) := ok_answers_in D_answers_in B n
  rw [show 7 + 2 * n = (6 + 2 * n) + 1 by omega]
  refine D.F.ok sc_check_tree (fun vs H Q E h => ?_) (fun cdv A outer s H vs Q E hr h => ?_)
  · obtain ⟨W, v, t, rfl, _⟩ := h
    rfl
  obtain ⟨W, v, t, rfl, T, q⟩ := h
  have nd := sc_check_tree.nd
  refine ⟨_, (pss_cons (ps_expr (pe_call G_check_node (hr.mono (by omega)) (by rfl) D_check_node.m D_check_node.F.kp D_check_node.b .nil pass0 (pa_cons (pv 1) (pa_cons (pe_tup pa_nil) (pa_cons (pe_op (k_rep (K := K) rfl) (pe_tup (pa_cons (pe_glob (v := .ref _) rfl C.ONE rfl) pa_nil)) (pv 0)) pa_nil)))))
      (pss_one (ps_if (pt_cmpR op_gt (pe_call G_answers_in (hr.mono (by omega)) (by rfl) D_answers_in.m D_answers_in.F.kp D_answers_in.b .nil pass0 (pa_cons (pv 1) pa_nil)) (pe_glob (v := .int _) rfl C.MOST_PASSED ⟨_, rfl⟩) (nomark _)) (pss_one ps_never) pss_nil))), ?_⟩
  have w1 := T.w1
  have w5 := T.w5
  refine ⟨_, rfl, Nat.zero_le _, fun p1 n1 => ⟨(by show 1 ≤ sizeLine; decide), fun p2 n2 => ?_⟩⟩
  have s2 : Same H (upd (upd H p1 (.tup [])) p2 (.tup [.ref aO])) := (same_upd n1).trans (same_upd n2)
  refine ⟨_, rfl, p2, (W : Int), _, rfl, rfl, .inl (.inl upd_same), by simp, by omega, by omega, by simp, fun pa H3 s3 q3 => ?_⟩
  have s03 := s2.trans s3
  have tO : Td K H3 (.ref aO) (rD 1) := by
    rw [rD_one]
    exact .tup (C.tO _) (tdAll_ints [1, 1])
  refine ⟨W, 0, v, .ref pa, p1, [], ones W, t, rfl, T.td.keep (Same.kt s03), ones_td tO q3, Same.kt (((same_upd n2)).trans s3) _ _ (.inl (.inl upd_same)), rfl, by have := T.deep; omega, w1, w5, by unfold ones; rw [List.length_replicate], T.ok, fun H4 s4 => ?_⟩
  have s04 := s03.trans s4
  refine ⟨_, rfl, v, t, rfl, T.td.keep (Same.kt s04), _, _, rfl, rfl, _, rfl, ?_⟩
  have few := T.few
  rw [decide_eq_false (show ¬ (1500 : Int) < ((cnt n t : Nat) : Int) by omega)]
  exact iteF (q H4 s04)
theorem ok_House_init {n : Nat} {Cc f fe f1 f2 f3 : Addr} {fd fd1 fd2 fd3 : FuncData} (D : Dm K "__init__" "House.__init__" s_House_init ["self", "worlds", "tree"] f fd) (B : Blt mg) (C : Cst K mg aN aO t1 t2 t3 t4 t5 t6 t7) (U : Hcl K mg Cc f fe) (D_check_tree : Dn K mg "check_tree" s_check_tree ["worlds", "tree"] f1 fd1) (G_check_tree : FnOk P w K mg base CX0 (7 + 2 * n) f1 fd1 ["worlds", "tree"] (spCkT K n))
    (D_is_number : Dn K mg "is_number" s_is_number ["thing", "least", "most"] f2 fd2) (D_is_integral : Dn K mg "is_integral" s_is_integral ["thing"] f3 fd3) : FnOk P w K mg base CX0 (8 + 2 * n) f fd ["self", "worlds", "tree"] (spInit K Cc n) := by
  have G_is_number : FnOk P w K mg base CX0 2 f2 fd2 ["thing", "least", "most"] spNumber := ok_is_number D_is_number B D_is_integral
  rw [show 8 + 2 * n = (7 + 2 * n) + 1 by omega]
  refine D.F.ok sc_House_init (fun vs H Q E h => ?_) (fun cdv A outer s H vs Q E hr h => ?_)
  · obtain ⟨p, dx, W, v, t, rfl, _⟩ := h
    rfl
  obtain ⟨p, dx, W, v, t, rfl, hp, T, q⟩ := h
  have nd := sc_House_init.nd
  refine ⟨_, (pss_cons (ps_if (pt_not (pt_val (pe_call G_is_number (hr.mono (by omega)) (by rfl) D_is_number.m D_is_number.F.kp D_is_number.b .nil pass0 (pa_cons (pv 1) (pa_cons pe_int (pa_cons pe_int pa_nil)))))) (pss_one ps_never) pss_nil)
      (pss_cons (ps_expr (pe_call G_check_tree (hr.mono (by omega)) (by rfl) D_check_tree.m D_check_tree.F.kp D_check_tree.b .nil pass0 (pa_cons (pv 1) (pa_cons (pv 2) pa_nil))))
      (pss_cons (ps_fld (pv 0) (pv 1) rfl)
      (pss_one (ps_fld (pv 0) (pv 2) rfl))))), ?_⟩
  have w1 := T.w1
  have w5 := T.w5
  refine ⟨_, rfl, _, _, _, rfl, _, rfl, ?_⟩
  rw [decide_eq_true (show (1 : Int) ≤ (W : Int) by omega), decide_eq_true (show (W : Int) ≤ 5 by omega)]
  refine iteF ?_
  refine ⟨_, rfl, _, rfl, W, v, t, rfl, T, fun H1 s1 => ?_⟩
  have h1 := s1 _ _ hp
  refine ⟨_, rfl, _, rfl, p, Cc, dx, [], rfl, h1, U.cl, U.nw, (by show 0 < 1000; decide), ?_⟩
  refine ⟨_, rfl, _, rfl, p, Cc, dx, _, rfl, upd_same, U.cl, U.nt, (by show 1 < 1000; decide), ?_⟩
  exact q _ upd_same fun b o e hb => by
    rw [upd_ne hb, upd_ne hb]
    exact s1 _ _ e
theorem ok_House_eq {Cc fi f : Addr} {fd : FuncData} (D : Dm K "__eq__" "House.__eq__" s_House_eq ["self", "other"] f fd) (B : Blt mg) (U : Hcl K mg Cc fi f) : FnOk P w K mg base CX0 1 f fd ["self", "other"] (spEq (HEq2 K Cc)) := by
  refine D.F.ok sc_House_eq (fun vs H Q E h => ?_) (fun cdv A outer s H vs Q E hr h => ?_)
  · obtain ⟨a, b, rfl, _⟩ := h
    rfl
  obtain ⟨a, b, rfl, ⟨W, v, v', d, k, ⟨dx, h1⟩, ⟨dy, h2⟩, e1, e2, g, hk⟩, q⟩ := h
  have nd := sc_House_eq.nd
  refine ⟨_, (pss_one (ps_ret (pe_and (pe_callB (k_isi (K := K) rfl) (by rfl) B.isinstance (by decide +kernel) (pa_cons (pv 1) (pa_cons (pe_glob (v := .ref _) rfl U.gHouse rfl) pa_nil))) (pe_and (pe_cmpR op_eq (k_fld (K := K) rfl (pv 0) rfl) (k_fld (K := K) rfl (pv 1) rfl) (nomark _)) (pe_one (pe_cmpR (k_eqD (K := K) rfl hr.units) (k_fld (K := K) rfl (pv 0) rfl) (k_fld (K := K) rfl (pv 1) rfl) (nomark _))))))), ?_⟩
  have kk : PySem.W.kitOne K (.ref Cc) (.ref Cc) = some true := by
    unfold PySem.W.kitOne
    rw [if_pos (beq_self_eq_true _)]
  refine ⟨_, rfl, _, .ref Cc, .ref Cc, .ref Cc, true, rfl, .own Cc, .base (.ins h2 U.cl U.ha U.hn U.htk U.hm), kk, _, rfl, iteT ?_⟩
  refine ⟨_, rfl, a, Cc, dx, _, _, rfl, h1, U.cl, U.nw, hf_w _ _, _, rfl, b, Cc, dy, _, _, rfl, h2, U.cl, U.nw, hf_w _ _, rfl, _, rfl, ?_⟩
  rw [decide_eq_true rfl]
  refine iteT ?_
  refine ⟨_, rfl, a, Cc, dx, _, _, rfl, h1, U.cl, U.nt, hf_t _ _, _, rfl, b, Cc, dy, _, _, rfl, h2, U.cl, U.nt, hf_t _ _, d, d, e1.dp, e2.dp, g.shaped hk, g.shaped hk, ?_⟩
  rw [g.refl]
  exact q H Ext.rfl'
end
end Tl
namespace Tl
open PySem PySem.Spec PyProof.Rows L2 RZ
/-! the house without hopeless answers -/
def hope : (n : Nat) → Nd n → Nd n
  | 0, t => t
  | n + 1, qs => (show List (Qn n) from qs).map fun q => (q.filter fun a => !isZ a.2.1).map fun a => (a.1, a.2.1, hope n a.2.2)
def hopeA (n : Nat) (a : An n) : An n := (a.1, a.2.1, hope n a.2.2)
def hopeQ (n : Nat) (q : Qn n) : Qn n := (q.filter fun a => !isZ a.2.1).map (hopeA n)
theorem hope_succ (n : Nat) (qs : List (Qn n)) : hope (n + 1) qs = (qs.map (hopeQ n) : List (Qn n)) := rfl
theorem cntQ_nil (n : Nat) : cntQ n [] = 0 := rfl
theorem cntQ_cons (n : Nat) (a : An n) (q : Qn n) : cntQ n (a :: q) = 1 + cnt n a.2.2 + cntQ n q := rfl
theorem cnt_cons (n : Nat) (q : Qn n) (qs : List (Qn n)) : cnt (n + 1) (q :: qs : List (Qn n)) = cntQ n q + cnt (n + 1) qs := rfl
theorem hopeQ_cons (n : Nat) (a : An n) (q : Qn n) : hopeQ n (a :: q) = if isZ a.2.1 = true then hopeQ n q else hopeA n a :: hopeQ n q := by
  unfold hopeQ
  rw [List.filter_cons]
  cases isZ a.2.1 <;> rfl
theorem cnt_hope : ∀ (n : Nat) (t : Nd n), cnt n (hope n t) ≤ cnt n t
  | 0, _ => Nat.le_refl _
  | n + 1, qs => by
    have hq : ∀ q : Qn n, cntQ n (hopeQ n q) ≤ cntQ n q := by
      intro q
      induction q with
      | nil => exact Nat.le_refl _
      | cons a r ih =>
        rw [hopeQ_cons, cntQ_cons]
        have := cnt_hope n a.2.2
        split
        · omega
        · rw [cntQ_cons]
          show 1 + cnt n (hope n a.2.2) + _ ≤ _
          omega
    have all : ∀ l : List (Qn n), cnt (n + 1) (l.map (hopeQ n) : List (Qn n)) ≤ cnt (n + 1) l := by
      intro l
      induction l with
      | nil => exact Nat.le_refl _
      | cons q r ih =>
        have := hq q
        rw [List.map_cons, cnt_cons, cnt_cons]
        omega
    exact all qs
theorem isZ_false {ws : List Rat} (h : isZ ws = true) {j : Nat} : ws.getD j 0 = 0 := by
  by_cases hj : j < ws.length
  · rw [getD_of (List.getElem?_eq_getElem hj)]
    unfold isZ at h
    exact of_decide_eq_true (List.all_eq_true.mp h _ (List.getElem_mem hj))
  · rw [List.getD_eq_getElem?_getD, List.getElem?_eq_none (by omega)]
    rfl
theorem isZ_of {W : Nat} {ws : List Rat} (hl : ws.length = W) (h : ∀ j, j < W → ws.getD j 0 = 0) : isZ ws = true := by
  unfold isZ
  refine List.all_eq_true.mpr fun x hx => ?_
  obtain ⟨j, hj, rfl⟩ := List.getElem_of_mem hx
  have := h j (by omega)
  rw [getD_of (List.getElem?_eq_getElem hj)] at this
  exact decide_eq_true this
theorem fsum_zero : ∀ l : List Rat, (∀ x ∈ l, x = 0) → fsum l = 0
  | [], _ => rfl
  | x :: r, h => by
    rw [fsum_cons, h x (List.mem_cons_self ..), fsum_zero r fun y hy => h y (List.mem_cons_of_mem _ hy), Rat.zero_add]
theorem col_cons {n : Nat} (a : An n) (q : Qn n) (j : Nat) : col (a :: q) j = a.2.1.getD j 0 :: col q j := rfl
theorem hope_sub {n : Nat} (j : Nat) (q : Qn n) : ∀ r ∈ col (hopeQ n q) j, r ∈ col q j := by
  intro r hr
  unfold col hopeQ at hr
  rw [List.map_map] at hr
  obtain ⟨a, ha, rfl⟩ := List.mem_map.mp hr
  exact List.mem_map.mpr ⟨a, (List.mem_filter.mp ha).1, rfl⟩
theorem hope_whole {n : Nat} (j : Nat) : ∀ q : Qn n, fsum (col (hopeQ n q) j) = fsum (col q j)
  | [] => rfl
  | a :: q => by
    rw [hopeQ_cons]
    by_cases h : isZ a.2.1 = true
    · rw [if_pos h, hope_whole j q, col_cons, fsum_cons, isZ_false h, Rat.zero_add]
    · rw [if_neg h, col_cons, col_cons, fsum_cons, fsum_cons, hope_whole j q]
      rfl
theorem lex_trans : ∀ {a b c : List Int}, HT.lexLt a b = true → HT.lexLt b c = true → HT.lexLt a c = true
  | [], [], _, h, _ => by cases h
  | [], _ :: _, [], _, h => by cases h
  | [], _ :: _, _ :: _, _, _ => rfl
  | _ :: _, [], _, h, _ => by cases h
  | _ :: _, _ :: _, [], _, h => by cases h
  | x :: xs, y :: ys, z :: zs, h1, h2 => by
    unfold HT.lexLt at h1 h2 ⊢
    by_cases e1 : x = y
    · subst e1
      rw [if_pos rfl] at h1
      by_cases e2 : x = z
      · subst e2
        rw [if_pos rfl] at h2 ⊢
        exact lex_trans h1 h2
      · rw [if_neg e2] at h2 ⊢
        exact h2
    · rw [if_neg e1] at h1
      have l1 := of_decide_eq_true h1
      by_cases e2 : y = z
      · subst e2
        rw [if_neg (by omega)]
        exact h1
      · rw [if_neg e2] at h2
        have l2 := of_decide_eq_true h2
        rw [if_neg (by omega)]
        exact decide_eq_true (by omega)
def AscP {n : Nat} (q : Qn n) : Prop := q.Pairwise fun x y => HT.lexLt x.1 y.1 = true
theorem asc_pair {n : Nat} : ∀ {q : Qn n}, (∀ i (x y : An n), q[i]? = some x → q[i + 1]? = some y → HT.lexLt x.1 y.1 = true) → AscP q
  | [], _ => List.Pairwise.nil
  | [a], _ => List.pairwise_singleton _ _
  | a :: b :: r, h => by
    have ih : AscP (b :: r) := asc_pair fun i x y hx hy => h (i + 1) x y hx hy
    have ab := h 0 a b rfl rfl
    refine List.Pairwise.cons (fun z hz => ?_) ih
    rcases List.mem_cons.mp hz with rfl | hz
    · exact ab
    · exact lex_trans ab (List.rel_of_pairwise_cons ih hz)
theorem pair_asc {n : Nat} {q : Qn n} (h : AscP q) (i : Nat) (x y : An n) (hx : q[i]? = some x) (hy : q[i + 1]? = some y) : HT.lexLt x.1 y.1 = true := by
  have h1 := (List.getElem?_eq_some_iff.mp hx)
  have h2 := (List.getElem?_eq_some_iff.mp hy)
  obtain ⟨l1, e1⟩ := h1
  obtain ⟨l2, e2⟩ := h2
  have := (List.pairwise_iff_getElem.mp h) i (i + 1) l1 l2 (by omega)
  rw [e1, e2] at this
  exact this
theorem hope_asc {n : Nat} {q : Qn n} (h : AscP q) : AscP (hopeQ n q) := by
  unfold AscP hopeQ
  rw [List.pairwise_map]
  exact List.Pairwise.filter _ h
theorem hope_ok : ∀ {W n : Nat} {ahead : List Rat} {t : Nd n}, ahead.length = W → isZ ahead = false → NdOk W n ahead t → NdOk W n ahead (hope n t)
  | _, 0, _, _, _, _, _ => trivial
  | W, n + 1, ahead, qs, hl, hz, h => by
    refine ⟨?_, ?_⟩
    · show (List.map _ _).length ≤ 5
      rw [List.length_map]
      exact h.1
    · intro q' hq'
      obtain ⟨q, hq, rfl⟩ := List.mem_map.mp hq'
      obtain ⟨ok, nok⟩ := h.2 q hq
      have mem : ∀ a' ∈ hopeQ n q, ∃ a ∈ q, isZ a.2.1 = false ∧ a' = hopeA n a := by
        intro a' ha'
        unfold hopeQ at ha'
        obtain ⟨a, ha, rfl⟩ := List.mem_map.mp ha'
        obtain ⟨h1, h2⟩ := List.mem_filter.mp ha
        exact ⟨a, h1, by simpa using h2, rfl⟩
      refine ⟨⟨?_, ?_, ?_, ?_, ?_, ?_, ?_⟩, ?_⟩
      · show 1 ≤ (hopeQ n q).length
        cases e : hopeQ n q with
        | cons a r => simp
        | nil =>
          have : isZ ahead = true := isZ_of hl fun j hj => by
            rw [← ok.whole j hj, ← hope_whole j q, e]
            rfl
          rw [hz] at this
          cases this
      · show (hopeQ n q).length ≤ 12
        unfold hopeQ
        rw [List.length_map]
        exact Nat.le_trans (List.length_filter_le _ _) ok.most
      · intro a' ha'
        obtain ⟨a, h1, h2, rfl⟩ := mem a' ha'
        exact ok.words a h1
      · exact fun i x y => pair_asc (hope_asc (asc_pair ok.asc)) i x y
      · intro a' ha'
        obtain ⟨a, h1, h2, rfl⟩ := mem a' ha'
        exact ok.wide a h1
      · intro a' ha'
        obtain ⟨a, h1, h2, rfl⟩ := mem a' ha'
        exact ok.chs a h1
      · intro j hj
        show fsum (col (hopeQ n q) j) = _
        rw [hope_whole]
        exact ok.whole j hj
      · intro a' ha'
        obtain ⟨a, h1, h2, rfl⟩ := mem a' ha'
        exact hope_ok (ok.wide a h1) h2 (nok a h1)
theorem ones_not {W : Nat} (h : 1 ≤ W) : isZ (ones W) = false := by
  cases W with
  | zero => omega
  | succ W =>
    unfold isZ ones
    rw [List.replicate_succ, List.all_cons]
    rfl
/-- without hopeless answers once more -/
theorem hope_hope : ∀ (n : Nat) (t : Nd n), hope n (hope n t) = hope n t
  | 0, _ => rfl
  | n + 1, qs => by
    have hq : ∀ q : Qn n, hopeQ n (hopeQ n q) = hopeQ n q := by
      intro q
      induction q with
      | nil => rfl
      | cons a r ih =>
        rw [hopeQ_cons]
        by_cases h : isZ a.2.1 = true
        · rw [if_pos h, ih]
        · rw [if_neg h, hopeQ_cons]
          have h2 : ¬ isZ (hopeA n a).2.1 = true := h
          rw [if_neg h2, ih]
          have e : hopeA n (hopeA n a) = hopeA n a := by
            unfold hopeA
            rw [hope_hope n a.2.2]
          rw [e]
    have all : ∀ l : List (Qn n), (l.map (hopeQ n)).map (hopeQ n) = l.map (hopeQ n) := by
      intro l
      rw [List.map_map]
      exact List.map_congr_left fun q _ => hq q
    exact all qs
end Tl
namespace Tl
open PySem PySem.Spec PyProof.Rows L2 RZ
def spHope (K : PySem.W.Frag) (n : Nat) : Sp := fun vs H Q _ => ∃ (W : Nat) (v : V) (ahead : List Rat) (t : Nd n), vs = [v] ∧ Td K H v (ndD n t) ∧ NdOk W n ahead t ∧ W ≤ 5 ∧ ∀ v' H', Same H H' → Td K H' v' (ndD n (hope n t)) → Q v' H'
theorem hopeQ_snoc {n : Nat} (q : Qn n) (i : Nat) (an : An n) (h : q[i]? = some an) : hopeQ n (q.take (i + 1)) = hopeQ n (q.take i) ++ (if isZ an.2.1 = true then [] else [hopeA n an]) := by
  unfold hopeQ
  rw [List.take_add_one, h, List.filter_append, List.map_append]
  congr 1
  show List.map (hopeA n) (List.filter _ [an]) = _
  rw [List.filter_cons]
  cases isZ an.2.1 <;> rfl
theorem hopeQ_len {n : Nat} (q : Qn n) : (hopeQ n q).length ≤ q.length := by
  unfold hopeQ
  rw [List.length_map]
  exact List.length_filter_le _ _
/-- an answer at its place -/
theorem td_an {K : PySem.W.Frag} {H : Hp} {n : Nat} {an : An n} {v : V} (h : Td K H v (anD n an)) : ∃ p vw vs vt, v = .ref p ∧ SqT K H p [vw, vs, vt] ∧ Td K H vw (wdD an.1) ∧ Td K H vs (wsD an.2.1) ∧ Td K H vt (ndD n an.2.2) := by
  obtain ⟨p, ys, rfl, hp, tp⟩ := id h.tupE
  cases tp with
  | cons h1 tp => cases tp with
    | cons h2 tp => cases tp with
      | cons h3 tp =>
        cases tp
        exact ⟨p, _, _, _, rfl, hp, h1, h2, h3⟩
section
variable {P : Program} {w : World} {K : PySem.W.Frag} {mg : Str → Option Value} {base : Heap} {aN aO : Addr} {t1 t2 t3 t4 t5 t6 t7 : Tok}
end
end Tl
namespace Tl
open PySem PySem.Spec PyProof.Rows L2 RZ
/-- how many questions -/
def nq : (n : Nat) → Nd n → Nat
  | 0, _ => 0
  | n + 1, qs => (show List (Qn n) from qs).length
/-- answers told by their numbers and by what is behind -/
def cntd : (n : Nat) → Nd n → Nd n
  | 0, t => t
  | n + 1, qs => (show List (Qn n) from qs).map fun q => q.mapIdx fun i a => ([(i : Int), (nq n a.2.2 : Int)], a.2.1, cntd n a.2.2)
def cntdA (n : Nat) (i : Nat) (a : An n) : An n := ([(i : Int), (nq n a.2.2 : Int)], a.2.1, cntd n a.2.2)
def cntdQ (n : Nat) (q : Qn n) : Qn n := q.mapIdx (cntdA n)
theorem cntdQ_snoc {n : Nat} (q : Qn n) (i : Nat) (an : An n) (h : q[i]? = some an) : cntdQ n (q.take (i + 1)) = cntdQ n (q.take i) ++ [cntdA n i an] := by
  unfold cntdQ
  have hi := (List.getElem?_eq_some_iff.mp h).1
  rw [List.take_add_one, h]
  show List.mapIdx _ (_ ++ [an]) = _
  rw [List.mapIdx_concat, List.length_take, Nat.min_eq_left (Nat.le_of_lt hi)]
theorem cnt_cntd : ∀ (n : Nat) (t : Nd n), cnt n (cntd n t) = cnt n t
  | 0, _ => rfl
  | n + 1, qs => by
    have hq : ∀ q : Qn n, cntQ n (cntdQ n q) = cntQ n q := by
      intro q
      unfold cntQ cntdQ
      congr 1
      refine List.ext_getElem? fun i => ?_
      rw [List.getElem?_map, List.getElem?_map, List.getElem?_mapIdx]
      cases q[i]? with
      | none => rfl
      | some a =>
        show some (1 + cnt n (cntd n a.2.2)) = some (1 + cnt n a.2.2)
        rw [cnt_cntd n]
    have all : ∀ l : List (Qn n), cnt (n + 1) (l.map (cntdQ n) : List (Qn n)) = cnt (n + 1) l := by
      intro l
      induction l with
      | nil => rfl
      | cons q r ih =>
        have := hq q
        rw [List.map_cons, cnt_cons, cnt_cons]
        omega
    exact all qs
theorem nq_td {K : PySem.W.Frag} {H : Hp} {n : Nat} {t : Nd n} {v : V} (h : Td K H v (ndD n t)) : ∃ (a : Addr) (xs : List V), v = .ref a ∧ SqT K H a xs ∧ xs.length = nq n t := by
  obtain ⟨a, xs, ds, rfl, ha, ed, ta, l0⟩ := td_qs h
  refine ⟨a, xs, rfl, ha, ?_⟩
  cases n with
  | zero => rw [l0 rfl]; rfl
  | succ n =>
    cases ed
    rw [ta.len, List.length_map]
    rfl
def spCntd (K : PySem.W.Frag) (n : Nat) : Sp := fun vs H Q _ => ∃ (W : Nat) (v : V) (ahead : List Rat) (t : Nd n), vs = [v] ∧ Td K H v (ndD n t) ∧ NdOk W n ahead t ∧ ∀ v' H', Same H H' → Td K H' v' (ndD n (cntd n t)) → Q v' H'
section
variable {P : Program} {w : World} {K : PySem.W.Frag} {mg : Str → Option Value} {base : Heap} {aN aO : Addr} {t1 t2 t3 t4 t5 t6 t7 : Tok}
end
end Tl
namespace Tl
open PySem PySem.Spec PyProof.Rows L2 RZ
section
variable {P : Program} {w : World} {K : PySem.W.Frag} {mg : Str → Option Value} {base : Heap} {aN aO : Addr} {t1 t2 t3 t4 t5 t6 t7 : Tok}
theorem ok_made_house {n : Nat} {Cc fi fe f f1 f2 : Addr} {fd fd1 fd2 fdi : FuncData} (D : Dn K mg "made_house" s_made_house ["worlds", "tree"] f fd) (B : Blt mg) (C : Cst K mg aN aO t1 t2 t3 t4 t5 t6 t7) (U : Hcl K mg Cc fi fe) (D_rounds_in : Dn K mg "rounds_in" s_rounds_in ["node"] f1 fd1) (D_answers_in : Dn K mg "answers_in" s_answers_in ["node"] f2 fd2)
    (D_House_init : Dm K "__init__" "House.__init__" s_House_init ["self", "worlds", "tree"] fi fdi) (G_House_init : FnOk P w K mg base CX0 8 fi fdi ["self", "worlds", "tree"] (spInit K Cc 0)) : FnOk P w K mg base CX0 (12 + n) f fd ["worlds", "tree"] (spMade K Cc n) := by
  have G_rounds_in : FnOk P w K mg base CX0 (1 + n) f1 fd1 ["node"] (spRnd K n) := ok_rounds_in D_rounds_in B n
  have G_answers_in : FnOk P w K mg base CX0 (1 + n) f2 fd2 ["node"] (spCnt K n) := ok_answers_in D_answers_in B n
  rw [show 12 + n = (11 + n) + 1 by omega]
  refine D.F.ok sc_made_house (fun vs H Q E h => ?_) (fun cdv A outer s H vs Q E hr h => ?_)
  · obtain ⟨W, v, t, rfl, _⟩ := h
    rfl
  obtain ⟨W, v, t, rfl, hv, hn, hc, q⟩ := h
  have nd := sc_made_house.nd
  refine ⟨_, (pss_cons (ps_if (PW.pt (pw_or (pt_cmpR op_gt (pe_call G_rounds_in (hr.mono (by omega)) (by rfl) D_rounds_in.m D_rounds_in.F.kp D_rounds_in.b .nil pass0 (pa_cons (pv 1) pa_nil)) (pe_glob (v := .int _) rfl C.MOST_ROUNDS ⟨_, rfl⟩) (nomark _)) (pw_or1 (pt_cmpR op_gt (pe_call G_answers_in (hr.mono (by omega)) (by rfl) D_answers_in.m D_answers_in.F.kp D_answers_in.b .nil pass0 (pa_cons (pv 1) pa_nil)) (pe_glob (v := .int _) rfl C.MOST_ANSWERS ⟨_, rfl⟩) (nomark _))))) (pss_one ps_never) pss_nil)
      (pss_cons (ps_set (i := 2) nd rfl (.inl rfl) (pe_make U.mkH G_House_init (hr.mono (by omega)) (by rfl) U.gHouse D_House_init.b .nil pass0 (pa_cons pe_int (pa_cons (pe_tup pa_nil) pa_nil))))
      (pss_cons (ps_fld (pv 2) (pv 0) rfl)
      (pss_cons (ps_fld (pv 2) (pv 1) rfl)
      (pss_one (ps_ret (pv 2))))))), ?_⟩
  refine ⟨_, rfl, v, t, rfl, hv, by omega, fun r H1 r0 r1 s1 => ?_⟩
  refine ⟨_, _, rfl, rfl, _, rfl, ?_⟩
  rw [decide_eq_false (show ¬ (12 : Int) < r by omega)]
  refine iteF ?_
  refine ⟨_, rfl, v, t, rfl, hv.keep (Same.kt s1), _, _, rfl, rfl, _, rfl, ?_⟩
  rw [decide_eq_false (show ¬ (3000 : Int) < ((cnt n t : Nat) : Int) by omega)]
  refine iteF ?_
  refine ⟨by show 0 ≤ sizeLine; decide, fun p1 n1 => ?_⟩
  have s2 := s1.trans (same_upd (o := .tup []) n1)
  refine fun x dx nx ndx ne => ?_
  have nz : ∀ {b : Addr} {o : HO}, upd H1 p1 (.tup []) b = some o → b ≠ x ∧ b ≠ dx := fun e => ⟨ne_of_none e nx, ne_of_none e ndx⟩
  have s3 : Same (upd H1 p1 (.tup [])) (upd (upd (upd H1 p1 (.tup [])) dx (.own x)) x (.ins Cc dx [])) := fun b o e => by
    rw [upd_ne (nz e).1, upd_ne (nz e).2]
    exact e
  refine ⟨x, dx, 1, .ref p1, (), rfl, upd_same, ⟨.tup (Same.kt s3 _ _ (.inl (.inl upd_same))) .nil, trivial, Nat.zero_le _, by omega, by omega, by omega⟩, fun H3 h3 k3 => ⟨rfl, ?_⟩⟩
  refine ⟨_, rfl, _, rfl, x, Cc, dx, _, rfl, h3, U.cl, U.nw, (by rw [hf_eq]; show 2 < 1000; decide), ?_⟩
  refine ⟨_, rfl, _, rfl, x, Cc, dx, _, rfl, upd_same, U.cl, U.nt, (by rw [hf_putw, hf_eq]; show 2 < 1000; decide), ?_⟩
  refine ⟨_, rfl, q x _ (fun b o e => ?_) ⟨dx, by rw [upd_same, hf_putw, hf_putt]⟩⟩
  have e2 := s2 _ _ e
  have nx2 := (nz e2).1
  rw [upd_ne nx2, upd_ne nx2]
  exact k3 _ _ (s3 _ _ e2) nx2
/-- a house and its tree -/
structure HsOk (K : PySem.W.Frag) (C : Addr) (H : Hp) (p : Addr) (W n : Nat) (t : Nd n) (v : V) : Prop where
  at_ : HouseAt C H p W v
  td : Td K H v (ndD n t)
  ok : NdOk W n (ones W) t
  few : cnt n t ≤ 1500
  deep : n ≤ 8
  w1 : 1 ≤ W
  w5 : W ≤ 5
theorem HsOk.tree {C p : Addr} {H : Hp} {W n : Nat} {t : Nd n} {v : V} (h : HsOk K C H p W n t v) : TreeOk K H W n v t := ⟨h.td, h.ok, h.few, h.deep, h.w1, h.w5⟩
theorem HsOk.keep {C p : Addr} {H H' : Hp} {W n : Nat} {t : Nd n} {v : V} (h : HsOk K C H p W n t v) (s : Same H H') : HsOk K C H' p W n t v := ⟨h.at_.keep s, h.td.keep (Same.kt s), h.ok, h.few, h.deep, h.w1, h.w5⟩
def spHopeful (K : PySem.W.Frag) (C : Addr) (n : Nat) : Sp := fun vs H Q _ => ∃ (p : Addr) (W : Nat) (t : Nd n) (v : V), vs = [.ref p] ∧ HsOk K C H p W n t v ∧ ∀ p' v' H', Same H H' → HsOk K C H' p' W n (hope n t) v' → Q (.ref p') H'
/-- the one answer with which a house begins -/
def beg (W n : Nat) (t : Nd n) : Nd (n + 1) := ([[([(nq n t : Int)], ones W, cntd n t)]] : List (Qn n))
theorem cnt_beg (W n : Nat) (t : Nd n) : cnt (n + 1) (beg W n t) = 1 + cnt n t := by
  show 1 + cnt n (cntd n t) + 0 + 0 = _
  rw [cnt_cntd]
  rfl
def spBegun (K : PySem.W.Frag) (C : Addr) (n : Nat) : Sp := fun vs H Q _ => ∃ (p : Addr) (W : Nat) (t : Nd n) (v : V), vs = [.ref p] ∧ HsOk K C H p W n t v ∧ ∀ p' v' H', Same H H' → HouseAt C H' p' W v' → Td K H' v' (ndD (n + 1) (beg W n t)) → Q (.ref p') H'
end
end Tl
namespace Tl
open PySem PySem.Spec PyProof.Rows L2 RZ
section
variable {P : Program} {w : World} {K : PySem.W.Frag} {mg : Str → Option Value} {base : Heap} {aN aO : Addr} {t1 t2 t3 t4 t5 t6 t7 : Tok}
end
end Tl
namespace Tl
open PySem PySem.Spec PyProof.Rows L2 RZ
def fq {n : Nat} (q : Qn n) : Qn n := q.filter fun a => !isZ a.2.1
theorem fq_snoc {n : Nat} (q : Qn n) (i : Nat) (an : An n) (h : q[i]? = some an) : fq (q.take (i + 1)) = fq (q.take i) ++ (if isZ an.2.1 = true then [] else [an]) := by
  unfold fq
  rw [List.take_add_one, h, List.filter_append]
  congr 1
  show List.filter _ [an] = _
  rw [List.filter_cons]
  cases isZ an.2.1 <;> rfl
theorem fq_len {n : Nat} (q : Qn n) : (fq q).length ≤ q.length := List.length_filter_le _ _
theorem hopeQ_fq {n : Nat} (q : Qn n) : hopeQ n q = (fq q).map (hopeA n) := rfl
theorem any_pos : ∀ ws : List Rat, (∀ r ∈ ws, 0 ≤ r) → (ws.map fun r => decide (0 < r.num)).any id = !isZ ws
  | [], _ => rfl
  | r :: l, h => by
    have ih := any_pos l fun x hx => h x (List.mem_cons_of_mem _ hx)
    have h0 := Rat.num_nonneg.mpr (h r (List.mem_cons_self ..))
    show (decide (0 < r.num) || ((l.map fun r => decide (0 < r.num)).any id)) = !(decide (r = 0) && isZ l)
    rw [ih]
    by_cases e : r = 0
    · subst e
      rw [decide_eq_false (show ¬ 0 < (0 : Rat).num by decide), decide_eq_true rfl]
      rfl
    · have hn : r.num ≠ 0 := fun z => e (Rat.num_eq_zero.mp z)
      rw [decide_eq_true (show 0 < r.num by omega), decide_eq_false e]
      rfl
section
variable {P : Program} {w : World} {K : PySem.W.Frag} {mg : Str → Option Value} {base : Heap} {aN aO : Addr} {t1 t2 t3 t4 t5 t6 t7 : Tok}
end
end Tl
namespace Tl
open PySem PySem.Spec PyProof.Rows L2 RZ
def key {n : Nat} (a : An n) : List Int × List Rat := (a.1, a.2.1)
theorem key_at {n m : Nat} {q : Qn n} {q' : Qn m} (e : q'.map key = q.map key) {i : Nat} {x : An m} (h : q'[i]? = some x) : ∃ y : An n, q[i]? = some y ∧ y.1 = x.1 ∧ y.2.1 = x.2.1 := by
  have h1 : (q'.map key)[i]? = some (key x) := by rw [List.getElem?_map, h]; rfl
  rw [e] at h1
  obtain ⟨y, ey, ky⟩ := map_at h1
  have k1 : x.1 = y.1 := congrArg Prod.fst ky
  have k2 : x.2.1 = y.2.1 := congrArg Prod.snd ky
  exact ⟨y, ey, k1.symm, k2.symm⟩
theorem key_col {n m : Nat} {q : Qn n} {q' : Qn m} (e : q'.map key = q.map key) (j : Nat) : col q' j = col q j := by
  have f : ∀ {k : Nat} (r : Qn k), col r j = (r.map key).map fun z => z.2.getD j 0 := fun r => by
    rw [List.map_map]
    rfl
  rw [f q', f q, e]
theorem qnOk_key {W n m : Nat} {ahead : List Rat} {q : Qn n} {q' : Qn m} (e : q'.map key = q.map key) (h : QnOk W ahead q) : QnOk W ahead q' := by
  have hl : q'.length = q.length := by
    have := congrArg List.length e
    rw [List.length_map, List.length_map] at this
    exact this
  have mem : ∀ a ∈ q', ∃ y ∈ q, y.1 = a.1 ∧ y.2.1 = a.2.1 := fun a ha => by
    obtain ⟨i, hi, rfl⟩ := List.getElem_of_mem ha
    obtain ⟨y, ey, k⟩ := key_at e (List.getElem?_eq_getElem hi)
    exact ⟨y, List.mem_of_getElem? ey, k⟩
  refine ⟨by have := h.one; omega, by have := h.most; omega, fun a ha => ?_, fun i x y hx hy => ?_, fun a ha => ?_, fun a ha => ?_, fun j hj => ?_⟩
  · obtain ⟨y, hy, k1, k2⟩ := mem a ha
    rw [← k1]
    exact h.words y hy
  · obtain ⟨x', ex, k1, _⟩ := key_at e hx
    obtain ⟨y', ey, k2, _⟩ := key_at e hy
    rw [← k1, ← k2]
    exact h.asc i x' y' ex ey
  · obtain ⟨y, hy, k1, k2⟩ := mem a ha
    rw [← k2]
    exact h.wide y hy
  · obtain ⟨y, hy, k1, k2⟩ := mem a ha
    rw [← k2]
    exact h.chs y hy
  · rw [key_col e]
    exact h.whole j hj
def zer (W : Nat) : List Rat := List.replicate W 0
theorem zer_at (W j : Nat) : (zer W).getD j 0 = 0 := by
  unfold zer
  by_cases h : j < W
  · exact getD_of (by rw [List.getElem?_replicate, if_pos h])
  · rw [List.getD_eq_getElem?_getD, List.getElem?_eq_none (by rw [List.length_replicate]; omega)]
    rfl
/-- a hopeless answer more at the end -/
theorem qnOk_more {W n : Nat} {ahead : List Rat} {q : Qn n} (h : QnOk W ahead q) (l : q.length ≤ 11) {wd : List Int} (hw : WordOk wd) {nd : Nd n} {x : An n} (hx : q[q.length - 1]? = some x) (hlt : HT.lexLt x.1 wd = true) : QnOk W ahead (q ++ [(wd, zer W, nd)]) := by
  have c : ∀ j, col (q ++ [((wd, zer W, nd) : An n)]) j = col q j ++ [0] := fun j => by
    unfold col
    rw [List.map_append]
    show _ ++ [(zer W).getD j 0] = _
    rw [zer_at]
  have o1 := h.one
  refine ⟨by rw [List.length_append]; omega, by rw [List.length_append]; show q.length + 1 ≤ 12; omega, fun a ha => ?_, fun i x' y' h1 h2 => ?_, fun a ha => ?_, fun a ha => ?_, fun j hj => ?_⟩
  · rcases List.mem_append.mp ha with z | z
    · exact h.words a z
    · rw [List.mem_singleton.mp z]
      exact hw
  · by_cases hi : i + 1 < q.length
    · rw [List.getElem?_append_left hi] at h2
      rw [List.getElem?_append_left (by omega)] at h1
      exact h.asc i x' y' h1 h2
    · have hb := (List.getElem?_eq_some_iff.mp h2).1
      rw [List.length_append] at hb
      have hb2 : i + 1 < q.length + 1 := hb
      have ei : i + 1 = q.length := by omega
      rw [ei, List.getElem?_append_right (Nat.le_refl _), Nat.sub_self] at h2
      rw [List.getElem?_append_left (by omega), show i = q.length - 1 by omega, hx] at h1
      cases h1
      cases h2
      exact hlt
  · rcases List.mem_append.mp ha with z | z
    · exact h.wide a z
    · rw [List.mem_singleton.mp z]
      show (zer W).length = W
      unfold zer
      rw [List.length_replicate]
  · rcases List.mem_append.mp ha with z | z
    · exact h.chs a z
    · rw [List.mem_singleton.mp z]
      intro r hr
      have : r = 0 := (List.mem_replicate.mp hr).2
      rw [this]
      exact ch_zero
  · rw [c, fsum_snoc, Rat.add_zero]
    exact h.whole j hj
/-- a node of one round where more may be -/
def upA (m : Nat) (a : An 0) : An m := (a.1, a.2.1, emptyNd m)
def upN (m : Nat) (qs : List (Qn 0)) : Nd (m + 1) := (qs.map fun q => q.map (upA m) : List (Qn m))
theorem upN_D (m : Nat) (qs : List (Qn 0)) : ndD (m + 1) (upN m qs) = ndD 1 (show Nd 1 from qs) := by
  show PyData.tuple _ = PyData.tuple _
  refine congrArg PyData.tuple ?_
  unfold upN
  show List.map _ (List.map _ qs) = _
  rw [List.map_map]
  refine List.map_congr_left fun q _ => ?_
  show PyData.tuple (List.map _ (List.map _ q)) = PyData.tuple _
  rw [List.map_map]
  refine congrArg PyData.tuple (List.map_congr_left fun a _ => ?_)
  show PyData.tuple [wdD a.1, wsD a.2.1, ndD m (emptyNd m)] = PyData.tuple [wdD a.1, wsD a.2.1, ndD 0 a.2.2]
  rw [ndD_empty]
  rfl
theorem upN_cnt (m : Nat) (qs : List (Qn 0)) : cnt (m + 1) (upN m qs) = cnt 1 (show Nd 1 from qs) := by
  show List.sum _ = List.sum _
  congr 1
  unfold upN
  show List.map _ (List.map _ qs) = _
  rw [List.map_map]
  refine List.map_congr_left fun q _ => ?_
  show List.sum (List.map _ (List.map _ q)) = List.sum _
  rw [List.map_map]
  congr 1
  refine List.map_congr_left fun a _ => ?_
  show 1 + cnt m (emptyNd m) = 1 + 0
  rw [cnt_empty]
theorem upN_ok {W m : Nat} {ws : List Rat} {qs : List (Qn 0)} (h : NdOk W 1 ws (show Nd 1 from qs)) : NdOk W (m + 1) ws (upN m qs) := by
  refine ⟨by show (List.map _ qs).length ≤ 5; rw [List.length_map]; exact h.1, fun q' hq' => ?_⟩
  obtain ⟨q, hq, rfl⟩ := List.mem_map.mp hq'
  refine ⟨qnOk_key (by rw [List.map_map]; rfl) (h.2 q hq).1, fun a' ha' => ?_⟩
  obtain ⟨a, ha, rfl⟩ := List.mem_map.mp ha'
  exact ndOk_empty _ _ _
theorem sharp_key {n m : Nat} {q : Qn n} {q' : Qn m} (e : q'.map key = q.map key) (h : Sharp q) : Sharp q' := fun a ha => by
  obtain ⟨i, hi, rfl⟩ := List.getElem_of_mem ha
  obtain ⟨y, ey, k1, k2⟩ := key_at e (List.getElem?_eq_getElem hi)
  rw [← k2]
  exact h y (List.mem_of_getElem? ey)
theorem sharp_more {n W : Nat} {q : Qn n} (h : Sharp q) {wd : List Int} {nd : Nd n} : Sharp (q ++ [(wd, zer W, nd)]) := fun a ha r hr => by
  rcases List.mem_append.mp ha with z | z
  · exact h a z r hr
  · rw [List.mem_singleton.mp z] at hr
    have : r = 0 := (List.mem_replicate.mp hr).2
    rw [this]
    exact ch_zero
theorem upN_g {W m : Nat} {ws : List Rat} {qs : List (Qn 0)} (h : NdG W 1 ws (show Nd 1 from qs)) : NdG W (m + 1) ws (upN m qs) := by
  refine ⟨by show (List.map _ qs).length ≤ 5; rw [List.length_map]; exact h.1, fun q' hq' => ?_⟩
  obtain ⟨q, hq, rfl⟩ := List.mem_map.mp hq'
  refine ⟨⟨qnOk_key (by rw [List.map_map]; rfl) (h.2 q hq).1.1, sharp_key (by rw [List.map_map]; rfl) (h.2 q hq).1.2⟩, fun a' ha' => ?_⟩
  obtain ⟨a, ha, rfl⟩ := List.mem_map.mp ha'
  exact ndG_empty _ _ _
end Tl
namespace Tl
open PySem PySem.Spec PyProof.Rows L2 RZ
theorem atI_neg1 {xs : List V} {v : V} (h : xs[xs.length - 1]? = some v) : atI xs (-1) = some v := by
  have hl := (List.getElem?_eq_some_iff.mp h).1
  have hne : xs ≠ [] := fun e => by subst e; exact absurd hl (Nat.not_lt_zero _)
  have e := List.dropLast_concat_getLast hne
  have g : xs.getLast hne = v := by
    rw [List.getLast_eq_getElem]
    exact (List.getElem?_eq_some_iff.mp h).2
  rw [g] at e
  rw [← e]
  exact atI_last _ _
theorem zer_td {K : PySem.W.Frag} {H : Hp} {p q : Addr} {W : Nat} (hq : Td K H (.ref q) (rD 0)) (hp : SqT K H p (List.replicate (W : Int).toNat [V.ref q]).flatten) : Td K H (.ref p) (wsD (zer W)) := by
  rw [flat_rep, Int.toNat_natCast] at hp
  refine .tup hp ?_
  unfold zer
  rw [List.map_replicate]
  exact tdAll_rep hq W
def spWH (K : PySem.W.Frag) (n : Nat) : Sp := fun vs H Q _ => ∃ (b g : Addr) (W : Nat) (v : V) (ahead : List Rat) (t : Nd n), vs = [.ref b, .int (W : Int), v] ∧ Bag H b g ∧ Td K H v (ndD n t) ∧ NdF W n ahead t ∧ 1 ≤ W ∧ W ≤ 5 ∧
  ∀ (v' : V) (t' : Nd (n + 1)) (H' : Hp), Td K H' v' (ndD (n + 1) t') → NdG W (n + 1) ahead t' → cnt (n + 1) t' ≤ 11 * cnt n t → Bag H' b g → Frm b g H H' → Q v' H'
/-- what stands when i questions are done -/
structure WhI (K : PySem.W.Frag) (b g T : Addr) (W n : Nat) (ahead : List Rat) (qs : List (Qn n)) (H : Hp) (i : Nat) (H2 : Hp) (us : List V) (qs' : List (Qn (n + 1))) : Prop where
  len : qs'.length = i
  h : H2 T = some (.lst us)
  t : TdAll K H2 us (qs'.map (qnD (n + 1)))
  ok : ∀ q ∈ qs', QnG W ahead q ∧ ∀ a ∈ q, NdG W (n + 1) a.2.1 a.2.2
  c : cnt (n + 2) (qs' : List (Qn (n + 1))) ≤ 11 * cnt (n + 1) (qs.take i : List (Qn n))
  B : Bag H2 b g
  F : Frm b g H H2
theorem wh_fin {K : PySem.W.Frag} {b g T : Addr} {W n : Nat} {ahead : List Rat} {qs : List (Qn n)} {H H2 H5 : Hp} {i : Nat} {us : List V} {qs' : List (Qn (n + 1))} {qn : Qn n} {qa : Qn (n + 1)} {l : Addr} (I : WhI K b g T W n ahead qs H i H2 us qs') (eq : qs[i]? = some qn) (F5 : Frm b g H2 H5) (B5 : Bag H5 b g) (t5 : Td K H5 (.ref l) (qnD (n + 1) qa)) (o1 : QnG W ahead qa)
    (o2 : ∀ a ∈ qa, NdG W (n + 1) a.2.1 a.2.2) (c5 : cntQ (n + 1) qa ≤ 11 * cntQ n qn) (Tb : T ≠ b) (Tg : T ≠ g) (T0 : H T = none) : H5 T = some (.lst us) ∧ WhI K b g T W n ahead qs H (i + 1) (upd H5 T (.lst (us ++ [.ref l]))) (us ++ [.ref l]) (qs' ++ [qa]) := by
  have h5 := F5 _ _ I.h Tb Tg
  have kT : KT K H5 (upd H5 T (.lst (us ++ [.ref l]))) := KT.updL h5
  refine ⟨h5, by rw [List.length_append, I.len]; rfl, upd_same, ?_, fun q hq => ?_, ?_, B5.updN Tb Tg, (I.F.trans F5).updN T0⟩
  · rw [List.map_append]
    exact (I.t.keep ((I.B.kt F5).trans kT)).app (.cons (t5.keep kT) .nil)
  · rcases List.mem_append.mp hq with z | z
    · exact I.ok q z
    · rw [List.mem_singleton.mp z]
      exact ⟨o1, o2⟩
  · rw [cnt_snoc, cnt_take n qs i qn eq]
    have := I.c
    show cnt (n + 2) (qs' : List (Qn (n + 1))) + _ ≤ _
    omega
section
variable {P : Program} {w : World} {K : PySem.W.Frag} {mg : Str → Option Value} {base : Heap}
end
end Tl
/-! dicts whose keys are tuples of tuples -/
namespace Tl
open PySem PySem.Spec PyProof.Rows L2 RZ
/-- the object of such a dict -/
def ndo (w : World) (d : Addr) (xs : List (NestedKey × Addr × Value)) : HO := .ext fun h => ∃ o es ep, h.get? d = some o ∧ o.ExactDict ∧ o.data = .dict es ep ∧ es.toList = xs.map (fun x => (⟨x.1.hash w, .ref x.2.1, x.2.2⟩ : DictEntry))
/-- at d a dict of at most n pairs, told by f -/
def NDc (K : PySem.W.Frag) (w : World) (H : Hp) (d : Addr) (n : Nat) (f : NestedKey → Option V) : Prop := ∃ xs : List (NestedKey × Addr × Value), H d = some (ndo w d xs) ∧ (d == sysModules) = false ∧ xs.length ≤ n ∧ (xs.map (·.1)).Nodup ∧
  (∀ x ∈ xs, Td K H (.ref x.2.1) x.1.data ∧ x.1.depth ≤ 8) ∧ ∀ k, RelO (f k) ((atKey xs k).map (·.2))
theorem NDc.keep {K : PySem.W.Frag} {w : World} {H H' : Hp} {d : Addr} {n : Nat} {f : NestedKey → Option V} (h : NDc K w H d n f) (k : KT K H H') (e : ∀ o, H d = some o → H' d = some o) : NDc K w H' d n f := by
  obtain ⟨xs, h1, h2, h3, h4, h5, h6⟩ := h
  exact ⟨xs, e _ h1, h2, h3, h4, fun x hx => ⟨(h5 x hx).1.keep k, (h5 x hx).2⟩, h6⟩
theorem NDc.mono {K : PySem.W.Frag} {w : World} {H : Hp} {d : Addr} {n m : Nat} {f : NestedKey → Option V} (h : NDc K w H d n f) (l : n ≤ m) : NDc K w H d m f := by
  obtain ⟨xs, h1, h2, h3, h4⟩ := h
  exact ⟨xs, h1, h2, Nat.le_trans h3 l, h4⟩
theorem NDc.at_ {K : PySem.W.Frag} {w : World} {H : Hp} {d : Addr} {n : Nat} {f : NestedKey → Option V} (h : NDc K w H d n f) : ∃ φ, H d = some (.ext φ) := let ⟨_, h1, _⟩ := h; ⟨_, h1⟩
section
variable {X : Cx} {pins : List (Addr × Obj)} {σ : L2.St} {H : Hp} {s : Shared}
mutual
theorem nested_is (I : Inv X pins σ H s) : ∀ (k : NestedKey) (v : V) (u : Value), Td X.K H v k.data → RelV v u → NestedIs s.heap k u
  | .none, _, u, h, r => by
    cases h
    cases (show u = Value.none from r)
    exact .none
  | .num i, _, u, h, r => by
    cases h
    obtain ⟨t, rfl⟩ := r
    exact .int i t
  | .text x, _, u, h, r => by
    cases h
    obtain ⟨t, rfl⟩ := r
    exact .text x t
  | .tup ks, _, u, h, r => by
    cases h with
    | tup hs ha =>
      rename_i a xs
      cases (show u = Value.ref a from r)
      obtain ⟨its, rv, ⟨o, h1, h2, n, h3⟩, _⟩ := I.tuple hs
      exact .tup h1 h2 h3 (by simpa using nested_all I ks xs its ha rv)
theorem nested_all (I : Inv X pins σ H s) : ∀ (ks : List NestedKey) (vs : List V) (us : List Value), TdAll X.K H vs (NestedKey.datas ks) → Vals vs us → NestedAll s.heap ks us
  | [], _, us, h, r => by
    cases h
    cases r
    exact .nil
  | k :: ks, _, us, h, r => by
    cases h with
    | cons h1 h2 =>
      cases r with
      | cons r1 r2 => exact .cons (nested_is I k _ _ h1 r1) (nested_all I ks _ _ h2 r2)
end
theorem NDc.of (I : Inv X pins σ H s) {d : Addr} {n : Nat} {f : NestedKey → Option V} (D : NDc X.K X.w H d n f) : ∃ xs, s.heap.DictOfH (nestedKind X.prog X.w) d xs ∧ H d = some (ndo X.w d xs) ∧ (d == sysModules) = false ∧ xs.length ≤ n ∧ (xs.map (·.1)).Nodup ∧ (∀ x ∈ xs, Td X.K H (.ref x.2.1) x.1.data ∧ x.1.depth ≤ 8) ∧ ∀ k, RelO (f k) ((atKey xs k).map (·.2)) := by
  obtain ⟨xs, h1, h2, h3, h4, h5, h6⟩ := D
  obtain ⟨⟨o, es, ep, e1, e2, e3, e4⟩, _⟩ := (show ObjOk X.prog X.w H s.heap d (ndo X.w d xs) from I.hok d _ h1)
  exact ⟨xs, ⟨o, es, ep, e1, e2, e3, e4, fun x hx => ⟨nested_is I _ _ _ (h5 x hx).1 rfl, (h5 x hx).2⟩, h4⟩, h1, h2, h3, h4, h5, h6⟩
theorem ndo_ok {P : Program} {w : World} {H : Hp} {h : Heap} {d : Addr} {xs : List (NestedKey × Addr × Value)} (e : ∃ o es ep, h.get? d = some o ∧ o.ExactDict ∧ o.data = .dict es ep ∧ es.toList = xs.map (fun x => (⟨x.1.hash w, .ref x.2.1, x.2.2⟩ : DictEntry))) : ObjOk P w H h d (ndo w d xs) := by
  refine ⟨e, ?_, fun h1 h2 q k => ?_⟩
  · obtain ⟨o, _, _, e1, _⟩ := e
    exact ⟨o, e1⟩
  · obtain ⟨o, es, ep, e1, e2⟩ := q
    exact ⟨o, es, ep, k _ e1, e2⟩
end
theorem atKey_nil {k : NestedKey} : atKey ([] : List (NestedKey × Addr × Value)) k = none := rfl
theorem atKey_cons (x : NestedKey × Addr × Value) (r : List (NestedKey × Addr × Value)) (k : NestedKey) : atKey (x :: r) k = if x.1 = k then some x.2 else atKey r k := by
  unfold atKey
  rw [List.find?_cons]
  by_cases e : x.1 = k
  · rw [if_pos e, decide_eq_true e]
    rfl
  · rw [if_neg e, decide_eq_false e]
theorem atKey_snoc (r : List (NestedKey × Addr × Value)) (x : NestedKey × Addr × Value) (k : NestedKey) : atKey (r ++ [x]) k = (atKey r k).or (if x.1 = k then some x.2 else none) := by
  induction r with
  | nil =>
    rw [List.nil_append, atKey_cons, atKey_nil]
    rfl
  | cons y r ih =>
    rw [List.cons_append, atKey_cons, atKey_cons, ih]
    by_cases e : y.1 = k
    · rw [if_pos e, if_pos e]
      rfl
    · rw [if_neg e, if_neg e]
theorem atKey_put (k : NestedKey) (v : Value) (j : NestedKey) : ∀ r : List (NestedKey × Addr × Value), (atKey (r.map (putAt k v)) j).map (·.2) = if j = k then (atKey r j).map (fun _ => v) else (atKey r j).map (·.2)
  | [] => by
    rw [List.map_nil, atKey_nil]
    split <;> rfl
  | x :: r => by
    have ih := atKey_put k v j r
    rw [List.map_cons, atKey_cons, atKey_cons]
    have e1 : (putAt k v x).1 = x.1 := by unfold putAt; split <;> rfl
    rw [e1]
    by_cases e : x.1 = j
    · rw [if_pos e, if_pos e]
      by_cases f : j = k
      · rw [if_pos f]
        unfold putAt
        rw [if_pos (e.trans f)]
        rfl
      · rw [if_neg f]
        unfold putAt
        rw [if_neg (fun z => f (e.symm.trans z))]
    · rw [if_neg e, if_neg e]
      exact ih
theorem atKey_stored (r : List (NestedKey × Addr × Value)) (k : NestedKey) (b : Addr) (v : Value) (j : NestedKey) : (atKey (storedH r k b v) j).map (·.2) = if j = k then some v else (atKey r j).map (·.2) := by
  cases h : atKey r k with
  | none =>
    rw [storedH_new h, atKey_snoc]
    by_cases e : j = k
    · rw [if_pos e, e, h]
      show Option.map _ (if k = k then _ else _) = _
      rw [if_pos rfl]
      rfl
    · rw [if_neg e]
      show Option.map _ ((atKey r j).or (if k = j then _ else _)) = _
      rw [if_neg (fun z => e z.symm), Option.or_none]
  | some p =>
    rw [storedH_old h, atKey_put]
    by_cases e : j = k
    · rw [if_pos e, if_pos e, e, h]
      rfl
    · rw [if_neg e, if_neg e]
theorem stored_keys (r : List (NestedKey × Addr × Value)) (k : NestedKey) (b : Addr) (v : Value) (x : NestedKey × Addr × Value) (h : x ∈ storedH r k b v) : (∃ y ∈ r, x.1 = y.1 ∧ x.2.1 = y.2.1) ∨ (x.1 = k ∧ x.2.1 = b) := by
  cases e : atKey r k with
  | none =>
    rw [storedH_new e] at h
    rcases List.mem_append.mp h with h | h
    · exact .inl ⟨x, h, rfl, rfl⟩
    · rw [List.mem_singleton.mp h]
      exact .inr ⟨rfl, rfl⟩
  | some p =>
    rw [storedH_old e] at h
    obtain ⟨y, hy, rfl⟩ := List.mem_map.mp h
    refine .inl ⟨y, hy, ?_, ?_⟩ <;> (unfold putAt; split <;> rfl)
theorem stored_len (r : List (NestedKey × Addr × Value)) (k : NestedKey) (b : Addr) (v : Value) : (storedH r k b v).length ≤ r.length + 1 := by
  cases e : atKey r k with
  | none =>
    rw [storedH_new e, List.length_append]
    exact Nat.le_refl _
  | some p =>
    rw [storedH_old e, List.length_map]
    omega
/-! the rules -/
def tDNewN (K : PySem.W.Frag) (w : World) : TE := fun _ H Q => ∀ p H', H p = none → Same H H' → NDc K w H' p 0 (fun _ => none) → Q (.ref p) H'
def tDGetN (K : PySem.W.Frag) (w : World) (td ty : TE) : TE := fun σ H Q => td σ H fun x H1 => ty σ H1 fun y H2 => ∃ d n f k v, x = .ref d ∧ NDc K w H2 d n f ∧ Td K H2 y (NestedKey.data k) ∧ (∃ b, y = .ref b) ∧ k.depth ≤ 8 ∧ f k = some v ∧ Q v H2
def sDPutN (K : PySem.W.Frag) (w : World) (td ty tv : TE) : TS := fun D σ H => tv σ H fun v H1 => td σ H1 fun x H2 => ty σ H2 fun y H3 => ∃ d n f k, x = .ref d ∧ NDc K w H3 d n f ∧ n ≤ 100000 ∧ Td K H3 y (NestedKey.data k) ∧ (∃ b, y = .ref b) ∧ k.depth ≤ 8 ∧
  ∀ H4, (∀ a o, H3 a = some o → a ≠ d → H4 a = some o) → KT K H3 H4 → NDc K w H4 d (n + 1) (fun j => if j = k then some v else f j) → D.nx σ H4
theorem ext_tup {φ : Heap → Prop} {xs : List V} : HO.ext φ ≠ .tup xs := fun z => by cases z
section
variable {X : Cx} {K : PySem.W.Frag} {w : World} (hK : X.K = K) (hw : X.w = w)
include hK hw
theorem k_dnewN {pos : Pos} : PE X (.Dict [] [] pos) (tDNewN K w) := by
  subst hK hw
  constructor
  intro pins s σ H Q I want
  have n0 := I.hok.fresh (Nat.le_refl s.heap.objs.size)
  have big : (s.heap.objs.size == sysModules) = false := beq_eq_false_iff_ne.mpr (Ne.symm (Nat.ne_of_lt I.big))
  refine wpAny_Dict_empty ⟨.ref s.heap.objs.size, _, I.laid (a := s.heap.objs.size) (o := ndo X.w s.heap.objs.size []) (t' := s.toks) (fun _ _ q => Heap.get?_push_of_some _ q) (Nat.le_refl _) ?_, rfl, want _ _ n0 (same_upd n0) ⟨[], upd_same, big, Nat.le_refl _, List.nodup_nil, fun x hx => absurd hx List.not_mem_nil, fun k => ?_⟩⟩
  · exact ndo_ok ⟨_, #[], 0, Heap.get?_push_size _ rfl, ⟨rfl, rfl, rfl⟩, rfl, rfl⟩
  · exact True.intro
theorem k_dgetN {o i : Expr} {td ty : TE} {pos : Pos} (hu : X.A.units + 64 < cLine) (eo : PE X o td) (ei : PE X i ty) (hs : NoSl i) : PE X (.Subscript o i pos) (tDGetN K w td ty) := by
  subst hK hw
  constructor
  intro pins s σ H Q I want
  refine subD_of PySem.F.slot_dict_getitem.lookup hs (thn (eo.run pins s σ H _ I want) fun u sa za => ?_)
  obtain ⟨x, Ha, Ia, rx, want⟩ := za
  refine thn (ei.run pins sa σ Ha _ Ia want) fun iv sb zb => ?_
  obtain ⟨y, Hb, Ib, ry, d, n, f, k, v, rfl, D, tk, ⟨b, rfl⟩, hd, hf, want⟩ := zb
  cases (show u = Value.ref d from rx)
  cases (show iv = Value.ref b from ry)
  obtain ⟨xs, dd, h1, h2, h3, h4, h5, h6⟩ := D.of Ib
  obtain ⟨w', hw', rw'⟩ := RelO.some_of (v := v) (o := (atKey xs k).map (·.2)) (by rw [← hf]; exact h6 k)
  obtain ⟨p, hp, hp2⟩ := Option.map_eq_some_iff.mp hw'
  refine ⟨dd.typeIs, wpAny_getItem_heap (knd := nestedKind X.prog X.w) (k := k) ?_ ⟨nested_is Ib k _ _ tk rfl, hd⟩ dd hp ?_⟩
  · show X.A.in1.units + 8 < cLine
    have : X.A.in1.units = X.A.units + 1 := rfl
    omega
  · rw [hp2]
    exact ⟨v, Hb, Ib.tok _, rw', want⟩
theorem k_dputN {o i value : Expr} {td ty tv : TE} {pos pos' : Pos} (hu : X.A.units + 64 < cLine) (eo : PE X o td) (ei : PE X i ty) (ev : PE X value tv) (hs : swapsWith value (some (.Subscript o i pos')) pos.line X.env = pure false) :
    PS X (.Assign [.Subscript o i pos'] value pos) (sDPutN K w td ty tv) := by
  subst hK hw
  constructor
  intro pins s σ H D I want
  refine wpAny_Assign_Subscript (thn (ev.run pins s σ H _ I want) fun r sa za => ?_) hs
  obtain ⟨v, Ha, Ia, rv, want⟩ := za
  refine thn (eo.run pins sa σ Ha _ Ia want) fun u sb zb => ?_
  obtain ⟨x, Hb, Ib, rx, want⟩ := zb
  refine thn (ei.run pins sb σ Hb _ Ib want) fun iv sc zc => ?_
  obtain ⟨y, Hc, Ic, ry, d, n, f, k, rfl, ND, hn, tk, ⟨b, rfl⟩, hd, want⟩ := zc
  cases (show u = Value.ref d from rx)
  cases (show iv = Value.ref b from ry)
  obtain ⟨xs, dd, h1, h2, h3, h4, h5, h6⟩ := ND.of Ic
  have hz : xs.length ≤ sizeLine := by rw [sizeLine_eq]; omega
  refine wpAny_setItem_heap (knd := nestedKind X.prog X.w) (k := k) (hsz := hz) ?_ ⟨nested_is Ic k _ _ tk rfl, hd⟩ dd fun h' dd' hsb => ?_
  · show X.A.in1.units + 8 < cLine
    have : X.A.in1.units = X.A.units + 1 := rfl
    omega
  obtain ⟨q, es, ep, q1, q2, q3, q4, q5, q6⟩ := dd'
  have Id := d_write (t' := sc.toks + (nestedKind X.prog X.w).draws k) (ob := ndo X.w d (storedH xs k b r)) Ic (by rw [h1]; exact True.intro) hsb ⟨q, q1⟩ (ndo_ok ⟨q, es, ep, q1, q2, q3, q4⟩)
  have kt : KT X.K Hc (upd Hc d (ndo X.w d (storedH xs k b r))) := fun a ys z => by
    rcases z with (z | ⟨oo, z⟩) | z
    · exact .inl (.inl (by rw [upd_ne (ne_of z h1 (fun e => by cases e))]; exact z))
    · exact .inl (.inr ⟨oo, by rw [upd_ne (ne_of z h1 (fun e => by cases e))]; exact z⟩)
    · exact .inr z
  refine ⟨σ, _, Id, want _ (fun a oo z ne => by rw [upd_ne ne]; exact z) kt ⟨storedH xs k b r, upd_same, h2, ?_, q6, fun x hx => ?_, fun j => ?_⟩⟩
  · have := stored_len xs k b r
    omega
  · rcases stored_keys xs k b r x hx with ⟨y, hy, e1, e2⟩ | ⟨e1, e2⟩
    · rw [e1, e2]
      exact ⟨(h5 y hy).1.keep kt, (h5 y hy).2⟩
    · rw [e1, e2]
      exact ⟨tk.keep kt, hd⟩
  · rw [atKey_stored]
    show RelO (if j = k then some v else f j) _
    by_cases e : j = k
    · rw [if_pos e, if_pos e]
      exact rv
    · rw [if_neg e, if_neg e]
      exact h6 j
end
end Tl
/-! zip of three tuples -/
namespace Tl
open PySem PySem.Spec PyProof.Rows L2 RZ
/-- three tuples side by side, the items in new triples -/
def ItzT3 (K : PySem.W.Frag) (a b c : Addr) : It :=
  ⟨fun i H => ∃ (xs ys zs : List V) (x y z : V), SqT K H a xs ∧ SqT K H b ys ∧ SqT K H c zs ∧ xs[i]? = some x ∧ ys[i]? = some y ∧ zs[i]? = some z,
   fun i H v H' => ∃ T x y z, v = .ref T ∧ H T = none ∧ H' = upd H T (.tup [x, y, z]) ∧ (∀ xs, SqT K H a xs → xs[i]? = some x) ∧ (∀ ys, SqT K H b ys → ys[i]? = some y) ∧ ∀ zs, SqT K H c zs → zs[i]? = some z,
   fun i H => ∃ xs ys zs : List V, SqT K H a xs ∧ SqT K H b ys ∧ SqT K H c zs ∧ i = min (min xs.length ys.length) zs.length⟩
def Y3 (xs ys zs : Nat → Option V) : Nat → Hp → V → Hp → Prop := fun i H v H' => ∃ T x y z, v = .ref T ∧ H T = none ∧ H' = upd H T (.tup [x, y, z]) ∧ xs i = some x ∧ ys i = some y ∧ zs i = some z
theorem turn_zipT3 {P : Program} {w : World} {K : PySem.W.Frag} {elts : List Expr} {kk : Nat} {tpos : Pos} (N a b c : Addr) (la : a < N) (lb : b < N) (lc : c < N) :
    Turn P w K (.Tuple elts kk tpos) (ItzT3 K a b c) [(N + 5 : Nat), (N + 3 : Nat), (N + 4 : Nat), N, (N + 1 : Nat), (N + 2 : Nat)] (N + 5 : Nat) (fun i h => IsZip h (N + 5 : Nat) (N + 3 : Nat) (N + 4 : Nat) .none ∧ IsTupOf3 h (N + 3 : Nat) (.ref N) (.ref (N + 1 : Nat)) (.ref (N + 2 : Nat)) ∧ (∃ a1 a2 a3, IsTupOf3 h (N + 4 : Nat) a1 a2 a3) ∧ h.IsTupleIter N a i ∧ h.IsTupleIter (N + 1 : Nat) b i ∧ h.IsTupleIter (N + 2 : Nat) c i) where
  mem := List.mem_cons_self
  obj := by
    rintro i h ⟨g1, g2, ⟨a1, a2, a3, g3⟩, ⟨o1, e1, _, d1⟩, ⟨o2, e2, _, d2⟩, ⟨o3, e3, _, d3⟩⟩ q hq
    simp only [List.mem_cons, List.not_mem_nil, or_false] at hq
    rcases hq with z | z | z | z | z | z
    · rw [z]; exact ⟨_, g1, fun v y => nomatch y⟩
    · rw [z]; exact ⟨_, g2, fun v y => nomatch y⟩
    · rw [z]; exact ⟨_, g3, fun v y => nomatch y⟩
    · rw [z]; exact ⟨o1, e1, fun v y => by rw [d1] at y; cases y⟩
    · rw [z]; exact ⟨o2, e2, fun v y => by rw [d2] at y; cases y⟩
    · rw [z]; exact ⟨o3, e3, fun v y => by rw [d3] at y; cases y⟩
  keep := by
    rintro i h h' ⟨g1, g2, ⟨a1, a2, a3, g3⟩, i1, i2, i3⟩ k
    exact ⟨k _ (by simp) _ g1, k _ (by simp) _ g2, ⟨a1, a2, a3, k _ (by simp) _ g3⟩, i1.at fun o y => k _ (by simp) o y, i2.at fun o y => k _ (by simp) o y, i3.at fun o y => k _ (by simp) o y⟩
  item := by
    intro X hP hw hK hcalm i pins s σ H E I hf st hg
    subst hP hw hK
    obtain ⟨g1, g2, g3, i1, i2, i3⟩ := st
    obtain ⟨xs, ys, zs, x, y, z, q1, q2, q3, e1, e2, e3⟩ := hg
    obtain ⟨us1, rv1, p1, _⟩ := I.tuple q1
    obtain ⟨us2, rv2, p2, _⟩ := I.tuple q2
    obtain ⟨us3, rv3, p3, _⟩ := I.tuple q3
    obtain ⟨u1, f1, r1⟩ := rv1.get e1
    obtain ⟨u2, f2, r2⟩ := rv2.get e2
    obtain ⟨u3, f3, r3⟩ := rv3.get e3
    have n1 : i < us1.toArray.size := by rw [List.size_toArray]; exact (List.getElem?_eq_some_iff.mp f1).1
    have n2 : i < us2.toArray.size := by rw [List.size_toArray]; exact (List.getElem?_eq_some_iff.mp f2).1
    have n3 : i < us3.toArray.size := by rw [List.size_toArray]; exact (List.getElem?_eq_some_iff.mp f3).1
    have D1 := Draws.tuple (prog := X.prog) (w := X.w) (A := X.A.in1) (I.ok.hd hcalm) N a (Nat.ne_of_lt la) us1.toArray
    have D2 := Draws.tuple (prog := X.prog) (w := X.w) (A := X.A.in1) (I.ok.hd hcalm) (N + 1 : Nat) b (Nat.ne_of_lt (Nat.lt_succ_of_lt lb)) us2.toArray
    have D3 := Draws.tuple (prog := X.prog) (w := X.w) (A := X.A.in1) (I.ok.hd hcalm) (N + 2 : Nat) c (Nat.ne_of_lt (Nat.lt_succ_of_lt (Nat.lt_succ_of_lt lc))) us3.toArray
    have one : ∀ {t : Addr}, t < N → ∀ q ∈ [t], q < N := fun h q hq => by rw [List.mem_singleton.mp hq]; exact h
    have G := GoesN.zip3 (elts := elts) (x1 := kk) (pos := tpos) (zip_sep3 (one la) (one lb) (one lc)) D1 D2 D3
    refine G.goes i s (fun v s2 => ∃ x H', Inv X pins σ H' s2 ∧ RelV x v ∧ (ItzT3 X.K a b c).yld i H x H' ∧ _ ∧ ∀ q ∈ [(N + 5 : Nat), (N + 3 : Nat), (N + 4 : Nat), N, (N + 1 : Nat), (N + 2 : Nat)], H' q = none) E (by omega) ⟨g1, g2, g3, ⟨i1, p1⟩, ⟨i2, p2⟩, ⟨i3, p3⟩⟩ fun v h' tk hY st' hk htk => ?_
    obtain ⟨T, v1, v2, v3, rfl, hT, w1, w2, w3, hTt⟩ := hY
    have e1' : us1[i]? = some v1 := by simpa using w1
    have e2' : us2[i]? = some v2 := by simpa using w2
    have e3' : us3[i]? = some v3 := by simpa using w3
    rw [f1] at e1'
    rw [f2] at e2'
    rw [f3] at e3'
    cases e1'
    cases e2'
    cases e3'
    obtain ⟨k1, k2, k3, ⟨k4, _⟩, ⟨k5, _⟩, ⟨k6, _⟩⟩ := st'
    have new : ObjOk X.prog X.w (upd H T (.tup [x, y, z])) h' T (.tup [x, y, z]) := ⟨by show 3 ≤ sizeLine; decide, [u1, u2, u3], .cons r1 (.cons r2 (.cons r3 .nil)), hTt⟩
    have hlt : ∀ q ∈ [(N + 5 : Nat), (N + 3 : Nat), (N + 4 : Nat), N, (N + 1 : Nat), (N + 2 : Nat)], q < s.heap.objs.size := fun q hq => by
      simp only [List.mem_cons, List.not_mem_nil, or_false] at hq
      obtain ⟨a1, a2, a3, g3⟩ := g3
      rcases hq with z | z | z | z | z | z
      · rw [z]; exact Heap.lt_size g1
      · rw [z]; exact Heap.lt_size g2
      · rw [z]; exact Heap.lt_size g3
      · rw [z]; obtain ⟨_, y, _⟩ := i1; exact Heap.lt_size y
      · rw [z]; obtain ⟨_, y, _⟩ := i2; exact Heap.lt_size y
      · rw [z]; obtain ⟨_, y, _⟩ := i3; exact Heap.lt_size y
    refine ⟨.ref T, upd H T (.tup [x, y, z]), I.turnedNew (t' := tk) (ch := [(N + 5 : Nat), (N + 3 : Nat), (N + 4 : Nat), N, (N + 1 : Nat), (N + 2 : Nat)]) (fun q o hq e => hk q o (fun m => hq ?_) e) hf hT new, rfl, ⟨T, x, y, z, rfl, I.hok.fresh hT, rfl, fun l hl => ?_, fun l hl => ?_, fun l hl => ?_⟩, ⟨k1, k2, k3, k4, k5, k6⟩, fun q hq => ?_⟩
    · simp only [List.mem_cons, List.not_mem_nil, or_false] at m ⊢
      rcases m with m | m | m | m | m
      · exact .inl m
      · exact .inr (.inr (.inl m))
      · exact .inr (.inr (.inr (.inl m)))
      · exact .inr (.inr (.inr (.inr (.inl m))))
      · exact .inr (.inr (.inr (.inr (.inr m))))
    · rw [I.tuple_inj hl q1]
      exact e1
    · rw [I.tuple_inj hl q2]
      exact e2
    · rw [I.tuple_inj hl q3]
      exact e3
    · rw [upd_ne (Nat.ne_of_lt (Nat.lt_of_lt_of_le (hlt q hq) hT))]
      exact (hf q hq).1
  done := by
    intro X hP hw hK hcalm i pins s σ H E I hf st hg
    subst hP hw hK
    obtain ⟨g1, g2, g3, i1, i2, i3⟩ := st
    obtain ⟨xs, ys, zs, q1, q2, q3, hi⟩ := hg
    obtain ⟨us1, rv1, p1, _⟩ := I.tuple q1
    obtain ⟨us2, rv2, p2, _⟩ := I.tuple q2
    obtain ⟨us3, rv3, p3, _⟩ := I.tuple q3
    have D1 := Draws.tuple (prog := X.prog) (w := X.w) (A := X.A.in1) (I.ok.hd hcalm) N a (Nat.ne_of_lt la) us1.toArray
    have D2 := Draws.tuple (prog := X.prog) (w := X.w) (A := X.A.in1) (I.ok.hd hcalm) (N + 1 : Nat) b (Nat.ne_of_lt (Nat.lt_succ_of_lt lb)) us2.toArray
    have D3 := Draws.tuple (prog := X.prog) (w := X.w) (A := X.A.in1) (I.ok.hd hcalm) (N + 2 : Nat) c (Nat.ne_of_lt (Nat.lt_succ_of_lt (Nat.lt_succ_of_lt lc))) us3.toArray
    have one : ∀ {t : Addr}, t < N → ∀ q ∈ [t], q < N := fun h q hq => by rw [List.mem_singleton.mp hq]; exact h
    have G := GoesN.zip3 (elts := elts) (x1 := kk) (pos := tpos) (zip_sep3 (one la) (one lb) (one lc)) D1 D2 D3
    have hn : i = min (min us1.toArray.size us2.toArray.size) us3.toArray.size := by
      rw [hi, rv1.length, rv2.length, rv3.length, List.size_toArray, List.size_toArray, List.size_toArray]
    rw [hn] at i1 i2 i3
    refine G.stops s (fun s1 => Inv X pins σ H s1) E ⟨g1, g2, g3, ⟨i1, p1⟩, ⟨i2, p2⟩, ⟨i3, p3⟩⟩ fun h' tk hk htk => ?_
    refine I.turnedL (t' := tk) (ch := [(N + 5 : Nat), (N + 3 : Nat), (N + 4 : Nat), N, (N + 1 : Nat), (N + 2 : Nat)]) (fun q o hq e => hk q o (fun m => hq ?_) e) hf
    simp only [List.mem_cons, List.not_mem_nil, or_false] at m ⊢
    rcases m with m | m | m | m | m
    · exact .inl m
    · exact .inr (.inr (.inl m))
    · exact .inr (.inr (.inr (.inl m)))
    · exact .inr (.inr (.inr (.inr (.inl m))))
    · exact .inr (.inr (.inr (.inr (.inr m))))
  self := fun A i s Q E st h => wpAny_pyIter_zip st.1 h
def iZip3 (K : PySem.W.Frag) (ta : TA) : TI := fun σ H R => ta σ H fun vs H1 => ∃ a b c xs ys zs, vs = [.ref a, .ref b, .ref c] ∧ SqT K H1 a xs ∧ SqT K H1 b ys ∧ SqT K H1 c zs ∧ R (ItzT3 K a b c) H1
section
variable {X : Cx} {K : PySem.W.Frag} (hK : X.K = K)
include hK
theorem k_zip3 {e1 e2 e3 : Expr} {ta : TA} {p pos tpos : Pos} {elts : List Expr} {kk : Nat} (hg : Gl X "zip") (hm : X.mg "zip" = none) (ha : PA X [e1, e2, e3] ta)
    (hs : starEach [e1, e2, e3] X.env = (false, eval e1 X.env) :: starEach [e2, e3] X.env := by rfl) (hpl : (backTo pos (starEach [e2, e3] X.env)).any (·.1) = false := by rfl) :
    PI X (.Tuple elts kk tpos) (.Call (.Name "zip" p) [e1, e2, e3] [] pos) (iZip3 K ta) := by
  subst hK
  constructor
  intro pins s σ H R I want
  refine Call_ (ld_blt I hg hm PyProof.Rows.boot_zip (PyProof.Rows.callWith_type1 (thn (ha.run pos pins s σ H _ I want) fun us sa za => ?_) hs hpl))
  obtain ⟨vs, Ha, Ia, rs, a, b, c, xs, ys, zs, rfl, qa, qb, qc, want⟩ := za
  obtain ⟨u1, u2, u3, rfl, r1, r2, r3⟩ : ∃ u1 u2 u3, us = [u1, u2, u3] ∧ RelV (.ref a) u1 ∧ RelV (.ref b) u2 ∧ RelV (.ref c) u3 := by
    cases rs with
    | cons r1 rs =>
      cases rs with
      | cons r2 rs =>
        cases rs with
        | cons r3 rs =>
          cases rs
          exact ⟨_, _, _, rfl, r1, r2, r3⟩
  cases r1
  cases r2
  cases r3
  obtain ⟨us1, rv1, p1, _⟩ := Ia.tuple qa
  obtain ⟨us2, rv2, p2, _⟩ := Ia.tuple qb
  obtain ⟨us3, rv3, p3, _⟩ := Ia.tuple qc
  obtain ⟨o1, h1, _⟩ := id p1
  obtain ⟨o2, h2, _⟩ := id p2
  obtain ⟨o3, h3, _⟩ := id p3
  refine zip_begins3 (begins_tuple a us1.toArray) (begins_tuple b us2.toArray) (begins_tuple c us3.toArray) p1 p2 p3 fun h' gz gT gO g1 g2 g3 hsz hk => wpAny_pyIter_zip gz ?_
  have Ib : Inv X pins σ Ha { sa with heap := h' } := Ia.kept (t' := sa.toks) hk
  refine ⟨_, _, _, _, Ha, rfl, Ib, turn_zipT3 sa.heap.objs.size a b c (Heap.lt_size h1) (Heap.lt_size h2) (Heap.lt_size h3), ⟨gz, gT, ⟨_, _, _, gO⟩, ⟨_, g1, rfl, rfl⟩, ⟨_, g2, rfl, rfl⟩, ⟨_, g3, rfl, rfl⟩⟩, fun q hq => ?_, want⟩
  have hle : sa.heap.objs.size ≤ q := by
    simp only [List.mem_cons, List.not_mem_nil, or_false] at hq
    rcases hq with z | z | z | z | z | z
    · rw [z]; exact Nat.le_add_right _ _
    · rw [z]; exact Nat.le_add_right _ _
    · rw [z]; exact Nat.le_add_right _ _
    · rw [z]; exact Nat.le_refl _
    · rw [z]; exact Nat.le_add_right _ _
    · rw [z]; exact Nat.le_add_right _ _
  exact Ia.fpOk hle (Ia.hok.fresh hle)
end
theorem walk_zip3 {K : PySem.W.Frag} {a b c : Addr} {xs ys zs : List V} {n : Nat} (h1 : xs.length = n) (h2 : ys.length = n) (h3 : zs.length = n) : Walk (ItzT3 K a b c) n (fun H => SqT K H a xs ∧ SqT K H b ys ∧ SqT K H c zs) (Y3 (fun i => xs[i]?) (fun i => ys[i]?) (fun i => zs[i]?)) := by
  refine ⟨fun i _ hi q => ⟨xs, ys, zs, xs[i]'(by omega), ys[i]'(by omega), zs[i]'(by omega), q.1, q.2.1, q.2.2, List.getElem?_eq_getElem _, List.getElem?_eq_getElem _, List.getElem?_eq_getElem _⟩, fun _ q => ⟨xs, ys, zs, q.1, q.2.1, q.2.2, by omega⟩, fun i H v H' _ q y => ?_⟩
  obtain ⟨T, x, y, z, e1, e2, e3, f1, f2, f3⟩ := y
  exact ⟨T, x, y, z, e1, e2, e3, f1 xs q.1, f2 ys q.2.1, f3 zs q.2.2⟩
end Tl
namespace Tl
open PySem PySem.Spec PyProof.Rows L2 RZ
/-! ### fractions of bounded size -/
def Bd (r : Rat) (m : Nat) : Prop := -(m : Rat) ≤ r ∧ r ≤ (m : Rat)
theorem le2 {a b c d : Rat} (h1 : a ≤ b) (h2 : c ≤ d) : a + c ≤ b + d := Rat.le_trans (Rat.add_le_add_right.mpr h1) (Rat.add_le_add_left.mpr h2)
theorem bd_add {r s : Rat} {m n : Nat} (h : Bd r m) (k : Bd s n) : Bd (r + s) (m + n) := by
  unfold Bd
  rw [Rat.natCast_add, Rat.neg_add]
  exact ⟨le2 h.1 k.1, le2 h.2 k.2⟩
theorem bd_mono {r : Rat} {m n : Nat} (h : Bd r m) (l : m ≤ n) : Bd r n := by
  have z : (m : Rat) ≤ (n : Rat) := Rat.natCast_le_natCast.mpr l
  exact ⟨Rat.le_trans (Rat.neg_le_neg z) h.1, Rat.le_trans h.2 z⟩
theorem bd_zero {m : Nat} : Bd 0 m := by
  have z : (0 : Rat) ≤ (m : Rat) := Rat.natCast_nonneg
  exact ⟨by have := Rat.neg_le_neg z; rw [Rat.neg_zero] at this; exact this, z⟩
theorem bd_mul {c r : Rat} {m : Nat} (h0 : 0 ≤ c) (h1 : c ≤ 1) (h : Bd r m) : Bd (c * r) m := by
  have z : (0 : Rat) ≤ (m : Rat) := Rat.natCast_nonneg
  have e1 : c * (m : Rat) ≤ m := by
    have := Rat.mul_le_mul_of_nonneg_right h1 z
    rw [Rat.one_mul] at this
    exact this
  have u := Rat.mul_le_mul_of_nonneg_left h.2 h0
  have l := Rat.mul_le_mul_of_nonneg_left h.1 h0
  rw [Rat.mul_neg] at l
  exact ⟨Rat.le_trans (Rat.neg_le_neg e1) l, Rat.le_trans u e1⟩
theorem bd_ch {e : Nat} {r : Rat} (h : Ch e r) : Bd r 1 := by
  have z : (((1 : Nat) : Rat)) = 1 := rfl
  refine ⟨?_, by rw [z]; exact h.2.1⟩
  rw [z]
  exact Rat.le_trans (by decide) h.1
theorem bd_num {r : Rat} {m : Nat} (h : Bd r m) : r.num.natAbs ≤ m * r.den := by
  have a := (Rat.le_iff _ _).mp h.1
  have b := (Rat.le_iff _ _).mp h.2
  rw [Rat.neg_num, Rat.neg_den, Rat.num_natCast, Rat.den_natCast] at a
  rw [Rat.num_natCast, Rat.den_natCast] at b
  have c : ((m * r.den : Nat) : Int) = (m : Int) * (r.den : Int) := Int.natCast_mul _ _
  rw [Int.neg_mul] at a
  omega
/-- the bottom divides the k-th power, at most m either way -/
def Fd (k m : Nat) (r : Rat) : Prop := r.den ∣ LL ^ k ∧ Bd r m
theorem add_den_dvd {a b : Rat} {D : Nat} (h1 : a.den ∣ D) (h2 : b.den ∣ D) (hD : 0 < D) : (a + b).den ∣ D := by
  rw [← fr_frN hD h1, ← fr_frN hD h2, fr_add hD]
  exact mk_den_dvd hD
theorem Fd.add {k m n : Nat} {r s : Rat} (h : Fd k m r) (g : Fd k n s) : Fd k (m + n) (r + s) := ⟨add_den_dvd h.1 g.1 (ll_pos k), bd_add h.2 g.2⟩
theorem Fd.mono {k k' m m' : Nat} {r : Rat} (h : Fd k m r) (l : k ≤ k') (l' : m ≤ m') : Fd k' m' r := ⟨Nat.dvd_trans h.1 (ll_mono l), bd_mono h.2 l'⟩
theorem Fd.mul {e k m : Nat} {c r : Rat} (hc : Ch e c) (h : Fd k m r) : Fd (e + k) m (c * r) := by
  refine ⟨Nat.dvd_trans (mul_den_dvd _ _) ?_, bd_mul hc.1 hc.2.1 h.2⟩
  rw [Nat.pow_add]
  exact Nat.mul_dvd_mul hc.2.2 h.1
theorem Ch.prod {e f : Nat} {c d : Rat} (hc : Ch e c) (hd : Ch f d) : Ch (e + f) (c * d) := by
  refine ⟨Rat.mul_nonneg hc.1 hd.1, ?_, ?_⟩
  · have := Rat.mul_le_mul_of_nonneg_left hd.2.1 hc.1
    rw [Rat.mul_one] at this
    exact Rat.le_trans this hc.2.1
  · rw [Nat.pow_add]
    exact Nat.dvd_trans (mul_den_dvd _ _) (Nat.mul_dvd_mul hc.2.2 hd.2.2)
theorem fd_zero {k m : Nat} : Fd k m 0 := ⟨Nat.one_dvd _, bd_zero⟩
theorem Ch.fd {e : Nat} {r : Rat} (h : Ch e r) : Fd e 1 r := ⟨h.2.2, bd_ch h⟩
theorem Fd.den {k m : Nat} {r : Rat} (h : Fd k m r) : r.den ≤ LL ^ k := Nat.le_of_dvd (ll_pos k) h.1
theorem Fd.num {k m : Nat} {r : Rat} (h : Fd k m r) : r.num.natAbs ≤ m * LL ^ k := Nat.le_trans (bd_num h.2) (Nat.mul_le_mul_left m h.den)
theorem ll_big {k m : Nat} (hk : k ≤ 15) (hm : m ≤ 2 ^ 100) : m * LL ^ k < 2 ^ 1500 := by
  have a : LL ^ k ≤ 2 ^ 1335 := ll_small (by omega)
  have b := Nat.mul_le_mul hm a
  rw [← Nat.pow_add] at b
  exact Nat.lt_of_le_of_lt b (Nat.pow_lt_pow_right (by decide) (by decide))
theorem Fd.sm {k m : Nat} {r : Rat} (h : Fd k m r) (hk : k ≤ 15) (hm : m ≤ 2 ^ 100) : Sm r := by
  refine ⟨?_, Nat.lt_of_le_of_lt h.num (ll_big hk hm)⟩
  have := ll_big (m := 1) hk (Nat.one_le_two_pow)
  rw [Nat.one_mul] at this
  exact Nat.lt_of_le_of_lt h.den this
theorem fd_sum {k m : Nat} : ∀ {rs : List Rat}, (∀ r ∈ rs, Fd k m r) → Fd k (rs.length * m) (fsum rs)
  | [], _ => fd_zero
  | r :: rs, h => by
    rw [fsum_cons, List.length_cons, Nat.add_mul, Nat.one_mul, Nat.add_comm]
    exact (h r (List.mem_cons_self ..)).add (fd_sum fun x hx => h x (List.mem_cons_of_mem _ hx))
theorem frN_absM {D m : Nat} {r : Rat} (h : r.den ∣ D) (hb : Bd r m) : (frN D r).natAbs ≤ m * D := by
  have n1 := bd_num hb
  unfold frN
  rw [Int.natAbs_mul, Int.natAbs_natCast]
  have := Nat.mul_le_mul_right (D / r.den) n1
  rw [Nat.mul_assoc, Nat.mul_div_cancel' h] at this
  exact this
theorem frNs_absM {D m : Nat} : ∀ {rs : List Rat}, (∀ r ∈ rs, r.den ∣ D ∧ Bd r m) → abssum (rs.map (frN D)) ≤ rs.length * (m * D)
  | [], _ => by
    rw [List.length_nil, Nat.zero_mul]
    exact Nat.le_refl 0
  | r :: rs, h => by
    rw [List.map_cons, abssum_cons, List.length_cons, Nat.add_mul, Nat.one_mul]
    obtain ⟨a, b⟩ := h r (List.mem_cons_self ..)
    have := frN_absM a b
    have := frNs_absM fun x hx => h x (List.mem_cons_of_mem _ hx)
    omega
/-- a sum of such fractions, as total wants it -/
theorem tot_fd {k m : Nat} {rs : List Rat} (h : ∀ r ∈ rs, Fd k m r) (hk : k ≤ 14) (hm : rs.length * m ≤ 2 ^ 100) : ((rs.map (frN (LL ^ k))).map (fr (LL ^ k)) = rs) ∧ 0 < LL ^ k ∧ LL ^ k < 2 ^ 1500 ∧ abssum (rs.map (frN (LL ^ k))) < 2 ^ 1500 := by
  refine ⟨frs_frN (ll_pos k) fun r hr => (h r hr).1, ll_pos k, ll_lt1500 (by omega), Nat.lt_of_le_of_lt (frNs_absM h) ?_⟩
  rw [← Nat.mul_assoc]
  exact ll_big (by omega) hm
/-! ### tables -/
def Tb : Nat → Type
  | 0 => Unit
  | n + 1 => List (Rat × List (List Rat × Tb n))
abbrev Rw (n : Nat) : Type := List Rat × Tb n
abbrev Ask (n : Nat) : Type := Rat × List (Rw n)
def tbD : (n : Nat) → Tb n → PyData
  | 0, _ => .tuple []
  | n + 1, xs => .tuple ((show List (Ask n) from xs).map fun x => .tuple [rD x.1, .tuple (x.2.map fun r => .tuple [wsD r.1, tbD n r.2])])
def rwD (n : Nat) (r : Rw n) : PyData := .tuple [wsD r.1, tbD n r.2]
def rwsD (n : Nat) (rs : List (Rw n)) : PyData := .tuple (rs.map (rwD n))
def askD (n : Nat) (x : Ask n) : PyData := .tuple [rD x.1, rwsD n x.2]
theorem tbD_succ (n : Nat) (xs : List (Ask n)) : tbD (n + 1) xs = .tuple (xs.map (askD n)) := rfl
structure PaysOk (W : Nat) (ps : List Rat) : Prop where
  len : ps.length = W
  fd : ∀ p ∈ ps, Fd 1 4 p
/-- two lists of one length, place by place -/
inductive Al {α β : Type} (R : α → β → Prop) : List α → List β → Prop
  | nil : Al R [] []
  | cons {a : α} {b : β} {as : List α} {bs : List β} : R a b → Al R as bs → Al R (a :: as) (b :: bs)
theorem Al.len {α β : Type} {R : α → β → Prop} : ∀ {as : List α} {bs : List β}, Al R as bs → as.length = bs.length
  | _, _, .nil => rfl
  | _, _, .cons _ t => congrArg (· + 1) (Al.len t)
theorem Al.get {α β : Type} {R : α → β → Prop} : ∀ {as : List α} {bs : List β} {i : Nat} {a : α}, Al R as bs → as[i]? = some a → ∃ b, bs[i]? = some b ∧ R a b
  | _, _, _, _, .nil, e => by simp at e
  | _, _, 0, _, .cons h _, e => by
    simp at e
    subst e
    exact ⟨_, rfl, h⟩
  | _, _, i + 1, a, .cons _ t, e => by
    obtain ⟨b, h1, h2⟩ := Al.get (i := i) (a := a) t (by simpa using e)
    exact ⟨b, by simpa using h1, h2⟩
theorem Al.imp {α β : Type} {R S : α → β → Prop} (h : ∀ a b, R a b → S a b) : ∀ {as : List α} {bs : List β}, Al R as bs → Al S as bs
  | _, _, .nil => .nil
  | _, _, .cons x t => .cons (h _ _ x) (Al.imp h t)
theorem Al.snoc {α β : Type} {R : α → β → Prop} {a : α} {b : β} (h : R a b) : ∀ {as : List α} {bs : List β}, Al R as bs → Al R (as ++ [a]) (bs ++ [b])
  | _, _, .nil => .cons h .nil
  | _, _, .cons x t => .cons x (Al.snoc h t)
theorem Al.of {α β : Type} {R : α → β → Prop} : ∀ {as : List α} {bs : List β}, as.length = bs.length → (∀ (i : Nat) (a : α) (b : β), as[i]? = some a → bs[i]? = some b → R a b) → Al R as bs
  | [], [], _, _ => .nil
  | [], _ :: _, e, _ => by simp at e
  | _ :: _, [], e, _ => by simp at e
  | a :: as, b :: bs, e, h => .cons (h 0 a b rfl rfl) (Al.of (by simpa using e) fun i x y h1 h2 => h (i + 1) x y (by simpa using h1) (by simpa using h2))
/-- a table for a node -/
def TbOk (W : Nat) : (n : Nat) → Nd n → Tb n → Prop
  | 0, _, _ => True
  | n + 1, qs, xs => (∀ x ∈ (show List (Ask n) from xs), Ch 1 x.1) ∧ fsum ((show List (Ask n) from xs).map (·.1)) ≤ 1 ∧ Al (fun (q : Qn n) (x : Ask n) => Al (fun (a : An n) (r : Rw n) => PaysOk W r.1 ∧ TbOk W n a.2.2 r.2) q x.2) qs xs
/-! ### what is paid -/
def dot3 : List Rat → List Rat → List Rat → List Rat
  | p :: ps, w :: ws, y :: ys => p * w * y :: dot3 ps ws ys
  | _, _, _ => []
def payF (prior ws ps : List Rat) : Rat := fsum (dot3 prior ws ps)
def paidT (prior : List Rat) : (n : Nat) → Nd n → Tb n → Rat
  | 0, _, _ => 0
  | n + 1, qs, xs => fsum (List.zipWith (fun (q : Qn n) (x : Ask n) => x.1 * fsum (List.zipWith (fun (a : An n) (r : Rw n) => payF prior a.2.1 r.1 + paidT prior n a.2.2 r.2) q x.2)) qs xs)
def paidA (prior : List Rat) (n : Nat) (a : An n) (r : Rw n) : Rat := payF prior a.2.1 r.1 + paidT prior n a.2.2 r.2
def paidQ (prior : List Rat) (n : Nat) (q : Qn n) (x : Ask n) : Rat := x.1 * fsum (List.zipWith (paidA prior n) q x.2)
theorem paidT_succ (prior : List Rat) (n : Nat) (qs : List (Qn n)) (xs : List (Ask n)) : paidT prior (n + 1) qs xs = fsum (List.zipWith (paidQ prior n) qs xs) := rfl
theorem dot3_len : ∀ {W : Nat} {a b c : List Rat}, a.length = W → b.length = W → c.length = W → (dot3 a b c).length = W
  | 0, [], [], [], _, _, _ => rfl
  | W + 1, x :: a, y :: b, z :: c, h1, h2, h3 => congrArg (· + 1) (dot3_len (W := W) (by simpa using h1) (by simpa using h2) (by simpa using h3))
theorem dot3_at : ∀ {a b c : List Rat} {i : Nat} {x y z : Rat}, a[i]? = some x → b[i]? = some y → c[i]? = some z → (dot3 a b c)[i]? = some (x * y * z)
  | [], _, _, _, _, _, _, h, _, _ => by simp at h
  | _ :: _, [], _, _, _, _, _, _, h, _ => by simp at h
  | _ :: _, _ :: _, [], _, _, _, _, _, _, h => by simp at h
  | x :: a, y :: b, z :: c, 0, _, _, _, h1, h2, h3 => by
    cases h1
    cases h2
    cases h3
    rfl
  | x :: a, y :: b, z :: c, i + 1, x', y', z', h1, h2, h3 => by
    have := dot3_at (a := a) (b := b) (c := c) (i := i) (x := x') (y := y') (z := z') (by simpa using h1) (by simpa using h2) (by simpa using h3)
    simpa [dot3] using this
theorem dot3_mem {a b c : List Rat} {r : Rat} (h : r ∈ dot3 a b c) : ∃ x ∈ a, ∃ y ∈ b, ∃ z ∈ c, r = x * y * z := by
  induction a generalizing b c with
  | nil => exact absurd h (by simp [dot3])
  | cons x a ih =>
    cases b with
    | nil => exact absurd h (by simp [dot3])
    | cons y b =>
      cases c with
      | nil => exact absurd h (by simp [dot3])
      | cons z c =>
        rcases List.mem_cons.mp h with rfl | h
        · exact ⟨x, List.mem_cons_self .., y, List.mem_cons_self .., z, List.mem_cons_self .., rfl⟩
        · obtain ⟨x', h1, y', h2, z', h3, e⟩ := ih h
          exact ⟨x', List.mem_cons_of_mem _ h1, y', List.mem_cons_of_mem _ h2, z', List.mem_cons_of_mem _ h3, e⟩
/-- a prior -/
structure PriorOk (W : Nat) (p : List Rat) : Prop where
  len : p.length = W
  ch : ∀ r ∈ p, Ch 1 r
  one : fsum p = 1
theorem dot3_fd {W : Nat} {p ws ps : List Rat} (hp : PriorOk W p) (hw : ∀ r ∈ ws, Ch 6 r) (hy : ∀ r ∈ ps, Fd 1 4 r) : ∀ r ∈ dot3 p ws ps, Fd 8 4 r := fun r hr => by
  obtain ⟨x, hx, y, hy', z, hz, rfl⟩ := dot3_mem hr
  exact Fd.mul ((hp.ch x hx).prod (hw y hy')) (hy z hz)
theorem payF_fd {W : Nat} {p ws ps : List Rat} (hp : PriorOk W p) (h5 : W ≤ 5) (hl : ws.length = W) (hw : ∀ r ∈ ws, Ch 6 r) (hy : PaysOk W ps) : Fd 8 20 (payF p ws ps) := by
  have z := fd_sum (dot3_fd hp hw hy.fd)
  rw [dot3_len hp.len hl hy.len] at z
  exact z.mono (Nat.le_refl _) (by omega)
/-- how much at most -/
def MB : Nat → Nat
  | 0 => 0
  | n + 1 => 60 * (20 + MB n)
theorem mb_le : ∀ n, n ≤ 9 → MB n ≤ 2 ^ 70 := by
  intro n h
  have h' : ∀ k : Fin 10, MB k.val ≤ 2 ^ 70 := by decide +kernel
  exact h' ⟨n, by omega⟩
theorem zip_fd {α β : Type} {f : α → β → Rat} {R : α → β → Prop} {k m : Nat} (h : ∀ a b, R a b → Fd k m (f a b)) : ∀ {as : List α} {bs : List β}, Al R as bs → ∀ r ∈ List.zipWith f as bs, Fd k m r
  | _, _, .nil, r, hr => by simp at hr
  | _, _, .cons x t, r, hr => by
    rw [List.zipWith_cons_cons] at hr
    rcases List.mem_cons.mp hr with rfl | hr
    · exact h _ _ x
    · exact zip_fd h t r hr
theorem zip_len {α β γ : Type} {f : α → β → γ} {R : α → β → Prop} : ∀ {as : List α} {bs : List β}, Al R as bs → (List.zipWith f as bs).length = as.length
  | _, _, .nil => rfl
  | _, _, .cons _ t => by
    rw [List.zipWith_cons_cons, List.length_cons, List.length_cons, zip_len t]
theorem zip_at {α β γ : Type} {f : α → β → γ} {as : List α} {bs : List β} {i : Nat} {a : α} {b : β} (h1 : as[i]? = some a) (h2 : bs[i]? = some b) : (List.zipWith f as bs)[i]? = some (f a b) := by
  rw [List.getElem?_zipWith, h1, h2]
theorem Al.mem {α β : Type} {R : α → β → Prop} {as : List α} {bs : List β} (h : Al R as bs) : Al (fun a b => a ∈ as ∧ b ∈ bs ∧ R a b) as bs := Al.of h.len fun i a b h1 h2 => by
  obtain ⟨b', e1, e2⟩ := h.get h1
  rw [h2] at e1
  cases e1
  exact ⟨List.mem_of_getElem? h1, List.mem_of_getElem? h2, e2⟩
/-- what each part is worth: in bounds -/
theorem paidA_fd0 {W : Nat} {prior : List Rat} (hp : PriorOk W prior) (h5 : W ≤ 5) {n : Nat} (ih : ∀ (ahead : List Rat) (t : Nd n) (tb : Tb n), NdOk W n ahead t → TbOk W n t tb → Fd (8 + n) (MB n) (paidT prior n t tb)) {ahead : List Rat} {q : Qn n} {rs : List (Rw n)} (qok : QnOk W ahead q) (nok : ∀ a ∈ q, NdOk W n a.2.1 a.2.2) (hal : Al (fun (a : An n) (r : Rw n) => PaysOk W r.1 ∧ TbOk W n a.2.2 r.2) q rs) : ∀ z ∈ List.zipWith (paidA prior n) q rs, Fd (8 + n) (20 + MB n) z := by
  refine zip_fd (fun a r ⟨ha, _, hpay, htb⟩ => ?_) hal.mem
  have f1 := payF_fd hp h5 (qok.wide a ha) (qok.chs a ha) hpay
  have f2 := ih _ _ _ (nok a ha) htb
  exact (f1.mono (by omega) (Nat.le_refl _)).add f2
theorem paidQ_fd0 {W : Nat} {prior : List Rat} (hp : PriorOk W prior) (h5 : W ≤ 5) {n : Nat} (ih : ∀ (ahead : List Rat) (t : Nd n) (tb : Tb n), NdOk W n ahead t → TbOk W n t tb → Fd (8 + n) (MB n) (paidT prior n t tb)) {ahead : List Rat} {qs : List (Qn n)} {xs : List (Ask n)} (ok : NdOk W (n + 1) ahead qs) (c1 : ∀ x ∈ xs, Ch 1 x.1) (al : Al (fun (q : Qn n) (x : Ask n) => Al (fun (a : An n) (r : Rw n) => PaysOk W r.1 ∧ TbOk W n a.2.2 r.2) q x.2) qs xs) : ∀ z ∈ List.zipWith (paidQ prior n) qs xs, Fd (8 + (n + 1)) (12 * (20 + MB n)) z := by
  refine zip_fd (fun q x ⟨hq, hx, hal⟩ => ?_) al.mem
  have s := fd_sum (paidA_fd0 hp h5 ih (ok.2 q hq).1 (ok.2 q hq).2 hal)
  rw [zip_len hal] at s
  have o12 := (ok.2 q hq).1.most
  have := Fd.mul (c1 x hx) (s.mono (Nat.le_refl _) (Nat.mul_le_mul_right _ o12))
  exact this.mono (by omega) (Nat.le_refl _)
theorem paid_fd {W : Nat} {prior : List Rat} (hp : PriorOk W prior) (h5 : W ≤ 5) : ∀ (n : Nat) (ahead : List Rat) (t : Nd n) (tb : Tb n), NdOk W n ahead t → TbOk W n t tb → Fd (8 + n) (MB n) (paidT prior n t tb)
  | 0, _, _, _, _, _ => fd_zero
  | n + 1, ahead, qs, xs, ok, tok => by
    show Fd (8 + (n + 1)) (MB (n + 1)) (fsum (List.zipWith (paidQ prior n) (show List (Qn n) from qs) (show List (Ask n) from xs)))
    have z := fd_sum (paidQ_fd0 hp h5 (paid_fd hp h5 n) ok tok.1 tok.2.2)
    rw [zip_len tok.2.2] at z
    refine z.mono (Nat.le_refl _) ?_
    have l5 : (show List (Qn n) from qs).length ≤ 5 := ok.1
    show (show List (Qn n) from qs).length * (12 * (20 + MB n)) ≤ 60 * (20 + MB n)
    have := Nat.mul_le_mul_right (12 * (20 + MB n)) l5
    omega
theorem paidA_fd {W : Nat} {prior : List Rat} (hp : PriorOk W prior) (h5 : W ≤ 5) {n : Nat} {ahead : List Rat} {q : Qn n} {rs : List (Rw n)} (qok : QnOk W ahead q) (nok : ∀ a ∈ q, NdOk W n a.2.1 a.2.2) (hal : Al (fun (a : An n) (r : Rw n) => PaysOk W r.1 ∧ TbOk W n a.2.2 r.2) q rs) : ∀ z ∈ List.zipWith (paidA prior n) q rs, Fd (8 + n) (20 + MB n) z := paidA_fd0 hp h5 (paid_fd hp h5 n) qok nok hal
theorem paidQ_fd {W : Nat} {prior : List Rat} (hp : PriorOk W prior) (h5 : W ≤ 5) {n : Nat} {ahead : List Rat} {qs : List (Qn n)} {xs : List (Ask n)} (ok : NdOk W (n + 1) ahead qs) (c1 : ∀ x ∈ xs, Ch 1 x.1) (al : Al (fun (q : Qn n) (x : Ask n) => Al (fun (a : An n) (r : Rw n) => PaysOk W r.1 ∧ TbOk W n a.2.2 r.2) q x.2) qs xs) : ∀ z ∈ List.zipWith (paidQ prior n) qs xs, Fd (8 + (n + 1)) (12 * (20 + MB n)) z := paidQ_fd0 hp h5 (paid_fd hp h5 n) ok c1 al
end Tl
namespace Tl
open PySem PySem.Spec PyProof.Rows L2 RZ
def spMul (K : PySem.W.Frag) : Sp := fun vs H Q _ => ∃ (x y : V) (p q : Rat), vs = [x, y] ∧ Td K H x (rD p) ∧ Td K H y (rD q) ∧ Sm p ∧ Sm q ∧ ∀ v H', Same H H' → Td K H' v (rD (p * q)) → Q v H'
def spFractions (K : PySem.W.Frag) : Sp := fun vs H Q _ => ∃ (v : V) (ws : List Rat), vs = [v, .int ((ws.length : Nat) : Int)] ∧ Td K H v (wsD ws) ∧ ws.length ≤ 100 ∧ ∀ H', Same H H' → Q (.bl true) H'
def spPrior (K : PySem.W.Frag) : Sp := fun vs H Q _ => ∃ (v : V) (p : List Rat) (W : Nat), vs = [v, .int (W : Int)] ∧ Td K H v (wsD p) ∧ PriorOk W p ∧ W ≤ 5 ∧ ∀ H', Same H H' → Q (.bl true) H'
def spTbl (K : PySem.W.Frag) (n : Nat) : Sp := fun vs H Q _ => ∃ (W : Nat) (v u : V) (ahead : List Rat) (t : Nd n) (tb : Tb n), vs = [v, u, .int (W : Int)] ∧ Td K H v (tbD n tb) ∧ Td K H u (ndD n t) ∧ W ≤ 5 ∧ NdOk W n ahead t ∧ TbOk W n t tb ∧ ∀ H', Same H H' → Q (.bl true) H'
def spPaying (K : PySem.W.Frag) (n : Nat) : Sp := fun vs H Q _ => ∃ (W : Nat) (v u : V) (a : An n) (r : Rw n), vs = [v, u, .int (W : Int)] ∧ Td K H v (rwD n r) ∧ Td K H u (anD n a) ∧ W ≤ 5 ∧ NdOk W n a.2.1 a.2.2 ∧ PaysOk W r.1 ∧ TbOk W n a.2.2 r.2 ∧ ∀ H', Same H H' → Q (.bl true) H'
def spAsking (K : PySem.W.Frag) : Nat → Sp
  | 0 => fun _ _ _ _ => False
  | n + 1 => fun vs H Q _ => ∃ (W : Nat) (v u : V) (q : Qn n) (x : Ask n), vs = [v, u, .int (W : Int)] ∧ Td K H v (askD n x) ∧ Td K H u (qnD n q) ∧ W ≤ 5 ∧ q.length ≤ 12 ∧ Ch 1 x.1 ∧ (∀ a ∈ q, NdOk W n a.2.1 a.2.2) ∧ Al (fun (a : An n) (r : Rw n) => PaysOk W r.1 ∧ TbOk W n a.2.2 r.2) q x.2 ∧ ∀ H', Same H H' → Q (.bl true) H'
def spPF (K : PySem.W.Frag) : Sp := fun vs H Q _ => ∃ (W : Nat) (vp vw vy : V) (prior ws ps : List Rat), vs = [vp, vw, vy] ∧ Td K H vp (wsD prior) ∧ Td K H vw (wsD ws) ∧ Td K H vy (wsD ps) ∧ PriorOk W prior ∧ W ≤ 5 ∧ ws.length = W ∧ (∀ r ∈ ws, Ch 6 r) ∧ PaysOk W ps ∧ ∀ v H', Same H H' → Td K H' v (rD (payF prior ws ps)) → Q v H'
def spPA (K : PySem.W.Frag) (n : Nat) : Sp := fun vs H Q _ => ∃ (W : Nat) (vp v u : V) (prior ahead : List Rat) (t : Nd n) (tb : Tb n), vs = [vp, v, u] ∧ Td K H vp (wsD prior) ∧ Td K H v (ndD n t) ∧ Td K H u (tbD n tb) ∧ PriorOk W prior ∧ W ≤ 5 ∧ NdOk W n ahead t ∧ TbOk W n t tb ∧ n ≤ 6 ∧ ∀ r H', Same H H' → Td K H' r (rD (paidT prior n t tb)) → Q r H'
theorem td_inj {K : PySem.W.Frag} {H : Hp} {a : Addr} (h : SqT K H a [.int 1, .int 1]) : Td K H (.ref a) (rD 1) := by
  rw [rD_one]
  exact .tup h (tdAll_ints [1, 1])
theorem rat_le_one {q : Rat} (h : q ≤ 1) : q.num ≤ (q.den : Int) := by
  have a := (Rat.le_iff q 1).mp h
  have c : (1 : Rat).num = 1 := rfl
  have d : (1 : Rat).den = 1 := rfl
  rw [c, d] at a
  omega
section
variable {P : Program} {w : World} {K : PySem.W.Frag} {mg : Str → Option Value} {base : Heap} {aN aO : Addr} {t1 t2 t3 t4 t5 t6 t7 : Tok}
theorem ok_multiplied {f f1 : Addr} {fd fd1 : FuncData} (D : Dn K mg "multiplied" s_multiplied ["first", "second"] f fd) (B : Blt mg) (C : Cst K mg aN aO t1 t2 t3 t4 t5 t6 t7) (D_reduced : Dn K mg "reduced" s_reduced ["top", "bottom"] f1 fd1) : FnOk P w K mg base CX0 2 f fd ["first", "second"] (spMul K) := by
  have G_reduced : FnOk P w K mg base CX0 1 f1 fd1 ["top", "bottom"] (spReduced K) := ok_reduced D_reduced B C
  refine D.F.ok sc_multiplied (fun vs H Q E h => ?_) (fun cdv A outer s H vs Q E hr h => ?_)
  · obtain ⟨x, y, p, q, rfl, _⟩ := h
    rfl
  obtain ⟨x, y, p, q, rfl, hx, hy, z1, z2, k⟩ := h
  have nd := sc_multiplied.nd
  refine ⟨_, (pss_one (ps_ret (pe_call G_reduced (hr.mono (by omega)) (by rfl) D_reduced.m D_reduced.F.kp D_reduced.b .nil pass0 (pa_cons (pe_op op_mulW (pe_ix (k_ixT (K := K) rfl) (pv 0) pe_int (fun _ _ => rfl)) (pe_ix (k_ixT (K := K) rfl) (pv 1) pe_int (fun _ _ => rfl))) (pa_cons (pe_op op_mulW (pe_ix (k_ixT (K := K) rfl) (pv 0) pe_int (fun _ _ => rfl)) (pe_ix (k_ixT (K := K) rfl) (pv 1) pe_int (fun _ _ => rfl))) pa_nil))))), ?_⟩
  obtain ⟨a, rfl, ha⟩ := hx.rE
  obtain ⟨b, rfl, hb⟩ := hy.rE
  have i0 : atI [V.int p.num, .int (p.den : Int)] 0 = some (.int p.num) := at_of (j := 0) rfl rfl
  have i1 : atI [V.int p.num, .int (p.den : Int)] 1 = some (.int (p.den : Int)) := at_of (j := 1) rfl rfl
  have j0 : atI [V.int q.num, .int (q.den : Int)] 0 = some (.int q.num) := at_of (j := 0) rfl rfl
  have j1 : atI [V.int q.num, .int (q.den : Int)] 1 = some (.int (q.den : Int)) := at_of (j := 1) rfl rfl
  have hp0 : 0 < p.den := Nat.pos_of_ne_zero p.den_nz
  have hq0 : 0 < q.den := Nat.pos_of_ne_zero q.den_nz
  have dp : ((p.den : Int)).natAbs < 2 ^ 1500 := by rw [Int.natAbs_natCast]; exact z1.1
  have dq : ((q.den : Int)).natAbs < 2 ^ 1500 := by rw [Int.natAbs_natCast]; exact z2.1
  have c1 : CMulW p.num q.num := wide_mul z1.2 z2.2 (by decide) (by decide) (by decide)
  have c3 : CMulW (p.den : Int) (q.den : Int) := wide_mul dp dq (by decide) (by decide) (by decide)
  refine ⟨_, rfl, a, _, 0, _, rfl, rfl, ha, i0, _, rfl, b, _, 0, _, rfl, rfl, hb, j0, _, _, rfl, rfl, c1, _, rfl, a, _, 1, _, rfl, rfl, ha, i1, _, rfl, b, _, 1, _, rfl, rfl, hb, j1, _, _, rfl, rfl, c3, ?_⟩
  refine ⟨p.num * q.num, p.den * q.den, by rw [Int.natCast_mul]; rfl, Nat.mul_pos hp0 hq0, ?_, fun v H' s' hv => k v H' s' ?_⟩
  · have z := Nat.mul_lt_mul'' z1.1 z2.1
    rw [← Nat.pow_add] at z
    exact Nat.lt_trans z (Nat.pow_lt_pow_right (by decide) (by decide))
  · rw [← Rat.mkRat_mul_mkRat, rat_mk, rat_mk] at hv
    exact hv
end
end Tl
/-! dicts whose keys are tuples of tuples: get with a default, a walk over items() -/
namespace Tl
open PySem PySem.Spec PyProof.Rows L2 RZ
def tDGet2N (K : PySem.W.Frag) (w : World) (td ty tx : TE) : TE := fun σ H Q => td σ H fun x H1 => ∃ d n f, x = .ref d ∧ NDc K w H1 d n f ∧ ty σ H1 fun y H2 => tx σ H2 fun z H3 => ∃ k n3, NDc K w H3 d n3 f ∧ Td K H3 y (NestedKey.data k) ∧ (∃ b, y = .ref b) ∧ k.depth ≤ 8 ∧ Q ((f k).getD z) H3
section
variable {X : Cx} {K : PySem.W.Frag} {w : World} (hK : X.K = K) (hw : X.w = w)
include hK hw
theorem k_dget2N {o e e2 : Expr} {td ty tx : TE} {apos cpos : Pos} (hu : X.A.units + 64 < cLine) (ho : PE X o td) (he : PE X e ty) (hf : PE X e2 tx) (m : M2 X o "get" apos e e2 cpos) : PE X (.Call (.Attribute o "get" apos) [e, e2] [] cpos) (tDGet2N K w td ty tx) := by
  subst hK hw
  refine ⟨fun pins s σ H Q I h => ?_⟩
  refine wpAny_Call_method m.base m.few m.line PySem.F.plainAttrs_dict PySem.F.slot_dict_get PySem.F.type_dict_get (thn (ho.run pins s σ H _ I h) fun u s1 ⟨x, H1, I1, rx, d, n, f, ex, D, q1⟩ => ?_)
  subst ex
  obtain rfl : u = Value.ref d := rx
  obtain ⟨xs, dd, _, hsm, _⟩ := D.of I1
  refine ⟨dd.typeIs, fun b q => ?_, ?_⟩
  · cases q
    obtain ⟨ob, _, _, h1, h2, _⟩ := dd
    exact ⟨ob, h1, h2.2.1⟩
  rw [m.trees]
  refine Calls.callWith_builtin rfl (Calls.evalArgs_plain (Calls.spliced_cons (thn (he.run pins s1 σ H1 _ I1 q1) fun iv s2 ⟨y, H2, I2, ry, q2⟩ =>
    Calls.spliced_cons (thn (hf.run pins s2 σ H2 _ I2 q2) fun fv s3 ⟨z, H3, I3, rz, k, n3, D3, tk, hb, hd, q3⟩ => Calls.spliced_nil ?_))))
  obtain ⟨b, rfl⟩ := hb
  cases (show iv = Value.ref b from ry)
  obtain ⟨xs3, dd3, _, hsm3, _, _, _, h6⟩ := D3.of I3
  refine call_meetsIn PySem.F.slot_dict_get dd3.typeIs PySem.F.entry_dict_get (PySem.F.args_dict_get_3 _ _ _) (meetsH_dict_get_default (nestedKind X.prog X.w) d b hsm3 fv) ⟨?_, k, xs3, ⟨nested_is I3 k _ _ tk rfl, hd⟩, dd3, ?_⟩
  · show X.A.in1.units + 8 < cLine
    have : X.A.in1.units = X.A.units + 1 := rfl
    omega
  · exact ⟨_, H3, I3.tok _, (h6 k).getD rz, q3⟩
end
/-- the pairs of the locked dict at d, each a new tuple -/
def ItN (w : World) (d : Addr) (od : Obj) (xs : List (NestedKey × Addr × Value)) (f : NestedKey → Option V) : It :=
  ⟨fun i H => H d = some (.frz od (ndo w d xs)) ∧ i < xs.length, fun i H x H' => ∃ T y v, xs[i]? = some y ∧ f y.1 = some v ∧ x = .ref T ∧ H T = none ∧ H' = upd H T (.tup [.ref y.2.1, v]), fun i H => H d = some (.frz od (ndo w d xs)) ∧ xs.length ≤ i⟩
theorem walk_itemsN {w : World} {d : Addr} {od : Obj} {xs : List (NestedKey × Addr × Value)} {f : NestedKey → Option V} : Walk (ItN w d od xs f) xs.length (fun H => H d = some (.frz od (ndo w d xs))) (fun i H x H' => ∃ T y v, xs[i]? = some y ∧ f y.1 = some v ∧ x = .ref T ∧ H T = none ∧ H' = upd H T (.tup [.ref y.2.1, v])) :=
  ⟨fun i H hi h => ⟨h, hi⟩, fun H h => ⟨h, Nat.le_refl _⟩, fun i H x H' _ _ y => y⟩
theorem atKey_mem {xs : List (NestedKey × Addr × Value)} (nd : (xs.map (·.1)).Nodup) : ∀ {y}, y ∈ xs → atKey xs y.1 = some y.2 := by
  induction xs with
  | nil => intro y h; exact absurd h List.not_mem_nil
  | cons x r ih =>
    intro y h
    rw [List.map_cons, List.nodup_cons] at nd
    rw [atKey_cons]
    rcases List.mem_cons.mp h with rfl | h
    · rw [if_pos rfl]
    · rw [if_neg (fun z : x.1 = y.1 => nd.1 (by rw [z]; exact List.mem_map.mpr ⟨y, h, rfl⟩))]
      exact ih nd.2 h
theorem inv_frzN {X : Cx} {pins : List (Addr × Obj)} {σ : L2.St} {H : Hp} {s : Shared} {d : Addr} {od : Obj} {xs : List (NestedKey × Addr × Value)} (I : Inv X pins σ H s) (h : H d = some (.frz od (ndo X.w d xs))) :
    s.heap.get? d = some od ∧ od.ExactDict ∧ ∃ es ep, od.data = .dict es ep ∧ es.size = xs.length ∧ ∀ i y, xs[i]? = some y → ∃ hi : i < es.size, es[i].key = .ref y.2.1 ∧ es[i].val = y.2.2 := by
  obtain ⟨hd, ⟨o, es, ep, e1, e2, e3, e4⟩, _⟩ := I.hok d _ h
  rw [hd] at e1
  cases e1
  have hl : es.size = xs.length := by rw [← Array.length_toList, e4, List.length_map]
  refine ⟨hd, e2, es, ep, e3, hl, fun i y hy => ?_⟩
  have hi : i < es.size := by rw [hl]; exact (List.getElem?_eq_some_iff.mp hy).1
  have e := congrArg (fun l => l[i]?) e4
  simp only [List.getElem?_map, hy, Option.map_some, Array.getElem?_toList, Array.getElem?_eq_getElem hi] at e
  have e' := Option.some.inj e
  exact ⟨hi, by rw [e'], by rw [e']⟩
theorem turn_itemsN {P : Program} {w : World} {K : PySem.W.Frag} {d : Addr} {od : Obj} {xs : List (NestedKey × Addr × Value)} {f : NestedKey → Option V} {elts : List Expr} {kk : Nat} {tpos : Pos} {es : Array DictEntry} {ep : Nat} (it : Addr) (hod : od.data = .dict es ep) (nd : (xs.map (·.1)).Nodup) (hf6 : ∀ k, RelO (f k) ((atKey xs k).map (·.2))) :
    Turn P w K (.Tuple elts kk tpos) (ItN w d od xs f) [it] it (fun i h => ∃ ok ov, IsItemIter h it d i xs.length ep ok ov) where
  mem := by simp
  obj := fun i h st b hb => by
    have e : b = it := by simpa using hb
    subst e
    obtain ⟨ok, ov, e⟩ := st
    exact ⟨_, e, fun v z => nomatch z⟩
  keep := fun i h h' st k => let ⟨ok, ov, e⟩ := st; ⟨ok, ov, k it (by simp) _ e⟩
  item := by
    intro X hP hw hK hc i pins s σ H E I hf st hg
    subst hP hw hK
    obtain ⟨hd, hi⟩ := hg
    obtain ⟨hgd, hx, es', ep', hdt, hsz, ent⟩ := inv_frzN I hd
    obtain ⟨rfl, rfl⟩ := dict_ep hod hdt
    obtain ⟨y, hy⟩ : ∃ p, xs[i]? = some p := ⟨xs[i], List.getElem?_eq_getElem hi⟩
    obtain ⟨hi2, ek, ev⟩ := ent i y hy
    obtain ⟨v, hv, ru⟩ : ∃ v, f y.1 = some v ∧ RelV v y.2.2 := by
      have z := hf6 y.1
      rw [atKey_mem nd (List.mem_of_getElem? hy)] at z
      cases e : f y.1 with
      | none =>
        rw [e] at z
        exact absurd z id
      | some v =>
        rw [e] at z
        exact ⟨v, rfl, z⟩
    obtain ⟨ok, ov, he⟩ := st
    rw [← hsz] at he
    have hlt : it < s.heap.objs.size := Heap.lt_size he
    refine wpAny_pyNext_items_item_raw he ⟨od, hgd, hx, hod⟩ hi2 fun h' ho hT hz hk => ?_
    rw [ek, ev] at ho hT
    refine ⟨_, rfl, wpAny_letOwnedTupleGo_items (s := { s with heap := h' }) ho fun h'' he' sb => ?_⟩
    have hT2 : h''.get? s.heap.objs.size = some { cls := .type "tuple", data := .seq #[.ref y.2.1, y.2.2] } := (sb.2 _ (Nat.ne_of_gt hlt)).trans hT
    have new : ObjOk X.prog X.w (upd H s.heap.objs.size (.tup [.ref y.2.1, v])) h'' s.heap.objs.size (.tup [.ref y.2.1, v]) :=
      ⟨by show 2 ≤ sizeLine; decide, [.ref y.2.1, y.2.2], .cons rfl (.cons ru .nil), ⟨_, hT2, rfl, _, rfl⟩⟩
    have I1 : Inv X pins σ (upd H s.heap.objs.size (.tup [.ref y.2.1, v])) { s with heap := h'' } :=
      I.turnedNew (t' := s.toks) (ch := [it]) (fun b ob hb e => (sb.2 b (by simpa using hb)).trans (hk b ob (by simpa using hb) e)) hf (Nat.le_refl _) new
    refine ⟨.ref s.heap.objs.size, _, I1, rfl, ⟨_, y, v, hy, hv, rfl, I.hok.fresh (Nat.le_refl _), rfl⟩, ⟨.ref y.2.1, y.2.2, ?_⟩, fun b hb => ?_⟩
    · rw [← hsz]; exact he'
    · have e : b = it := by simpa using hb
      rw [e, upd_ne (Nat.ne_of_lt hlt)]
      exact (hf it (by simp)).1
  done := by
    intro X hP hw hK hc i pins s σ H E I hf st hg
    subst hP hw hK
    obtain ⟨hd, hi⟩ := hg
    obtain ⟨f0, f1, f2, f3, f4, f5⟩ := hf it (by simp)
    obtain ⟨hgd, hx, es', ep', hdt, hsz, ent⟩ := inv_frzN I hd
    obtain ⟨rfl, rfl⟩ := dict_ep hod hdt
    obtain ⟨ok, ov, he⟩ := st
    rw [← hsz] at he
    exact wpAny_pyNext_items_end_raw (I.ok.hd hc) he ⟨od, hgd, hx, hod⟩ (by omega) fun h' eb => ⟨rfl, I.turned (t' := s.toks) (fun b ob hb e => eb b ob hb e) f0 f1 f3 f4 f5⟩
  self := fun A i s Q E st h => let ⟨_, _, e⟩ := st; PySem.W.kcp_self e h
def iItemsN (w : World) (td : TE) : TI := fun σ H R => td σ H fun x H1 => ∃ d xs f, x = .ref d ∧ H1 d = some (ndo w d xs) ∧ (d == sysModules) = false ∧ (xs.map (·.1)).Nodup ∧ (∀ k, RelO (f k) ((atKey xs k).map (·.2))) ∧ ∀ od, R (ItN w d od xs f) (upd H1 d (.frz od (ndo w d xs)))
section
variable {X : Cx} {K : PySem.W.Frag} {w : World} (hK : X.K = K) (hw : X.w = w)
include hK hw
theorem k_itemsN {e : Expr} {td : TE} {apos cpos : Pos} {elts : List Expr} {kk : Nat} {tpos : Pos} (he : PE X e td) (hbase : attributeBase e "items" X.env (eval e X.env) = eval e X.env := by rfl) (hline : (apos.endLine == cpos.line) = true := by rfl) :
    PI X (.Tuple elts kk tpos) (.Call (.Attribute e "items" apos) [] [] cpos) (iItemsN w td) := by
  subst hK hw
  refine ⟨fun pins s σ H R I h => ?_⟩
  refine wpAny_Call_method (T := "dict") (id := "dict.items") hbase rfl hline F.plainAttrs_dict F.slot_dict_items F.type_dict_items (thn (he.run pins s σ H _ I h) fun u s1 ⟨x, H0, I0, rx, d, xs, f, ex, hd0, hs, nd, hf6, q0⟩ => ?_)
  subst ex
  obtain rfl : u = Value.ref d := rx
  obtain ⟨o, I1⟩ := I0.lock hd0 True.intro
  have q := q0 o
  have hd : upd H0 d (.frz o (ndo X.w d xs)) d = some (.frz o (ndo X.w d xs)) := upd_same
  generalize upd H0 d (.frz o (ndo X.w d xs)) = H1 at I1 q hd
  obtain ⟨hgd, hx, es, ep, hdt, hsz, ent⟩ := inv_frzN I1 hd
  have raw : s1.heap.DictRaw d es ep := ⟨o, hgd, hx, hdt⟩
  refine ⟨raw.typeIs, fun b q => by cases q; exact ⟨o, hgd, hx.2.1⟩, ?_⟩
  have I2 : Inv X pins σ H1 { s1 with heap := s1.heap.push { cls := .type "dict_items", data := .fields #[.ref d] } } := I1.kept (t' := s1.toks) fun b ob q => Heap.get?_push_of_some _ q
  have fin : wpAny (model X.prog X.w) X.A (pyIter (.ref s1.heap.objs.size)) (PIE X pins σ (.Tuple elts kk tpos) R) X.xe { s1 with heap := s1.heap.push { cls := .type "dict_items", data := .fields #[.ref d] } } := by
    refine wpAny_pyIter_items_raw (d := d) ⟨_, Heap.get?_push_size _ rfl, rfl, rfl⟩ (raw.at fun o q => Heap.get?_push_of_some _ q) (pi_one (tk := s1.toks) I2 _ (turn_itemsN _ hdt nd hf6) ⟨.none, .none, ?_⟩ q)
    rw [← hsz]
    exact Heap.get?_push_size _ rfl
  show wpAny _ _ (callWith cpos (.builtin "dict.items") [.ref d] [] []) _ X.xe s1
  exact method_meetsIn F.slot_dict_items F.entry_dict_items rfl (PySem.evalArgs_none ⟨rfl, raw.typeIs, F.args_dict_items_1 _, _, meets_dict_items_raw d hs, ⟨es, ep, raw⟩, fin⟩)
end
end Tl
/-! x != y of two objects of one class with its own ==, without its own != -/
namespace Tl
open PySem PySem.Spec PyProof.Rows L2 RZ PySem.W
section
variable {prog : Program} {w : World} {A : Around} {E : Value → Shared → Prop} {s : Shared} {K : PySem.W.Frag} {x y C f L : Addr} {h₀ : Heap} {m : Str → Option Value} {ox oy : Obj} {od od' : Option Obj}
theorem objNe_K (X : K.In s.heap) (I : InstAt s.heap x ox C od) (hs : findIn K (.ref C) "__eq__" = some (some (.ref f))) (hf : isFn K (.ref f) = true) (hu : A.units < cLine) {Q : Fin → Shared → Prop}
    (hcall : wpAny (model prog w) A (PySem.call (.ref f) [.ref x, .ref y]) (fun v s' => ∃ b, v = .bool b ∧ Q (.done (.ret (.bool (!b)))) s') E s) :
    wpAny (model prog w) A (Builtin.«object.__ne__» ⟨[.ref x, .ref y], []⟩) Q E s := by
  unfold Builtin.«object.__ne__»
  repeat (first
    | with_reducible refine wpAny_cRoomFor hu ?_
    | (refine wpAny_bind (m := callSpecialIfBound? (.ref x) (Str.ofString "__eq__") [.ref y])
        (ifBound_K X I hs hf (wpAny_mono hcall (fun r s' hr => by
          obtain ⟨b, rfl, hq⟩ := hr
          repeat (first | exact hq | exact wpAny_pure hq | exact wpAny_truthy_bool hq | (refine wpAny_bind (m := truthy (.bool _)) (wpAny_truthy_bool ?_)) | wp_step)) fun _ _ e => e)))
    | wp_step)
theorem ne_K {Q : Value → Shared → Prop} (hu : A.units + 1 < cLine) (F : Fr h₀ L s.heap m) (X₀ : K.In h₀) (I : InstAt s.heap x ox C od) (I' : InstAt s.heap y oy C od') (hn : findIn K (.ref C) "__ne__" = some (some (.builtin "object.__ne__"))) (hm : mroIn K C (.type "object") = some true)
    (hs : findIn K (.ref C) "__eq__" = some (some (.ref f))) (hf : isFn K (.ref f) = true)
    (hcall : wpAny (model prog w) A.in1 (PySem.call (.ref f) [.ref x, .ref y]) (fun v s' => ∃ b, v = .bool b ∧ Q (.bool (!b)) s') E s) : wpAny (model prog w) A (richCompare .NotEq (.ref x) (.ref y)) Q E s := by
  have X := X₀.keeps F.keep
  have one : wpAny (model prog w) A (tryCompare (.ref x) (cmpInfo .NotEq).2.1 (.ref y)) (fun r s' => ∃ v, r = some v ∧ Q v s') E s := by
    unfold tryCompare
    have sp : Looks (model prog w) s.heap (specialOf (.ref x) "__ne__") (some (.builtin "object.__ne__")) := I.type.andThen (looks_findIn X hn)
    have iv : Looks (model prog w) s.heap (isInstance (.ref x) (.type "object")) true := I.type.andThen (looks_mroIn X hm)
    refine wpAny_bind (NtL.csib sp (PySem.F.slot_object_ne.bind _) (wpAny_call (codeAny_call_builtin PySem.F.slot_object_ne.plain PySem.F.entry_object_ne (@check_slot (model prog w) _ _ _ "object.__ne__" "object" "__ne__" (.ref x) [.ref y] [] _ (by decide +kernel) (by decide +kernel) iv (PySem.F.args_object_ne_2 _ _) ?_))))
    refine objNe_K X I hs hf (by exact hu) (wpAny_mono hcall (fun v s' hv => ?_) fun _ _ e => e)
    obtain ⟨b, rfl, hq⟩ := hv
    exact ⟨b, rfl, wpAny_pure ⟨_, rfl, hq⟩⟩
  unfold richCompare
  simp only [oneThing_ref]
  refine wpAny_holding (wpAny_bind (wpAny_cRoomFor (Nat.lt_of_succ_lt hu) ?_))
  refine wpAny_bind (I.type.here (wpAny_bind (I'.type.here ?_)))
  split
  · rename_i q
    simp at q
  · refine wpAny_bind (wpAny_pure ?_)
    simp only [Bool.false_eq_true, if_false]
    refine wpAny_bind (wpAny_mono one (fun r s' z => ?_) fun _ _ e => e)
    obtain ⟨v, rfl, hq⟩ := z
    exact wpAny_pure hq
end
end Tl
namespace Tl
open PySem PySem.Spec PyProof.Rows L2 RZ
section
variable {X : Cx} {n : Nat}
/-- x != y, the two being equal -/
def rNeG (D : Eqv) : R2 := fun x y H Q => D x y H ∧ ∀ H', Ext H H' → Q (.bl false) H'
theorem op_neG {CX : CXT} {C f : Addr} {fd : FuncData} {ps : List Str} {R : Addr → Addr → Hp → Prop} {E : XK} (F : FnOk X.prog X.w X.K X.mg X.base CX n f fd ps (spEq R))
    (hn : PySem.W.findIn X.K (.ref C) "__ne__" = some (some (.builtin "object.__ne__"))) (hm : PySem.W.mroIn X.K C (.type "object") = some true)
    (hs : PySem.W.findIn X.K (.ref C) "__eq__" = some (some (.ref f))) (hf : PySem.W.isFn X.K (.ref f) = true) (hb : Binds X.K fd ps []) (hx : Passes CX X E) (hr0 : Room (n + 1) X.A) : OpR X (compareOp .NotEq) (rNeG (DIns C R)) := by
  intro pins s σ H x y v u Q I rx ry hq
  obtain ⟨d, q⟩ := hq
  show wpAny (model X.prog X.w) X.A (richCompare .NotEq v u) (EP X pins σ Q) X.xe s
  obtain ⟨a, b, dx, dy, fs, gs, rfl, rfl, ha, hb', hr⟩ := d
  cases rx
  cases ry
  obtain ⟨mA, J, _⟩ := ins_get I.hok ha
  obtain ⟨mB, J', _⟩ := ins_get I.hok hb'
  obtain ⟨od, J, _⟩ := J.look
  obtain ⟨od', J', _⟩ := J'.look
  obtain ⟨m, hF⟩ := I.fr
  refine ne_K (hr0.in1.units0) hF I.ok.mod.kin J J' hn hm hs hf ?_
  have hsp : spEq R [.ref a, .ref b] H (fun v H' => v = .bl true ∧ Ext H H') E := ⟨a, b, rfl, hr, fun H' e => ⟨rfl, e⟩⟩
  have e0 : Env0 X.prog X.w X.K X.mg X.base X.A.in1 X.stack s H := by
    have e := I.env0
    exact ⟨e.frames, e.mod, e.bs, e.bsz, e.funs, e.frf, e.hok, e.bare⟩
  have hl := F.len _ _ _ _ hsp
  have r2 : Vals [V.ref a, V.ref b] [Value.ref a, Value.ref b] := .cons rfl (.cons rfl .nil)
  refine wpAny_call (codeAny_mono (F.run X.A.in1 X.stack s H ⟨[.ref a, .ref b], []⟩ [.ref a, .ref b] [.ref a, .ref b] _ E hr0.in1 e0 (by
    have := hb s [.ref a, .ref b] I.kIn (by simpa using hl)
    simpa using this) r2 hsp) fun r s' hq => ?_)
  cases r with
  | error e => exact hx pins σ H s e s' I hq
  | ok fl =>
    cases fl with
    | ret w =>
      obtain ⟨z, H', I', rz, ez, ex⟩ := I.after hq
      subst ez
      cases rz
      exact ⟨true, rfl, .bl false, H', I', rfl, q H' ex⟩
    | next => exact False.elim hq
    | brk => exact False.elim hq
    | cont => exact False.elim hq
end
end Tl
/-! try with several clauses, each with a name; raise X(); items() and list() of dicts of ints -/
namespace Tl
open PySem PySem.Spec PyProof.Rows L2 RZ
/-- what named clauses wish, one behind the other: the class, the slot, the suite -/
def wTry (K : PySem.W.Frag) (Wout : WX) (D : Ends) : List (Value × Nat × (Addr → Value → Option Addr → TS)) → WX
  | [] => Wout
  | x :: r => wAs K x.1 x.2.1 x.2.2 (wTry K Wout D r) D
inductive TryOk (X : Cx) : List ExceptHandler → List (Value × Nat × (Addr → Value → Option Addr → TS)) → Prop
  | nil : TryOk X [] []
  | cons {x n : Str} {c : Value} {i : Nat} {ts : Addr → Value → Option Addr → TS} {s0 : Stmt} {ss : List Stmt} {p p' : Pos} {hs : List ExceptHandler} {l : List (Value × Nat × (Addr → Value → Option Addr → TS))} :
      Names X x c → X.N[i]? = some n → X.env.kindOf n = some .local →
      (∀ (a : Addr) (oe : Obj) (cls : Value) (d : Option Addr) (pn : List (Addr × Obj)), Zc cls d oe → (∃ vs, oe.data = .fields vs) → PSs (X.suite a ((a, oe) :: pn)) (s0 :: ss) (ts a cls d)) →
      TryOk X hs l → TryOk X (.ExceptHandler (some (.Name x p)) (some n) (s0 :: ss) p' :: hs) ((c, i, ts) :: l)
section
variable {X : Cx} {Wout : WX} {D : Ends} {pins : List (Addr × Obj)} {σ : L2.St} {H : Hp} {s₀ : Shared} {e : Addr} {G : Heap} {cls : Value} {d : Option Addr}
/-- the clauses, the exception being on the ground -/
theorem tries_go (hst : X.stack = X.env :: X.outer) (hfm : X.env.frame = some X.env.locals) (nod : X.N.Nodup) (tk : Takes X Wout) (J : Inv X pins σ H s₀) (gr : ∀ b o, s₀.heap.get? b = some o → b ∉ frs X.stack → G.get? b = some o) (na : H e = none) :
    ∀ {hs : List ExceptHandler} {l : List (Value × Nat × (Addr → Value → Option Addr → TS))}, TryOk X hs l → wTry X.K Wout D l cls d σ H →
      ∀ st : Shared, HandSPX.FlyingZ G (X.env :: X.outer) e (Zc cls d) st.heap → s₀.heap.UpToSlots st.heap → st.os = s₀.os → AllBare st.gens →
        wpAny (model X.prog X.w) X.A (handleBy (.ref e) X.env hs) (SP X pins D) X.xe st := by
  intro hs l ok
  induction ok with
  | nil =>
    intro wish st fly up eos gb
    obtain ⟨_, _, _, obj, vals, T, _, _, atE, _, dat, one, _⟩ := id fly
    refine wpAny_handleBy_nil ?_
    unfold PySem.passOn
    refine wpAny_bind (wpAny_field atE dat one ?_)
    have nn : ¬ ((Value.ref T == Value.none) = true) := by simp
    rw [if_neg nn, hfm]
    have away : wpAny (model X.prog X.w) X.A (setFlight (.ref e) (some X.env.locals)) (fun _ s4 => wpAny (model X.prog X.w) X.A (throw (.ref e) : Sem Flow) (SP X pins D) X.xe s4) X.xe st :=
      HandSPX.setFlight_upZ fly fun h4 held up4 => wpAny_throw (tk _ _ ⟨e, G, s₀, pins, σ, H, cls, d, rfl, J, gr, up.trans up4, .inr (.inr (by rw [hst]; exact held)), na, eos, gb, wish⟩)
    first
      | exact wpAny_bind (wpAny_pure (wpAny_bind away))
      | exact wpAny_bind away
  | @cons x n c i ts s0 ss p p' hs l nam hi loc su rest ih =>
    intro wish st fly up eos gb
    obtain ⟨b, hb, yes, no⟩ := wish
    obtain ⟨obj, vals, atE, zc, dat⟩ := fly.there
    have J1 : Inv X pins σ H st := J.landed gr fly.1 up eos gb
    have far : e ∉ frs (X.env :: X.outer) := fun mem => by
      obtain ⟨_, obj', at', other⟩ := fly.2.2.1.mem mem
      rw [atE] at at'
      cases at'
      exact other _ dat
    have notL : e ≠ X.env.locals := fun z => far (List.mem_filterMap.mpr ⟨X.env, List.mem_cons_self, by rw [hfm, z]⟩)
    have notF : e ∉ X.fs := fun mem => by
      obtain ⟨env, h1, h2⟩ := List.mem_filterMap.mp mem
      exact far (List.mem_filterMap.mpr ⟨env, List.mem_cons_of_mem _ h1, h2⟩)
    have S1 := J1.suite atE dat na notL notF
    have ty : PySem.W.Looks (model X.prog X.w) st.heap (typeOf (.ref e)) cls := fun A Q E s k q => wpAny_typeOf_ref (k _ _ atE) (by rw [zc.1]; exact q)
    refine wpAny_handleBy_cons (codeAny_handlers_test ?_) (by intro q; cases q)
    have look : ∀ {Q : Value → Shared → Prop} {E : Value → Shared → Prop}, Q c st → wpAny (model X.prog X.w) (X.A.mark (some (.ref e))) (eval (.Name x p) X.env) Q E st := fun {Q E} q => by
      obtain ⟨g1, g2, g3 | ⟨g3, g4, g5⟩⟩ := nam
      · exact ld_glob (X := X.suite e ((e, obj) :: (X.pn ++ pins))) S1 g1 g3 q g2
      · exact ld_blt (X := X.suite e ((e, obj) :: (X.pn ++ pins))) S1 g1 g3 g4 q g5 g2
    refine look ((PySem.W.exm_one (M := model X.prog X.w) J1.kIn ty hb).here ?_)
    cases b with
    | false => exact ih (no rfl) st fly up eos gb
    | true =>
      refine codeAny_handlers_suite_as (HandSPX.lands_againZ fly fun h4 fly4 up4 => ?_)
      obtain ⟨obj4, vals4, at4, zc4, dat4⟩ := fly4.there
      have J4 : Inv X pins σ H { st with heap := h4 } := J.landed gr fly4.1 (up.trans up4) eos gb
      have S4 := J4.suite at4 dat4 na notL notF
      refine store_ok (X := X.suite e ((e, obj4) :: (X.pn ++ pins))) (v := .ref e) S4 nod hi (.inl loc) rfl (fun s5 S5 => ?_) (.inr loc)
      refine wpAny_mono ((su e obj4 cls d (X.pn ++ pins) zc4 ⟨_, dat4⟩).run [] s5 _ H _ S5 (yes rfl e na)) (fun f s6 hsp => ?_) fun _ _ z => z.elim
      have bye : ∀ {σ6 : L2.St} {H6 : Hp} {Q : Shared → Prop}, Inv (X.suite e ((e, obj4) :: (X.pn ++ pins))) [] σ6 H6 s6 → (∀ s7, Inv X pins (σ6.set i none) H6 s7 → Q s7) →
          wpAny (model X.prog X.w) X.A (do bindName X.env n .none; unbindBehindTheSuite X.env n p') (fun _ s7 => Q s7) X.xe s6 := fun S6 hq => gone_ok (S6.unsuite J.ok) nod hi loc hq
      cases f with
      | ret u =>
        obtain ⟨v6, σ6, H6, S6, r6, q6⟩ := hsp
        exact bye S6 fun s7 J7 => ⟨v6, _, _, J7, r6, q6⟩
      | next =>
        obtain ⟨_, _, S6, q6⟩ := hsp
        exact bye S6 fun s7 J7 => ⟨_, _, J7, q6⟩
      | brk =>
        obtain ⟨_, _, S6, q6⟩ := hsp
        exact bye S6 fun s7 J7 => ⟨_, _, J7, q6⟩
      | cont =>
        obtain ⟨_, _, S6, q6⟩ := hsp
        exact bye S6 fun s7 J7 => ⟨_, _, J7, q6⟩
end
section
variable {X : Cx} {body : List Stmt} {h₀ : ExceptHandler} {hs : List ExceptHandler} {l : List (Value × Nat × (Addr → Value → Option Addr → TS))} {pos : Pos} {tb : WX → TS} {Wout : WX}
theorem ps_tries (hst : X.stack = X.env :: X.outer) (hfm : X.env.frame = some X.env.locals) (nod : X.N.Nodup) (tk : Takes X Wout)
    (hb : ∀ (W : WX) (pn : List (Addr × Obj)) (xe : Value → Shared → Prop), Takes (X.tr pn xe) W → PassesOwn (model X.prog X.w) X.A X.env xe → PSs (X.tr pn xe) body (tb W)) (ok : TryOk X (h₀ :: hs) l) :
    PS X (.Try body (h₀ :: hs) [] [] pos) (fun D σ H => tb (wTry X.K Wout D l) D σ H) := by
  refine ⟨fun pins s σ H D I h => wpAny_Try_except ?_⟩
  have frm : X.A.frames = some (X.env :: X.outer) := by rw [I.ok.frames, hst]
  refine wpAny_mono ((hb (wTry X.K Wout D l) (X.pn ++ pins) (fun z t1 => wpAny (model X.prog X.w) X.A (noteFrame z X.env) (fun _ t2 => wpAny (model X.prog X.w) X.A (setFlight z none) (fun _ t3 =>
    wpAny (model X.prog X.w) X.A (handleBy z X.env (h₀ :: hs)) (SP X pins D) X.xe t3) X.xe t2) X.xe t1) (fun u t xx => ?_) PassesOwn.looking).run [] s σ H D (I.toTry _) h) (fun f t hsp => ?_) fun _ _ z => z
  · obtain ⟨e, G, s₀, _, σ', H', cls, d, rfl, J', gr, up, sky, na, eos, gb, wish⟩ := xx
    have sky' : Sky G (X.env :: X.outer) e (Zc cls d) X.env.locals t.heap := by rw [← hst]; exact sky
    show wpAny (model X.prog X.w) X.A (noteFrame (.ref e) X.env) _ _ _
    exact Sky.land Zc.steady frm hfm sky' fun h3 fly up3 => tries_go hst hfm nod tk (J'.ofTry I.ok) gr na ok wish _ fly (up.trans up3) eos gb
  · cases f with
    | ret u =>
      obtain ⟨v, _, _, J', r, q⟩ := hsp
      exact ⟨v, _, _, J'.ofTry I.ok, r, q⟩
    | next =>
      obtain ⟨_, _, J', q⟩ := hsp
      exact wpAny_execs_nil ⟨_, _, J'.ofTry I.ok, q⟩
    | brk =>
      obtain ⟨_, _, J', q⟩ := hsp
      exact ⟨_, _, J'.ofTry I.ok, q⟩
    | cont =>
      obtain ⟨_, _, J', q⟩ := hsp
      exact ⟨_, _, J'.ofTry I.ok, q⟩
/-- X(), to be raised -/
theorem pmk_own0 {C : Addr} {bmB : List Value} {B newId initId : String} {x : Str} {p pos : Pos} (F : ExcBaseFacts B newId initId bmB) (q : PySem.W.excIn X.K C bmB newId = true) (gC : X.mg x = some (.ref C)) (kC : PySem.W.keepIn X.K (.ref C) = true) (r : Raises X (.ref C)) (hg : Gl X x)
    (hdb : (x == ("__debug__" : Str)) = false := by decide) : PMk X (.Call (.Name x p) [] [] pos) (fun _ H Q => Q (.ref C) none H) := by
  intro pins s σ H Q I h
  refine wpAny_Call_Name_kw (ld_glob I hg gC (PySem.W.callWith_K0 I.kIn kC ?_) hdb)
  show wpAny _ _ (call (.ref C) []) _ _ _
  obtain ⟨bm, N, nm, qn, bs, hdct, sn, sub, ab, col, dd, k0, k1, k2, k3, k5, mN, hC, hN, hni, T⟩ := exc_obj I.kIn q
  exact wpAny_call_exc_subT F T hC hN hni (fun h' e hm => mk_of I hm r h (I.hok.gone hm.new)) (by show 0 ≤ sizeLine; omega)
/-- what a callee that never raises lets out -/
theorem passN {X : Cx} : Passes (CX X.prog X.w) X (fun _ _ _ => False) := fun pins σ H s e s' I c => by
  obtain ⟨_, _, _, _, _, _, _, _, _, _, _, _, q⟩ := c
  exact q.elim
end
end Tl
/-! exceptions that are made as values and kept -/
namespace Tl
open PySem PySem.Spec PyProof.Rows L2 RZ
section
variable {X : Cx} {C : Addr} {e : Expr} {es : List Expr} {ta : TA} {te : TE} {p pos : Pos}
/-- X(), a class without own __init__ -/
def tEx0 (C : Addr) : TE := fun _ H Q => ∀ a, H a = none → Q (.ref a) (upd H a (exo a C none))
theorem pe_ex0 {bmB : List Value} {B newId initId : String} {x : Str} (F : ExcBaseFacts B newId initId bmB) (q : PySem.W.excIn X.K C bmB newId = true) (gC : X.mg x = some (.ref C)) (kC : PySem.W.keepIn X.K (.ref C) = true) (hg : Gl X x)
    (hdb : (x == ("__debug__" : Str)) = false := by decide) : PE X (.Call (.Name x p) [] [] pos) (tEx0 C) := by
  refine ⟨fun pins s σ H Q I h => ?_⟩
  refine wpAny_Call_Name_kw (ld_glob I hg gC ?_ hdb)
  refine PySem.W.callWith_K0 I.kIn kC ?_
  show wpAny _ _ (call (.ref C) []) _ _ _
  obtain ⟨bm, N, nm, qn, bs, hdct, sn, sub, ab, col, dd, k0, k1, k2, k3, k5, mN, hC, hN, hni, T⟩ := exc_obj I.kIn q
  refine wpAny_call_exc_subT F T hC hN hni (fun h' a hm => ?_) (by show 0 ≤ sizeLine; omega)
  have hn : H a = none := I.hok.gone hm.new
  obtain ⟨t, ht, _, _⟩ := hm.there
  exact ⟨.ref a, upd H a (exo a C none), I.laidN hm.keeps hm.new hn (exo_ok ht), rfl, h a hn⟩
/-- X(e, ..), the class's own __init__ keeping sp -/
def tEx1 (C : Addr) (sp : Sp) (dvs : List V) (ta : TA) : TE := fun σ H Q => ta σ H fun vs H1 => vs.length ≤ 1000 ∧ ∀ a, H1 a = none → sp (.ref a :: (vs ++ dvs)) (upd H1 a (exo a C none)) (fun v H2 => v = .non ∧ Q (.ref a) H2) (fun _ _ _ => False)
theorem pe_ex1 {CX : CXT} {x : Str} {fI : Addr} {k : Nat} {fd : FuncData} {ps : List Str} {sp : Sp} {ds : List Value} {dvs : List V} (T : OexC X.K C) (iC : PySem.W.findIn X.K (.ref C) "__init__" = some (some (.ref fI))) (tI : PySem.W.typeIn X.K (.ref fI) = some (.type "function"))
    (F1 : FnOk X.prog X.w X.K X.mg X.base CX k fI fd ps sp) (hr : Room (k + 1) X.A) (hb : Binds X.K fd ps ds) (hd : Vals dvs ds) (hx : Passes CX X (fun _ _ _ => False)) (hg : Gl X x) (hm : X.mg x = some (.ref C)) (ha : PA X (e :: es) ta)
    (hdb : (x == ("__debug__" : Str)) = false := by decide) (he : starEach (e :: es) X.env = (false, eval e X.env) :: starEach es X.env := by rfl) (hpl : (backTo pos (starEach es X.env)).any (·.1) = false := by rfl) :
    PE X (.Call (.Name x p) (e :: es) [] pos) (tEx1 C sp dvs ta) := by
  refine ⟨fun pins s σ H Q I h => ?_⟩
  obtain ⟨nm, q, N, bs, bm, sn, sub, ab, col, dd, k0, k1, k2, k3, k5, hC, hbm⟩ := T.cls
  refine wpAny_Call_Name_kw (ld_glob I hg hm ?_ hdb)
  refine PySem.W.callWith_K (h₀ := X.base) I.ok.mod.kin T.kC (thn (ha.run pos pins s σ H _ I h) fun us s1 hh => ?_) he hpl
  obtain ⟨vs, H1, I1, r1, hz, q1⟩ := hh
  refine ⟨I1.kIn, ?_⟩
  show wpAny _ _ (call (.ref C) us) _ _ _
  obtain ⟨hp, g, dr, tk, os⟩ := s1
  have big : hp.objs.size ≤ hp.objs.size + 1 := Nat.le_succ _
  have hq := q1 (hp.objs.size + 1) (I1.hok.fresh big)
  have kk : ∀ b o, hp.get? b = some o → ((hp.push (PySem.W.kdv_tup us)).push (PySem.HandSPX.excO C hp.objs.size)).get? b = some o := fun b o y => Heap.get?_push_of_some _ (Heap.get?_push_of_some _ y)
  have there : ((hp.push (PySem.W.kdv_tup us)).push (PySem.HandSPX.excO C hp.objs.size)).get? (hp.objs.size + 1) = some (PySem.HandSPX.excO C hp.objs.size) := by heap_get
  have I2 := I1.laid (t' := tk) (a := hp.objs.size + 1) (o := exo (hp.objs.size + 1) C none) (h' := (hp.push (PySem.W.kdv_tup us)).push (PySem.HandSPX.excO C hp.objs.size)) kk big (exo_ok there)
  have r2 : Vals (V.ref (hp.objs.size + 1) :: (vs ++ dvs)) (Value.ref (hp.objs.size + 1) :: (us ++ ds)) := .cons rfl (r1.append hd)
  have many : (Value.ref (hp.objs.size + 1) :: us ++ ds).length = ps.length := by
    have y := r2.length
    rw [F1.len _ _ _ _ hq] at y
    exact y.symm
  have few : us.length ≤ sizeLine := by
    rw [← Paired.length r1, sizeLine_eq]
    omega
  refine wpAny_call (PySem.HandSPX.call_own F.excBase_ValueError (fun Y => PySem.HandSPX.refsVE_contains Y bm hbm) (I1.kIn _ _ hC) (PySem.W.looks_findIn I1.kIn iC) (fun self => PySem.W.bind_fn I1.kIn self tI) few (codeAny_mono (F1.run _ X.stack _ _ ⟨Value.ref (hp.objs.size + 1) :: us, []⟩ (Value.ref (hp.objs.size + 1) :: (us ++ ds)) _ _ (fun _ _ _ => False) (hr.make C us []) (I2.env0.make C us []) (hb _ (Value.ref (hp.objs.size + 1) :: us) I2.kIn many) r2 hq) fun r s' hq' => ?_))
  cases r with
  | error er => exact hx pins σ _ _ er s' I2 hq'
  | ok fl =>
    cases fl with
    | ret u =>
      obtain ⟨v, H', I3, rv, ev, q3⟩ := I2.after hq'
      subst ev
      exact ⟨rv, ⟨V.ref (hp.objs.size + 1), H', I3, rfl, q3⟩⟩
    | next => exact hq'.elim
    | brk => exact hq'.elim
    | cont => exact hq'.elim
end
section
variable {X : Cx} {K : PySem.W.Frag} (h : X.K = K)
include h
/-- e.f of a kept exception -/
def tFldX (K : PySem.W.Frag) (te : TE) (f : Str) : TE := fun σ H Q => te σ H fun x H1 => ∃ (a C dx : Addr) (fs : List (Str × V)) (v : V), x = .ref a ∧ H1 a = some (exo a C (some dx)) ∧ H1 dx = some (exd dx fs) ∧ XfC K C ∧ PySem.W.findIn K (.ref C) f = some none ∧ fs.lookup f = some v ∧ Q v H1
theorem k_fldX {e : Expr} {te : TE} {f : Str} {pos : Pos} (he : PE X e te) (hb : attributeBase e f X.env (eval e X.env) = eval e X.env) : PE X (.Attribute e f pos) (tFldX K te f) := by
  subst h
  refine ⟨fun pins s σ H Q I h => ?_⟩
  refine attr_of hb (thn (he.run pins s σ H _ I h) fun u s1 hh => ?_)
  obtain ⟨x, H1, I1, rx, a, C, dx, fs, v, ex, ea, ed, T, hno, l, q⟩ := hh
  subst ex
  obtain rfl : u = Value.ref a := rx
  obtain ⟨t1, ho⟩ := exo_at I1.hok ea
  obtain ⟨mA, hns, hr⟩ := exd_at I1.hok ed
  obtain ⟨od, hod, hl⟩ := lookIn_ns hns
  obtain ⟨u, hu, ru⟩ := RelO.some_of (v := v) (o := mA f) (by rw [← l]; exact hr f)
  have J : PySem.W.InstAt s1.heap a { cls := .ref C, dict := some dx, data := .fields #[.ref t1, .none, .none, .none, .bool false, .none] } C (some od) := ⟨ho, rfl, rfl, hod⟩
  exact HandSPX.exc_get I1.kIn J T.ga T.gg T.exC (PySem.W.findObj_own T.hdC hno rfl (by rw [hl, hu])) (handed_of ru) ⟨v, H1, I1.tok _, ru, q⟩
/-- isinstance(e, c), e a kept exception -/
def rIsX (K : PySem.W.Frag) : List V → Hp → VK → Prop := fun xs H Q => ∃ (a D : Addr) (d : Option Addr) (c : V) (cv : Value) (b : Bool), xs = [.ref a, c] ∧ H a = some (exo a D d) ∧ (∀ dx, d = some dx → ∃ fs, H dx = some (exd dx fs)) ∧ ExcC K D ∧ (∀ u, RelV c u → u = cv) ∧ PySem.W.kitOne K (.ref D) cv = some b ∧ Q (.bl b) H
theorem k_isX : CallR X (.builtin "isinstance") (rIsX K) := by
  subst h
  intro pins s σ H xs us Q I r h
  obtain ⟨a, D, d, c, cv, b, rfl, ea, hd, T, hcv, e, q⟩ := h
  obtain ⟨u1, u2, rfl, r1, r2⟩ := vals2 r
  cases r1
  have ec := hcv _ r2
  subst ec
  obtain ⟨t1, ho⟩ := exo_at I.hok ea
  have hcl : (PySem.W.clsIn X.K D).isSome = true := by
    obtain ⟨cd, hc, _⟩ := PySem.W.any_some T.hd
    rw [hc]
    rfl
  obtain ⟨od, J⟩ : ∃ od, PySem.W.InstAt s.heap a { cls := .ref D, dict := d, data := .fields #[.ref t1, .none, .none, .none, .bool false, .none] } D od := by
    cases d with
    | none => exact ⟨none, ho, rfl, rfl, trivial⟩
    | some dx =>
      obtain ⟨fs, ed⟩ := hd dx rfl
      obtain ⟨mA, hns, _⟩ := exd_at I.hok ed
      obtain ⟨od, hod, _⟩ := lookIn_ns hns
      exact ⟨some od, ho, rfl, rfl, hod⟩
  exact PySem.W.kia_one (PySem.W.kitx_exc hcl T.hg T.hk T.hs T.ha T.hn T.ht T.hm) I.kIn J e (fun z => nomatch z) fun tk => ⟨.bl b, H, I.kept (t' := tk) fun _ _ z => z, rfl, q⟩
end
end Tl
/-! dicts of ints locked where they are made; what is known of error classes; isinstance in a suite -/
namespace Tl
open PySem PySem.Spec PyProof.Rows L2 RZ
theorem hu1 {A : Around} (h : A.units + 64 < cLine) : A.units + 1 < cLine := by omega
def tLockd (td : TE) : TE := fun σ H Q => td σ H fun x H1 => Q x H1 ∨ ∃ d u, x = .ref d ∧ H1 d = some u ∧ Mut (some u) ∧ ∀ od, Q x (upd H1 d (.frz od u))
theorem pe_lockd {X : Cx} {e : Expr} {td : TE} (he : PE X e td) : PE X e (tLockd td) := by
  refine ⟨fun pins s σ H Q I h => wpAny_mono (he.run pins s σ H _ I h) (fun u s' z => ?_) fun _ _ x => x⟩
  obtain ⟨v, H1, I1, r, q⟩ := z
  rcases q with q | ⟨d, w, rfl, h1, mu, q⟩
  · exact ⟨v, H1, I1, r, q⟩
  · obtain ⟨od, I2⟩ := I1.lock h1 mu
    exact ⟨_, _, I2, r, q od⟩
theorem pe_rev1 {X : Cx} {e : Expr} {te : TE} {k : Nat} {p1 p2 p3 pos : Pos} (he : PE X e te) : PE X (.Subscript e (.Slice none none (some (.UnaryOp .USub (.Constant (.int 1) k p1) p2)) p3) pos) (tRevL X.K te) := pe_revL he
/-! ### error classes -/
def veMro : List Value := [.type "ValueError", .type "Exception", .type "BaseException", .type "object"]
/-- an error class of the program: x its name, C its place, bm what stands behind it -/
structure XFact (K : PySem.W.Frag) (mg : Str → Option Value) (x : Str) (C : Addr) (bm : List Value) : Prop where
  g : mg x = some (.ref C)
  cls : ∃ cd, PySem.W.clsIn K C = some cd ∧ cd.mro = .ref C :: bm
  T : OexC K C
  E : ExcC K C
theorem XFact.k {K : PySem.W.Frag} {mg : Str → Option Value} {x : Str} {C : Addr} {bm : List Value} (X : XFact K mg x C bm) : PySem.W.keepIn K (.ref C) = true := X.T.kC
theorem sub_of {K : PySem.W.Frag} {mg : Str → Option Value} {x : Str} {C : Addr} {bm : List Value} (X : XFact K mg x C bm) (v : Value) : PySem.W.mroIn K C v = some ((Value.ref C :: bm).contains v) := by
  obtain ⟨cd, h1, h2⟩ := X.cls
  unfold PySem.W.mroIn
  rw [h1, Option.bind_some, h2]
  rfl
theorem kit_base {K : PySem.W.Frag} {mg : Str → Option Value} {x y : Str} {C HE : Addr} {bm : List Value} (X : XFact K mg x C (.ref HE :: veMro)) (Y : XFact K mg y HE bm) : PySem.W.kitOne K (.ref C) (.ref HE) = some true := by
  unfold PySem.W.kitOne
  by_cases e : C = HE
  · subst e
    rw [if_pos (beq_self_eq_true _)]
  · have nb : (Value.ref C == Value.ref HE) = false := beq_eq_false_iff_ne.mpr fun z => e (Value.ref.inj z)
    rw [nb, if_neg (by decide)]
    obtain ⟨cd, h1, h2⟩ := Y.cls
    show (if ((PySem.W.clsIn K HE).isSome && PySem.W.typeIn K (.ref HE) == some (.type "type")) = true then PySem.W.mroIn K C (.ref HE) else none) = some true
    rw [h1, Y.T.tyC, if_pos (by rfl), sub_of X, List.contains_cons, List.contains_cons, beq_self_eq_true, Bool.true_or, Bool.or_true]
/-- an error class that the program raises -/
structure XRs (K : PySem.W.Frag) (mg : Str → Option Value) (HE : Addr) (x : Str) (C : Addr) : Prop where
  X : XFact K mg x C (.ref HE :: veMro)
  q : PySem.W.excIn K C veMro "ValueError.__new__" = true
  ne : C ≠ HE
/-- an error of the class C, and a clause that names D -/
theorem exm_cc {K : PySem.W.Frag} {mg : Str → Option Value} {x y : Str} {C D HE : Addr} (X : XRs K mg HE x C) (Y : XRs K mg HE y D) : PySem.W.exmOne K (.ref C) (.ref D) = some (decide (C = D)) := by
  have e1 : (PySem.W.subIn K (.ref D) (.type "BaseException") == some true) = true := by rw [Y.X.E.hs]; rfl
  obtain ⟨cd, h1, h2⟩ := Y.X.cls
  have e2 : ((PySem.W.clsIn K D).isSome && PySem.W.typeIn K (.ref D) == some (.type "type")) = true := by
    rw [h1, Y.X.T.tyC]
    rfl
  show (if (PySem.W.subIn K (.ref D) (.type "BaseException") == some true) = true then (if ((PySem.W.clsIn K D).isSome && PySem.W.typeIn K (.ref D) == some (.type "type")) = true then PySem.W.subIn K (.ref C) (.ref D) else none) else none) = _
  rw [if_pos e1, if_pos e2]
  have s : PySem.W.subIn K (.ref C) (.ref D) = some ((Value.ref C :: .ref HE :: veMro).contains (.ref D)) := sub_of X.X _
  rw [s]
  by_cases e : C = D
  · subst e
    rw [List.contains_cons, beq_self_eq_true, Bool.true_or, decide_eq_true rfl]
  · have nb2 : (Value.ref D == Value.ref C) = false := beq_eq_false_iff_ne.mpr fun z => e (Value.ref.inj z).symm
    have nb3 : (Value.ref D == Value.ref HE) = false := beq_eq_false_iff_ne.mpr fun z => Y.ne (Value.ref.inj z)
    rw [List.contains_cons, List.contains_cons, nb2, nb3, decide_eq_false e]
    rfl
theorem exc_cls {K : PySem.W.Frag} {mg : Str → Option Value} {x : Str} {nm q : Str} {C N : Addr} {bs bm : List Value} {sn : List Str} {sub : List Value} {ab : Bool} {col : Option Bool} {dd : Option Addr} {k0 k1 k2 k3 k5 : Option Value} (g : mg x = some (.ref C))
    (hl : K.lookup C = some (excClassObj nm q C N bs bm true sn sub ab col dd k0 k1 k2 k3 k5 "ValueError.__new__")) (rv : PySem.HandSPX.refsVE bm = true) (be : bm.contains (.type "BaseException") = true) (ob : bm.contains (.type "object") = true)
    (sa : PySem.W.findIn K (.ref C) "__setattr__" = some (some (.builtin "object.__setattr__"))) (kp : PySem.W.keepIn K (.ref C) = true) (hg : PySem.W.findIn K (.ref C) "__getattribute__" = some (some (.builtin "BaseException.__getattribute__")))
    (hk : PySem.W.findIn K (.ref C) "__getattr__" = some none) (ha : PySem.W.findIn K (.ref C) "__class__" = some (some (.builtin "object.__class__"))) (hn : PySem.W.specialIn K (.builtin "object.__class__") "__get__" = some (some (.builtin "getset_descriptor.__get__")))
    (ht : PySem.W.takesIn K (.builtin "object.__class__") = some true) : XFact K mg x C bm := by
  have hc : ∃ cd, PySem.W.clsIn K C = some cd ∧ cd.mro = .ref C :: bm ∧ cd.hasDict = true := by
    unfold PySem.W.clsIn
    rw [hl]
    exact ⟨_, rfl, rfl, rfl⟩
  obtain ⟨cd, c1, c2, c3⟩ := hc
  have hm : ∀ v, bm.contains v = true → PySem.W.mroIn K C v = some true := fun v h => by
    unfold PySem.W.mroIn
    rw [c1, Option.bind_some, c2]
    show (if false = true then none else some ((Value.ref C :: bm).contains v)) = some true
    rw [if_neg (by decide), List.contains_cons, h, Bool.or_true]
  have ty : PySem.W.typeIn K (.ref C) = some (.type "type") := by
    show (K.lookup C).map (fun o => o.cls) = some (.type "type")
    rw [hl]
    rfl
  have hd : PySem.W.hasDictIn K C = true := by
    unfold PySem.W.hasDictIn
    rw [c1]
    exact c3
  exact ⟨g, ⟨cd, c1, c2⟩, ⟨⟨nm, q, N, bs, bm, sn, sub, ab, col, dd, k0, k1, k2, k3, k5, hl, rv⟩, sa, hm _ be, ty, kp⟩, ⟨hg, hk, hm _ be, hd, ha, hn, ht, hm _ ob⟩⟩
theorem ve_in {HE : Addr} : (Value.ref HE :: veMro).contains (.type "BaseException") = true ∧ (Value.ref HE :: veMro).contains (.type "object") = true := by
  constructor
  · rw [List.contains_cons, show veMro.contains (.type "BaseException") = true from by decide +kernel, Bool.or_true]
  · rw [List.contains_cons, show veMro.contains (.type "object") = true from by decide +kernel, Bool.or_true]
/-- isinstance(e, c) in a suite, e the suite's -/
def rIsE2 (K : PySem.W.Frag) (a : Addr) (cls : Value) (d : Option Addr) : List V → Hp → VK → Prop := fun xs H Q => ∃ D, cls = .ref D ∧ d = none ∧ ExcC K D ∧ rIsE K D a xs H Q
theorem k_isE {X : Cx} {a : Addr} {oe : Obj} {cls : Value} {d : Option Addr} {pn : List (Addr × Obj)} (hz : Zc cls d oe) (hf : ∃ vs, oe.data = .fields vs) : CallR (X.suite a ((a, oe) :: pn)) (.builtin "isinstance") (rIsE2 X.K a cls d) := by
  intro pins s σ H xs us Q I r h
  obtain ⟨D, rfl, rfl, C, h⟩ := h
  exact call_isE C hz hf pins s σ H xs us Q I r h
end Tl
/-! trees by their questions, walks along paths, the tree of two houses beside one another -/
namespace Tl
open PySem PySem.Spec PyProof.Rows L2 RZ
/-- the questions of a node -/
def qsOf : (m : Nat) → Nd m → List (Qn (m - 1))
  | 0, _ => []
  | m + 1, qs => (show List (Qn m) from qs)
theorem ndD_qs : ∀ (m : Nat) (t : Nd m), ndD m t = .tuple ((qsOf m t).map (qnD (m - 1)))
  | 0, _ => rfl
  | _ + 1, _ => rfl
theorem cnt_qs : ∀ (m : Nat) (t : Nd m), cnt m t = ((qsOf m t).map (cntQ (m - 1))).sum
  | 0, _ => rfl
  | _ + 1, _ => rfl
theorem qs_td {K : PySem.W.Frag} {H : Hp} {m : Nat} {t : Nd m} {v : V} (h : Td K H v (ndD m t)) : ∃ (a : Addr) (xs : List V), v = .ref a ∧ SqT K H a xs ∧ TdAll K H xs ((qsOf m t).map (qnD (m - 1))) := by
  rw [ndD_qs] at h
  exact h.tupE
theorem sum_mem {l : List Nat} {x : Nat} (h : x ∈ l) : x ≤ l.sum := by
  induction l with
  | nil => exact absurd h List.not_mem_nil
  | cons y r ih =>
    rw [List.sum_cons]
    rcases List.mem_cons.mp h with rfl | h
    · omega
    · have := ih h
      omega
theorem cntQ_le {m : Nat} {t : Nd m} {q : Qn (m - 1)} (h : q ∈ qsOf m t) : cntQ (m - 1) q ≤ cnt m t := by
  rw [cnt_qs]
  exact sum_mem (List.mem_map_of_mem h)
theorem cntA_le {n : Nat} {q : Qn n} {a : An n} (h : a ∈ q) : 1 + cnt n a.2.2 ≤ cntQ n q := sum_mem (List.mem_map_of_mem (f := fun a : An n => 1 + cnt n a.2.2) h)
/-- along a path of questions and answers -/
inductive Wk : (n : Nat) → Nd n → List Rat → List (Nat × Nat) → (m : Nat) → Nd m → List Rat → Prop
  | nil {n : Nat} {t : Nd n} {w : List Rat} : Wk n t w [] n t w
  | cons {n : Nat} {t : Nd n} {w : List Rat} {i j : Nat} {q : Qn (n - 1)} {a : An (n - 1)} {p : List (Nat × Nat)} {m : Nat} {t' : Nd m} {w' : List Rat} :
      (qsOf n t)[i]? = some q → q[j]? = some a → Wk (n - 1) a.2.2 a.2.1 p m t' w' → Wk n t w ((i, j) :: p) m t' w'
theorem Wk.snoc {n : Nat} {t : Nd n} {w : List Rat} {p : List (Nat × Nat)} {m : Nat} {t' : Nd m} {w' : List Rat} (h : Wk n t w p m t' w') {i j : Nat} {q : Qn (m - 1)} {a : An (m - 1)} (e1 : (qsOf m t')[i]? = some q) (e2 : q[j]? = some a) :
    Wk n t w (p ++ [(i, j)]) (m - 1) a.2.2 a.2.1 := by
  induction h with
  | nil => exact .cons e1 e2 .nil
  | cons a1 a2 _ ih => exact .cons a1 a2 (ih e1 e2)
theorem Wk.len {n : Nat} {t : Nd n} {w : List Rat} {p : List (Nat × Nat)} {m : Nat} {t' : Nd m} {w' : List Rat} (h : Wk n t w p m t' w') : p.length + m ≤ n := by
  induction h with
  | nil => simp
  | @cons n t w i j q a p m t' w' a1 a2 _ ih =>
    cases n with
    | zero =>
      have z : ([] : List (Qn (0 - 1)))[i]? = some q := a1
      cases z
    | succ n =>
      rw [List.length_cons]
      have : n + 1 - 1 = n := rfl
      omega
/-- a path as data -/
def ptD (p : List (Nat × Nat)) : PyData := .tuple (p.map fun x => .tuple [.int (x.1 : Int), .int (x.2 : Int)])
theorem ptD_snoc (p : List (Nat × Nat)) (x : Nat × Nat) : ptD (p ++ [x]) = .tuple ((p.map fun x => .tuple [.int (x.1 : Int), .int (x.2 : Int)]) ++ [.tuple [.int (x.1 : Int), .int (x.2 : Int)]]) := by
  unfold ptD
  rw [List.map_append]
  rfl
/-! ### right weights all over a tree -/
def WsAll (W e : Nat) : (n : Nat) → Nd n → Prop
  | 0, _ => True
  | n + 1, qs => ∀ q ∈ (show List (Qn n) from qs), ∀ a ∈ q, a.1.length ≤ 8 ∧ a.2.1.length = W ∧ (∀ r ∈ a.2.1, Ch e r) ∧ WsAll W e n a.2.2
theorem WsAll.at_ {W e : Nat} : ∀ {n : Nat} {t : Nd n}, WsAll W e n t → ∀ q ∈ qsOf n t, ∀ a ∈ q, a.1.length ≤ 8 ∧ a.2.1.length = W ∧ (∀ r ∈ a.2.1, Ch e r) ∧ WsAll W e (n - 1) a.2.2
  | 0, _, _ => fun q hq => absurd hq List.not_mem_nil
  | _ + 1, _, h => h
theorem wsAll_of {W : Nat} : ∀ {n : Nat} {ahead : List Rat} {t : Nd n}, NdOk W n ahead t → WsAll W 6 n t
  | 0, _, _, _ => trivial
  | n + 1, _, _, h => fun q hq a ha => ⟨((h.2 q hq).1.words a ha).1, (h.2 q hq).1.wide a ha, (h.2 q hq).1.chs a ha, wsAll_of ((h.2 q hq).2 a ha)⟩
theorem WsAll.walk {W e : Nat} {n : Nat} {t : Nd n} {w : List Rat} {p : List (Nat × Nat)} {m : Nat} {t' : Nd m} {w' : List Rat} (h : Wk n t w p m t' w') (o : WsAll W e n t) (hl : w.length = W) (hc : ∀ r ∈ w, Ch e r) : WsAll W e m t' ∧ w'.length = W ∧ ∀ r ∈ w', Ch e r := by
  induction h with
  | nil => exact ⟨o, hl, hc⟩
  | cons a1 a2 _ ih =>
    obtain ⟨_, h1, h2, h3⟩ := o.at_ _ (List.mem_of_getElem? a1) _ (List.mem_of_getElem? a2)
    exact ih h3 h1 h2
theorem ones_len (W : Nat) : (ones W).length = W := by
  unfold ones
  rw [List.length_replicate]
/-! ### beside one another -/
def mulW (a b : List Rat) : List Rat := List.zipWith (· * ·) a b
theorem mulW_ones (W : Nat) : mulW (ones W) (ones W) = ones W := by
  unfold mulW ones
  induction W with
  | zero => rfl
  | succ n ih =>
    rw [List.replicate_succ, List.zipWith_cons_cons, ih, Rat.one_mul]
theorem mulW_len {W : Nat} {a b : List Rat} (h1 : a.length = W) (h2 : b.length = W) : (mulW a b).length = W := by
  unfold mulW
  rw [List.length_zipWith]
  omega
/-- the one house's question first -/
def bsN : (k m n : Nat) → Nd m → Nd n → List Rat → List Rat → Nd k
  | 0, _, _, _, _, _, _ => ()
  | k + 1, m, n, t, o, w, ow => ((qsOf m t).map (fun q => q.map fun a => ((0 :: a.1, mulW a.2.1 ow, bsN k (m - 1) n a.2.2 o a.2.1 ow) : An k)) ++ (qsOf n o).map (fun q => q.map fun a => ((1 :: a.1, mulW w a.2.1, bsN k m (n - 1) t a.2.2 w a.2.1) : An k)) : List (Qn k))
def bs1 (k m n : Nat) (o : Nd n) (ow : List Rat) (a : An (m - 1)) : An k := (0 :: a.1, mulW a.2.1 ow, bsN k (m - 1) n a.2.2 o a.2.1 ow)
def bs2 (k m n : Nat) (t : Nd m) (w : List Rat) (a : An (n - 1)) : An k := (1 :: a.1, mulW w a.2.1, bsN k m (n - 1) t a.2.2 w a.2.1)
theorem bsN_succ (k m n : Nat) (t : Nd m) (o : Nd n) (w ow : List Rat) : bsN (k + 1) m n t o w ow = ((qsOf m t).map (fun q => q.map (bs1 k m n o ow)) ++ (qsOf n o).map (fun q => q.map (bs2 k m n t w)) : List (Qn k)) := rfl
theorem qs_bsN (k m n : Nat) (t : Nd m) (o : Nd n) (w ow : List Rat) (h : m + n ≤ k) : qsOf k (bsN k m n t o w ow) = (qsOf m t).map (fun q => q.map (bs1 (k - 1) m n o ow)) ++ (qsOf n o).map (fun q => q.map (bs2 (k - 1) m n t w)) := by
  cases k with
  | zero =>
    obtain rfl : m = 0 := by omega
    obtain rfl : n = 0 := by omega
    rfl
  | succ k => rfl
/-- both parts of a path -/
theorem bs_walk {k m n : Nat} {t : Nd m} {o : Nd n} {w ow : List Rat} (hk : m + n ≤ k) {i j : Nat} {q : Qn (k - 1)} {a : An (k - 1)} (e1 : (qsOf k (bsN k m n t o w ow))[i]? = some q) (e2 : q[j]? = some a) :
    (i < (qsOf m t).length ∧ 1 ≤ m ∧ ∃ q1 a1, (qsOf m t)[i]? = some q1 ∧ q1[j]? = some a1 ∧ a = bs1 (k - 1) m n o ow a1) ∨
    (¬ i < (qsOf m t).length ∧ 1 ≤ n ∧ ∃ q1 a1, (qsOf n o)[i - (qsOf m t).length]? = some q1 ∧ q1[j]? = some a1 ∧ a = bs2 (k - 1) m n t w a1) := by
  rw [qs_bsN k m n t o w ow hk] at e1
  by_cases hi : i < (qsOf m t).length
  · refine .inl ⟨hi, ?_, ?_⟩
    · cases m with
      | zero => exact absurd hi (Nat.not_lt_zero _)
      | succ m => omega
    · rw [List.getElem?_append_left (by rw [List.length_map]; exact hi), List.getElem?_map] at e1
      obtain ⟨q1, h1, rfl⟩ := Option.map_eq_some_iff.mp e1
      rw [List.getElem?_map] at e2
      obtain ⟨a1, h2, rfl⟩ := Option.map_eq_some_iff.mp e2
      exact ⟨q1, a1, h1, h2, rfl⟩
  · refine .inr ⟨hi, ?_, ?_⟩
    · cases n with
      | zero =>
        rw [List.getElem?_append_right (by rw [List.length_map]; omega)] at e1
        have z : ([] : List (Qn (k - 1)))[i - ((qsOf m t).map fun q => q.map (bs1 (k - 1) m 0 o ow)).length]? = some q := e1
        cases z
      | succ n => omega
    · rw [List.getElem?_append_right (by rw [List.length_map]; omega), List.length_map, List.getElem?_map] at e1
      obtain ⟨q1, h1, rfl⟩ := Option.map_eq_some_iff.mp e1
      rw [List.getElem?_map] at e2
      obtain ⟨a1, h2, rfl⟩ := Option.map_eq_some_iff.mp e2
      exact ⟨q1, a1, h1, h2, rfl⟩
/-! ### how many -/
def bnR (f : Nat → Nat) : Nat → Nat
  | 0 => 1
  | b + 1 => f (b + 1) + bnR f b
def bn : Nat → Nat → Nat
  | 0 => fun _ => 1
  | a + 1 => bnR (bn a)
theorem bn_pos : ∀ a b : Nat, 1 ≤ bn a b
  | 0, _ => Nat.le_refl _
  | _ + 1, 0 => Nat.le_refl _
  | a + 1, b + 1 => by
    have := bn_pos a (b + 1)
    show 1 ≤ bn a (b + 1) + bnR (bn a) b
    omega
theorem sum_map_le {α : Type} (f g : α → Nat) : ∀ l : List α, (∀ x ∈ l, f x ≤ g x) → (l.map f).sum ≤ (l.map g).sum
  | [], _ => Nat.le_refl _
  | x :: r, h => by
    rw [List.map_cons, List.map_cons, List.sum_cons, List.sum_cons]
    have h1 := h x (List.mem_cons_self ..)
    have h2 := sum_map_le f g r fun y hy => h y (List.mem_cons_of_mem _ hy)
    omega
theorem sum_map_mul {α : Type} (f : α → Nat) (c : Nat) : ∀ l : List α, (l.map fun x => f x * c).sum = (l.map f).sum * c
  | [] => by simp
  | x :: r => by rw [List.map_cons, List.map_cons, List.sum_cons, List.sum_cons, sum_map_mul f c r, Nat.add_mul]
theorem sum_map_congr {α : Type} (f g : α → Nat) : ∀ l : List α, (∀ x ∈ l, f x = g x) → (l.map f).sum = (l.map g).sum
  | [], _ => rfl
  | x :: r, h => by
    rw [List.map_cons, List.map_cons, List.sum_cons, List.sum_cons, h x (List.mem_cons_self ..), sum_map_congr f g r fun y hy => h y (List.mem_cons_of_mem _ hy)]
theorem cntQ_map_le {k n : Nat} (f : An n → An k) (c : Nat) (q : Qn n) (h : ∀ a ∈ q, 1 + cnt k (f a).2.2 ≤ (1 + cnt n a.2.2) * c) : cntQ k (q.map f) ≤ cntQ n q * c := by
  unfold cntQ
  rw [List.map_map, ← sum_map_mul]
  exact sum_map_le _ _ _ h
theorem cnt_bs : ∀ (k m n : Nat) (t : Nd m) (o : Nd n) (w ow : List Rat), m + n ≤ k → cnt k (bsN k m n t o w ow) + 1 ≤ (cnt m t + 1) * (cnt n o + 1) * bn m n
  | 0, m, n, t, o, w, ow, h => by
    have b := bn_pos m n
    have : 1 ≤ (cnt m t + 1) * (cnt n o + 1) * bn m n := Nat.mul_pos (Nat.mul_pos (Nat.succ_pos _) (Nat.succ_pos _)) b
    exact this
  | k + 1, m, n, t, o, w, ow, h => by
    rw [cnt_qs, qs_bsN _ _ _ _ _ _ _ h, List.map_append, List.sum_append, List.map_map, List.map_map]
    have l1 : ∀ m', m = m' + 1 → ((qsOf m t).map (cntQ (k + 1 - 1) ∘ fun q => q.map (bs1 (k + 1 - 1) m n o ow))).sum ≤ cnt m t * ((cnt n o + 1) * bn m' n) := by
      intro m' e
      subst e
      rw [cnt_qs (m' + 1), ← sum_map_mul]
      refine sum_map_le _ _ _ fun q hq => cntQ_map_le _ _ q fun a ha => ?_
      have := cnt_bs k m' n a.2.2 o a.2.1 ow (by omega)
      rw [Nat.mul_assoc] at this
      show 1 + cnt k (bsN k m' n a.2.2 o a.2.1 ow) ≤ _
      rw [Nat.add_comm, Nat.add_comm 1]
      exact this
    have l2 : ∀ n', n = n' + 1 → ((qsOf n o).map (cntQ (k + 1 - 1) ∘ fun q => q.map (bs2 (k + 1 - 1) m n t w))).sum ≤ cnt n o * ((cnt m t + 1) * bn m n') := by
      intro n' e
      subst e
      rw [cnt_qs (n' + 1), ← sum_map_mul]
      refine sum_map_le _ _ _ fun q hq => cntQ_map_le _ _ q fun a ha => ?_
      have := cnt_bs k m n' t a.2.2 w a.2.1 (by omega)
      rw [Nat.mul_comm (cnt m t + 1), Nat.mul_assoc] at this
      show 1 + cnt k (bsN k m n' t a.2.2 w a.2.1) ≤ _
      rw [Nat.add_comm, Nat.add_comm 1]
      exact this
    have z1 : m = 0 → ((qsOf m t).map (cntQ (k + 1 - 1) ∘ fun q => q.map (bs1 (k + 1 - 1) m n o ow))).sum = 0 ∧ cnt m t = 0 := by
      intro e
      subst e
      exact ⟨rfl, rfl⟩
    have z2 : n = 0 → ((qsOf n o).map (cntQ (k + 1 - 1) ∘ fun q => q.map (bs2 (k + 1 - 1) m n t w))).sum = 0 ∧ cnt n o = 0 := by
      intro e
      subst e
      exact ⟨rfl, rfl⟩
    generalize ((qsOf m t).map (cntQ (k + 1 - 1) ∘ fun q => q.map (bs1 (k + 1 - 1) m n o ow))).sum = x at l1 z1 ⊢
    generalize ((qsOf n o).map (cntQ (k + 1 - 1) ∘ fun q => q.map (bs2 (k + 1 - 1) m n t w))).sum = y at l2 z2 ⊢
    generalize cnt m t = c at l1 l2 z1 z2 ⊢
    generalize cnt n o = d at l1 l2 z1 z2 ⊢
    cases m with
    | zero =>
      obtain ⟨rfl, rfl⟩ := z1 rfl
      cases n with
      | zero =>
        obtain ⟨rfl, rfl⟩ := z2 rfl
        decide
      | succ n =>
        have := l2 n rfl
        rw [show bn 0 n = 1 by cases n <;> rfl] at this
        rw [show bn 0 (n + 1) = 1 from rfl]
        omega
    | succ m =>
      cases n with
      | zero =>
        obtain ⟨rfl, rfl⟩ := z2 rfl
        have := l1 m rfl
        have e : bn m 0 = 1 := by cases m <;> rfl
        rw [e] at this
        rw [show bn (m + 1) 0 = 1 from rfl]
        omega
      | succ n =>
        have h1 := l1 m rfl
        have h2 := l2 n rfl
        rw [show bn (m + 1) (n + 1) = bn m (n + 1) + bn (m + 1) n from rfl]
        have b1 := bn_pos m (n + 1)
        generalize bn m (n + 1) = B1 at h1 b1 ⊢
        generalize bn (m + 1) n = B2 at h2 ⊢
        have e : (c + 1) * (d + 1) * (B1 + B2) = c * ((d + 1) * B1) + (d + 1) * B1 + d * ((c + 1) * B2) + (c + 1) * B2 := by grind
        have : 1 ≤ (d + 1) * B1 := Nat.mul_pos (Nat.succ_pos _) b1
        omega
/-! ### chains -/
def chN (W : Nat) : (m : Nat) → Nd m
  | 0 => ()
  | m + 1 => ([[([(m : Int)], ones W, chN W m)]] : List (Qn m))
theorem cnt_ch (W : Nat) : ∀ m : Nat, cnt m (chN W m) = m
  | 0 => rfl
  | m + 1 => by
    show 1 + cnt m (chN W m) + 0 + 0 = _
    rw [cnt_ch W m]
    omega
/-- how many paths two chains beside one another have -/
def chR (f : Nat → Nat) : Nat → Nat
  | 0 => 1 + f 0
  | b + 1 => 1 + f (b + 1) + chR f b
def chs : Nat → Nat → Nat
  | 0 => fun b => b + 1
  | a + 1 => chR (chs a)
theorem qs_ch0 (W : Nat) : qsOf 0 (chN W 0) = [] := rfl
theorem qs_ch (W m : Nat) : qsOf (m + 1) (chN W (m + 1)) = [[([(m : Int)], ones W, chN W m)]] := rfl
theorem cnt_bs_ch (W : Nat) : ∀ (k m n : Nat) (w ow : List Rat), m + n ≤ k → cnt k (bsN k m n (chN W m) (chN W n) w ow) + 1 = chs m n
  | 0, m, n, w, ow, h => by
    obtain rfl : m = 0 := by omega
    obtain rfl : n = 0 := by omega
    rfl
  | k + 1, m, n, w, ow, h => by
    rw [cnt_qs, qs_bsN _ _ _ _ _ _ _ h, List.map_append, List.sum_append, List.map_map, List.map_map]
    cases m with
    | zero =>
      cases n with
      | zero => rfl
      | succ n =>
        have := cnt_bs_ch W k 0 n w (ones W) (by omega)
        show 0 + ((1 + cnt k (bsN k 0 n (chN W 0) (chN W n) w (ones W)) + 0) + 0) + 1 = n + 1 + 1
        have e : chs 0 n = n + 1 := rfl
        omega
    | succ m =>
      have h1 := cnt_bs_ch W k m n (ones W) ow (by omega)
      cases n with
      | zero =>
        show ((1 + cnt k (bsN k m 0 (chN W m) (chN W 0) (ones W) ow) + 0) + 0) + 0 + 1 = 1 + chs m 0
        omega
      | succ n =>
        have h2 := cnt_bs_ch W k (m + 1) n w (ones W) (by omega)
        show ((1 + cnt k (bsN k m (n + 1) (chN W m) (chN W (n + 1)) (ones W) ow) + 0) + 0) + ((1 + cnt k (bsN k (m + 1) n (chN W (m + 1)) (chN W n) w (ones W)) + 0) + 0) + 1 = 1 + chs m (n + 1) + chR (chs m) n
        have e : chs (m + 1) n = chR (chs m) n := rfl
        omega
theorem ch_ok (W : Nat) (w1 : 1 ≤ W) : ∀ m : Nat, m ≤ 99 → NdOk W m (ones W) (chN W m)
  | 0, _ => trivial
  | m + 1, hm => by
    refine ⟨by show 1 ≤ 5; decide, fun q hq => ?_⟩
    have e : q = [([(m : Int)], ones W, chN W m)] := List.mem_singleton.mp hq
    subst e
    have one : ∀ {a : An m}, a ∈ ([([(m : Int)], ones W, chN W m)] : Qn m) → a = ([(m : Int)], ones W, chN W m) := fun h => List.mem_singleton.mp h
    refine ⟨⟨Nat.le_refl _, by show 1 ≤ 12; decide, fun a ha => ?_, fun i x y e1 e2 => ?_, fun a ha => ?_, fun a ha r hr => ?_, fun j hj => ?_⟩, fun a ha => ?_⟩
    · rw [one ha]
      refine ⟨by show 1 ≤ 8; decide, fun x hx => ?_⟩
      rw [List.mem_singleton.mp hx]
      omega
    · have : i + 1 < 1 := (List.getElem?_eq_some_iff.mp e2).1
      omega
    · rw [one ha]
      exact ones_len W
    · rw [one ha] at hr
      exact ones_ch r hr
    · show fsum [(ones W).getD j 0] = _
      rw [fsum_cons, fsum_nil, Rat.add_zero]
    · rw [one ha]
      exact ch_ok W w1 m (by omega)
end Tl
/-! all stands of a tree, with the paths that lead there -/
namespace Tl
open PySem PySem.Spec PyProof.Rows L2 RZ
def lnsN : (n : Nat) → Nd n → Nat → List Nat
  | 0, _, d => [d]
  | n + 1, qs, d => d :: (show List (Qn n) from qs).flatMap fun q => q.flatMap fun a => lnsN n a.2.2 (d + 1)
def lnsQ (n : Nat) (d : Nat) (q : Qn n) : List Nat := q.flatMap fun a => lnsN n a.2.2 d
theorem lns_qs : ∀ (n : Nat) (t : Nd n) (d : Nat), lnsN n t d = d :: (qsOf n t).flatMap (lnsQ (n - 1) (d + 1))
  | 0, _, _ => rfl
  | _ + 1, _, _ => rfl
theorem flat_len {α : Type} (f : α → List Nat) (g : α → Nat) : ∀ l : List α, (∀ x ∈ l, (f x).length = g x) → (l.flatMap f).length = (l.map g).sum
  | [], _ => rfl
  | x :: r, h => by
    rw [List.flatMap_cons, List.length_append, List.map_cons, List.sum_cons, h x (List.mem_cons_self ..), flat_len f g r fun y hy => h y (List.mem_cons_of_mem _ hy)]
theorem lns_len : ∀ (n : Nat) (t : Nd n) (d : Nat), (lnsN n t d).length = cnt n t + 1
  | 0, _, _ => rfl
  | n + 1, qs, d => by
    rw [lns_qs, List.length_cons, cnt_qs, flat_len _ (cntQ (n + 1 - 1)) _ fun q _ => ?_]
    unfold lnsQ cntQ
    exact flat_len _ _ _ fun a _ => (lns_len n _ _).trans (Nat.add_comm _ _)
theorem lnsQ_len (n : Nat) (d : Nat) (q : Qn n) : (lnsQ n d q).length = cntQ n q := by
  unfold lnsQ cntQ
  exact flat_len _ _ _ fun a _ => by
    rw [lns_len n]
    omega
theorem flat_take {α β : Type} (f : α → List β) {l : List α} {i : Nat} {x : α} (h : l[i]? = some x) : (l.take (i + 1)).flatMap f = (l.take i).flatMap f ++ f x := by
  rw [List.take_add_one, h, List.flatMap_append]
  show _ ++ (f x ++ []) = _
  rw [List.append_nil]
theorem flat_take_le {α β : Type} (f : α → List β) (l : List α) (i : Nat) : ((l.take i).flatMap f).length ≤ (l.flatMap f).length := by
  have e : (l.take i ++ l.drop i).flatMap f = (l.take i).flatMap f ++ (l.drop i).flatMap f := List.flatMap_append
  rw [List.take_append_drop] at e
  rw [e, List.length_append]
  omega
/-- one by one -/
def It2 {α β : Type} (R : α → β → Prop) (xs : List α) (ys : List β) : Prop := xs.length = ys.length ∧ ∀ (i : Nat) (x : α) (y : β), xs[i]? = some x → ys[i]? = some y → R x y
theorem It2.imp {α β : Type} {R S : α → β → Prop} {xs : List α} {ys : List β} (h : It2 R xs ys) (f : ∀ x y, R x y → S x y) : It2 S xs ys := ⟨h.1, fun i x y e1 e2 => f x y (h.2 i x y e1 e2)⟩
theorem It2.app {α β : Type} {R : α → β → Prop} {xs xs' : List α} {ys ys' : List β} (h : It2 R xs ys) (h' : It2 R xs' ys') : It2 R (xs ++ xs') (ys ++ ys') := by
  refine ⟨by rw [List.length_append, List.length_append, h.1, h'.1], fun i x y e1 e2 => ?_⟩
  by_cases hi : i < xs.length
  · rw [List.getElem?_append_left hi] at e1
    rw [List.getElem?_append_left (by rw [← h.1]; exact hi)] at e2
    exact h.2 i x y e1 e2
  · rw [List.getElem?_append_right (by omega)] at e1
    rw [List.getElem?_append_right (by rw [← h.1]; omega), ← h.1] at e2
    exact h'.2 _ x y e1 e2
theorem It2.one {α β : Type} {R : α → β → Prop} {x : α} {y : β} (h : R x y) : It2 R [x] [y] := by
  refine ⟨rfl, fun i a b e1 e2 => ?_⟩
  cases i with
  | zero =>
    cases e1
    cases e2
    exact h
  | succ i => simp at e1
/-- a path and what stands behind it -/
def Std (K : PySem.W.Frag) (H : Hp) (p0 : List (Nat × Nat)) (n : Nat) (t : Nd n) (w : List Rat) (x : V) (l : Nat) : Prop :=
  ∃ (a : Addr) (pth nv : V) (p : List (Nat × Nat)) (m : Nat) (t' : Nd m) (w' : List Rat), x = .ref a ∧ SqT K H a [pth, nv] ∧ Td K H pth (ptD (p0 ++ p)) ∧ Td K H nv (ndD m t') ∧ Wk n t w p m t' w' ∧ (p0 ++ p).length = l
theorem Std.keep {K : PySem.W.Frag} {H H' : Hp} {p0 : List (Nat × Nat)} {n : Nat} {t : Nd n} {w : List Rat} {x : V} {l : Nat} (h : Std K H p0 n t w x l) (k : KT K H H') : Std K H' p0 n t w x l := by
  obtain ⟨a, pth, nv, p, m, t', w', e, h1, h2, h3, h4⟩ := h
  exact ⟨a, pth, nv, p, m, t', w', e, k _ _ h1, h2.keep k, h3.keep k, h4⟩
theorem Std.behind {K : PySem.W.Frag} {H : Hp} {p0 : List (Nat × Nat)} {n : Nat} {t : Nd n} {w : List Rat} {i j : Nat} {q : Qn (n - 1)} {a : An (n - 1)} (e1 : (qsOf n t)[i]? = some q) (e2 : q[j]? = some a) {x : V} {l : Nat}
    (h : Std K H (p0 ++ [(i, j)]) (n - 1) a.2.2 a.2.1 x l) : Std K H p0 n t w x l := by
  obtain ⟨b, pth, nv, p, m, t', w', e, h1, h2, h3, h4, h5⟩ := h
  refine ⟨b, pth, nv, (i, j) :: p, m, t', w', e, h1, ?_, h3, .cons e1 e2 h4, ?_⟩
  · rw [List.append_assoc] at h2
    exact h2
  · rw [List.append_assoc] at h5
    exact h5
/-- not more questions than answers, everywhere -/
def Nar : (n : Nat) → Nd n → Prop
  | 0, _ => True
  | n + 1, qs => ∀ q ∈ (show List (Qn n) from qs), 1 ≤ q.length ∧ ∀ a ∈ q, Nar n a.2.2
theorem Nar.at_ : ∀ {n : Nat} {t : Nd n}, Nar n t → ∀ q ∈ qsOf n t, 1 ≤ q.length ∧ ∀ a ∈ q, Nar (n - 1) a.2.2
  | 0, _, _ => fun q hq => absurd hq List.not_mem_nil
  | _ + 1, _, h => h
theorem len_le_sum {α : Type} (f : α → Nat) : ∀ l : List α, (∀ x ∈ l, 1 ≤ f x) → l.length ≤ (l.map f).sum
  | [], _ => Nat.le_refl _
  | x :: r, h => by
    rw [List.map_cons, List.sum_cons, List.length_cons]
    have h1 := h x (List.mem_cons_self ..)
    have h2 := len_le_sum f r fun y hy => h y (List.mem_cons_of_mem _ hy)
    omega
theorem Nar.few {n : Nat} {t : Nd n} (h : Nar n t) : (qsOf n t).length ≤ cnt n t := by
  rw [cnt_qs]
  refine len_le_sum _ _ fun q hq => ?_
  have h1 := (h.at_ q hq).1
  have h2 := cntQ_len (n - 1) q
  omega
theorem nar_of {W : Nat} : ∀ {n : Nat} {ahead : List Rat} {t : Nd n}, NdOk W n ahead t → Nar n t
  | 0, _, _, _ => trivial
  | n + 1, _, _, h => fun q hq => ⟨(h.2 q hq).1.one, fun a ha => nar_of ((h.2 q hq).2 a ha)⟩
def spStd (K : PySem.W.Frag) (arr : V → V → List V) (n : Nat) : Sp := fun vs H Q _ => ∃ (pth v : V) (p0 : List (Nat × Nat)) (t : Nd n) (w : List Rat), vs = arr v pth ∧ Td K H v (ndD n t) ∧ Td K H pth (ptD p0) ∧ p0.length + n ≤ 40 ∧ cnt n t ≤ 4000 ∧ Nar n t ∧
  ∀ (L : Addr) (us : List V) (H' : Hp), Same H H' → H L = none → H' L = some (.lst us) → It2 (Std K H' p0 n t w) us (lnsN n t p0.length) → Q (.ref L) H'
theorem upd_same_frm {H H1 : Hp} {T : Addr} {o : HO} (s : Same H H1) (h : H T = none) : Same H (upd H1 T o) := fun b x e => by
  rw [upd_ne (ne_of_none e h)]
  exact s b x e
section
variable {P : Program} {w : World} {K : PySem.W.Frag} {mg : Str → Option Value} {base : Heap}
theorem ok_law_paths {f : Addr} {fd : FuncData} (D : Dn K mg "_law_paths" s_law_paths ["node", "path"] f fd) (B : Blt mg) : ∀ n : Nat, FnOk P w K mg base CX0 (1 + n) f fd ["node", "path"] (spStd K (fun v p => [v, p]) n) := by
  intro n
  obtain ⟨sp0, G_law_paths, hsp⟩ : ∃ sp0, FnOk P w K mg base CX0 n f fd ["node", "path"] sp0 ∧ (1 ≤ n → sp0 = spStd K (fun v p => [v, p]) (n - 1)) := by
    cases n with
    | zero => exact ⟨fun _ _ _ _ => False, ⟨fun vs H Q E h => h.elim, fun A outer s H args us vs Q E _ _ _ _ h => h.elim⟩, fun e => by omega⟩
    | succ m =>
      have G := ok_law_paths D B m
      rw [show 1 + m = m + 1 by omega] at G
      exact ⟨_, G, fun _ => rfl⟩
  rw [show 1 + n = n + 1 by omega]
  refine D.F.ok sc_law_paths (fun vs H Q E h => ?_) (fun cdv A outer s H vs Q E hr h => ?_)
  · obtain ⟨pth, v, p0, t, w, rfl, _⟩ := h
    rfl
  obtain ⟨pth, v, p0, t, wt, rfl, hv, hp, lp, lc, nar, q⟩ := h
  have nd := sc_law_paths.nd
  have D_law_paths := D
  refine ⟨_, (pss_cons (ps_set (i := 2) nd rfl (.inl rfl) (pe_lst (pa_cons (pe_tup (pa_cons (pv 1) (pa_cons (pv 0) pa_nil))) pa_nil)))
      (pss_cons (ps_for PassesOwn.never rfl (pi_range1 (by rfl) B.range (pa_cons (pe_callB (k_len (K := K) rfl) (by rfl) B.len PySem.boot_len (pa_cons (pv 0) pa_nil)) pa_nil)) (pg_name (i := 3) nd rfl (.inl rfl)) (pss_one (ps_for PassesOwn.never rfl (pi_range1 (by rfl) B.range (pa_cons (pe_callB (k_len (K := K) rfl) (by rfl) B.len PySem.boot_len (pa_cons (pe_ix (k_ixT (K := K) rfl) (pv 0) (pv 3) (fun _ _ => rfl)) pa_nil)) pa_nil)) (pg_name (i := 4) nd rfl (.inl rfl)) (pss_one (ps_expr (pe_bm PySem.F.plainAttrs_list PySem.F.slot_list_extend PySem.F.type_list_extend mt_extend (pv 2) (pa_cons (pe_call G_law_paths (hr.mono (by omega)) (by rfl) D_law_paths.m D_law_paths.F.kp D_law_paths.b .nil pass0 (pa_cons (pe_ix (k_ixT (K := K) rfl) (pe_ix (k_ixT (K := K) rfl) (pe_ix (k_ixT (K := K) rfl) (pv 0) (pv 3) (fun _ _ => rfl)) (pv 4) (fun _ _ => rfl)) pe_int (fun _ _ => rfl)) (pa_cons (pe_op (k_cat (K := K) rfl) (pv 1) (pe_tup (pa_cons (pe_tup (pa_cons (pv 3) (pa_cons (pv 4) pa_nil))) pa_nil))) pa_nil))) pa_nil)))))))
      (pss_one (ps_ret (pv 2))))), ?_⟩
  obtain ⟨a, xs, rfl, ha, ta⟩ := qs_td hv
  obtain ⟨pp, pxs, rfl, hpp, tpp⟩ := hp.tupE
  have lpx : pxs.length = p0.length := by rw [tpp.len, List.length_map]
  have lx : xs.length = (qsOf n t).length := by rw [ta.len, List.length_map]
  refine ⟨_, rfl, _, rfl, by show 2 ≤ sizeLine; decide, fun T0 hT0 => ⟨by show 1 ≤ sizeLine; decide, fun T hT => ?_⟩⟩
  have s1 := (same_upd (o := .tup [.ref pp, .ref a]) hT0).trans (same_upd (o := .lst [.ref T0]) hT)
  have first : Std K (upd (upd H T0 (.tup [.ref pp, .ref a])) T (.lst [.ref T0])) p0 n t wt (.ref T0) p0.length :=
    ⟨T0, .ref pp, .ref a, [], n, t, wt, rfl, Same.kt (same_upd hT) _ _ (.inl (.inl upd_same)), by rw [List.append_nil]; exact hp.keep (Same.kt s1), hv.keep (Same.kt s1), .nil, by rw [List.append_nil]⟩
  have nT : H T = none := (same_upd hT0).free hT
  have hL0 : (upd (upd H T0 (.tup [.ref pp, .ref a])) T (.lst [.ref T0])) T = some (.lst [.ref T0]) := upd_same
  generalize upd (upd H T0 (.tup [.ref pp, .ref a])) T (.lst [.ref T0]) = H1 at s1 first hL0
  have all := lns_len n t p0.length
  rw [lns_qs, List.length_cons] at all
  have xl : xs.length ≤ 4000 := by
    have := nar.few
    omega
  refine ⟨_, rfl, a, xs, rfl, .inr (Same.kt s1 _ _ ha), xs.length, rfl, by omega, by omega, for_range (lo := 0) (n := xs.length) (fun i σ H2 => ∃ (us : List V) (o3 o4 : Option V), σ = [some (.ref a), some (.ref pp), some (.ref T), o3, o4] ∧ H2 T = some (.lst us) ∧ It2 (Std K H2 p0 n t wt) us (p0.length :: ((qsOf n t).take i).flatMap (lnsQ (n - 1) (p0.length + 1))) ∧ Same H H2) ⟨[.ref T0], none, none, rfl, hL0, It2.one first, s1⟩ ?_ ?_⟩
  · rintro i σ H2 hi ⟨us, o3, o4, rfl, h2, i2, s2⟩
    show gName 3 (V.int (0 + (i : Int))) _ _ _
    rw [Int.zero_add]
    have e2 : xs[i]? = some xs[i] := List.getElem?_eq_getElem hi
    generalize xs[i] = x2 at e2
    obtain ⟨dx, ex, tx⟩ := ta.getV e2
    rw [List.getElem?_map] at ex
    obtain ⟨qn, eq, rfl⟩ := Option.map_eq_some_iff.mp ex
    have n1 : 1 ≤ n := by
      cases n with
      | zero =>
        have z : ([] : List (Qn (0 - 1)))[i]? = some qn := eq
        cases z
      | succ n => omega
    have hsp := hsp n1
    subst hsp
    obtain ⟨p1, ys, rfl, hp1, tp1⟩ := id tx.tupE
    have ly : ys.length = qn.length := by rw [tp1.len, List.length_map]
    have c1 : cntQ (n - 1) qn ≤ cnt n t := cntQ_le (List.mem_of_getElem? eq)
    have c3 := cntQ_len (n - 1) qn
    refine ⟨_, rfl, _, rfl, a, xs, (i : Int), .ref p1, rfl, rfl, Same.kt s2 _ _ ha, at_of (j := i) rfl e2, p1, ys, rfl, .inr (Same.kt s2 _ _ hp1), ys.length, rfl, by omega, by omega, for_range (lo := 0) (n := ys.length) (fun j σ H4 => ∃ (ws : List V) (o4 : Option V), σ = [some (.ref a), some (.ref pp), some (.ref T), some (.int (i : Int)), o4] ∧ H4 T = some (.lst ws) ∧ It2 (Std K H4 p0 n t wt) ws (p0.length :: (((qsOf n t).take i).flatMap (lnsQ (n - 1) (p0.length + 1)) ++ (qn.take j).flatMap fun a => lnsN (n - 1) a.2.2 (p0.length + 1))) ∧ Same H H4) ⟨us, o4, rfl, h2, by simpa using i2, s2⟩ ?_ ?_⟩
    · rintro j σ H5 hj ⟨ws, o4', rfl, h5, i5, s05⟩
      show gName 4 (V.int (0 + (j : Int))) _ _ _
      rw [Int.zero_add]
      have g2 : ys[j]? = some ys[j] := List.getElem?_eq_getElem hj
      generalize ys[j] = y2 at g2
      obtain ⟨dy, ey, ty⟩ := tp1.getV g2
      rw [List.getElem?_map] at ey
      obtain ⟨an, ea, rfl⟩ := Option.map_eq_some_iff.mp ey
      have k05 := Same.kt (K := K) s05
      have tan := ty.keep k05
      obtain ⟨pa, zs, rfl, hpa, tpa⟩ := id tan.tupE
      obtain ⟨vt, et, tt⟩ := tpa.get (i := 2) rfl
      -- found.extend(_law_paths(node[number][at][2], path + ((number, at),)))
      refine ⟨_, rfl, .inl ⟨rfl, _, SqL.of h5⟩, _, rfl, _, rfl, a, xs, (i : Int), .ref p1, rfl, rfl, k05 _ _ ha, at_of (j := i) rfl e2, _, rfl, p1, ys, (j : Int), .ref pa, rfl, rfl, k05 _ _ hp1, at_of (j := j) rfl g2, pa, zs, 2, vt, rfl, rfl, hpa, at_of (j := 2) rfl et, _, rfl, _, rfl, _, rfl, by show 2 ≤ sizeLine; decide, fun q1 m1 => ⟨by show 1 ≤ sizeLine; decide, fun q2 m2 => ?_⟩⟩
      have s56 := (same_upd (o := .tup [.int (i : Int), .int (j : Int)]) m1).trans (same_upd (o := .tup [.ref q1]) m2)
      have tq1 : Td K (upd (upd H5 q1 (.tup [.int (i : Int), .int (j : Int)])) q2 (.tup [.ref q1])) (.ref q1) (.tuple [.int (i : Int), .int (j : Int)]) := .tup (Same.kt (same_upd m2) _ _ (.inl (.inl upd_same))) (.cons (.int _) (.cons (.int _) .nil))
      refine ⟨pp, q2, pxs, _, rfl, rfl, Same.kt (s05.trans s56) _ _ hpp, .inl (.inl upd_same), by rw [lpx]; exact Nat.le_of_lt (small1000 (by simp; omega)), fun p3 H6 s6 q6 => ?_⟩
      have s06 := s05.trans (s56.trans s6)
      have s566 := s56.trans s6
      have tpath : Td K H6 (.ref p3) (ptD (p0 ++ [(i, j)])) := by
        rw [ptD_snoc]
        exact .tup q6 ((tpp.keep (Same.kt s06)).app (.cons (tq1.keep (Same.kt s6)) .nil))
      have k56 := Same.kt (K := K) s566
      have c2 : 1 + cnt (n - 1) an.2.2 ≤ cntQ (n - 1) qn := cntA_le (List.mem_of_getElem? ea)
      refine ⟨.ref p3, vt, p0 ++ [(i, j)], an.2.2, an.2.1, rfl, tt.keep k56, tpath, by rw [List.length_append]; show p0.length + 1 + (n - 1) ≤ 40; omega, by omega, ((nar.at_ _ (List.mem_of_getElem? eq)).2 _ (List.mem_of_getElem? ea)), fun L us9 H7 s7 nL h7 i7 => ?_⟩
      have s57 := s566.trans s7
      have h57 := s57 _ _ h5
      rw [List.length_append, List.length_singleton] at i7
      have i57 := (i5.imp fun x l z => Std.keep z (Same.kt s57)).app (i7.imp fun x l z => Std.behind (w := wt) eq ea z)
      have eT : (qn.take (j + 1)).flatMap (fun a : An (n - 1) => lnsN (n - 1) a.2.2 (p0.length + 1)) = (qn.take j).flatMap (fun a => lnsN (n - 1) a.2.2 (p0.length + 1)) ++ lnsN (n - 1) an.2.2 (p0.length + 1) := flat_take (fun a : An (n - 1) => lnsN (n - 1) a.2.2 (p0.length + 1)) ea
      rw [List.cons_append, List.append_assoc, ← eT] at i57
      have lim : (ws ++ us9).length ≤ 5000 := by
        rw [i57.1, List.length_cons, List.length_append]
        have e1 := flat_take (lnsQ (n - 1) (p0.length + 1)) eq
        have e2 := flat_take_le (lnsQ (n - 1) (p0.length + 1)) (qsOf n t) (i + 1)
        have e3 := flat_take_le (fun a : An (n - 1) => lnsN (n - 1) a.2.2 (p0.length + 1)) qn (j + 1)
        have e4 := lnsQ_len (n - 1) (p0.length + 1) qn
        unfold lnsQ at e4
        rw [e1, List.length_append] at e2
        unfold lnsQ at e2 all ⊢
        omega
      have kT : KT K H7 (upd H7 T (.lst (ws ++ us9))) := KT.updL h57
      refine ⟨T, L, ws, us9, rfl, rfl, h57, h7, by rw [← List.length_append, sizeLine_eq]; omega, ?_⟩
      exact ⟨ws ++ us9, _, rfl, upd_same, i57.imp fun x l z => Std.keep z kT, upd_same_frm (s05.trans s57) nT⟩
    · rintro σ H4 ⟨ws, o4', rfl, h4, i4, s4⟩
      rw [ly, List.take_length] at i4
      refine ⟨ws, _, _, rfl, h4, ?_, s4⟩
      rw [flat_take (lnsQ (n - 1) (p0.length + 1)) eq]
      exact i4
  · rintro σ H2 ⟨us, o3, o4, rfl, h2, i2, s2⟩
    rw [lx, List.take_length, ← lns_qs] at i2
    exact ⟨_, rfl, q T us H2 s2 nT h2 i2⟩
end
end Tl
/-! walks, words -/
namespace Tl
open PySem PySem.Spec PyProof.Rows L2 RZ
theorem drop_at {α : Type} : ∀ {l : List α} {i : Nat} {x : α}, l[i]? = some x → l.drop i = x :: l.drop (i + 1)
  | [], i, x, h => by simp at h
  | y :: r, 0, x, h => by
    cases h
    rfl
  | y :: r, i + 1, x, h => by
    show r.drop i = x :: r.drop (i + 1)
    exact drop_at (by simpa using h)
theorem good_lst {k : Nat} {xs : List PyData} (h : ∀ x ∈ xs, Good k x) : Good (k + 1) (.list xs) := by
  obtain ⟨a1, a2, a3⟩ := good_all h
  exact ⟨a1, Nat.succ_le_succ a2, a3⟩
/-- an answer of a node at its place -/
structure AnAt (K : PySem.W.Frag) (H : Hp) (nv : V) (n : Nat) (i j : Nat) (an : An n) (a p1 pa : Addr) (xs ys zs : List V) (v0 vw vt : V) : Prop where
  e : nv = .ref a
  ha : SqT K H a xs
  ei : xs[i]? = some (.ref p1)
  h1 : SqT K H p1 ys
  ej : ys[j]? = some (.ref pa)
  h2 : SqT K H pa zs
  e0 : zs[0]? = some v0
  e1 : zs[1]? = some vw
  e2 : zs[2]? = some vt
  t0 : Td K H v0 (wdD an.1)
  t1 : Td K H vw (wsD an.2.1)
  t2 : Td K H vt (ndD n an.2.2)
theorem an_at {K : PySem.W.Frag} {H : Hp} {n : Nat} {t : Nd n} {nv : V} {i j : Nat} {q : Qn (n - 1)} {an : An (n - 1)} (h : Td K H nv (ndD n t)) (e1 : (qsOf n t)[i]? = some q) (e2 : q[j]? = some an) : ∃ a p1 pa xs ys zs v0 vw vt, AnAt K H nv (n - 1) i j an a p1 pa xs ys zs v0 vw vt := by
  obtain ⟨a, xs, rfl, ha, ta⟩ := qs_td h
  obtain ⟨x1, ex1, tx1⟩ := ta.get (i := i) (d := qnD (n - 1) q) (by rw [List.getElem?_map, e1]; rfl)
  obtain ⟨p1, ys, rfl, h1, ty⟩ := tx1.tupE
  obtain ⟨x2, ex2, tx2⟩ := ty.get (i := j) (d := anD (n - 1) an) (by rw [List.getElem?_map, e2]; rfl)
  obtain ⟨pa, zs, rfl, h2, tz⟩ := tx2.tupE
  obtain ⟨v0, g0, t0⟩ := tz.get (i := 0) rfl
  obtain ⟨vw, g1, t1⟩ := tz.get (i := 1) rfl
  obtain ⟨vt, g2, t2⟩ := tz.get (i := 2) rfl
  exact ⟨a, p1, pa, xs, ys, zs, v0, vw, vt, rfl, ha, ex1, h1, ex2, h2, g0, g1, g2, t0, t1, t2⟩
theorem pt_at {K : PySem.W.Frag} {H : Hp} {pxs : List V} {p : List (Nat × Nat)} {i : Nat} {x : V} (h : TdAll K H pxs (p.map fun x => .tuple [.int (x.1 : Int), .int (x.2 : Int)])) (e : pxs[i]? = some x) :
    ∃ (y : Nat × Nat) (r : Addr), p[i]? = some y ∧ x = .ref r ∧ SqT K H r [.int (y.1 : Int), .int (y.2 : Int)] := by
  obtain ⟨dx, ex, tx⟩ := h.getV e
  rw [List.getElem?_map] at ex
  obtain ⟨y, ey, rfl⟩ := Option.map_eq_some_iff.mp ex
  obtain ⟨r, zs, rfl, hr, tz⟩ := tx.tupE
  cases tz with
  | cons a b =>
    cases a.intE
    cases b with
    | cons a b =>
      cases a.intE
      cases b
      exact ⟨y, r, ey, rfl, hr⟩
def spWlk (K : PySem.W.Frag) : Sp := fun vs H Q _ => ∃ (W n : Nat) (t : Nd n) (v pth : V) (p : List (Nat × Nat)) (m : Nat) (t' : Nd m) (w' : List Rat), vs = [.int (W : Int), v, pth] ∧ 1 ≤ W ∧ W ≤ 5 ∧ Td K H v (ndD n t) ∧ Td K H pth (ptD p) ∧ Wk n t (ones W) p m t' w' ∧
  ∀ (r : Addr) (wv nv : V) (H' : Hp), Same H H' → SqT K H' r [wv, nv] → Td K H' wv (wsD w') → Td K H' nv (ndD m t') → Q (.ref r) H'
/-- a list of lists of words -/
def LsI (K : PySem.W.Frag) (H : Hp) (T : Addr) (x : V) (e : List PyData) : Prop := ∃ (r : Addr) (ws : List V), x = .ref r ∧ r ≠ T ∧ H r = some (.lst ws) ∧ TdAll K H ws e
theorem LsI.upd {K : PySem.W.Frag} {H H' : Hp} {T : Addr} {x : V} {e : List PyData} (h : LsI K H T x e) (s : ∀ b o, H b = some o → b ≠ T → H' b = some o) (k : KT K H H') : LsI K H' T x e := by
  obtain ⟨r, ws, h1, h2, h3, h4⟩ := h
  exact ⟨r, ws, h1, h2, s _ _ h3 h2, h4.keep k⟩
theorem ls_dp {K : PySem.W.Frag} {H : Hp} {T : Addr} {us : List V} {es : List (List PyData)} (h : It2 (LsI K H T) us es) : DpAll K H us (es.map fun e => .list e) := by
  obtain ⟨h1, h2⟩ := h
  induction us generalizing es with
  | nil =>
    cases es with
    | nil => exact .nil
    | cons e r => simp at h1
  | cons x r ih =>
    cases es with
    | nil => simp at h1
    | cons e es =>
      obtain ⟨a, ws, rfl, _, g, t⟩ := h2 0 x e rfl rfl
      exact .cons (.lst (SqL.of g) t.dp) (ih (by simpa using h1) fun i x y e1 e2 => h2 (i + 1) x y (by simpa using e1) (by simpa using e2))
def wd0 {n : Nat} (q : Qn n) : List PyData := q.map fun a => wdD a.1
def wdS {n : Nat} (s : Int) (q : Qn n) : List PyData := q.map fun a => wdD (s :: a.1)
theorem wd0_bs (k m n : Nat) (t : Nd m) (o : Nd n) (w ow : List Rat) (h : m + n ≤ k) : (qsOf k (bsN k m n t o w ow)).map wd0 = (qsOf m t).map (wdS 0) ++ (qsOf n o).map (wdS 1) := by
  rw [qs_bsN k m n t o w ow h, List.map_append, List.map_map, List.map_map]
  congr 1
  · refine List.map_congr_left fun q _ => ?_
    show (q.map (bs1 (k - 1) m n o ow)).map (fun a => wdD a.1) = q.map fun a => wdD (0 :: a.1)
    rw [List.map_map]
    rfl
  · refine List.map_congr_left fun q _ => ?_
    show (q.map (bs2 (k - 1) m n t w)).map (fun a => wdD a.1) = q.map fun a => wdD (1 :: a.1)
    rw [List.map_map]
    rfl
def spWds (K : PySem.W.Frag) : Sp := fun vs H Q _ => ∃ (L : Addr) (m n e : Nat) (t : Nd m) (o : Nd n) (v1 v2 : V) (W : Nat), vs = [.ref L] ∧ H L = some (.lst [v1, v2]) ∧ Td K H v1 (ndD m t) ∧ Td K H v2 (ndD n o) ∧ WsAll W e m t ∧ WsAll W e n o ∧ Nar m t ∧ Nar n o ∧ cnt m t ≤ 1500 ∧ cnt n o ≤ 1500 ∧
  ∀ (r : Addr) (us : List V) (H' : Hp), Same H H' → H' r = some (.lst us) → It2 (LsI K H' r) us ((qsOf m t).map (wdS 0) ++ (qsOf n o).map (wdS 1)) → Q (.ref r) H'
def spChn (K : PySem.W.Frag) : Sp := fun vs H Q _ => ∃ (W m : Nat), vs = [.int (W : Int), .int (m : Int)] ∧ 1 ≤ W ∧ W ≤ 5 ∧ m ≤ 12 ∧ ∀ (v : V) (H' : Hp), Same H H' → Td K H' v (ndD m (chN W m)) → Q v H'
section
variable {P : Program} {w : World} {K : PySem.W.Frag} {mg : Str → Option Value} {base : Heap} {aN aO : Addr} {t1 t2 t3 t4 t5 t6 t7 : Tok}
theorem ok_law_walked {f : Addr} {fd : FuncData} (D : Dn K mg "_law_walked" s_law_walked ["worlds", "tree", "path"] f fd) (B : Blt mg) (C : Cst K mg aN aO t1 t2 t3 t4 t5 t6 t7) : FnOk P w K mg base CX0 1 f fd ["worlds", "tree", "path"] (spWlk K) := by
  refine D.F.ok sc_law_walked (fun vs H Q E h => ?_) (fun cdv A outer s H vs Q E hr h => ?_)
  · obtain ⟨W, n, t, v, pth, p, m, t', w', rfl, _⟩ := h
    rfl
  obtain ⟨W, n, t, v, pth, p, m, t', w', rfl, w1, w5, hv, hp, hw, q⟩ := h
  have nd := sc_law_walked.nd
  refine ⟨_, (pss_cons (ps_par (i := 3) (j := 4) rfl nd rfl rfl (by decide) rfl rfl (pa_cons (pe_op (k_rep (K := K) rfl) (pe_tup (pa_cons (pe_tup (pa_cons pe_int (pa_cons pe_int pa_nil))) pa_nil)) (pv 0)) (pa_cons (pv 1) pa_nil)) (by rfl))
      (pss_cons (ps_for PassesOwn.never rfl (k_iT (K := K) rfl (pv 2)) (k_tup (K := K) (n := 2) rfl rfl (pgs_cons (pg_name (i := 5) nd rfl (.inl rfl)) (pgs_cons (pg_name (i := 6) nd rfl (.inl rfl)) pgs_nil))) (pss_one (ps_par (i := 3) (j := 4) rfl nd rfl rfl (by decide) rfl rfl (pa_cons (pe_ix (k_ixT (K := K) rfl) (pe_ix (k_ixT (K := K) rfl) (pe_ix (k_ixT (K := K) rfl) (pv 4) (pv 5) (fun _ _ => rfl)) (pv 6) (fun _ _ => rfl)) pe_int (fun _ _ => rfl)) (pa_cons (pe_ix (k_ixT (K := K) rfl) (pe_ix (k_ixT (K := K) rfl) (pe_ix (k_ixT (K := K) rfl) (pv 4) (pv 5) (fun _ _ => rfl)) (pv 6) (fun _ _ => rfl)) pe_int (fun _ _ => rfl)) pa_nil)) (by rfl))))
      (pss_one (ps_ret (pe_tup (pa_cons (pv 3) (pa_cons (pv 4) pa_nil))))))), ?_⟩
  obtain ⟨pp, pxs, rfl, hpp, tpp⟩ := hp.tupE
  have lpx : pxs.length = p.length := by rw [tpp.len, List.length_map]
  refine ⟨(by show 2 ≤ sizeLine; decide), fun p1 n1 => ⟨(by show 1 ≤ sizeLine; decide), fun p2 n2 => ?_⟩⟩
  have s2 : Same H (upd (upd H p1 (.tup [.int 1, .int 1])) p2 (.tup [.ref p1])) := (same_upd n1).trans (same_upd n2)
  refine ⟨_, rfl, p2, (W : Int), _, rfl, rfl, .inl (.inl upd_same), by simp, by omega, by omega, by simp, fun pa H3 s3 q3 => ?_⟩
  have s03 := s2.trans s3
  have t1 : Td K H3 (.ref p1) (rD 1) := by
    rw [rD_one]
    exact .tup (Same.kt s3 _ _ (Same.kt (same_upd n2) _ _ (.inl (.inl upd_same)))) (tdAll_ints [1, 1])
  have ta : Td K H3 (.ref pa) (wsD (ones W)) := ones_td t1 q3
  refine ⟨_, rfl, _, _, rfl, ?_⟩
  refine ⟨_, rfl, pp, rfl, ⟨_, Same.kt s03 _ _ hpp⟩, for_it (walk_tup (K := K) (a := pp) (xs := pxs)) (fun i σ H2 => ∃ (k : Nat) (tk : Nd k) (wk : List Rat) (wv nv : V) (o5 o6 : Option V), σ = [some (.int (W : Int)), some v, some (.ref pp), some wv, some nv, o5, o6] ∧ Td K H2 wv (wsD wk) ∧ Td K H2 nv (ndD k tk) ∧ Wk k tk wk (p.drop i) m t' w' ∧ Same H H2) ⟨n, t, ones W, .ref pa, v, none, none, rfl, ta, hv.keep (Same.kt s03), hw, s03⟩ (fun i σ H2 _ h => ?_) ?_ ?_⟩
  · obtain ⟨_, _, _, _, _, _, _, _, _, _, _, s2⟩ := h
    exact Same.kt s2 _ _ hpp
  · rintro i x σ H0 H2 hi ⟨k, tk, wk, wv, nv, o5, o6, rfl, twv, tnv, hk, s0⟩ ⟨e0, e1⟩
    subst e0
    have k0 := Same.kt (K := K) s0
    obtain ⟨y, r, ey, rfl, hr2⟩ := pt_at (tpp.keep k0) e1
    obtain ⟨y1, y2⟩ := y
    rw [drop_at ey] at hk
    cases hk with
    | cons g1 g2 hk2 =>
      obtain ⟨a, b1, b2, xs, ys, zs, v0, vw, vt, A⟩ := an_at tnv g1 g2
      cases A.e
      refine ⟨r, _, rfl, hr2, rfl, _, _, rfl, _, _, rfl, rfl, ?_⟩
      refine ⟨_, rfl, _, rfl, a, xs, (y1 : Int), .ref b1, rfl, rfl, A.ha, at_of (j := y1) rfl A.ei, _, rfl, b1, ys, (y2 : Int), .ref b2, rfl, rfl, A.h1, at_of (j := y2) rfl A.ej, b2, zs, 1, vw, rfl, rfl, A.h2, at_of (j := 1) rfl A.e1, ?_⟩
      refine ⟨_, rfl, _, rfl, a, xs, (y1 : Int), .ref b1, rfl, rfl, A.ha, at_of (j := y1) rfl A.ei, _, rfl, b1, ys, (y2 : Int), .ref b2, rfl, rfl, A.h1, at_of (j := y2) rfl A.ej, b2, zs, 2, vt, rfl, rfl, A.h2, at_of (j := 2) rfl A.e2, ?_⟩
      exact ⟨_, _, rfl, _, _, _, vw, vt, _, _, rfl, A.t1, A.t2, hk2, s0⟩
  · rintro σ H2 ⟨k, tk, wk, wv, nv, o5, o6, rfl, twv, tnv, hk, s0⟩
    rw [lpx, List.drop_length] at hk
    cases hk
    refine ⟨_, rfl, _, rfl, (by show 2 ≤ sizeLine; decide), fun r nr => ?_⟩
    have s4 := same_upd (o := .tup [wv, nv]) nr
    exact q r wv nv _ (s0.trans s4) (.inl (.inl upd_same)) (twv.keep (Same.kt s4)) (tnv.keep (Same.kt s4))
end
end Tl
namespace Tl
open PySem PySem.Spec PyProof.Rows L2 RZ
def tsD (n : Nat) (prior : List Rat) (tb : Tb n) : PyData := .tuple [wsD prior, tbD n tb]
def spTest (K : PySem.W.Frag) (C : Addr) (n : Nat) : Sp := fun vs H Q _ => ∃ (p : Addr) (u v : V) (W : Nat) (t : Nd n) (prior : List Rat) (tb : Tb n), vs = [.ref p, u] ∧ HsOk K C H p W n t v ∧ Td K H u (tsD n prior tb) ∧ PriorOk W prior ∧ TbOk W n t tb ∧ ∀ H', Same H H' → Q (.bl true) H'
def spCkTest (K : PySem.W.Frag) (C : Addr) (n : Nat) : Sp := fun vs H Q _ => ∃ (p : Addr) (u v : V) (W : Nat) (t : Nd n) (prior : List Rat) (tb : Tb n), vs = [.ref p, u] ∧ HsOk K C H p W n t v ∧ Td K H u (tsD n prior tb) ∧ PriorOk W prior ∧ TbOk W n t tb ∧ ∀ H', Same H H' → Q .non H'
def spPaid (K : PySem.W.Frag) (C : Addr) (n : Nat) : Sp := fun vs H Q _ => ∃ (p : Addr) (u v : V) (W : Nat) (t : Nd n) (prior : List Rat) (tb : Tb n), vs = [.ref p, u] ∧ HsOk K C H p W n t v ∧ Td K H u (tsD n prior tb) ∧ PriorOk W prior ∧ TbOk W n t tb ∧ n ≤ 6 ∧ ∀ r H', Same H H' → Td K H' r (rD (paidT prior n t tb)) → Q r H'
theorem td_two {K : PySem.W.Frag} {H : Hp} {v : V} {d e : PyData} (h : Td K H v (.tuple [d, e])) : ∃ p x y, v = .ref p ∧ SqT K H p [x, y] ∧ Td K H x d ∧ Td K H y e := by
  obtain ⟨p, xs, rfl, hp, t⟩ := h.tupE
  cases t with
  | cons t1 t =>
    cases t with
    | cons t2 t =>
      cases t
      exact ⟨p, _, _, rfl, hp, t1, t2⟩
theorem take_zip_succ {α β γ : Type} {f : α → β → γ} {as : List α} {bs : List β} {i : Nat} {a : α} {b : β} (h1 : as[i]? = some a) (h2 : bs[i]? = some b) : (List.zipWith f as bs).take (i + 1) = (List.zipWith f as bs).take i ++ [f a b] := by
  rw [List.take_add_one, zip_at h1 h2]
  rfl
section
variable {P : Program} {w : World} {K : PySem.W.Frag} {mg : Str → Option Value} {base : Heap} {aN aO : Addr} {t1 t2 t3 t4 t5 t6 t7 : Tok}
end
end Tl
namespace Tl
open PySem PySem.Spec PyProof.Rows L2 RZ
/-! ### what the law draws for a test -/
theorem shares_ch {m : Nat} {rs : List Rat} (h : IsShares m rs) (hm : m ≤ 12) : ∀ r ∈ rs, Ch 1 r := by
  obtain ⟨ps, h1, h2, h3, rfl⟩ := h
  intro r hr
  obtain ⟨p, hp, rfl⟩ := List.mem_map.mp hr
  refine ch_share h2 (by omega) ?_
  have : ∀ (l : List Nat) (x : Nat), x ∈ l → x ≤ l.sum := fun l => by
    induction l with
    | nil =>
      intro x h
      exact absurd h List.not_mem_nil
    | cons y r ih =>
      intro x h
      rcases List.mem_cons.mp h with rfl | h
      · show x ≤ x + r.sum
        omega
      · have := ih x h
        show x ≤ y + r.sum
        omega
  exact this ps p hp
theorem shares_sum {m : Nat} {rs : List Rat} (h : IsShares m rs) : fsum rs = 1 ∧ rs.length = m ∧ ∀ i, fsum (rs.take i) ≤ 1 := by
  obtain ⟨ps, h1, h2, h3, rfl⟩ := h
  refine ⟨by rw [fsum_mk _ h2, mk_same _ h2], by rw [List.length_map, h1], fun i => ?_⟩
  rw [← List.map_take, fsum_mk _ h2]
  refine mk_le_one _ _ h2 ?_
  have e : (ps.take i ++ ps.drop i).sum = (ps.take i).sum + (ps.drop i).sum := List.sum_append
  rw [List.take_append_drop] at e
  omega
theorem shares_prior {W : Nat} {rs : List Rat} (h : IsShares W rs) (h5 : W ≤ 5) : PriorOk W rs := ⟨(shares_sum h).2.1, shares_ch h (by omega), (shares_sum h).1⟩
theorem pay_fd {t : Int} {b : Nat} (h1 : -4 ≤ t) (h2 : t ≤ 4) (b1 : 1 ≤ b) (b3 : b ≤ 3) : Fd 1 4 (mkRat t b) := by
  have hb : 0 < b := b1
  refine ⟨?_, ?_⟩
  · rw [Nat.pow_one]
    exact Nat.dvd_trans (mk_den_dvd hb) (ll_dvd b hb (by omega))
  · have dp : (1 : Int) ≤ ((mkRat t b).den : Int) := by
      have := Nat.pos_of_ne_zero (mkRat t b).den_nz
      omega
    have nl : (mkRat t b).num.natAbs ≤ 4 := by
      rw [(mkRat_parts t b hb).1]
      exact Nat.le_trans (Int.natAbs_ediv_le_natAbs _ _) (by omega)
    constructor
    · refine (Rat.le_iff _ _).mpr ?_
      rw [Rat.neg_num, Rat.neg_den, Rat.num_natCast, Rat.den_natCast]
      show -(4 : Int) * ((mkRat t b).den : Int) ≤ (mkRat t b).num * 1
      omega
    · refine (Rat.le_iff _ _).mpr ?_
      rw [Rat.num_natCast, Rat.den_natCast]
      show (mkRat t b).num * 1 ≤ 4 * ((mkRat t b).den : Int)
      omega
def spPlus (K : PySem.W.Frag) : Sp := fun vs H Q _ => ∃ (x y : V) (p q : Rat), vs = [x, y] ∧ Td K H x (rD p) ∧ Td K H y (rD q) ∧ Sm p ∧ Sm q ∧ ∀ v H', Same H H' → Td K H' v (rD (p + q)) → Q v H'
def spTab (K : PySem.W.Frag) (n : Nat) : Sp := fun vs H Q _ => ∃ (b g : Addr) (W : Nat) (v : V) (ahead : List Rat) (t : Nd n), vs = [.ref b, .int (W : Int), v] ∧ Bag H b g ∧ Td K H v (ndD n t) ∧ NdOk W n ahead t ∧ 1 ≤ W ∧ W ≤ 5 ∧
  ∀ (v' : V) (tb : Tb n) (H' : Hp), Td K H' v' (tbD n tb) → TbOk W n t tb → Bag H' b g → Frm b g H H' → Q v' H'
def spTst (K : PySem.W.Frag) (n : Nat) : Sp := fun vs H Q _ => ∃ (b g : Addr) (W : Nat) (v : V) (ahead : List Rat) (t : Nd n), vs = [.ref b, .int (W : Int), v] ∧ Bag H b g ∧ Td K H v (ndD n t) ∧ NdOk W n ahead t ∧ 1 ≤ W ∧ W ≤ 5 ∧
  ∀ (v' : V) (prior : List Rat) (tb : Tb n) (H' : Hp), Td K H' v' (tsD n prior tb) → PriorOk W prior → TbOk W n t tb → Bag H' b g → Frm b g H H' → Q v' H'
theorem Sm.big {q : Rat} (h : Sm q) : q.den < 2 ^ 2000 ∧ q.num.natAbs < 2 ^ 2000 := by
  have z : 2 ^ 1500 < 2 ^ 2000 := Nat.pow_lt_pow_right (by decide) (by decide)
  exact ⟨Nat.lt_trans h.1 z, Nat.lt_trans h.2 z⟩
section
variable {P : Program} {w : World} {K : PySem.W.Frag} {mg : Str → Option Value} {base : Heap}
theorem ok_law_plus {f f1 f2 : Addr} {fd fd1 fd2 : FuncData} (D : Dn K mg "_law_plus" s_law_plus ["one", "other"] f fd) (B : Blt mg) (D_law_low : Dn K mg "_law_low" s_law_low ["top", "bottom"] f1 fd1) (D_law_common : Dn K mg "_law_common" s_law_common ["one", "other"] f2 fd2) : FnOk P w K mg base CX0 3 f fd ["one", "other"] (spPlus K) := by
  have G_law_low : FnOk P w K mg base CX0 2 f1 fd1 ["top", "bottom"] (spLow K) := ok_law_low D_law_low B D_law_common
  refine D.F.ok sc_law_plus (fun vs H Q E h => ?_) (fun cdv A outer s H vs Q E hr h => ?_)
  · obtain ⟨x, y, p, q, rfl, _⟩ := h
    rfl
  obtain ⟨x, y, p, q, rfl, hx, hy, z1, z2, k⟩ := h
  have nd := sc_law_plus.nd
  refine ⟨_, (pss_one (ps_ret (pe_call G_law_low (hr.mono (by omega)) (by rfl) D_law_low.m D_law_low.F.kp D_law_low.b .nil pass0 (pa_cons (pe_op op_add (pe_op op_mulW (pe_ix (k_ixT (K := K) rfl) (pv 0) pe_int (fun _ _ => rfl)) (pe_ix (k_ixT (K := K) rfl) (pv 1) pe_int (fun _ _ => rfl))) (pe_op op_mulW (pe_ix (k_ixT (K := K) rfl) (pv 1) pe_int (fun _ _ => rfl)) (pe_ix (k_ixT (K := K) rfl) (pv 0) pe_int (fun _ _ => rfl)))) (pa_cons (pe_op op_mulW (pe_ix (k_ixT (K := K) rfl) (pv 0) pe_int (fun _ _ => rfl)) (pe_ix (k_ixT (K := K) rfl) (pv 1) pe_int (fun _ _ => rfl))) pa_nil))))), ?_⟩
  obtain ⟨a, rfl, ha⟩ := hx.rE
  obtain ⟨b, rfl, hb⟩ := hy.rE
  have i0 : atI [V.int p.num, .int (p.den : Int)] 0 = some (.int p.num) := at_of (j := 0) rfl rfl
  have i1 : atI [V.int p.num, .int (p.den : Int)] 1 = some (.int (p.den : Int)) := at_of (j := 1) rfl rfl
  have j0 : atI [V.int q.num, .int (q.den : Int)] 0 = some (.int q.num) := at_of (j := 0) rfl rfl
  have j1 : atI [V.int q.num, .int (q.den : Int)] 1 = some (.int (q.den : Int)) := at_of (j := 1) rfl rfl
  have hp0 : 0 < p.den := Nat.pos_of_ne_zero p.den_nz
  have hq0 : 0 < q.den := Nat.pos_of_ne_zero q.den_nz
  have dp : ((p.den : Int)).natAbs < 2 ^ 1500 := by rw [Int.natAbs_natCast]; exact z1.1
  have dq : ((q.den : Int)).natAbs < 2 ^ 1500 := by rw [Int.natAbs_natCast]; exact z2.1
  have c1 : CMulW p.num (q.den : Int) := wide_mul z1.2 dq (by decide) (by decide) (by decide)
  have c2 : CMulW q.num (p.den : Int) := wide_mul z2.2 dp (by decide) (by decide) (by decide)
  have c3 : CMulW (p.den : Int) (q.den : Int) := wide_mul dp dq (by decide) (by decide) (by decide)
  refine ⟨_, rfl, a, _, 0, _, rfl, rfl, ha, i0, _, rfl, b, _, 1, _, rfl, rfl, hb, j1, _, _, rfl, rfl, c1, _, rfl, b, _, 0, _, rfl, rfl, hb, j0, _, rfl, a, _, 1, _, rfl, rfl, ha, i1, _, _, rfl, rfl, c2, _, _, rfl, rfl,
    _, rfl, a, _, 1, _, rfl, rfl, ha, i1, _, rfl, b, _, 1, _, rfl, rfl, hb, j1, _, _, rfl, rfl, c3, ?_⟩
  refine ⟨p.num * q.den + q.num * p.den, p.den * q.den, by rw [Int.natCast_mul]; rfl, Nat.mul_pos hp0 hq0, ?_, fun v H' s' hv => k v H' s' ?_⟩
  · have z := Nat.mul_lt_mul'' z1.1 z2.1
    rw [← Nat.pow_add] at z
    exact Nat.lt_trans z (Nat.pow_lt_pow_right (by decide) (by decide))
  · rw [← Rat.mkRat_add_mkRat _ _ p.den_nz q.den_nz, rat_mk, rat_mk] at hv
    exact hv
end
end Tl
namespace Tl
open PySem PySem.Spec PyProof.Rows L2 RZ
/-- of one shape, with the same words -/
def Shp : (n : Nat) → Nd n → Nd n → Prop
  | 0, _, _ => True
  | n + 1, qs, qs' => Al (fun (q q' : Qn n) => Al (fun (a a' : An n) => a.1 = a'.1 ∧ Shp n a.2.2 a'.2.2) q q') qs qs'
theorem Al.join {α β γ : Type} {R : α → β → Prop} {S : α → γ → Prop} {T : β → γ → Prop} {as : List α} {bs : List β} {cs : List γ} (h : Al R as bs) (g : Al S as cs) (f : ∀ a b c, R a b → S a c → T b c) : Al T bs cs := Al.of (by rw [← h.len, g.len]) fun i b c h1 h2 => by
  have la := h.len
  have hi : i < as.length := by
    have := (List.getElem?_eq_some_iff.mp h1).1
    omega
  have ea : as[i]? = some as[i] := List.getElem?_eq_getElem hi
  obtain ⟨b', e1, r⟩ := h.get ea
  obtain ⟨c', e2, s⟩ := g.get ea
  rw [h1] at e1
  rw [h2] at e2
  cases e1
  cases e2
  exact f _ _ _ r s
theorem tbOk_shp {W : Nat} : ∀ {n : Nat} {t t' : Nd n} {tb : Tb n}, Shp n t t' → TbOk W n t tb → TbOk W n t' tb
  | 0, _, _, _, _, _ => trivial
  | n + 1, qs, qs', xs, sh, ok => ⟨ok.1, ok.2.1, Al.join sh ok.2.2 fun q q' x h1 h2 => Al.join h1 h2 fun a a' r k1 k2 => ⟨k2.1, tbOk_shp k1.2 k2.2⟩⟩
theorem cnt_shp : ∀ {n : Nat} {t t' : Nd n}, Shp n t t' → cnt n t = cnt n t'
  | 0, _, _, _ => rfl
  | n + 1, qs, qs', sh => by
    have one : ∀ {q q' : Qn n}, Al (fun (a a' : An n) => a.1 = a'.1 ∧ Shp n a.2.2 a'.2.2) q q' → cntQ n q = cntQ n q' := fun {q q'} h => by
      induction h with
      | nil => rfl
      | cons h _ ih =>
        rw [cntQ_cons, cntQ_cons, ih, cnt_shp h.2]
    have all : ∀ {l l' : List (Qn n)}, Al (fun (q q' : Qn n) => Al (fun (a a' : An n) => a.1 = a'.1 ∧ Shp n a.2.2 a'.2.2) q q') l l' → cnt (n + 1) (l : Nd (n + 1)) = cnt (n + 1) (l' : Nd (n + 1)) := fun {l l'} h => by
      induction h with
      | nil => rfl
      | cons h _ ih => rw [cnt_cons, cnt_cons, ih, one h]
    exact all sh
/-- other weights in a right question -/
theorem rw_ok {W n m e : Nat} {ahead0 ahead : List Rat} {ds : List (List Rat)} {q : Qn n} {q' : Qn n} (ok : QnOk W ahead0 q) (hl : q'.length = q.length) (hd : ds.length = W) (ha : ahead.length = W) (hS : ∀ d ∈ ds, IsShares q.length d) (hA : ∀ r ∈ ahead, Ch e r) (he : e + 1 ≤ 6)
    (h : ∀ (i : Nat) (a' : An n), q'[i]? = some a' → ∃ a : An n, q[i]? = some a ∧ a'.1 = a.1 ∧ a'.2.1 = wk W ahead ds i) : QnOk W ahead q' ∧ (∀ a ∈ q', ∀ r ∈ a.2.1, Ch (e + 1) r) := by
  have o1 := ok.one
  have o12 := ok.most
  have dj : ∀ j, j < W → IsShares q.length (ds.getD j []) := fun j hj => by
    have hj2 : j < ds.length := by omega
    rw [getD_of (List.getElem?_eq_getElem hj2)]
    exact hS _ (List.getElem_mem hj2)
  have aj : ∀ j, j < W → Ch e (ahead.getD j 0) := fun j hj => mem_getD0 hA (by omega)
  have chw : ∀ a ∈ q', ∀ r ∈ a.2.1, Ch (e + 1) r := by
    intro a hm' r hr
    obtain ⟨i, hi, rfl⟩ := List.getElem_of_mem hm'
    obtain ⟨_, _, _, ew⟩ := h i _ (List.getElem?_eq_getElem hi)
    rw [ew] at hr
    unfold wk at hr
    obtain ⟨j, hj, rfl⟩ := List.mem_map.mp hr
    have hj := List.mem_range.mp hj
    obtain ⟨p, s, s0, s1, ps, e1⟩ := share_at (dj j hj) (show i < q.length by omega)
    rw [e1]
    exact (aj j hj).mul s0 (by omega) ps
  have colj : ∀ j, j < W → col q' j = (ds.getD j []).map fun x => ahead.getD j 0 * x := by
    intro j hj
    have lj : (ds.getD j []).length = q.length := by
      obtain ⟨ps, h1, _, _, e1⟩ := dj j hj
      rw [e1, List.length_map, h1]
    refine List.ext_getElem? fun i => ?_
    unfold col
    rw [List.getElem?_map, List.getElem?_map]
    by_cases hi : i < q.length
    · have g1 : q'[i]? = some (q'[i]'(by omega)) := List.getElem?_eq_getElem (by omega)
      have g2 : (ds.getD j [])[i]? = some ((ds.getD j [])[i]'(by omega)) := List.getElem?_eq_getElem (by omega)
      rw [g1, g2]
      obtain ⟨_, _, _, e3⟩ := h i _ g1
      show some ((q'[i]'(by omega)).2.1.getD j 0) = some (ahead.getD j 0 * ((ds.getD j [])[i]'(by omega)))
      rw [e3, wk_at hj, getD_of g2]
    · rw [List.getElem?_eq_none (by omega), List.getElem?_eq_none (by omega)]
      rfl
  refine ⟨⟨by omega, by omega, ?_, ?_, ?_, ?_, ?_⟩, chw⟩
  · intro a hm'
    obtain ⟨i, hi, rfl⟩ := List.getElem_of_mem hm'
    obtain ⟨a0, e0, ew, _⟩ := h i _ (List.getElem?_eq_getElem hi)
    rw [ew]
    exact ok.words _ (List.mem_of_getElem? e0)
  · intro i x y hx hy
    obtain ⟨x0, ex, kx, _⟩ := h i _ hx
    obtain ⟨y0, ey, ky, _⟩ := h (i + 1) _ hy
    rw [kx, ky]
    exact ok.asc i x0 y0 ex ey
  · intro a hm'
    obtain ⟨i, hi, rfl⟩ := List.getElem_of_mem hm'
    obtain ⟨_, _, _, ew⟩ := h i _ (List.getElem?_eq_getElem hi)
    rw [ew]
    unfold wk
    rw [List.length_map, List.length_range]
  · exact fun a h1 r h2 => (chw a h1 r h2).mono he
  · intro j hj
    rw [colj j hj]
    exact shares_col (dj j hj) _
def spRW (K : PySem.W.Frag) (n : Nat) : Sp := fun vs H Q _ => ∃ (b g : Addr) (W e : Nat) (v av : V) (ahead0 ahead : List Rat) (t : Nd n), vs = [.ref b, .int (W : Int), v, av] ∧ Bag H b g ∧ Td K H v (ndD n t) ∧ Td K H av (wsD ahead) ∧ ahead.length = W ∧ (∀ r ∈ ahead, Ch e r) ∧ e + n ≤ 6 ∧ NdOk W n ahead0 t ∧ 1 ≤ W ∧ W ≤ 5 ∧
  ∀ (v' : V) (t' : Nd n) (H' : Hp), Td K H' v' (ndD n t') → NdOk W n ahead t' → Shp n t t' → Bag H' b g → Frm b g H H' → Q v' H'
theorem Bag.nw {b g p : Addr} {H H' : Hp} (f : Frm b g H H') (h : H' p = none) (h1 : p ≠ b) (h2 : p ≠ g) : H p = none := by
  cases e : H p with
  | none => rfl
  | some o =>
    rw [f p o e h1 h2] at h
    cases h
section
variable {P : Program} {w : World} {K : PySem.W.Frag} {mg : Str → Option Value} {base : Heap}
end
end Tl
/-! trees scaled, tossed, hidden; shapes -/
namespace Tl
open PySem PySem.Spec PyProof.Rows L2 RZ
/-! ### scaled -/
def scW (c : Rat) (w : List Rat) : List Rat := w.map fun x => c * x
def scN (c : Rat) : (m : Nat) → Nd m → Nd m
  | 0, _ => ()
  | m + 1, qs => ((show List (Qn m) from qs).map fun q => q.map fun a => ((a.1, scW c a.2.1, scN c m a.2.2) : An m) : List (Qn m))
def scA (c : Rat) (m : Nat) (a : An m) : An m := (a.1, scW c a.2.1, scN c m a.2.2)
theorem qs_sc (c : Rat) : ∀ (m : Nat) (t : Nd m), qsOf m (scN c m t) = (qsOf m t).map fun q => q.map (scA c (m - 1))
  | 0, _ => rfl
  | _ + 1, _ => rfl
theorem Wk.sc {c : Rat} {n : Nat} {t : Nd n} {w : List Rat} {p : List (Nat × Nat)} {m : Nat} {t' : Nd m} {w' : List Rat} (h : Wk n t w p m t' w') : Wk n (scN c n t) (scW c w) p m (scN c m t') (scW c w') := by
  induction h with
  | nil => exact .nil
  | @cons n t w i j q a p m t' w' e1 e2 _ ih =>
    refine .cons (q := q.map (scA c (n - 1))) (a := scA c (n - 1) a) ?_ ?_ ih
    · rw [qs_sc, List.getElem?_map, e1]
      rfl
    · rw [List.getElem?_map, e2]
      rfl
theorem cnt_sc (c : Rat) : ∀ (m : Nat) (t : Nd m), cnt m (scN c m t) = cnt m t
  | 0, _ => rfl
  | m + 1, t => by
    rw [cnt_qs, qs_sc, List.map_map, cnt_qs]
    refine congrArg List.sum (List.map_congr_left fun q _ => ?_)
    show cntQ m (q.map (scA c m)) = cntQ m q
    unfold cntQ
    rw [List.map_map]
    refine congrArg List.sum (List.map_congr_left fun a _ => ?_)
    show 1 + cnt m (scN c m a.2.2) = 1 + cnt m a.2.2
    rw [cnt_sc c m]
theorem scW_len (c : Rat) (w : List Rat) : (scW c w).length = w.length := by
  unfold scW
  rw [List.length_map]
/-! ### tossed -/
def toA (W m : Nat) (s : Rat) (t : Nd m) (k : Int) : An m := ([k], scW s (ones W), scN s m t)
def toQ (W m : Nat) (s r : Rat) (t o : Nd m) : Qn m := [toA W m s t 0, toA W m r o 1]
def toN (W m : Nat) (s r : Rat) (t o : Nd m) : Nd (m + 1) := ([toQ W m s r t o] : List (Qn m))
theorem cnt_to (W m : Nat) (s r : Rat) (t o : Nd m) : cnt (m + 1) (toN W m s r t o) = 2 + cnt m t + cnt m o := by
  show (1 + cnt m (scN s m t) + (1 + cnt m (scN r m o) + 0)) + 0 = _
  rw [cnt_sc, cnt_sc]
  omega
theorem wk_to0 {W m : Nat} {s r : Rat} {t o : Nd m} {p : List (Nat × Nat)} {k : Nat} {t' : Nd k} {w' : List Rat} (h : Wk m t (ones W) p k t' w') : Wk (m + 1) (toN W m s r t o) (ones W) ((0, 0) :: p) k (scN s k t') (scW s w') :=
  Wk.cons (n := m + 1) (q := toQ W m s r t o) (a := toA W m s t 0) rfl rfl h.sc
theorem wk_to1 {W m : Nat} {s r : Rat} {t o : Nd m} {p : List (Nat × Nat)} {k : Nat} {t' : Nd k} {w' : List Rat} (h : Wk m o (ones W) p k t' w') : Wk (m + 1) (toN W m s r t o) (ones W) ((0, 1) :: p) k (scN r k t') (scW r w') :=
  Wk.cons (n := m + 1) (q := toQ W m s r t o) (a := toA W m r o 1) rfl rfl h.sc
/-! ### shapes -/
def alB {α β : Type} (r : α → β → Bool) : List α → List β → Bool
  | [], [] => true
  | x :: xs, y :: ys => r x y && alB r xs ys
  | _, _ => false
theorem alB_congr {α β : Type} {r r' : α → β → Bool} (h : ∀ x y, r x y = r' x y) (xs : List α) (ys : List β) : alB r xs ys = alB r' xs ys := by
  rw [show r = r' from funext fun x => funext fun y => h x y]
theorem alB_at {α β : Type} {r : α → β → Bool} : ∀ {xs : List α} {ys : List β}, alB r xs ys = true → xs.length = ys.length ∧ ∀ (i : Nat) (x : α) (y : β), xs[i]? = some x → ys[i]? = some y → r x y = true
  | [], [], _ => ⟨rfl, fun i x y e _ => by simp at e⟩
  | [], _ :: _, h => by cases h
  | _ :: _, [], h => by cases h
  | a :: xs, b :: ys, h => by
    have h : (r a b && alB r xs ys) = true := h
    rw [Bool.and_eq_true] at h
    obtain ⟨l, g⟩ := alB_at h.2
    refine ⟨by rw [List.length_cons, List.length_cons, l], fun i x y e1 e2 => ?_⟩
    cases i with
    | zero =>
      simp at e1 e2
      rw [← e1, ← e2]
      exact h.1
    | succ i => exact g i x y (by simpa using e1) (by simpa using e2)
theorem eqvAll_map {α β : Type} (f : α → PyData) (g : β → PyData) : ∀ (xs : List α) (ys : List β), PyData.eqvAll (xs.map f) (ys.map g) = alB (fun x y => PyData.eqv (f x) (g y)) xs ys
  | [], [] => rfl
  | [], _ :: _ => rfl
  | _ :: _, [] => rfl
  | x :: xs, y :: ys => by
    show (PyData.eqv (f x) (g y) && PyData.eqvAll (xs.map f) (ys.map g)) = _
    rw [eqvAll_map f g xs ys]
    rfl
theorem alB_ints : ∀ (xs ys : List Int), alB (fun x y => x == y) xs ys = decide (xs = ys)
  | [], [] => rfl
  | [], _ :: _ => rfl
  | _ :: _, [] => rfl
  | x :: xs, y :: ys => by
    show (x == y && alB (fun x y => x == y) xs ys) = _
    rw [alB_ints xs ys]
    by_cases h : x = y
    · subst h
      by_cases g : xs = ys
      · subst g
        simp
      · simp [g]
    · simp [h]
theorem eqv_wd (u v : List Int) : PyData.eqv (wdD u) (wdD v) = decide (u = v) := by
  show PyData.eqvAll (u.map PyData.int) (v.map PyData.int) = _
  rw [eqvAll_map, ← alB_ints]
  rfl
def shB : (m : Nat) → Nd m → Nd m → Bool
  | 0, _, _ => true
  | m + 1, qs, qs' => alB (fun (q q' : Qn m) => alB (fun (a a' : An m) => decide (a.1 = a'.1) && shB m a.2.2 a'.2.2) q q') qs qs'
theorem shB_at : ∀ {n : Nat} {t o : Nd n}, shB n t o = true → (qsOf n t).length = (qsOf n o).length ∧ ∀ (i : Nat) (q q' : Qn (n - 1)), (qsOf n t)[i]? = some q → (qsOf n o)[i]? = some q' → q.length = q'.length ∧ ∀ (j : Nat) (a a' : An (n - 1)), q[j]? = some a → q'[j]? = some a' → a.1 = a'.1 ∧ shB (n - 1) a.2.2 a'.2.2 = true
  | 0, _, _, _ => ⟨rfl, fun i q q' e _ => by
    have z : ([] : List (Qn (0 - 1)))[i]? = some q := e
    cases z⟩
  | n + 1, t, o, h => by
    obtain ⟨l, g⟩ := alB_at h
    refine ⟨l, fun i q q' e1 e2 => ?_⟩
    obtain ⟨l2, g2⟩ := alB_at (g i q q' e1 e2)
    refine ⟨l2, fun j a a' f1 f2 => ?_⟩
    have z := g2 j a a' f1 f2
    rw [Bool.and_eq_true] at z
    exact ⟨of_decide_eq_true z.1, z.2⟩
/-- as the law tells it: lists -/
def shD : (m : Nat) → Nd m → PyData
  | 0, _ => .list []
  | m + 1, qs => .list ((show List (Qn m) from qs).map fun q => .list ((show List (An m) from q).map fun a => .tuple [wdD a.1, shD m a.2.2]))
def shA (m : Nat) (a : An m) : PyData := .tuple [wdD a.1, shD m a.2.2]
def shQ (m : Nat) (q : Qn m) : PyData := .list ((show List (An m) from q).map (shA m))
theorem shD_qs : ∀ (m : Nat) (t : Nd m), shD m t = .list ((qsOf m t).map (shQ (m - 1)))
  | 0, _ => rfl
  | _ + 1, _ => rfl
theorem eqv_sh : ∀ (m : Nat) (t o : Nd m), PyData.eqv (shD m t) (shD m o) = shB m t o
  | 0, _, _ => rfl
  | m + 1, t, o => by
    show PyData.eqvAll ((show List (Qn m) from t).map (shQ m)) ((show List (Qn m) from o).map (shQ m)) = alB _ t o
    rw [eqvAll_map]
    refine alB_congr (fun q q' => ?_) _ _
    show PyData.eqvAll ((show List (An m) from q).map (shA m)) ((show List (An m) from q').map (shA m)) = alB _ q q'
    rw [eqvAll_map]
    refine alB_congr (fun a a' => ?_) _ _
    show (PyData.eqv (wdD a.1) (wdD a'.1) && (PyData.eqv (shD m a.2.2) (shD m a'.2.2) && true)) = _
    rw [Bool.and_true, eqv_wd, eqv_sh m]
theorem good_lst' {k : Nat} {xs : List PyData} (h : ∀ x ∈ xs, Good k x) : Good (k + 1) (.list xs) := good_lst h
theorem good_sh : ∀ (m : Nat) (t : Nd m), Good (3 * m + 2) (shD m t)
  | 0, _ => (good_lst (k := 1) (xs := []) fun x hx => absurd hx List.not_mem_nil).mono (by omega)
  | m + 1, t => by
    have h : Good (3 * m + 4 + 1) (shD (m + 1) t) := good_lst fun x hx => by
      obtain ⟨q, _, rfl⟩ := List.mem_map.mp hx
      refine (good_lst (k := 3 * m + 3) fun y hy => ?_).mono (by omega)
      obtain ⟨a, _, rfl⟩ := List.mem_map.mp hy
      refine (good_tup (k := 3 * m + 2) fun z hz => ?_).mono (by omega)
      rcases List.mem_cons.mp hz with rfl | hz
      · exact (good_wdD a.1).mono (by omega)
      · rw [List.mem_singleton.mp hz]
        exact good_sh m a.2.2
    exact h.mono (by omega)
theorem sh_sc (c : Rat) : ∀ (m : Nat) (t : Nd m), shD m (scN c m t) = shD m t
  | 0, _ => rfl
  | m + 1, t => by
    rw [shD_qs, qs_sc, shD_qs, List.map_map]
    refine congrArg PyData.list (List.map_congr_left fun q _ => ?_)
    show PyData.list ((q.map (scA c m)).map (shA m)) = .list (q.map (shA m))
    rw [List.map_map]
    refine congrArg PyData.list (List.map_congr_left fun a _ => ?_)
    show PyData.tuple [wdD a.1, shD m (scN c m a.2.2)] = .tuple [wdD a.1, shD m a.2.2]
    rw [sh_sc c m]
/-- as the program tells it: tuples -/
def ouD : (m : Nat) → Nd m → PyData
  | 0, _ => .tuple []
  | m + 1, qs => .tuple ((show List (Qn m) from qs).map fun q => .tuple ((show List (An m) from q).map fun a => .tuple [wdD a.1, ouD m a.2.2]))
def ouA (m : Nat) (a : An m) : PyData := .tuple [wdD a.1, ouD m a.2.2]
def ouQ (m : Nat) (q : Qn m) : PyData := .tuple ((show List (An m) from q).map (ouA m))
theorem ouD_qs : ∀ (m : Nat) (t : Nd m), ouD m t = .tuple ((qsOf m t).map (ouQ (m - 1)))
  | 0, _ => rfl
  | _ + 1, _ => rfl
theorem eqv_ou : ∀ (m : Nat) (t o : Nd m), PyData.eqv (ouD m t) (ouD m o) = shB m t o
  | 0, _, _ => rfl
  | m + 1, t, o => by
    show PyData.eqvAll ((show List (Qn m) from t).map (ouQ m)) ((show List (Qn m) from o).map (ouQ m)) = alB _ t o
    rw [eqvAll_map]
    refine alB_congr (fun q q' => ?_) _ _
    show PyData.eqvAll ((show List (An m) from q).map (ouA m)) ((show List (An m) from q').map (ouA m)) = alB _ q q'
    rw [eqvAll_map]
    refine alB_congr (fun a a' => ?_) _ _
    show (PyData.eqv (wdD a.1) (wdD a'.1) && (PyData.eqv (ouD m a.2.2) (ouD m a'.2.2) && true)) = _
    rw [Bool.and_true, eqv_wd, eqv_ou m]
theorem good_ou : ∀ (m : Nat) (t : Nd m), Good (3 * m + 2) (ouD m t)
  | 0, _ => (good_tup (k := 1) (xs := []) fun x hx => absurd hx List.not_mem_nil).mono (by omega)
  | m + 1, t => by
    have h : Good (3 * m + 4 + 1) (ouD (m + 1) t) := good_tup fun x hx => by
      obtain ⟨q, _, rfl⟩ := List.mem_map.mp hx
      refine (good_tup (k := 3 * m + 3) fun y hy => ?_).mono (by omega)
      obtain ⟨a, _, rfl⟩ := List.mem_map.mp hy
      refine (good_tup (k := 3 * m + 2) fun z hz => ?_).mono (by omega)
      rcases List.mem_cons.mp hz with rfl | hz
      · exact (good_wdD a.1).mono (by omega)
      · rw [List.mem_singleton.mp hz]
        exact good_ou m a.2.2
    exact h.mono (by omega)
/-! ### hidden -/
def addW (a b : List Rat) : List Rat := List.zipWith (· + ·) a b
def hiW (s r : Rat) (a b : List Rat) : List Rat := addW (scW s a) (scW r b)
theorem addW_len {W : Nat} {a b : List Rat} (h1 : a.length = W) (h2 : b.length = W) : (addW a b).length = W := by
  unfold addW
  rw [List.length_zipWith]
  omega
theorem hiW_ones (W : Nat) {s r : Rat} (h : s + r = 1) : hiW s r (ones W) (ones W) = ones W := by
  unfold hiW addW scW ones
  induction W with
  | zero => rfl
  | succ n ih =>
    rw [List.replicate_succ, List.map_cons, List.map_cons, List.zipWith_cons_cons, ih, Rat.mul_one, Rat.mul_one, h]
def hiN (s r : Rat) : (m : Nat) → Nd m → Nd m → Nd m
  | 0, _, _ => ()
  | m + 1, qs, qs' => (List.zipWith (fun (q q' : Qn m) => List.zipWith (fun (a a' : An m) => ((a.1, hiW s r a.2.1 a'.2.1, hiN s r m a.2.2 a'.2.2) : An m)) q q') (show List (Qn m) from qs) (show List (Qn m) from qs') : List (Qn m))
def hiA (s r : Rat) (m : Nat) (a a' : An m) : An m := (a.1, hiW s r a.2.1 a'.2.1, hiN s r m a.2.2 a'.2.2)
def hiQ (s r : Rat) (m : Nat) (q q' : Qn m) : Qn m := List.zipWith (hiA s r m) q q'
theorem qs_hi (s r : Rat) : ∀ (m : Nat) (t o : Nd m), qsOf m (hiN s r m t o) = List.zipWith (hiQ s r (m - 1)) (qsOf m t) (qsOf m o)
  | 0, _, _ => rfl
  | _ + 1, _, _ => rfl
theorem Wk.hi {s r : Rat} {n : Nat} {t : Nd n} {w : List Rat} {p : List (Nat × Nat)} {m : Nat} {t1 : Nd m} {w1 : List Rat} (h : Wk n t w p m t1 w1) : ∀ {o : Nd n} {v : List Rat}, shB n t o = true → ∃ (o1 : Nd m) (v1 : List Rat), Wk n o v p m o1 v1 ∧ shB m t1 o1 = true ∧ Wk n (hiN s r n t o) (hiW s r w v) p m (hiN s r m t1 o1) (hiW s r w1 v1) := by
  induction h with
  | nil => exact fun {o v} sh => ⟨o, v, .nil, sh, .nil⟩
  | @cons n t w i j q a p m t' w' e1 e2 _ ih =>
    intro o v sh
    obtain ⟨l, g⟩ := shB_at sh
    have hi : i < (qsOf n o).length := by
      rw [← l]
      exact (List.getElem?_eq_some_iff.mp e1).1
    have f1 : (qsOf n o)[i]? = some (qsOf n o)[i] := List.getElem?_eq_getElem hi
    generalize (qsOf n o)[i] = q' at f1
    obtain ⟨l2, g2⟩ := g i q q' e1 f1
    have hj : j < q'.length := by
      rw [← l2]
      exact (List.getElem?_eq_some_iff.mp e2).1
    have f2 : q'[j]? = some q'[j] := List.getElem?_eq_getElem hj
    generalize q'[j] = a' at f2
    obtain ⟨_, sh2⟩ := g2 j a a' e2 f2
    obtain ⟨o1, v1, h1, h2, h3⟩ := ih (v := a'.2.1) sh2
    refine ⟨o1, v1, .cons f1 f2 h1, h2, .cons (q := hiQ s r (n - 1) q q') (a := hiA s r (n - 1) a a') ?_ ?_ h3⟩
    · rw [qs_hi, List.getElem?_zipWith, e1, f1]
    · unfold hiQ
      rw [List.getElem?_zipWith, e2, f2]
theorem zip_sum_le {α β γ : Type} (f : α → β → γ) (g : γ → Nat) (h : α → Nat) : ∀ (xs : List α) (ys : List β), (∀ x ∈ xs, ∀ y, g (f x y) ≤ h x) → ((List.zipWith f xs ys).map g).sum ≤ (xs.map h).sum
  | [], _, _ => by simp
  | _ :: _, [], _ => by simp
  | x :: xs, y :: ys, k => by
    rw [List.zipWith_cons_cons, List.map_cons, List.map_cons, List.sum_cons, List.sum_cons]
    have h1 := k x (List.mem_cons_self ..) y
    have h2 := zip_sum_le f g h xs ys fun z hz => k z (List.mem_cons_of_mem _ hz)
    omega
theorem cnt_hi (s r : Rat) : ∀ (m : Nat) (t o : Nd m), cnt m (hiN s r m t o) ≤ cnt m t
  | 0, _, _ => Nat.le_refl _
  | m + 1, t, o => by
    rw [cnt_qs, qs_hi, cnt_qs]
    refine zip_sum_le _ _ _ _ _ fun q _ q' => ?_
    show cntQ m (List.zipWith (hiA s r m) q q') ≤ cntQ m q
    unfold cntQ
    refine zip_sum_le _ _ _ _ _ fun a _ a' => ?_
    show 1 + cnt m (hiN s r m a.2.2 a'.2.2) ≤ 1 + cnt m a.2.2
    have := cnt_hi s r m a.2.2 a'.2.2
    omega
theorem zip_map_left {α β γ δ : Type} {f : α → β → γ} {g : γ → δ} {h : α → δ} : ∀ {xs : List α} {ys : List β}, xs.length = ys.length → (∀ (i : Nat) (x : α) (y : β), xs[i]? = some x → ys[i]? = some y → g (f x y) = h x) → (List.zipWith f xs ys).map g = xs.map h
  | [], [], _, _ => rfl
  | [], _ :: _, l, _ => by simp at l
  | _ :: _, [], l, _ => by simp at l
  | x :: xs, y :: ys, l, k => by
    rw [List.zipWith_cons_cons, List.map_cons, List.map_cons, k 0 x y rfl rfl, zip_map_left (by simpa using l) fun i a b e1 e2 => k (i + 1) a b (by simpa using e1) (by simpa using e2)]
theorem sh_hi (s r : Rat) : ∀ (m : Nat) (t o : Nd m), shB m t o = true → shD m (hiN s r m t o) = shD m t
  | 0, _, _, _ => rfl
  | m + 1, t, o, h => by
    rw [shD_qs, qs_hi, shD_qs]
    obtain ⟨l, g⟩ := shB_at h
    refine congrArg PyData.list (zip_map_left l fun i q q' e1 e2 => ?_)
    obtain ⟨l2, g2⟩ := g i q q' e1 e2
    show PyData.list ((List.zipWith (hiA s r m) q q').map (shA m)) = .list (q.map (shA m))
    refine congrArg PyData.list (zip_map_left l2 fun j a a' f1 f2 => ?_)
    obtain ⟨_, sh2⟩ := g2 j a a' f1 f2
    show PyData.tuple [wdD a.1, shD m (hiN s r m a.2.2 a'.2.2)] = .tuple [wdD a.1, shD m a.2.2]
    rw [sh_hi s r m _ _ sh2]
/-! ### narrow enough to be told -/
def Nrw : (n : Nat) → Nd n → Prop
  | 0, _ => True
  | n + 1, qs => (show List (Qn n) from qs).length ≤ 1000 ∧ ∀ q ∈ (show List (Qn n) from qs), q.length ≤ 1000 ∧ ∀ a ∈ q, a.1.length ≤ 8 ∧ Nrw n a.2.2
theorem Nrw.at_ : ∀ {n : Nat} {t : Nd n}, Nrw n t → (qsOf n t).length ≤ 1000 ∧ ∀ q ∈ qsOf n t, q.length ≤ 1000 ∧ ∀ a ∈ q, a.1.length ≤ 8 ∧ Nrw (n - 1) a.2.2
  | 0, _, _ => ⟨Nat.zero_le _, fun q h => absurd h List.not_mem_nil⟩
  | _ + 1, _, h => h
theorem nrw_of {W : Nat} : ∀ {n : Nat} {ahead : List Rat} {t : Nd n}, NdOk W n ahead t → Nrw n t
  | 0, _, _, _ => trivial
  | n + 1, _, _, h => ⟨Nat.le_trans h.1 (by decide), fun q hq => ⟨Nat.le_trans (h.2 q hq).1.most (by decide), fun a ha => ⟨((h.2 q hq).1.words a ha).1, nrw_of ((h.2 q hq).2 a ha)⟩⟩⟩
theorem Nrw.sc {c : Rat} : ∀ {n : Nat} {t : Nd n}, Nrw n t → Nrw n (scN c n t)
  | 0, _, _ => trivial
  | n + 1, qs, h => by
    refine ⟨by show (List.map _ _).length ≤ 1000; rw [List.length_map]; exact h.1, fun q hq => ?_⟩
    obtain ⟨q1, h1, rfl⟩ := List.mem_map.mp hq
    refine ⟨by rw [List.length_map]; exact (h.2 q1 h1).1, fun a ha => ?_⟩
    obtain ⟨a1, g1, rfl⟩ := List.mem_map.mp ha
    exact ⟨((h.2 q1 h1).2 a1 g1).1, ((h.2 q1 h1).2 a1 g1).2.sc⟩
theorem mem_zip {α β γ : Type} {f : α → β → γ} : ∀ {xs : List α} {ys : List β} {z : γ}, z ∈ List.zipWith f xs ys → ∃ x ∈ xs, ∃ y ∈ ys, z = f x y
  | [], _, z, h => by simp at h
  | _ :: _, [], z, h => by simp at h
  | x :: xs, y :: ys, z, h => by
    rw [List.zipWith_cons_cons] at h
    rcases List.mem_cons.mp h with h | h
    · exact ⟨x, List.mem_cons_self .., y, List.mem_cons_self .., h⟩
    · obtain ⟨a, ha, b, hb, e⟩ := mem_zip h
      exact ⟨a, List.mem_cons_of_mem _ ha, b, List.mem_cons_of_mem _ hb, e⟩
theorem Nrw.hi {s r : Rat} : ∀ {n : Nat} {t o : Nd n}, Nrw n t → Nrw n (hiN s r n t o)
  | 0, _, _, _ => trivial
  | n + 1, qs, os, h => by
    refine ⟨by show (List.zipWith _ _ _).length ≤ 1000; rw [List.length_zipWith]; have := h.1; omega, fun q hq => ?_⟩
    obtain ⟨q1, h1, q2, _, rfl⟩ := mem_zip hq
    refine ⟨by rw [List.length_zipWith]; have := (h.2 q1 h1).1; omega, fun a ha => ?_⟩
    obtain ⟨a1, g1, a2, _, rfl⟩ := mem_zip ha
    exact ⟨((h.2 q1 h1).2 a1 g1).1, ((h.2 q1 h1).2 a1 g1).2.hi⟩
end Tl
/-! shares, also odd ones -/
namespace Tl
open PySem PySem.Spec PyProof.Rows L2 RZ
/-- things that may be shares: pairs of ints, and others -/
inductive Th (K : PySem.W.Frag) (H : Hp) : V → Option (Int × Int) → Prop
  | pair {a : Addr} {x y : Int} (h : SqT K H a [.int x, .int y]) : Th K H (.ref a) (some (x, y))
  | tup {a : Addr} {xs : List V} (h : SqT K H a xs) (l : xs.length ≠ 2) : Th K H (.ref a) none
  | lst {a : Addr} {xs : List V} (h : H a = some (.lst xs)) : Th K H (.ref a) none
  | non : Th K H .non none
  | bl (b : Bool) : Th K H (.bl b) none
  | int (i : Int) : Th K H (.int i) none
  | str (x : Str) : Th K H (.str x) none
theorem Th.keep {K : PySem.W.Frag} {H H' : Hp} {v : V} {o : Option (Int × Int)} (h : Th K H v o) (s : Same H H') : Th K H' v o := by
  cases h with
  | pair h => exact .pair (Same.kt s _ _ h)
  | tup h l => exact .tup (Same.kt s _ _ h) l
  | lst h => exact .lst (s _ _ h)
  | non => exact .non
  | bl b => exact .bl b
  | int i => exact .int i
  | str x => exact .str x
/-- what isinstance(thing, tuple) tells -/
theorem Th.kind {K : PySem.W.Frag} {H : Hp} {v : V} {o : Option (Int × Int)} (h : Th K H v o) : (∃ t, TyX K H v t ∧ PySem.W.kitOne K t (.type "tuple") = some false ∧ o = none) ∨ ∃ a xs, v = .ref a ∧ SqT K H a xs ∧ (xs.length ≠ 2 ∧ o = none ∨ ∃ x y, xs = [.int x, .int y] ∧ o = some (x, y)) := by
  cases h with
  | @pair a x y h => exact .inr ⟨a, _, rfl, h, .inr ⟨x, y, rfl, rfl⟩⟩
  | @tup a xs h l => exact .inr ⟨a, xs, rfl, h, .inl ⟨l, rfl⟩⟩
  | lst h => exact .inl ⟨_, .base (.lst h), kit_ty (by decide +kernel), rfl⟩
  | non => exact .inl ⟨_, .base .non, kit_ty (by decide +kernel), rfl⟩
  | bl b => exact .inl ⟨_, .base (.bl b), kit_ty (by decide +kernel), rfl⟩
  | int i => exact .inl ⟨_, .base (.int i), kit_ty (by decide +kernel), rfl⟩
  | str x => exact .inl ⟨_, .base (.str x), kit_ty (by decide +kernel), rfl⟩
def frB : Option (Int × Int) → Bool
  | none => false
  | some (x, y) => decide (1 ≤ y) && decide (Nat.gcd x.natAbs y.natAbs = 1)
def chB (o : Option (Int × Int)) : Bool := match o with
  | none => false
  | some (x, y) => frB (some (x, y)) && (decide (0 ≤ x) && decide (x ≤ y))
def sharB (o : Option (Int × Int)) : Bool := match o with
  | none => false
  | some (x, y) => chB (some (x, y)) && decide (0 < x)
/-- a share below ONE -/
def rtB : Option (Int × Int) → Bool
  | none => false
  | some (x, y) => decide (1 ≤ x ∧ x < y ∧ Nat.gcd x.natAbs y.natAbs = 1)
theorem rtB_of {x y : Int} : rtB (some (x, y)) = (sharB (some (x, y)) && !((x == 1) && ((y == 1) && true))) := by
  show decide (1 ≤ x ∧ x < y ∧ Nat.gcd x.natAbs y.natAbs = 1) = ((((decide (1 ≤ y) && decide (Nat.gcd x.natAbs y.natAbs = 1)) && (decide (0 ≤ x) && decide (x ≤ y))) && decide (0 < x)) && !((x == 1) && ((y == 1) && true)))
  by_cases g : Nat.gcd x.natAbs y.natAbs = 1
  · by_cases h : 1 ≤ x ∧ x < y
    · have a : ¬ (x = 1 ∧ y = 1) := by omega
      have hy : ¬ (y = 1) := by omega
      simp [g, show (1 : Int) ≤ y by omega, show (0 : Int) ≤ x by omega, show (0 : Int) < x by omega, show x ≤ y by omega, show (1 : Int) ≤ x by omega, show x < y by omega, hy]
    · have e : decide (1 ≤ x ∧ x < y ∧ Nat.gcd x.natAbs y.natAbs = 1) = false := decide_eq_false fun z => h ⟨z.1, z.2.1⟩
      rw [e]
      by_cases h1 : (1 ≤ y ∧ 0 ≤ x ∧ x ≤ y ∧ 0 < x)
      · obtain rfl : x = y := by omega
        rw [Nat.gcd_self] at g
        obtain rfl : x = 1 := by omega
        decide
      · symm
        rw [Bool.and_eq_false_iff]
        refine .inl ?_
        by_cases a : 1 ≤ y
        · by_cases b : 0 ≤ x
          · by_cases c : x ≤ y
            · simp [show ¬ (0 : Int) < x by omega]
            · simp [c]
          · simp [b]
        · simp [a]
  · simp [g]
/-- a right share below ONE -/
structure ShOk (s : Rat) : Prop where
  ch : Ch 10 s
  pos : 0 < s.num
  less : s.num < (s.den : Int)
def rst (s : Rat) : Rat := 1 + -s
theorem rst_mk (s : Rat) : rst s = mkRat ((s.den : Int) - s.num) s.den := by
  unfold rst
  have hd : 0 < s.den := Nat.pos_of_ne_zero s.den_nz
  have e : -s = mkRat (-s.num) s.den := by
    rw [← Rat.neg_mkRat, rat_mk]
  rw [← mk_same s.den hd, e, mk_add _ _ _ hd, Int.sub_eq_add_neg]
theorem rst_sum (s : Rat) : s + rst s = 1 := by
  unfold rst
  rw [← Rat.add_assoc, Rat.add_comm s 1, Rat.add_assoc, Rat.add_neg_cancel, Rat.add_zero]
theorem ShOk.rest {s : Rat} (h : ShOk s) : Ch 10 (rst s) := by
  rw [rst_mk]
  have hd : 0 < s.den := Nat.pos_of_ne_zero s.den_nz
  obtain ⟨p, hp⟩ : ∃ p : Nat, (s.den : Int) - s.num = (p : Int) := ⟨((s.den : Int) - s.num).toNat, by have := h.less; omega⟩
  rw [hp]
  refine ⟨mk_nonneg p _ hd, mk_le_one p _ hd ?_, Nat.dvd_trans (mk_den_dvd hd) h.ch.2.2⟩
  have := h.pos
  omega
/-- what the drawn pairs keep to -/
def PairOk : Option (Int × Int) → Prop
  | none => True
  | some (x, y) => x.natAbs ≤ 10 ^ 20 ∧ y.natAbs ≤ 10 ^ 20 ∧ (1 ≤ x → x < y → y.toNat ∣ LL ^ 10)
theorem th_share {K : PySem.W.Frag} {H : Hp} {v : V} {o : Option (Int × Int)} (h : Th K H v o) (p : PairOk o) (r : rtB o = true) : ∃ s, ShOk s ∧ Td K H v (rD s) := by
  cases o with
  | none => cases r
  | some q =>
    obtain ⟨x, y⟩ := q
    cases h with
    | pair h =>
      obtain ⟨h1, h2, h3⟩ := of_decide_eq_true r
      have hy : 0 < y.toNat := by omega
      obtain ⟨X, hX⟩ : ∃ X : Nat, x = (X : Int) := ⟨x.toNat, by omega⟩
      obtain ⟨Y, hY⟩ : ∃ Y : Nat, y = (Y : Int) := ⟨y.toNat, by omega⟩
      subst hX
      subst hY
      rw [Int.natAbs_natCast, Int.natAbs_natCast] at h3
      obtain ⟨e1, e2⟩ := mkRat_parts (X : Int) Y (by omega)
      rw [Int.natAbs_natCast, h3] at e1 e2
      have f1 : (mkRat (X : Int) Y).num = (X : Int) := by rw [e1]; omega
      have f2 : ((mkRat (X : Int) Y).den : Int) = (Y : Int) := by rw [e2]; omega
      refine ⟨mkRat (X : Int) Y, ⟨⟨mk_nonneg X Y (by omega), mk_le_one X Y (by omega) (by omega), Nat.dvd_trans (mk_den_dvd (by omega)) ?_⟩, by rw [f1]; omega, by rw [f1, f2]; omega⟩, ?_⟩
      · exact p.2.2 h1 h2
      · show Td K H _ (.tuple [.int (mkRat (X : Int) Y).num, .int ((mkRat (X : Int) Y).den : Int)])
        rw [f1, f2]
        exact .tup h (.cons (.int _) (.cons (.int _) .nil))
def spFrO (K : PySem.W.Frag) : Sp := fun vs H Q _ => ∃ (v : V) (o : Option (Int × Int)), vs = [v] ∧ Th K H v o ∧ Q (.bl (frB o)) H
def spChO (K : PySem.W.Frag) : Sp := fun vs H Q _ => ∃ (v : V) (o : Option (Int × Int)), vs = [v] ∧ Th K H v o ∧ Q (.bl (chB o)) H
def spShO (K : PySem.W.Frag) : Sp := fun vs H Q _ => ∃ (v : V) (o : Option (Int × Int)), vs = [v] ∧ Th K H v o ∧ Q (.bl (sharB o)) H
def spCkP (K : PySem.W.Frag) (CS : Addr) : Sp := fun vs H Q E => ∃ (v : V) (o : Option (Int × Int)), vs = [v] ∧ Th K H v o ∧ (rtB o = true → Q .non H) ∧ (rtB o = false → E (.ref CS) none H)
def spLess (K : PySem.W.Frag) : Sp := fun vs H Q _ => ∃ (v : V) (q : Rat), vs = [v] ∧ Td K H v (rD q) ∧ ∀ v' H', Same H H' → Td K H' v' (rD (-q)) → Q v' H'
def spRest (K : PySem.W.Frag) : Sp := fun vs H Q _ => ∃ (v : V) (q : Rat), vs = [v] ∧ Td K H v (rD q) ∧ Sm q ∧ ∀ v' H', Same H H' → Td K H' v' (rD (rst q)) → Q v' H'
section
variable {P : Program} {w : World} {K : PySem.W.Frag} {mg : Str → Option Value} {base : Heap} {aN aO : Addr} {t1 t2 t3 t4 t5 t6 t7 : Tok}
theorem ok_is_fraction_o {f f1 : Addr} {fd fd1 : FuncData} (D : Dn K mg "is_fraction" s_is_fraction ["thing"] f fd) (B : Blt mg) (C : Cst K mg aN aO t1 t2 t3 t4 t5 t6 t7)
    (D_is_integral : Dn K mg "is_integral" s_is_integral ["thing"] f1 fd1) (G_is_integral : FnOk P w K mg base CX0 1 f1 fd1 ["thing"] (spIntegral)) : FnOk P w K mg base CX0 2 f fd ["thing"] (spFrO K) := by
  refine D.F.ok sc_is_fraction (fun vs H Q E h => ?_) (fun cdv A outer s H vs Q E hr h => ?_)
  · obtain ⟨v, o, rfl, _⟩ := h
    rfl
  obtain ⟨v, o, rfl, hv, q⟩ := h
  have nd := sc_is_fraction.nd
  refine ⟨_, (pss_cons (ps_if (PW.pt (pw_or (pt_not (pt_val (pe_callB (k_isi (K := K) rfl) (by rfl) B.isinstance (by decide +kernel) (pa_cons (pv 0) (pa_cons (pe_bltn (v := .ty "tuple") (u := .type "tuple") (by rfl) B.tuple (by decide +kernel) rfl) pa_nil))))) (pw_or1 (pt_cmpR op_ne (pe_callB (k_len (K := K) rfl) (by rfl) B.len PySem.boot_len (pa_cons (pv 0) pa_nil)) pe_int (nomark _))))) (pss_one (ps_ret pe_bl)) pss_nil)
      (pss_cons (ps_asg (pv 0) (k_tup (K := K) (n := 2) rfl rfl (pgs_cons (pg_name (i := 1) nd rfl (.inl rfl)) (pgs_cons (pg_name (i := 2) nd rfl (.inl rfl)) pgs_nil))))
      (pss_one (ps_ret (pe_and (pe_call G_is_integral (hr.mono (by omega)) (by rfl) D_is_integral.m D_is_integral.F.kp D_is_integral.b .nil pass0 (pa_cons (pv 1) pa_nil)) (pe_and (pe_call G_is_integral (hr.mono (by omega)) (by rfl) D_is_integral.m D_is_integral.F.kp D_is_integral.b .nil pass0 (pa_cons (pv 2) pa_nil)) (pe_and (pe_cmpR op_ge (pv 2) pe_int (nomark _)) (pe_one (pe_cmpR op_eq (pe_callBfun cr_gcd (by rfl) C.gcd (pa_cons (pv 1) (pa_cons (pv 2) pa_nil))) pe_int (nomark _)))))))))), ?_⟩
  rcases hv.kind with ⟨t, h1, h2, rfl⟩ | ⟨a, xs, rfl, hs, hx⟩
  · exact ⟨_, rfl, _, _, _, _, false, rfl, .ty "tuple", h1, h2, _, rfl, iteT q⟩
  refine ⟨_, rfl, _, _, _, _, true, rfl, .ty "tuple", tyx_tup hs, kit_ty (by decide +kernel), _, rfl, iteF ?_⟩
  rcases hx with ⟨l, rfl⟩ | ⟨x, y, rfl, rfl⟩
  · refine ⟨_, rfl, a, _, rfl, .inr hs, rfl, _, rfl, ?_⟩
    rw [decide_eq_false (show ¬ (V.int ((xs.length : Nat) : Int)) = V.int 2 from fun z => l (by have := V.int.inj z; omega))]
    exact iteT q
  refine ⟨_, rfl, a, _, rfl, .inr hs, rfl, _, rfl, iteF ?_⟩
  refine ⟨_, rfl, a, _, rfl, hs, rfl, _, _, rfl, _, _, rfl, rfl, ?_⟩
  refine ⟨_, rfl, _, rfl, _, rfl, iteT ⟨_, rfl, _, rfl, _, rfl, iteT ⟨_, rfl, _, _, rfl, rfl, _, rfl, ?_⟩⟩⟩
  by_cases hy : 1 ≤ y
  · rw [decide_eq_true (show y ≥ 1 from hy)]
    refine iteT ⟨_, rfl, _, rfl, _, _, rfl, rfl, ?_⟩
    show Q (.bl (decide (V.int ((Nat.gcd x.natAbs y.natAbs : Nat) : Int) = V.int 1))) H
    have e : decide (V.int ((Nat.gcd x.natAbs y.natAbs : Nat) : Int) = V.int 1) = frB (some (x, y)) := by
      show _ = (decide (1 ≤ y) && decide (Nat.gcd x.natAbs y.natAbs = 1))
      rw [decide_eq_true hy, Bool.true_and]
      exact decide_eq_decide.mpr ⟨fun z => by have := V.int.inj z; omega, fun z => by rw [z]; rfl⟩
    rw [e]
    exact q
  · rw [decide_eq_false (show ¬ y ≥ 1 from hy)]
    refine iteF ?_
    have e : frB (some (x, y)) = false := by
      show (decide (1 ≤ y) && decide (Nat.gcd x.natAbs y.natAbs = 1)) = false
      rw [decide_eq_false hy, Bool.false_and]
    rw [e] at q
    exact q
theorem ok_is_chance_o {f f1 : Addr} {fd fd1 : FuncData} (D : Dn K mg "is_chance" s_is_chance ["thing"] f fd) (B : Blt mg) (C : Cst K mg aN aO t1 t2 t3 t4 t5 t6 t7)
    (D_is_fraction : Dn K mg "is_fraction" s_is_fraction ["thing"] f1 fd1) (G_is_fraction : FnOk P w K mg base CX0 2 f1 fd1 ["thing"] (spFrO K)) : FnOk P w K mg base CX0 3 f fd ["thing"] (spChO K) := by
  refine D.F.ok sc_is_chance (fun vs H Q E h => ?_) (fun cdv A outer s H vs Q E hr h => ?_)
  · obtain ⟨v, o, rfl, _⟩ := h
    rfl
  obtain ⟨v, o, rfl, hv, q⟩ := h
  have nd := sc_is_chance.nd
  refine ⟨_, (pss_one (ps_ret (pe_and (pe_call G_is_fraction (hr.mono (by omega)) (by rfl) D_is_fraction.m D_is_fraction.F.kp D_is_fraction.b .nil pass0 (pa_cons (pv 0) pa_nil)) (pe_one (pe_chain op_le op_le pe_int (pe_ix (k_ixT (K := K) rfl) (pv 0) pe_int (fun _ _ => rfl)) (pe_ix (k_ixT (K := K) rfl) (pv 0) pe_int (fun _ _ => rfl))))))), ?_⟩
  refine ⟨_, rfl, v, o, rfl, hv, _, rfl, ?_⟩
  cases hf : frB o with
  | false =>
    refine iteF ?_
    have e : chB o = false := by
      cases o with
      | none => rfl
      | some p =>
        show (frB (some p) && _) = false
        rw [hf, Bool.false_and]
    rw [e] at q
    exact q
  | true =>
    refine iteT ?_
    cases o with
    | none => cases hf
    | some p =>
      obtain ⟨x, y⟩ := p
      cases hv with
      | @pair a _ _ hs =>
        refine ⟨_, rfl, a, _, 0, _, rfl, rfl, hs, at_of (j := 0) rfl rfl, _, _, rfl, rfl, _, rfl, ?_⟩
        have e : chB (some (x, y)) = (decide (0 ≤ x) && decide (x ≤ y)) := by
          show (frB (some (x, y)) && _) = _
          rw [hf, Bool.true_and]
        rw [e] at q
        by_cases h0 : 0 ≤ x
        · rw [decide_eq_true h0]
          rw [decide_eq_true h0, Bool.true_and] at q
          exact iteT ⟨_, rfl, a, _, 1, _, rfl, rfl, hs, at_of (j := 1) rfl rfl, _, _, rfl, rfl, q⟩
        · rw [decide_eq_false h0]
          rw [decide_eq_false h0, Bool.false_and] at q
          exact iteF q
theorem ok_is_share_o {f f1 : Addr} {fd fd1 : FuncData} (D : Dn K mg "is_share" s_is_share ["thing"] f fd) (B : Blt mg) (C : Cst K mg aN aO t1 t2 t3 t4 t5 t6 t7)
    (D_is_chance : Dn K mg "is_chance" s_is_chance ["thing"] f1 fd1) (G_is_chance : FnOk P w K mg base CX0 3 f1 fd1 ["thing"] (spChO K)) : FnOk P w K mg base CX0 4 f fd ["thing"] (spShO K) := by
  refine D.F.ok sc_is_share (fun vs H Q E h => ?_) (fun cdv A outer s H vs Q E hr h => ?_)
  · obtain ⟨v, o, rfl, _⟩ := h
    rfl
  obtain ⟨v, o, rfl, hv, q⟩ := h
  have nd := sc_is_share.nd
  refine ⟨_, (pss_one (ps_ret (pe_and (pe_call G_is_chance (hr.mono (by omega)) (by rfl) D_is_chance.m D_is_chance.F.kp D_is_chance.b .nil pass0 (pa_cons (pv 0) pa_nil)) (pe_one (pe_cmpR op_gt (pe_ix (k_ixT (K := K) rfl) (pv 0) pe_int (fun _ _ => rfl)) pe_int (nomark _)))))), ?_⟩
  refine ⟨_, rfl, v, o, rfl, hv, _, rfl, ?_⟩
  cases hf : chB o with
  | false =>
    refine iteF ?_
    have e : sharB o = false := by
      cases o with
      | none => rfl
      | some p =>
        show (chB (some p) && _) = false
        rw [hf, Bool.false_and]
    rw [e] at q
    exact q
  | true =>
    refine iteT ?_
    cases o with
    | none => cases hf
    | some p =>
      obtain ⟨x, y⟩ := p
      cases hv with
      | @pair a _ _ hs =>
        have e : sharB (some (x, y)) = decide (0 < x) := by
          show (chB (some (x, y)) && _) = _
          rw [hf, Bool.true_and]
        rw [e] at q
        exact ⟨_, rfl, a, _, 0, _, rfl, rfl, hs, at_of (j := 0) rfl rfl, _, _, rfl, rfl, q⟩
theorem ok_check_part {HE CS : Addr} {f f1 : Addr} {fd fd1 : FuncData} (D : Dn K mg "check_part" s_check_part ["thing"] f fd) (B : Blt mg) (C : Cst K mg aN aO t1 t2 t3 t4 t5 t6 t7)
    (D_is_share : Dn K mg "is_share" s_is_share ["thing"] f1 fd1) (G_is_share : FnOk P w K mg base CX0 4 f1 fd1 ["thing"] (spShO K)) (X_NoShare : XRs K mg HE "NoShare" CS) : FnOk P w K mg base (L2.CX P w) 5 f fd ["thing"] (spCkP K CS) := by
  refine D.F.okX sc_check_part (fun vs H Q E h => ?_) (fun cdv A outer s H vs Q E hr h => ?_)
  · obtain ⟨v, o, rfl, _⟩ := h
    rfl
  obtain ⟨v, o, rfl, hv, q, r⟩ := h
  have nd := sc_check_part.nd
  refine ⟨_, (pss_one (ps_if (PW.pt (pw_or (pt_not (pt_val (pe_call G_is_share (hr.mono (by omega)) (by rfl) D_is_share.m D_is_share.F.kp D_is_share.b .nil pass0 (pa_cons (pv 0) pa_nil)))) (pw_or1 (pt_cmpR (k_eqD (K := K) rfl hr.units) (pv 0) (pe_glob (v := .ref _) rfl C.ONE rfl) (nomark _))))) (pss_one (ps_raise rfl (takes_of rfl rfl rfl rfl) (pmk_own0 PySem.F.excBase_ValueError X_NoShare.q X_NoShare.X.g X_NoShare.X.k (raises_own X_NoShare.X.E.hs X_NoShare.X.T.tyC) (by rfl)))) pss_nil)), ?_⟩
  refine ⟨_, rfl, v, o, rfl, hv, _, rfl, ?_⟩
  cases hf : sharB o with
  | false =>
    have e : rtB o = false := by
      cases o with
      | none => rfl
      | some p => rw [rtB_of, hf, Bool.false_and]
    exact iteT (r e)
  | true =>
    refine iteF ?_
    cases o with
    | none => cases hf
    | some p =>
      obtain ⟨x, y⟩ := p
      cases hv with
      | @pair a _ _ hs =>
        have d1 : Dp K H (.ref a) (.tuple [.int x, .int y]) := .tup hs (.cons (.int _) (.cons (.int _) .nil))
        have d2 : Dp K H (.ref aO) (.tuple [.int 1, .int 1]) := .tup (C.tO _) (.cons (.int _) (.cons (.int _) .nil))
        have e := rtB_of (x := x) (y := y)
        rw [hf, Bool.true_and] at e
        refine ⟨_, rfl, _, _, d1, d2, (good_ints [x, y]).shaped (by decide), (good_ints [1, 1]).shaped (by decide), ?_⟩
        have ev : PyData.eqv (.tuple [.int x, .int y]) (.tuple [.int 1, .int 1]) = ((x == 1) && ((y == 1) && true)) := rfl
        rw [ev]
        cases hb : ((x == 1) && ((y == 1) && true)) with
        | true =>
          rw [hb] at e
          exact ⟨_, rfl, iteT (r e)⟩
        | false =>
          rw [hb] at e
          exact ⟨_, rfl, iteF (q e)⟩
theorem ok_less {f : Addr} {fd : FuncData} (D : Dn K mg "less" s_less ["fraction"] f fd) (B : Blt mg) (C : Cst K mg aN aO t1 t2 t3 t4 t5 t6 t7) : FnOk P w K mg base CX0 1 f fd ["fraction"] (spLess K) := by
  refine D.F.ok sc_less (fun vs H Q E h => ?_) (fun cdv A outer s H vs Q E hr h => ?_)
  · obtain ⟨v, q0, rfl, _⟩ := h
    rfl
  obtain ⟨v, q0, rfl, hv, q⟩ := h
  have nd := sc_less.nd
  refine ⟨_, (pss_one (ps_ret (pe_tup (pa_cons (pe_un un_neg (pe_ix (k_ixT (K := K) rfl) (pv 0) pe_int (fun _ _ => rfl))) (pa_cons (pe_ix (k_ixT (K := K) rfl) (pv 0) pe_int (fun _ _ => rfl)) pa_nil))))), ?_⟩
  obtain ⟨a, rfl, ha⟩ := hv.rE
  have i0 : atI [V.int q0.num, .int (q0.den : Int)] 0 = some (.int q0.num) := at_of (j := 0) rfl rfl
  have i1 : atI [V.int q0.num, .int (q0.den : Int)] 1 = some (.int (q0.den : Int)) := at_of (j := 1) rfl rfl
  refine ⟨_, rfl, a, _, 0, _, rfl, rfl, ha, i0, ?_⟩
  refine ⟨_, rfl, _, rfl, a, _, 1, _, rfl, rfl, ha, i1, by show 2 ≤ sizeLine; decide, fun p np => q (.ref p) _ (same_upd np) ?_⟩
  exact .tup (.inl (.inl upd_same)) (.cons (.int _) (.cons (.int _) .nil))
theorem ok_rest_of {f f1 f2 : Addr} {fd fd1 fd2 : FuncData} (D : Dn K mg "rest_of" s_rest_of ["share"] f fd) (B : Blt mg) (C : Cst K mg aN aO t1 t2 t3 t4 t5 t6 t7)
    (D_added : Dn K mg "added" s_added ["first", "second"] f1 fd1) (G_added : FnOk P w K mg base CX0 2 f1 fd1 ["first", "second"] (spAdded K))
    (D_less : Dn K mg "less" s_less ["fraction"] f2 fd2) (G_less : FnOk P w K mg base CX0 1 f2 fd2 ["fraction"] (spLess K)) : FnOk P w K mg base CX0 3 f fd ["share"] (spRest K) := by
  refine D.F.ok sc_rest_of (fun vs H Q E h => ?_) (fun cdv A outer s H vs Q E hr h => ?_)
  · obtain ⟨v, q0, rfl, _⟩ := h
    rfl
  obtain ⟨v, q0, rfl, hv, hs, q⟩ := h
  have nd := sc_rest_of.nd
  refine ⟨_, (pss_one (ps_ret (pe_call G_added (hr.mono (by omega)) (by rfl) D_added.m D_added.F.kp D_added.b .nil pass0 (pa_cons (pe_glob (v := .ref _) rfl C.ONE rfl) (pa_cons (pe_call G_less (hr.mono (by omega)) (by rfl) D_less.m D_less.F.kp D_less.b .nil pass0 (pa_cons (pv 0) pa_nil)) pa_nil))))), ?_⟩
  refine ⟨_, rfl, v, q0, rfl, hv, fun v1 H1 s1 t1 => ?_⟩
  refine ⟨.ref aO, v1, 1, -q0, rfl, td_inj (C.tO _), t1, ch_one.sm (e := 0) (by decide), ?_, fun v2 H2 s2 t2 => q v2 H2 (s1.trans s2) t2⟩
  exact ⟨hs.1, by show (-q0.num).natAbs < 2 ^ 1500; rw [Int.natAbs_neg]; exact hs.2⟩
end
end Tl
/-! weights and nodes scaled, hidden; outlines; the law's shapes -/
namespace Tl
open PySem PySem.Spec PyProof.Rows L2 RZ
theorem wsD_at' {K : PySem.W.Frag} {H : Hp} {xs : List V} {as : List Rat} {i : Nat} {x : V} (h : TdAll K H xs (as.map rD)) (e : xs[i]? = some x) : ∃ r, as[i]? = some r ∧ Td K H x (rD r) := by
  obtain ⟨dx, ex, tx⟩ := h.getV e
  rw [List.getElem?_map] at ex
  obtain ⟨r, er, rfl⟩ := Option.map_eq_some_iff.mp ex
  exact ⟨r, er, tx⟩
theorem addW_at {as bs : List Rat} {i : Nat} {a b : Rat} (h1 : as[i]? = some a) (h2 : bs[i]? = some b) : (addW as bs)[i]? = some (a + b) := by
  unfold addW
  rw [List.getElem?_zipWith, h1, h2]
theorem scW_at {c : Rat} {as : List Rat} {i : Nat} {a : Rat} (h : as[i]? = some a) : (scW c as)[i]? = some (c * a) := by
  unfold scW
  rw [List.getElem?_map, h]
  rfl
theorem scW_ch {f e : Nat} {c : Rat} {as : List Rat} (hc : Ch f c) (h : ∀ r ∈ as, Ch e r) : ∀ r ∈ scW c as, Ch (f + e) r := fun r hr => by
  obtain ⟨a, ha, rfl⟩ := List.mem_map.mp hr
  exact hc.prod (h a ha)
def spSW (K : PySem.W.Frag) : Sp := fun vs H Q _ => ∃ (x y : V) (c : Rat) (as : List Rat), vs = [x, y] ∧ Td K H x (rD c) ∧ Td K H y (wsD as) ∧ as.length ≤ 100 ∧ Sm c ∧ (∀ r ∈ as, Sm r) ∧ ∀ v H', Same H H' → Td K H' v (wsD (scW c as)) → Q v H'
def spAW (K : PySem.W.Frag) : Sp := fun vs H Q _ => ∃ (x y : V) (as bs : List Rat), vs = [x, y] ∧ Td K H x (wsD as) ∧ Td K H y (wsD bs) ∧ as.length = bs.length ∧ as.length ≤ 100 ∧ (∀ r ∈ as, Sm r) ∧ (∀ r ∈ bs, Sm r) ∧ ∀ v H', Same H H' → Td K H' v (wsD (addW as bs)) → Q v H'
def spScN (K : PySem.W.Frag) (n : Nat) : Sp := fun vs H Q _ => ∃ (W : Nat) (x v : V) (c : Rat) (t : Nd n), vs = [x, v] ∧ Td K H x (rD c) ∧ Td K H v (ndD n t) ∧ Ch 10 c ∧ WsAll W 6 n t ∧ W ≤ 5 ∧ Nrw n t ∧ ∀ v' H', Same H H' → Td K H' v' (ndD n (scN c n t)) → Q v' H'
def spHiN (K : PySem.W.Frag) (n : Nat) : Sp := fun vs H Q _ => ∃ (W : Nat) (x y v u : V) (c d : Rat) (t o : Nd n), vs = [x, y, v, u] ∧ Td K H x (rD c) ∧ Td K H y (rD d) ∧ Td K H v (ndD n t) ∧ Td K H u (ndD n o) ∧ Ch 10 c ∧ Ch 10 d ∧ WsAll W 6 n t ∧ WsAll W 6 n o ∧ W ≤ 5 ∧ Nrw n t ∧ Nrw n o ∧ ∀ v' H', Same H H' → Td K H' v' (ndD n (hiN c d n t o)) → Q v' H'
def spOu (K : PySem.W.Frag) (n : Nat) : Sp := fun vs H Q _ => ∃ (v : V) (t : Nd n), vs = [v] ∧ Td K H v (ndD n t) ∧ Nrw n t ∧ ∀ v' H', Same H H' → Td K H' v' (ouD n t) → Q v' H'
theorem ndD_scN (c : Rat) (n : Nat) (t : Nd n) : ndD n (scN c n t) = .tuple ((qsOf n t).map fun q => qnD (n - 1) (q.map (scA c (n - 1)))) := by
  rw [ndD_qs, qs_sc, List.map_map]
  rfl
theorem ndD_hiN (c d : Rat) (n : Nat) (t o : Nd n) : ndD n (hiN c d n t o) = .tuple ((List.zipWith (hiQ c d (n - 1)) (qsOf n t) (qsOf n o)).map (qnD (n - 1))) := by
  rw [ndD_qs, qs_hi]
section
variable {P : Program} {w : World} {K : PySem.W.Frag} {mg : Str → Option Value} {base : Heap} {aN aO : Addr} {t1 t2 t3 t4 t5 t6 t7 : Tok}
theorem ok_scaled_weights {f f1 : Addr} {fd fd1 : FuncData} (D : Dn K mg "scaled_weights" s_scaled_weights ["share", "weights"] f fd) (B : Blt mg) (C : Cst K mg aN aO t1 t2 t3 t4 t5 t6 t7)
    (D_multiplied : Dn K mg "multiplied" s_multiplied ["first", "second"] f1 fd1) (G_multiplied : FnOk P w K mg base CX0 2 f1 fd1 ["first", "second"] (spMul K)) : FnOk P w K mg base CX0 3 f fd ["share", "weights"] (spSW K) := by
  refine D.F.ok sc_scaled_weights (fun vs H Q E h => ?_) (fun cdv A outer s H vs Q E hr h => ?_)
  · obtain ⟨x, y, c, as, rfl, _⟩ := h
    rfl
  obtain ⟨x, y, c, as, rfl, hx, hy, h100, sc, sa, q⟩ := h
  have nd := sc_scaled_weights.nd
  refine ⟨_, (pss_one (ps_ret (pe_callTy (k_tupOf (K := K) rfl) (by rfl) B.tuple (by decide +kernel) (pa_cons (pe_lc (own := [("weight", 2)]) rfl nd (k_iT (K := K) rfl (pv 1)) (blkOk_by (own := [("weight", 2)]) (by kernel_rfl)) (fun _ _ _ _ _ => (pg_name (i := 2) nd rfl (.inl rfl))) (fun _ _ _ _ _ => pts_nil) (fun _ _ _ _ _ => (pe_call G_multiplied (hr.mono (by omega)) (by rfl) D_multiplied.m D_multiplied.F.kp D_multiplied.b .nil pass0 (pa_cons (pv 0) (pa_cons (pv 2) pa_nil))))) pa_nil)))), ?_⟩
  obtain ⟨a, xs, rfl, ha, ta⟩ := hy.tupE
  have lx : xs.length = as.length := by rw [ta.len, List.length_map]
  refine ⟨_, rfl, a, rfl, ⟨_, ha⟩, fun T hT => ?_⟩
  refine lc_td (K := K) (walk_tup (K := K) (a := a) (xs := xs)) ((scW c as).map rD) (by rw [List.length_map, scW_len, lx]) (by omega) hT (fun H' s => Same.kt s _ _ ha) ?_ ?_
  · rintro i z e H2 H3 Qy N he s2 ⟨e3, g1⟩ hQ
    subst e3
    obtain ⟨r1, e1, tr1⟩ := wsD_at' ta g1
    rw [List.getElem?_map, scW_at e1] at he
    cases he
    refine ⟨rfl, ?_⟩
    refine iteT (B := N H3) ?_
    exact ⟨_, rfl, _, rfl, x, z, c, r1, rfl, hx.keep (Same.kt s2), tr1.keep (Same.kt s2), sc, sa r1 (List.mem_of_getElem? e1), fun v H4 s4 t4 => hQ v H4 s4 t4⟩
  · intro H2 ws h2 t2 s2
    exact ⟨T, ws, rfl, SqL.of h2, fun v H3 s3 q3 => q (.ref v) H3 (s2.trans s3) (.tup q3 (t2.keep (Same.kt s3)))⟩
theorem ok_added_weights {f f1 : Addr} {fd fd1 : FuncData} (D : Dn K mg "added_weights" s_added_weights ["first", "second"] f fd) (B : Blt mg) (C : Cst K mg aN aO t1 t2 t3 t4 t5 t6 t7)
    (D_added : Dn K mg "added" s_added ["first", "second"] f1 fd1) (G_added : FnOk P w K mg base CX0 2 f1 fd1 ["first", "second"] (spAdded K)) : FnOk P w K mg base CX0 3 f fd ["first", "second"] (spAW K) := by
  refine D.F.ok sc_added_weights (fun vs H Q E h => ?_) (fun cdv A outer s H vs Q E hr h => ?_)
  · obtain ⟨x, y, as, bs, rfl, _⟩ := h
    rfl
  obtain ⟨x, y, as, bs, rfl, hx, hy, hl, h100, sa, sb, q⟩ := h
  have nd := sc_added_weights.nd
  refine ⟨_, (pss_one (ps_ret (pe_callTy (k_tupOf (K := K) rfl) (by rfl) B.tuple (by decide +kernel) (pa_cons (pe_lc (own := [("one", 2), ("other", 3)]) rfl nd (k_zip (K := K) rfl (by rfl) B.zip (pa_cons (pv 0) (pa_cons (pv 1) pa_nil))) (blkOk_by (own := [("one", 2), ("other", 3)]) (by kernel_rfl)) (fun _ _ _ _ _ => (k_tup (K := K) (n := 2) rfl rfl (pgs_cons (pg_name (i := 2) nd rfl (.inl rfl)) (pgs_cons (pg_name (i := 3) nd rfl (.inl rfl)) pgs_nil)))) (fun _ _ _ _ _ => pts_nil) (fun _ _ _ _ _ => (pe_call G_added (hr.mono (by omega)) (by rfl) D_added.m D_added.F.kp D_added.b .nil pass0 (pa_cons (pv 2) (pa_cons (pv 3) pa_nil))))) pa_nil)))), ?_⟩
  obtain ⟨a, xs, rfl, ha, ta⟩ := hx.tupE
  obtain ⟨b, ys, rfl, hb, tb⟩ := hy.tupE
  have lx : xs.length = as.length := by rw [ta.len, List.length_map]
  have ly : ys.length = bs.length := by rw [tb.len, List.length_map]
  have lm : (addW as bs).length = as.length := addW_len rfl hl.symm
  refine ⟨_, rfl, _, rfl, a, b, xs, ys, rfl, .inr ⟨ha, hb, fun T hT => ?_⟩⟩
  refine lc_td (K := K) (walk_zipT (K := K) (a := a) (b := b) (xs := xs) (ys := ys) (n := as.length) (by omega)) ((addW as bs).map rD) (by rw [List.length_map, lm]) (by omega) hT (fun H' s => ⟨Same.kt s _ _ ha, Same.kt s _ _ hb⟩) ?_ ?_
  · rintro i y e H2 H3 Qy N he s2 ⟨T2, x', y', rfl, n2, rfl, g1, g2⟩ hQ
    have s3 : Same H2 (upd H2 T2 (.tup [x', y'])) := same_upd n2
    obtain ⟨r1, e1, tr1⟩ := wsD_at' ta g1
    obtain ⟨r2, e2, tr2⟩ := wsD_at' tb g2
    rw [List.getElem?_map, addW_at e1 e2] at he
    cases he
    refine ⟨T2, _, rfl, .inl (.inl upd_same), rfl, _, _, rfl, _, _, rfl, rfl, ?_⟩
    refine ⟨rfl, ?_⟩
    refine iteT (B := N (upd H2 T2 (.tup [x', y']))) ?_
    exact ⟨_, rfl, _, rfl, x', y', r1, r2, rfl, tr1.keep (Same.kt (s2.trans s3)), tr2.keep (Same.kt (s2.trans s3)), sa r1 (List.mem_of_getElem? e1), sb r2 (List.mem_of_getElem? e2), fun v H4 s4 t4 => hQ v H4 (s3.trans s4) t4⟩
  · intro H2 ws h2 t2 s2
    exact ⟨T, ws, rfl, SqL.of h2, fun v H3 s3 q3 => q (.ref v) H3 (s2.trans s3) (.tup q3 (t2.keep (Same.kt s3)))⟩
theorem ok_scaled_node {f f1 : Addr} {fd fd1 : FuncData} (D : Dn K mg "scaled_node" s_scaled_node ["share", "node"] f fd) (B : Blt mg) (C : Cst K mg aN aO t1 t2 t3 t4 t5 t6 t7)
    (D_scaled_weights : Dn K mg "scaled_weights" s_scaled_weights ["share", "weights"] f1 fd1) (G_scaled_weights : FnOk P w K mg base CX0 3 f1 fd1 ["share", "weights"] (spSW K)) : ∀ n : Nat, FnOk P w K mg base CX0 (4 + n) f fd ["share", "node"] ((spScN K) n) := by
  intro n
  obtain ⟨sp0, G_scaled_node, hsp⟩ : ∃ sp0, FnOk P w K mg base CX0 (3 + n) f fd ["share", "node"] sp0 ∧ (∀ m, n = m + 1 → sp0 = (spScN K) m) := by
    cases n with
    | zero => exact ⟨fun _ _ _ _ => False, ⟨fun vs H Q E h => h.elim, fun A outer s H args us vs Q E _ _ _ _ h => h.elim⟩, fun m e => by omega⟩
    | succ m =>
      have G := ok_scaled_node D B C D_scaled_weights G_scaled_weights m
      rw [show 4 + m = 3 + (m + 1) by omega] at G
      exact ⟨_, G, fun m' e => by rw [show m' = m by omega]⟩
  rw [show 4 + n = (3 + n) + 1 by omega]
  refine D.F.ok sc_scaled_node (fun vs H Q E h => ?_) (fun cdv A outer s H vs Q E hr h => ?_)
  · obtain ⟨W, x, v, c, t, rfl, _⟩ := h
    rfl
  obtain ⟨W, x, v, c, t, rfl, hx, hv, hc, okt, hW, nrt, q⟩ := h
  have nd := sc_scaled_node.nd
  have D_scaled_node := D
  refine ⟨_, (pss_one (ps_ret (pe_callTy (k_tupOf (K := K) rfl) (by rfl) B.tuple (by decide +kernel) (pa_cons (pe_lc (own := [("question", 5)]) rfl nd (k_iT (K := K) rfl (pv 1)) (blkOk_by (own := [("question", 5)]) (by kernel_rfl)) (fun _ _ _ _ _ => (pg_name (i := 5) nd rfl (.inl rfl))) (fun _ _ _ _ _ => pts_nil) (fun _ _ _ _ _ => (pe_callTy (k_tupOf (K := K) rfl) (by rfl) B.tuple (by decide +kernel) (pa_cons (pe_lc (own := [("word", 2), ("weights", 3), ("behind", 4)]) rfl nd (k_iT (K := K) rfl (pv 5)) (blkOk_by (own := [("word", 2), ("weights", 3), ("behind", 4)]) (by kernel_rfl)) (fun _ _ _ _ _ => (k_tup (K := K) (n := 3) rfl rfl (pgs_cons (pg_name (i := 2) nd rfl (.inl rfl)) (pgs_cons (pg_name (i := 3) nd rfl (.inl rfl)) (pgs_cons (pg_name (i := 4) nd rfl (.inl rfl)) pgs_nil))))) (fun _ _ _ _ _ => pts_nil) (fun _ _ _ _ _ => (pe_tup (pa_cons (pv 2) (pa_cons (pe_call G_scaled_weights (hr.mono (by omega)) (by rfl) D_scaled_weights.m D_scaled_weights.F.kp D_scaled_weights.b .nil pass0 (pa_cons (pv 0) (pa_cons (pv 3) pa_nil))) (pa_cons (pe_call G_scaled_node (hr.mono (by omega)) (by rfl) D_scaled_node.m D_scaled_node.F.kp D_scaled_node.b .nil pass0 (pa_cons (pv 0) (pa_cons (pv 4) pa_nil))) pa_nil)))))) pa_nil)))) pa_nil)))), ?_⟩
  obtain ⟨a, xs, rfl, ha, ta⟩ := qs_td hv
  obtain ⟨l1000, nrt⟩ := nrt.at_
  have lx : xs.length = (qsOf n t).length := by rw [ta.len, List.length_map]
  refine ⟨_, rfl, a, rfl, ⟨_, ha⟩, fun T hT => ?_⟩
  refine lc_td (K := K) (walk_tup (K := K) (a := a) (xs := xs)) ((qsOf n t).map fun q => qnD (n - 1) (q.map (scA c (n - 1)))) (by rw [List.length_map, lx]) (by omega) hT (fun H' s => Same.kt s _ _ ha) ?_ ?_
  · rintro i z e' H2 H3 Qy N hi s2 ⟨e3, g1⟩ hQ
    subst e3
    obtain ⟨dx, ex, tx⟩ := ta.getV g1
    rw [List.getElem?_map] at ex
    obtain ⟨qn, eq, rfl⟩ := Option.map_eq_some_iff.mp ex
    rw [List.getElem?_map, eq] at hi
    cases hi
    have mq := List.mem_of_getElem? eq
    obtain ⟨n', rfl⟩ : ∃ n', n = n' + 1 := by
      cases n with
      | zero => exact absurd mq List.not_mem_nil
      | succ m => exact ⟨m, rfl⟩
    have hsp := hsp n' rfl
    subst hsp
    obtain ⟨lq, nq⟩ := nrt qn mq
    have k02 := Same.kt (K := K) s2
    obtain ⟨d, zs, rfl, hd, td⟩ := id (tx.keep k02).tupE
    have lz : zs.length = qn.length := by rw [td.len, List.length_map]
    refine ⟨rfl, ?_⟩
    refine iteT (B := N H3) ?_
    refine ⟨_, rfl, d, rfl, ⟨_, hd⟩, fun T2 hT2 => ?_⟩
    refine lc_td (K := K) (walk_tup (K := K) (a := d) (xs := zs)) ((qn.map (scA c n')).map (anD n')) (by rw [List.length_map, List.length_map, lz]) (by omega) hT2 (fun H' s => Same.kt s _ _ hd) ?_ ?_
    · rintro j y e6 H5 H6 Qy' N' hj s5 ⟨e7, g2⟩ hQ'
      subst e7
      obtain ⟨dy, ey, ty⟩ := td.getV g2
      rw [List.getElem?_map] at ey
      obtain ⟨an, ea, rfl⟩ := Option.map_eq_some_iff.mp ey
      rw [List.getElem?_map, List.getElem?_map, ea] at hj
      cases hj
      have man := List.mem_of_getElem? ea
      obtain ⟨l8, l1, c1, o1⟩ := okt.at_ qn mq an man
      obtain ⟨pn, v0, vw, vt, rfl, hpn, t0, tw, tt⟩ := td_an (ty.keep (Same.kt s5))
      refine ⟨pn, _, rfl, hpn, rfl, _, _, rfl, _, _, rfl, _, _, rfl, rfl, ?_⟩
      refine ⟨rfl, ?_⟩
      refine iteT (B := N' H6) ?_
      have hx6 := hx.keep (k02.trans (Same.kt s5))
      refine ⟨_, rfl, _, rfl, _, rfl, x, vw, c, an.2.1, rfl, hx6, tw, by omega, hc.sm (by omega), fun r hr => (c1 r hr).sm (by omega), fun v9 H9 s9 t9 => ?_⟩
      have tt9 := tt.keep (Same.kt s9)
      have hx9 := hx6.keep (Same.kt s9)
      refine ⟨_, rfl, _, rfl, W, x, vt, c, an.2.2, rfl, hx9, tt9, hc, o1, hW, (nq an man).2, fun v10 H10 s10 t10 => ?_⟩
      refine ⟨by show 3 ≤ sizeLine; decide, fun p11 n11 => ?_⟩
      have s11 := same_upd (o := .tup [v0, v9, v10]) n11
      refine hQ' (.ref p11) _ (s9.trans (s10.trans s11)) ?_
      exact .tup (.inl (.inl upd_same)) (.cons (t0.keep (Same.kt (s9.trans (s10.trans s11)))) (.cons (t9.keep (Same.kt (s10.trans s11))) (.cons (t10.keep (Same.kt s11)) .nil)))
    · intro H5 ws h5 t5 s5
      exact ⟨T2, ws, rfl, SqL.of h5, fun v7 H7 s7 q7 => hQ (.ref v7) H7 (s5.trans s7) (.tup q7 (t5.keep (Same.kt s7)))⟩
  · intro H1 us h1 u1 s1
    refine ⟨T, us, rfl, SqL.of h1, fun v7 H7 s7 q7 => q (.ref v7) H7 (s1.trans s7) ?_⟩
    rw [ndD_scN]
    exact .tup q7 (u1.keep (Same.kt s7))
end
end Tl
/-! the tree beside; the parts of a path -/
namespace Tl
open PySem PySem.Spec PyProof.Rows L2 RZ
def spMW (K : PySem.W.Frag) : Sp := fun vs H Q _ => ∃ (x y : V) (as bs : List Rat), vs = [x, y] ∧ Td K H x (wsD as) ∧ Td K H y (wsD bs) ∧ as.length = bs.length ∧ as.length ≤ 100 ∧ (∀ r ∈ as, Sm r) ∧ (∀ r ∈ bs, Sm r) ∧ ∀ v H', Same H H' → Td K H' v (wsD (mulW as bs)) → Q v H'
def spBsd (K : PySem.W.Frag) (k : Nat) : Sp := fun vs H Q _ => ∃ (W e m n : Nat) (t : Nd m) (o : Nd n) (w ow : List Rat) (v wv ov owv : V), vs = [v, wv, ov, owv] ∧ Td K H v (ndD m t) ∧ Td K H wv (wsD w) ∧ Td K H ov (ndD n o) ∧ Td K H owv (wsD ow) ∧ m + n ≤ k ∧ WsAll W e m t ∧ WsAll W e n o ∧
  w.length = W ∧ ow.length = W ∧ (∀ r ∈ w, Ch e r) ∧ (∀ r ∈ ow, Ch e r) ∧ W ≤ 5 ∧ e ≤ 8 ∧ Nar m t ∧ Nar n o ∧ cnt m t ≤ 1400 ∧ cnt n o ≤ 1400 ∧ ∀ v' H', Same H H' → Td K H' v' (ndD k (bsN k m n t o w ow)) → Q v' H'
def spPrt (K : PySem.W.Frag) : Sp := fun vs H Q _ => ∃ (W L m n k : Nat) (t : Nd m) (o : Nd n) (v1 v2 v pth : V) (p : List (Nat × Nat)) (mf : Nat) (tf : Nd mf) (wf : List Rat), vs = [.int (W : Int), .ref L, v, pth] ∧ 1 ≤ W ∧ W ≤ 5 ∧ H L = some (.lst [v1, v2]) ∧ Td K H v1 (ndD m t) ∧ Td K H v2 (ndD n o) ∧ Td K H pth (ptD p) ∧ m + n ≤ k ∧ k ≤ 100 ∧
  Wk k (bsN k m n t o (ones W) (ones W)) (mulW (ones W) (ones W)) p mf tf wf ∧ ∀ (r : Addr) (x y : V) (p1 p2 : List (Nat × Nat)) (m1 n1 k1 : Nat) (t1 : Nd m1) (o1 : Nd n1) (w1 w2 : List Rat) (H' : Hp), Same H H' → SqT K H' r [x, y] → Td K H' x (ptD p1) → Td K H' y (ptD p2) →
    Wk m t (ones W) p1 m1 t1 w1 → Wk n o (ones W) p2 n1 o1 w2 → m1 + n1 ≤ k1 → Wk k1 (bsN k1 m1 n1 t1 o1 w1 w2) (mulW w1 w2) [] mf tf wf → Q (.ref r) H'
theorem wsD_at {K : PySem.W.Frag} {H : Hp} {xs : List V} {as : List Rat} {i : Nat} {x : V} (h : TdAll K H xs (as.map rD)) (e : xs[i]? = some x) : ∃ r, as[i]? = some r ∧ Td K H x (rD r) := by
  obtain ⟨dx, ex, tx⟩ := h.getV e
  rw [List.getElem?_map] at ex
  obtain ⟨r, er, rfl⟩ := Option.map_eq_some_iff.mp ex
  exact ⟨r, er, tx⟩
theorem mulW_at {as bs : List Rat} {i : Nat} {a b : Rat} (h1 : as[i]? = some a) (h2 : bs[i]? = some b) : (mulW as bs)[i]? = some (a * b) := by
  unfold mulW
  rw [List.getElem?_zipWith, h1, h2]
section
variable {P : Program} {w : World} {K : PySem.W.Frag} {mg : Str → Option Value} {base : Heap} {aN aO : Addr} {t1 t2 t3 t4 t5 t6 t7 : Tok}
end
end Tl
/-! how many answers two houses have beside one another -/
namespace Tl
open PySem PySem.Spec PyProof.Rows L2 RZ
/-- at some number of rounds -/
def anyS (N : Nat) (sp : Nat → Sp) : Sp := fun vs H Q E => ∃ n, n ≤ N ∧ sp n vs H Q E
/-! ### dicts of numbers -/
def mpD (D : List (Nat × Nat)) : List (Key × V) := D.map fun x => (Sum.inl (x.1 : Int), V.int (x.2 : Int))
def gtD : List (Nat × Nat) → Nat → Nat
  | [], _ => 0
  | x :: r, a => if x.1 = a then x.2 else gtD r a
def adD : List (Nat × Nat) → Nat → List (Nat × Nat)
  | [], a => [(a, 1)]
  | x :: r, a => if x.1 = a then (x.1, x.2 + 1) :: r else x :: adD r a
def ksD (D : List (Nat × Nat)) : List Nat := D.map (·.1)
def smD (D : List (Nat × Nat)) : Nat := (D.map (·.2)).sum
theorem inl_eq {x a : Nat} : ((Sum.inl (x : Int) : Key) = Sum.inl (a : Int)) ↔ x = a := ⟨fun h => by have := Sum.inl.inj h; omega, fun h => by rw [h]⟩
theorem val_mp (a : Nat) : ∀ D : List (Nat × Nat), (valV (mpD D) (Sum.inl (a : Int))).getD (.int 0) = .int ((gtD D a : Nat) : Int)
  | [] => rfl
  | x :: r => by
    show (valV ((Sum.inl (x.1 : Int), V.int (x.2 : Int)) :: mpD r) (Sum.inl (a : Int))).getD (.int 0) = _
    unfold gtD
    by_cases e : x.1 = a
    · rw [valV_pos (inl_eq.mpr e), if_pos e]
      rfl
    · rw [valV_neg (fun z => e (inl_eq.mp z)), if_neg e]
      exact val_mp a r
theorem putK_neg {p : Key × V} {r : List (Key × V)} {k : Key} {v : V} (h : ¬ p.1 = k) : putK (p :: r) k v = p :: putK r k v := by
  unfold putK
  rw [List.any_cons, decide_eq_false h, Bool.false_or]
  split
  · rw [List.map_cons, if_neg h]
  · rfl
theorem putK_pos {p : Key × V} {r : List (Key × V)} {k : Key} {v : V} (h : p.1 = k) (n : ∀ x ∈ r, ¬ x.1 = k) : putK (p :: r) k v = (p.1, v) :: r := by
  unfold putK
  rw [List.any_cons, decide_eq_true h, Bool.true_or, if_pos rfl, List.map_cons, if_pos h]
  congr 1
  have : r.map (fun kv => if kv.1 = k then (kv.1, v) else kv) = r.map id := List.map_congr_left fun x hx => by
    rw [if_neg (n x hx)]
    rfl
  rw [this, List.map_id]
theorem put_mp (a : Nat) : ∀ D : List (Nat × Nat), (ksD D).Nodup → putK (mpD D) (Sum.inl (a : Int)) (.int (((gtD D a : Nat) : Int) + 1)) = mpD (adD D a)
  | [], _ => rfl
  | x :: r, nd => by
    have nd2 : x.1 ∉ ksD r ∧ (ksD r).Nodup := List.nodup_cons.mp nd
    show putK ((Sum.inl (x.1 : Int), V.int (x.2 : Int)) :: mpD r) _ _ = mpD (if x.1 = a then (x.1, x.2 + 1) :: r else x :: adD r a)
    unfold gtD
    by_cases e : x.1 = a
    · rw [if_pos e, if_pos e, putK_pos (inl_eq.mpr e) fun y hy => ?_]
      · rfl
      · obtain ⟨z, hz, rfl⟩ := List.mem_map.mp hy
        intro q
        have := inl_eq.mp q
        exact nd2.1 (by rw [e, ← this]; exact List.mem_map_of_mem hz)
    · rw [if_neg e, if_neg e, putK_neg (fun z => e (inl_eq.mp z)), put_mp a r nd2.2]
      rfl
theorem ks_ad (a : Nat) : ∀ (D : List (Nat × Nat)) (k : Nat), k ∈ ksD (adD D a) → k = a ∨ k ∈ ksD D
  | [], k, h => .inl (List.mem_singleton.mp h)
  | x :: r, k, h => by
    unfold adD at h
    by_cases e : x.1 = a
    · rw [if_pos e] at h
      exact .inr h
    · rw [if_neg e] at h
      rcases List.mem_cons.mp (show k ∈ x.1 :: ksD (adD r a) from h) with z | z
      · exact .inr (by rw [z]; exact List.mem_cons_self ..)
      · rcases ks_ad a r k z with z | z
        · exact .inl z
        · exact .inr (List.mem_cons_of_mem _ z)
theorem nd_ad (a : Nat) : ∀ D : List (Nat × Nat), (ksD D).Nodup → (ksD (adD D a)).Nodup
  | [], _ => by simp [adD, ksD]
  | x :: r, nd => by
    have nd2 : x.1 ∉ ksD r ∧ (ksD r).Nodup := List.nodup_cons.mp nd
    unfold adD
    by_cases e : x.1 = a
    · rw [if_pos e]
      exact nd
    · rw [if_neg e]
      refine List.nodup_cons.mpr ⟨fun h => ?_, nd_ad a r nd2.2⟩
      rcases ks_ad a r x.1 h with z | z
      · exact e z
      · exact nd2.1 z
theorem sm_ad (a : Nat) : ∀ D : List (Nat × Nat), smD (adD D a) = smD D + 1
  | [] => rfl
  | x :: r => by
    unfold adD
    by_cases e : x.1 = a
    · rw [if_pos e]
      show x.2 + 1 + smD r = x.2 + smD r + 1
      omega
    · rw [if_neg e]
      show x.2 + smD (adD r a) = x.2 + smD r + 1
      rw [sm_ad a r]
      omega
theorem ln_ad (a : Nat) : ∀ D : List (Nat × Nat), (adD D a).length ≤ D.length + 1
  | [] => Nat.le_refl _
  | x :: r => by
    unfold adD
    by_cases e : x.1 = a
    · rw [if_pos e]
      exact Nat.le_succ _
    · rw [if_neg e]
      have := ln_ad a r
      rw [List.length_cons, List.length_cons]
      omega
def lnD (ls : List Nat) : List (Nat × Nat) := ls.foldl adD []
theorem lnD_snoc (ls : List Nat) (a : Nat) : lnD (ls ++ [a]) = adD (lnD ls) a := by
  unfold lnD
  rw [List.foldl_append]
  rfl
structure DOk (ls : List Nat) (D : List (Nat × Nat)) : Prop where
  nd : (ksD D).Nodup
  ks : ∀ k ∈ ksD D, k ∈ ls
  sm : smD D = ls.length
  len : D.length ≤ ls.length
theorem dok (ls : List Nat) : DOk ls (lnD ls) := by
  have h : ∀ i, i ≤ ls.length → DOk (ls.take i) (lnD (ls.take i)) := by
    intro i
    induction i with
    | zero => exact fun _ => ⟨List.nodup_nil, fun k h => absurd h List.not_mem_nil, rfl, Nat.le_refl _⟩
    | succ i ih =>
      intro hi
      have I := ih (by omega)
      have e : ls.take (i + 1) = ls.take i ++ [ls[i]] := by rw [List.take_add_one, List.getElem?_eq_getElem (by omega)]; rfl
      rw [e, lnD_snoc]
      refine ⟨nd_ad _ _ I.nd, fun k hk => ?_, ?_, ?_⟩
      · rcases ks_ad _ _ _ hk with z | z
        · rw [z]
          exact List.mem_append_right _ (List.mem_singleton.mpr rfl)
        · exact List.mem_append_left _ (I.ks _ z)
      · rw [sm_ad, I.sm, List.length_append]
        rfl
      · have := ln_ad ls[i] (lnD (ls.take i))
        have := I.len
        rw [List.length_append, List.length_singleton]
        omega
  have := h ls.length (Nat.le_refl _)
  rw [List.take_length] at this
  exact this
def MaxD (D : List (Nat × Nat)) (m : Nat) : Prop := m ∈ ksD D ∧ ∀ k ∈ ksD D, k ≤ m
/-! ### ways of mixing -/
def mwT (s : Nat) : Nat → Nat
  | 0 => 1
  | i + 1 => mwT s i * (s + i + 1) / (i + 1)
def ansR (x : Nat × Nat) (D : List (Nat × Nat)) : Nat := (D.map fun y => x.2 * y.2 * mwT y.1 x.1).sum
def ansN (D1 D2 : List (Nat × Nat)) : Nat := (D1.map fun x => ansR x D2).sum
theorem mw_le {s : Nat} (hs : s ≤ 40) : ∀ i, i ≤ 40 → mwT s i ≤ 128 ^ i
  | 0, _ => Nat.le_refl _
  | i + 1, h => by
    have ih := mw_le hs i (by omega)
    refine Nat.le_trans (Nat.div_le_self _ _) ?_
    rw [Nat.pow_succ]
    exact Nat.mul_le_mul ih (by omega)
theorem mw_small {s i : Nat} (hs : s ≤ 40) (hi : i ≤ 40) : mwT s i < 2 ^ 281 := by
  refine Nat.lt_of_le_of_lt (mw_le hs i hi) ?_
  refine Nat.lt_of_le_of_lt (Nat.pow_le_pow_right (by decide) hi) ?_
  decide
def spLns (K : PySem.W.Frag) (Cc : Addr) (n : Nat) : Sp := fun vs H Q _ => ∃ (p : Addr) (W : Nat) (v : V) (t : Nd n), vs = [.ref p] ∧ HouseAt Cc H p W v ∧ Td K H v (ndD n t) ∧ n ≤ 30 ∧ cnt n t ≤ 4000 ∧ Nar n t ∧
  ∀ d H', Same H H' → H d = none → H' d = some (.dK (mpD (lnD (lnsN n t 0)))) → Q (.ref d) H'
def spMxd : Sp := fun vs H Q _ => ∃ f s : Nat, vs = [.int (f : Int), .int (s : Int)] ∧ f ≤ 40 ∧ s ≤ 40 ∧ Q (.int ((mwT s f : Nat) : Int)) H
theorem kt_but {K : PySem.W.Frag} {H H' : Hp} {d : Addr} {kvs : List (Key × V)} (h : H d = some (.dK kvs)) (s : ∀ b o, H b = some o → b ≠ d → H' b = some o) : KT K H H' := fun a xs q => by
  rcases q with (q | ⟨o, q⟩) | q
  · exact .inl (.inl (s _ _ q (ne_of q h (by intro z; cases z))))
  · exact .inl (.inr ⟨o, s _ _ q (ne_of q h (by intro z; cases z))⟩)
  · exact .inr q
section
variable {P : Program} {w : World} {K : PySem.W.Frag} {mg : Str → Option Value} {base : Heap} {aN aO : Addr} {t1 t2 t3 t4 t5 t6 t7 : Tok}
theorem FnOk.anyS {f : Addr} {fd : FuncData} {ps : List Str} {N k : Nat} {sp : Nat → Sp} {lv : Nat → Nat} {CX : CXT} (h : ∀ n, FnOk P w K mg base CX (lv n) f fd ps (sp n)) (hk : ∀ n, n ≤ N → lv n ≤ k) : FnOk P w K mg base CX k f fd ps (Tl.anyS N sp) :=
  ⟨fun vs H Q E ⟨n, _, q⟩ => (h n).len vs H Q E q, fun A outer s H args us vs Q E hr e0 hb rv ⟨n, hn, q⟩ => ((h n).mono (hk n hn)).run A outer s H args us vs Q E hr e0 hb rv q⟩
end
end Tl
/-! beside -/
namespace Tl
open PySem PySem.Spec PyProof.Rows L2 RZ
theorem lns_le : ∀ (n : Nat) (t : Nd n) (d l : Nat), l ∈ lnsN n t d → l ≤ d + n
  | 0, _, d, l, h => by
    rw [List.mem_singleton.mp h]
    omega
  | n + 1, qs, d, l, h => by
    rcases List.mem_cons.mp h with h | h
    · omega
    · obtain ⟨q, _, h⟩ := List.mem_flatMap.mp h
      obtain ⟨a, _, h⟩ := List.mem_flatMap.mp h
      have := lns_le n a.2.2 (d + 1) l h
      omega
theorem mp_keys (D : List (Nat × Nat)) : ((mpD D).map fun kv => kV kv.1) = ((ksD D).map fun k : Nat => (k : Int)).map V.int := by
  unfold mpD ksD
  rw [List.map_map, List.map_map, List.map_map]
  rfl
theorem max_is {D : List (Nat × Nat)} {M : Nat} (h : MaxD D M) {mx : Int} (h1 : mx ∈ (ksD D).map fun k : Nat => (k : Int)) (h2 : ∀ y, y ∈ ((ksD D).map fun k : Nat => (k : Int)) → y ≤ mx) : mx = (M : Int) := by
  obtain ⟨k, hk, rfl⟩ := List.mem_map.mp h1
  have a := h.2 k hk
  have b := h2 (M : Int) (List.mem_map.mpr ⟨M, h.1, rfl⟩)
  omega
theorem sm_at {D : List (Nat × Nat)} {x : Nat × Nat} (h : x ∈ D) : x.2 ≤ smD D := sum_mem (List.mem_map_of_mem (f := fun x : Nat × Nat => x.2) h)
def spAns (K : PySem.W.Frag) (Cc : Addr) : Sp := fun vs H Q _ => ∃ (p p2 : Addr) (W W2 m n : Nat) (v v2 : V) (t : Nd m) (o : Nd n), vs = [.ref p, .ref p2] ∧ HouseAt Cc H p W v ∧ HouseAt Cc H p2 W2 v2 ∧ Td K H v (ndD m t) ∧ Td K H v2 (ndD n o) ∧ m ≤ 12 ∧ n ≤ 12 ∧ cnt m t ≤ 1400 ∧ cnt n o ≤ 1400 ∧ Nar m t ∧ Nar n o ∧
  ∀ H', Same H H' → Q (.int (((ansN (lnD (lnsN m t 0)) (lnD (lnsN n o 0)) : Nat) : Int) - 1)) H'
def spAlk (Cc CA : Addr) : Sp := fun vs H Q E => ∃ (p p2 : Addr) (W W2 : Nat) (v v2 : V), vs = [.ref p, .ref p2] ∧ HouseAt Cc H p W v ∧ HouseAt Cc H p2 W2 v2 ∧ (W = W2 → Q .non H) ∧ (W ≠ W2 → E (.ref CA) none H)
def BigB (D1 D2 : List (Nat × Nat)) (M1 M2 : Nat) : Prop := 12 < M1 + M2 ∨ (3000 : Int) < ((ansN D1 D2 : Nat) : Int) - 1
def spBsde (K : PySem.W.Frag) (Cc CA CT : Addr) : Sp := fun vs H Q E => ∃ (p p2 : Addr) (W W2 m n M1 M2 : Nat) (v v2 : V) (t : Nd m) (o : Nd n), vs = [.ref p, .ref p2] ∧ HouseAt Cc H p W v ∧ HouseAt Cc H p2 W2 v2 ∧ Td K H v (ndD m t) ∧ Td K H v2 (ndD n o) ∧ m ≤ 12 ∧ n ≤ 12 ∧ cnt m t ≤ 1400 ∧ cnt n o ≤ 1400 ∧ Nar m t ∧ Nar n o ∧
  WsAll W 6 m t ∧ WsAll W2 6 n o ∧ 1 ≤ W ∧ W ≤ 5 ∧ MaxD (lnD (lnsN m t 0)) M1 ∧ MaxD (lnD (lnsN n o 0)) M2 ∧ (W ≠ W2 → E (.ref CA) none H) ∧
  (W = W2 → BigB (lnD (lnsN m t 0)) (lnD (lnsN n o 0)) M1 M2 → ∀ H', Same H H' → E (.ref CT) none H') ∧
  (W = W2 → ¬ BigB (lnD (lnsN m t 0)) (lnD (lnsN n o 0)) M1 M2 → m + n ≤ 12 ∧ cnt (m + n) (bsN (m + n) m n t o (ones W) (ones W)) ≤ 3000 ∧ ∀ p' v' H', Same H H' → HouseAt Cc H' p' W v' → Td K H' v' (ndD (m + n) (bsN (m + n) m n t o (ones W) (ones W))) → Q (.ref p') H')
section
variable {P : Program} {w : World} {K : PySem.W.Frag} {mg : Str → Option Value} {base : Heap} {aN aO : Addr} {t1 t2 t3 t4 t5 t6 t7 : Tok}
theorem ok_check_alike {HE CA : Addr} {f : Addr} {fd : FuncData} {Cc fi fe : Addr} (D : Dn K mg "check_alike" s_check_alike ["house", "other"] f fd) (B : Blt mg) (C : Cst K mg aN aO t1 t2 t3 t4 t5 t6 t7) (U : Hcl K mg Cc fi fe) (X_NotAlike : XRs K mg HE "NotAlike" CA) : FnOk P w K mg base (L2.CX P w) 1 f fd ["house", "other"] (spAlk Cc CA) := by
  refine D.F.okX sc_check_alike (fun vs H Q E h => ?_) (fun cdv A outer s H vs Q E hr h => ?_)
  · obtain ⟨p, p2, W, W2, v, v2, rfl, _⟩ := h
    rfl
  obtain ⟨p, p2, W, W2, v, v2, rfl, ⟨dx, e1⟩, ⟨dy, e2⟩, q, r⟩ := h
  have nd := sc_check_alike.nd
  refine ⟨_, (pss_one (ps_if (pt_cmpR op_ne (k_fld (K := K) rfl (pv 0) rfl) (k_fld (K := K) rfl (pv 1) rfl) (nomark _)) (pss_one (ps_raise rfl (takes_of rfl rfl rfl rfl) (pmk_own0 PySem.F.excBase_ValueError X_NotAlike.q X_NotAlike.X.g X_NotAlike.X.k (raises_own X_NotAlike.X.E.hs X_NotAlike.X.T.tyC) (by rfl)))) pss_nil)), ?_⟩
  refine ⟨_, rfl, p, Cc, dx, _, _, rfl, e1, U.cl, U.nw, hf_w _ _, _, rfl, p2, Cc, dy, _, _, rfl, e2, U.cl, U.nw, hf_w _ _, rfl, _, rfl, ?_⟩
  by_cases h : W = W2
  · subst h
    refine ite2 (fun c => ?_) (fun c => ?_)
    · simp at c
    · exact q rfl
  · refine ite2 (fun c => ?_) (fun c => ?_)
    · exact r h
    · simp at c
      exact absurd (by omega) h
end
end Tl
/-! the law's own count; what is refused -/
namespace Tl
open PySem PySem.Spec PyProof.Rows L2 RZ
theorem max_ex {D : List (Nat × Nat)} (h : D ≠ []) : ∃ M, MaxD D M := by
  induction D with
  | nil => exact absurd rfl h
  | cons x r ih =>
    by_cases hr : r = []
    · subst hr
      exact ⟨x.1, List.mem_singleton.mpr rfl, fun k hk => by rw [List.mem_singleton.mp hk]; exact Nat.le_refl _⟩
    · obtain ⟨M, h1, h2⟩ := ih hr
      by_cases hx : M ≤ x.1
      · refine ⟨x.1, List.mem_cons_self .., fun k hk => ?_⟩
        rcases List.mem_cons.mp hk with z | z
        · rw [z]
          exact Nat.le_refl _
        · exact Nat.le_trans (h2 k z) hx
      · refine ⟨M, List.mem_cons_of_mem _ h1, fun k hk => ?_⟩
        rcases List.mem_cons.mp hk with z | z
        · rw [z]
          exact Nat.le_of_lt (Nat.lt_of_not_le hx)
        · exact h2 k z
theorem lnD_max {n : Nat} (t : Nd n) : ∃ M, M ≤ n ∧ MaxD (lnD (lnsN n t 0)) M := by
  have O := dok (lnsN n t 0)
  have ne : lnD (lnsN n t 0) ≠ [] := fun z => by
    have := O.sm
    rw [z, lns_len] at this
    cases this
  obtain ⟨M, hM⟩ := max_ex ne
  refine ⟨M, ?_, hM⟩
  have := lns_le n t 0 M (O.ks M hM.1)
  omega
theorem ansR_le {x : Nat × Nat} {c : Nat} : ∀ {D : List (Nat × Nat)}, (∀ y ∈ D, mwT y.1 x.1 ≤ c) → ansR x D ≤ x.2 * c * smD D
  | [], _ => Nat.zero_le _
  | y :: r, h => by
    have h1 := h y (List.mem_cons_self ..)
    have h2 := ansR_le (D := r) fun z hz => h z (List.mem_cons_of_mem _ hz)
    show x.2 * y.2 * mwT y.1 x.1 + ansR x r ≤ x.2 * c * (y.2 + smD r)
    rw [Nat.mul_add]
    have h3 : x.2 * y.2 * mwT y.1 x.1 ≤ x.2 * c * y.2 := by
      rw [Nat.mul_right_comm x.2 c y.2]
      exact Nat.mul_le_mul (Nat.le_refl _) h1
    omega
theorem ansN_le {c : Nat} {D2 : List (Nat × Nat)} : ∀ {D1 : List (Nat × Nat)}, (∀ x ∈ D1, ∀ y ∈ D2, mwT y.1 x.1 ≤ c) → ansN D1 D2 ≤ smD D1 * (c * smD D2)
  | [], _ => Nat.zero_le _
  | x :: r, h => by
    have h1 := ansR_le (h x (List.mem_cons_self ..))
    have h2 := ansN_le (D1 := r) (D2 := D2) fun z hz => h z (List.mem_cons_of_mem _ hz)
    show ansR x D2 + ansN r D2 ≤ (x.2 + smD r) * (c * smD D2)
    rw [Nat.add_mul]
    rw [Nat.mul_assoc] at h1
    omega
theorem mw6 : ∀ s f : Nat, s ≤ 2 → f ≤ 2 → mwT s f ≤ 6 := by
  have h : ∀ s f : Fin 3, mwT s.val f.val ≤ 6 := by decide
  intro s f hs hf
  exact h ⟨s, by omega⟩ ⟨f, by omega⟩
theorem bn6 : ∀ s f : Nat, s ≤ 2 → f ≤ 2 → bn s f ≤ 6 := by
  have h : ∀ s f : Fin 3, bn s.val f.val ≤ 6 := by decide
  intro s f hs hf
  exact h ⟨s, by omega⟩ ⟨f, by omega⟩
/-- small houses are none too large beside one another -/
theorem small_big {m n : Nat} {t : Nd m} {o : Nd n} {M1 M2 : Nat} (hm : m ≤ 2) (hn : n ≤ 2) (ct : cnt m t ≤ 16) (co : cnt n o ≤ 16) (h1 : M1 ≤ m) (h2 : M2 ≤ n) : ¬ BigB (lnD (lnsN m t 0)) (lnD (lnsN n o 0)) M1 M2 := by
  have O1 := dok (lnsN m t 0)
  have O2 := dok (lnsN n o 0)
  have h := ansN_le (c := 6) (D1 := lnD (lnsN m t 0)) (D2 := lnD (lnsN n o 0)) fun x hx y hy => by
    have a := lns_le m t 0 _ (O1.ks x.1 (List.mem_map_of_mem hx))
    have b := lns_le n o 0 _ (O2.ks y.1 (List.mem_map_of_mem hy))
    exact mw6 _ _ (by omega) (by omega)
  rw [O1.sm, O2.sm, lns_len, lns_len] at h
  have h' : ansN (lnD (lnsN m t 0)) (lnD (lnsN n o 0)) ≤ 17 * (6 * 17) := Nat.le_trans h (Nat.mul_le_mul (by omega) (Nat.mul_le_mul_left 6 (by omega)))
  rintro (z | z) <;> omega
theorem small_cnt {m n : Nat} {t : Nd m} {o : Nd n} (w ow : List Rat) (hm : m ≤ 2) (hn : n ≤ 2) (ct : cnt m t ≤ 16) (co : cnt n o ≤ 16) : cnt (m + n) (bsN (m + n) m n t o w ow) ≤ 3000 := by
  have h := cnt_bs (m + n) m n t o w ow (Nat.le_refl _)
  have h2 : (cnt m t + 1) * (cnt n o + 1) * bn m n ≤ 17 * 17 * 6 := Nat.mul_le_mul (Nat.mul_le_mul (by omega) (by omega)) (bn6 m n hm hn)
  omega
theorem nar_bs : ∀ (k m n : Nat) (t : Nd m) (o : Nd n) (w ow : List Rat), m + n ≤ k → Nar m t → Nar n o → Nar k (bsN k m n t o w ow)
  | 0, _, _, _, _, _, _, _, _, _ => trivial
  | k + 1, m, n, t, o, w, ow, h, ht, ho => by
    intro q hq
    have hq : q ∈ (qsOf m t).map (fun q => q.map (bs1 k m n o ow)) ++ (qsOf n o).map (fun q => q.map (bs2 k m n t w)) := hq
    rcases List.mem_append.mp hq with hq | hq
    · obtain ⟨q1, hq1, rfl⟩ := List.mem_map.mp hq
      obtain ⟨l1, h1⟩ := ht.at_ q1 hq1
      have pos : 1 ≤ m := by
        cases m with
        | zero => exact absurd hq1 List.not_mem_nil
        | succ m => omega
      refine ⟨by rw [List.length_map]; exact l1, fun a ha => ?_⟩
      obtain ⟨a1, ha1, rfl⟩ := List.mem_map.mp ha
      exact nar_bs k (m - 1) n a1.2.2 o a1.2.1 ow (by omega) (h1 a1 ha1) ho
    · obtain ⟨q1, hq1, rfl⟩ := List.mem_map.mp hq
      obtain ⟨l1, h1⟩ := ho.at_ q1 hq1
      have pos : 1 ≤ n := by
        cases n with
        | zero => exact absurd hq1 List.not_mem_nil
        | succ n => omega
      refine ⟨by rw [List.length_map]; exact l1, fun a ha => ?_⟩
      obtain ⟨a1, ha1, rfl⟩ := List.mem_map.mp ha
      exact nar_bs k m (n - 1) t a1.2.2 w a1.2.1 (by omega) ht (h1 a1 ha1)
/-! ### the law's own count -/
def bwR (f : Nat → Nat) : Nat → Nat
  | 0 => f 0
  | b + 1 => f (b + 1) + bwR f b
def bw : Nat → Nat → Nat
  | 0 => fun _ => 1
  | a + 1 => bwR (bw a)
def bwI (a b : Int) : Int := if 0 ≤ a ∧ 0 ≤ b then ((bw a.toNat b.toNat : Nat) : Int) else 0
theorem bw_step : ∀ f s : Nat, 0 < f + s → bwI ((f : Int) - 1) (s : Int) + bwI (f : Int) ((s : Int) - 1) = ((bw f s : Nat) : Int) := by
  intro f s h
  unfold bwI
  cases f with
  | zero =>
    cases s with
    | zero => omega
    | succ s =>
      rw [if_neg (by omega), if_pos (by omega)]
      rfl
  | succ f =>
    have e1 : (((f + 1 : Nat) : Int) - 1).toNat = f := by omega
    cases s with
    | zero =>
      rw [if_pos (by omega), if_neg (by omega), e1, Int.add_zero]
      rfl
    | succ s =>
      have e2 : (((s + 1 : Nat) : Int) - 1).toNat = s := by omega
      rw [if_pos (by omega), if_pos (by omega), e1, e2]
      show ((bw f (s + 1) : Nat) : Int) + ((bw (f + 1) s : Nat) : Int) = ((bw f (s + 1) + bwR (bw f) s : Nat) : Int)
      rw [Int.natCast_add]
      rfl
def rowS (f j : Nat) : Nat := ((List.range j).map (bw f)).sum
def allS (o f j : Nat) : Nat := ((List.range f).map fun a => rowS a (o + 1)).sum + rowS f j
theorem rowS_succ (f j : Nat) : rowS f (j + 1) = rowS f j + bw f j := by
  unfold rowS
  rw [List.range_succ, List.map_append, List.sum_append]
  rfl
theorem allS_next (o f : Nat) : allS o f (o + 1) = allS o (f + 1) 0 := by
  unfold allS
  rw [List.range_succ, List.map_append, List.sum_append]
  show _ = _ + (rowS f (o + 1) + 0) + 0
  omega
theorem bw_pos : ∀ a b, 1 ≤ bw a b
  | 0, _ => Nat.le_refl _
  | a + 1, 0 => bw_pos a 0
  | a + 1, b + 1 => by
    have := bw_pos a (b + 1)
    show 1 ≤ bw a (b + 1) + bwR (bw a) b
    omega
theorem allS_pos {o f j : Nat} (h : 0 < f + j) : 1 ≤ allS o f j := by
  unfold allS
  by_cases hj : 0 < j
  · obtain ⟨g, rfl⟩ : ∃ g, j = g + 1 := ⟨j - 1, by omega⟩
    rw [rowS_succ]
    have := bw_pos f g
    omega
  · obtain ⟨g, rfl⟩ : ∃ g, f = g + 1 := ⟨f - 1, by omega⟩
    rw [List.range_succ, List.map_append, List.sum_append]
    show 1 ≤ (_ + (rowS g (o + 1) + 0)) + _
    rw [rowS_succ]
    have := bw_pos g o
    omega
theorem allS_succ (o f j : Nat) : allS o f (j + 1) = allS o f j + bw f j := by
  unfold allS
  rw [rowS_succ]
  omega
/-- what the law's dict holds: all ways so far -/
def Vis (o f j : Nat) (a b : Int) : Prop := 0 ≤ a ∧ 0 ≤ b ∧ (a < f ∧ b ≤ o ∨ a = f ∧ b < j)
instance (o f j : Nat) (a b : Int) : Decidable (Vis o f j a b) := by unfold Vis; infer_instance
def WaysOk (o f j : Nat) (kvs : List (List Key × V)) : Prop := kvs.length ≤ f * (o + 1) + j ∧ ∀ a b : Int, valV kvs [Sum.inl a, Sum.inl b] = if Vis o f j a b then some (.int (bwI a b)) else none
theorem put_len (kvs : List (List Key × V)) (k : List Key) (v : V) : (putK kvs k v).length ≤ kvs.length + 1 := by
  unfold putK
  split
  · rw [List.length_map]
    omega
  · rw [List.length_append]
    exact Nat.le_refl _
theorem put_len_in {kvs : List (List Key × V)} {k : List Key} {v x : V} (h : valV kvs k = some x) : (putK kvs k v).length = kvs.length := by
  unfold putK
  rw [valV_any, h]
  simp
theorem pair_eq {a b c d : Int} : (([Sum.inl a, Sum.inl b] : List Key) = [Sum.inl c, Sum.inl d]) ↔ a = c ∧ b = d := by
  constructor
  · intro h
    injection h with h1 h2
    injection h2 with h2 _
    exact ⟨Sum.inl.inj h1, Sum.inl.inj h2⟩
  · rintro ⟨rfl, rfl⟩
    rfl
theorem ways_put {o f j : Nat} {kvs : List (List Key × V)} (h : WaysOk o f j kvs) (hj : j ≤ o) : WaysOk o f (j + 1) (putK kvs [Sum.inl (f : Int), Sum.inl (j : Int)] (.int ((bw f j : Nat) : Int))) := by
  refine ⟨Nat.le_trans (put_len _ _ _) (by have := h.1; omega), fun a b => ?_⟩
  rw [valV_put]
  by_cases e : a = f ∧ b = j
  · obtain ⟨rfl, rfl⟩ := e
    rw [if_pos rfl, if_pos (by unfold Vis; omega)]
    unfold bwI
    rw [if_pos (by omega)]
    rfl
  · rw [if_neg (fun z => e (pair_eq.mp z)), h.2]
    by_cases v : Vis o f j a b
    · rw [if_pos v, if_pos (by unfold Vis at v ⊢; omega)]
    · rw [if_neg v, if_neg (by unfold Vis at v ⊢; omega)]
theorem ways_put2 {o f j : Nat} {kvs : List (List Key × V)} {v0 : V} (h : WaysOk o f j kvs) (hj : j ≤ o) : WaysOk o f (j + 1) (putK (putK kvs [Sum.inl (f : Int), Sum.inl (j : Int)] v0) [Sum.inl (f : Int), Sum.inl (j : Int)] (.int ((bw f j : Nat) : Int))) := by
  have h' := ways_put h hj
  refine ⟨?_, fun a b => ?_⟩
  · rw [put_len_in (x := v0) (by rw [valV_put, if_pos rfl])]
    exact Nat.le_trans (put_len _ _ _) (by have := h.1; omega)
  · rw [← h'.2 a b, valV_put, valV_put, valV_put]
    by_cases e : ([Sum.inl a, Sum.inl b] : List Key) = [Sum.inl (f : Int), Sum.inl (j : Int)]
    · rw [if_pos e, if_pos e]
    · rw [if_neg e, if_neg e, if_neg e]
theorem ways_get {o f j : Nat} {kvs : List (List Key × V)} (h : WaysOk o f j kvs) {a b : Int} (hv : Vis o f j a b ∨ ¬ (0 ≤ a ∧ 0 ≤ b)) : (valV kvs [Sum.inl a, Sum.inl b]).getD (.int 0) = .int (bwI a b) := by
  rw [h.2]
  by_cases v : Vis o f j a b
  · rw [if_pos v]
    rfl
  · rw [if_neg v]
    have z := hv.resolve_left v
    unfold bwI
    rw [if_neg z]
    rfl
theorem ways_next {o f : Nat} {kvs : List (List Key × V)} (h : WaysOk o f (o + 1) kvs) : WaysOk o (f + 1) 0 kvs := by
  refine ⟨by have := h.1; rw [Nat.add_mul]; omega, fun a b => ?_⟩
  rw [h.2]
  by_cases v : Vis o f (o + 1) a b
  · rw [if_pos v, if_pos (by unfold Vis at v ⊢; omega)]
  · rw [if_neg v, if_neg (by unfold Vis at v ⊢; omega)]
def spMny : Sp := fun vs H Q _ => ∃ a b : Nat, vs = [.int (a : Int), .int (b : Int)] ∧ a ≤ 20 ∧ b ≤ 20 ∧ ∀ H', Same H H' → Q (.int ((allS b (a + 1) 0 - 1 : Nat) : Int)) H'
def spRef (K : PySem.W.Frag) (Cc : Addr) : Sp := fun vs H Q _ => ∃ (p p2 : Addr) (W W2 m n M1 M2 : Nat) (v v2 : V) (t : Nd m) (o : Nd n), vs = [.ref p, .ref p2] ∧ HouseAt Cc H p W v ∧ HouseAt Cc H p2 W2 v2 ∧ Td K H v (ndD m t) ∧ Td K H v2 (ndD n o) ∧ m ≤ 12 ∧ n ≤ 12 ∧ cnt m t ≤ 1400 ∧ cnt n o ≤ 1400 ∧ Nar m t ∧ Nar n o ∧
  WsAll W 6 m t ∧ WsAll W2 6 n o ∧ 1 ≤ W ∧ W ≤ 5 ∧ MaxD (lnD (lnsN m t 0)) M1 ∧ MaxD (lnD (lnsN n o 0)) M2 ∧ (W ≠ W2 → ∀ H', Same H H' → Q (.str "alike") H') ∧
  (W = W2 → BigB (lnD (lnsN m t 0)) (lnD (lnsN n o 0)) M1 M2 → ∀ H', Same H H' → Q (.str "large") H') ∧
  (W = W2 → ¬ BigB (lnD (lnsN m t 0)) (lnD (lnsN n o 0)) M1 M2 → m + n ≤ 12 ∧ cnt (m + n) (bsN (m + n) m n t o (ones W) (ones W)) ≤ 3000 ∧ ∀ H', Same H H' → Q (.str "none") H')
section
variable {P : Program} {w : World} {K : PySem.W.Frag} {mg : Str → Option Value} {base : Heap} {aN aO : Addr} {t1 t2 t3 t4 t5 t6 t7 : Tok}
end
end Tl
/-! each path of what stands beside one another -/
namespace Tl
open PySem PySem.Spec PyProof.Rows L2 RZ
theorem TreeOk.keep {K : PySem.W.Frag} {H H' : Hp} {W n : Nat} {v : V} {t : Nd n} (T : TreeOk K H W n v t) (s : Same H H') : TreeOk K H' W n v t := ⟨T.td.keep (Same.kt s), T.ok, T.few, T.deep, T.w1, T.w5⟩
theorem own_same {H : Hp} {C x dx : Addr} (nx : H x = none) (ndx : H dx = none) : Same H (upd (upd H dx (.own x)) x (.ins C dx [])) := fun b o e => by
  rw [upd_ne (ne_of_none e nx), upd_ne (ne_of_none e ndx)]
  exact e
theorem mk_hs {K : PySem.W.Frag} {H H7 : Hp} {C x dx : Addr} {W n : Nat} {v : V} {t : Nd n} (nx : H x = none) (ndx : H dx = none) (T : TreeOk K H W n v t) (h7 : H7 x = some (.ins C dx (hf W v))) (k7 : ∀ b o, upd (upd H dx (.own x)) x (.ins C dx []) b = some o → b ≠ x → H7 b = some o) :
    Same H H7 ∧ HsOk K C H7 x W n t v := by
  have s : Same H H7 := fun b o e => k7 _ _ (own_same nx ndx b o e) (ne_of_none e nx)
  exact ⟨s, ⟨dx, h7⟩, T.td.keep (Same.kt s), T.ok, T.few, T.deep, T.w1, T.w5⟩
theorem Wk.cnt {n : Nat} {t : Nd n} {w : List Rat} {p : List (Nat × Nat)} {m : Nat} {t' : Nd m} {w' : List Rat} (h : Wk n t w p m t' w') : Tl.cnt m t' ≤ Tl.cnt n t := by
  induction h with
  | nil => exact Nat.le_refl _
  | cons a1 a2 _ ih =>
    have h1 := cntQ_le (List.mem_of_getElem? a1)
    have h2 := cntA_le (List.mem_of_getElem? a2)
    omega
theorem Wk.nar {n : Nat} {t : Nd n} {w : List Rat} {p : List (Nat × Nat)} {m : Nat} {t' : Nd m} {w' : List Rat} (h : Wk n t w p m t' w') (o : Nar n t) : Nar m t' := by
  induction h with
  | nil => exact o
  | cons a1 a2 _ ih => exact ih ((o.at_ _ (List.mem_of_getElem? a1)).2 _ (List.mem_of_getElem? a2))
theorem ll2000 {e : Nat} (he : e ≤ 16) {r : Rat} (h : Ch e r) : r.den < 2 ^ 2000 ∧ r.num.natAbs < 2 ^ 2000 := by
  have z := h.sm he
  exact ⟨Nat.lt_trans z.1 (Nat.pow_lt_pow_right (by decide) (by decide)), Nat.lt_trans z.2 (Nat.pow_lt_pow_right (by decide) (by decide))⟩
/-- a walk's answer: weights and a node -/
def WnAt (K : PySem.W.Frag) (H : Hp) (dw dn : PyData) (x : V) : Prop := ∃ (r : Addr) (wv nv : V), x = .ref r ∧ SqT K H r [wv, nv] ∧ Td K H wv dw ∧ Td K H nv dn
theorem WnAt.keep {K : PySem.W.Frag} {H H' : Hp} {dw dn : PyData} {x : V} (h : WnAt K H dw dn x) (k : KT K H H') : WnAt K H' dw dn x := by
  obtain ⟨r, wv, nv, e, h1, h2, h3⟩ := h
  exact ⟨r, wv, nv, e, k _ _ h1, h2.keep k, h3.keep k⟩
def spHld (K : PySem.W.Frag) : Sp := fun vs H Q _ => ∃ (W L m n : Nat) (v1 v2 : V) (t : Nd m) (o : Nd n), vs = [.int (W : Int), .ref L] ∧ H L = some (.lst [v1, v2]) ∧ TreeOk K H W m v1 t ∧ TreeOk K H W n v2 o ∧ m ≤ 2 ∧ n ≤ 2 ∧ cnt m t ≤ 16 ∧ cnt n o ≤ 16 ∧ ∀ H', Same H H' → Q (.bl true) H'
section
variable {P : Program} {w : World} {K : PySem.W.Frag} {mg : Str → Option Value} {base : Heap} {aN aO : Addr} {t1 t2 t3 t4 t5 t6 t7 : Tok}
end
end Tl
/-! nodes hidden; outlines; tossed, hidden -/
namespace Tl
open PySem PySem.Spec PyProof.Rows L2 RZ
theorem zip_at2 {α β γ : Type} {f : α → β → γ} {xs : List α} {ys : List β} {i : Nat} {x : α} {y : β} (h1 : xs[i]? = some x) (h2 : ys[i]? = some y) : (List.zipWith f xs ys)[i]? = some (f x y) := by
  rw [List.getElem?_zipWith, h1, h2]
def spIs (K : PySem.W.Frag) (Cc : Addr) : Sp := fun vs H Q _ => ∃ (p p2 : Addr) (W W2 m : Nat) (v v2 : V) (t o : Nd m), vs = [.ref p, .ref p2] ∧ HouseAt Cc H p W v ∧ HouseAt Cc H p2 W2 v2 ∧ Td K H v (ndD m t) ∧ Td K H v2 (ndD m o) ∧ Nrw m t ∧ Nrw m o ∧ m ≤ 12 ∧ ∀ H', Same H H' → Q (.bl (decide (W = W2) && shB m t o)) H'
def spTos (K : PySem.W.Frag) (Cc CA CS : Addr) : Sp := fun vs H Q E => ∃ (p p2 : Addr) (W W2 m : Nat) (v v2 sv : V) (so : Option (Int × Int)) (t o : Nd m), vs = [sv, .ref p, .ref p2] ∧ HouseAt Cc H p W v ∧ HouseAt Cc H p2 W2 v2 ∧ Th K H sv so ∧ (W ≠ W2 → E (.ref CA) none H) ∧ (W = W2 → rtB so = false → E (.ref CS) none H) ∧
  (W = W2 → rtB so = true → ∃ s, ShOk s ∧ Td K H sv (rD s) ∧ Td K H v (ndD m t) ∧ Td K H v2 (ndD m o) ∧ m ≤ 8 ∧ W ≤ 5 ∧ 1 ≤ W ∧ WsAll W 6 m t ∧ WsAll W 6 m o ∧ Nrw m t ∧ Nrw m o ∧ cnt m t ≤ 1400 ∧ cnt m o ≤ 1400 ∧
    ∀ p' v' H', Same H H' → HouseAt Cc H' p' W v' → Td K H' v' (ndD (m + 1) (toN W m s (rst s) t o)) → Q (.ref p') H')
def spHid (K : PySem.W.Frag) (Cc CA CS CP : Addr) : Sp := fun vs H Q E => ∃ (p p2 : Addr) (W W2 m : Nat) (v v2 sv : V) (so : Option (Int × Int)) (t o : Nd m), vs = [sv, .ref p, .ref p2] ∧ HouseAt Cc H p W v ∧ HouseAt Cc H p2 W2 v2 ∧ Th K H sv so ∧ (W ≠ W2 → E (.ref CA) none H) ∧ (W = W2 → rtB so = false → E (.ref CS) none H) ∧
  (W = W2 → rtB so = true → Td K H v (ndD m t) ∧ Td K H v2 (ndD m o) ∧ m ≤ 8 ∧ Nrw m t ∧ Nrw m o ∧ (shB m t o = false → ∀ H', Same H H' → E (.ref CP) none H') ∧ (shB m t o = true → ∃ s, ShOk s ∧ Td K H sv (rD s) ∧ W ≤ 5 ∧ 1 ≤ W ∧ WsAll W 6 m t ∧ WsAll W 6 m o ∧ cnt m t ≤ 1400 ∧
    ∀ p' v' H', Same H H' → HouseAt Cc H' p' W v' → Td K H' v' (ndD m (hiN s (rst s) m t o)) → Q (.ref p') H'))
section
variable {P : Program} {w : World} {K : PySem.W.Frag} {mg : Str → Option Value} {base : Heap} {aN aO : Addr} {t1 t2 t3 t4 t5 t6 t7 : Tok}
theorem ok_hidden_node {f f1 f2 : Addr} {fd fd1 fd2 : FuncData} (D : Dn K mg "hidden_node" s_hidden_node ["share", "rest", "node", "other"] f fd) (B : Blt mg) (C : Cst K mg aN aO t1 t2 t3 t4 t5 t6 t7)
    (D_scaled_weights : Dn K mg "scaled_weights" s_scaled_weights ["share", "weights"] f1 fd1) (G_scaled_weights : FnOk P w K mg base CX0 3 f1 fd1 ["share", "weights"] (spSW K))
    (D_added_weights : Dn K mg "added_weights" s_added_weights ["first", "second"] f2 fd2) (G_added_weights : FnOk P w K mg base CX0 3 f2 fd2 ["first", "second"] (spAW K)) : ∀ n : Nat, FnOk P w K mg base CX0 (4 + n) f fd ["share", "rest", "node", "other"] ((spHiN K) n) := by
  intro n
  obtain ⟨sp0, G_hidden_node, hsp⟩ : ∃ sp0, FnOk P w K mg base CX0 (3 + n) f fd ["share", "rest", "node", "other"] sp0 ∧ (∀ m, n = m + 1 → sp0 = (spHiN K) m) := by
    cases n with
    | zero => exact ⟨fun _ _ _ _ => False, ⟨fun vs H Q E h => h.elim, fun A outer s H args us vs Q E _ _ _ _ h => h.elim⟩, fun m e => by omega⟩
    | succ m =>
      have G := ok_hidden_node D B C D_scaled_weights G_scaled_weights D_added_weights G_added_weights m
      rw [show 4 + m = 3 + (m + 1) by omega] at G
      exact ⟨_, G, fun m' e => by rw [show m' = m by omega]⟩
  rw [show 4 + n = (3 + n) + 1 by omega]
  refine D.F.ok sc_hidden_node (fun vs H Q E h => ?_) (fun cdv A outer s H vs Q E hr h => ?_)
  · obtain ⟨W, x, y, v, u, c, d, t, o, rfl, _⟩ := h
    rfl
  obtain ⟨W, x, y, v, u, c, d, t, o, rfl, hx, hy, hv, hu, hc, hd, okt, oko, hW, nrt, nro, q⟩ := h
  have nd := sc_hidden_node.nd
  have D_hidden_node := D
  refine ⟨_, (pss_one (ps_ret (pe_callTy (k_tupOf (K := K) rfl) (by rfl) B.tuple (by decide +kernel) (pa_cons (pe_lc (own := [("question", 6), ("other_question", 7)]) rfl nd (k_zip (K := K) rfl (by rfl) B.zip (pa_cons (pv 2) (pa_cons (pv 3) pa_nil))) (blkOk_by (own := [("question", 6), ("other_question", 7)]) (by kernel_rfl)) (fun _ _ _ _ _ => (k_tup (K := K) (n := 2) rfl rfl (pgs_cons (pg_name (i := 6) nd rfl (.inl rfl)) (pgs_cons (pg_name (i := 7) nd rfl (.inl rfl)) pgs_nil)))) (fun _ _ _ _ _ => pts_nil) (fun _ _ _ _ _ => (pe_callTy (k_tupOf (K := K) rfl) (by rfl) B.tuple (by decide +kernel) (pa_cons (pe_lc (own := [("first", 4), ("second", 5)]) rfl nd (k_zip (K := K) rfl (by rfl) B.zip (pa_cons (pv 6) (pa_cons (pv 7) pa_nil))) (blkOk_by (own := [("first", 4), ("second", 5)]) (by kernel_rfl)) (fun _ _ _ _ _ => (k_tup (K := K) (n := 2) rfl rfl (pgs_cons (pg_name (i := 4) nd rfl (.inl rfl)) (pgs_cons (pg_name (i := 5) nd rfl (.inl rfl)) pgs_nil)))) (fun _ _ _ _ _ => pts_nil) (fun _ _ _ _ _ => (pe_tup (pa_cons (pe_ix (k_ixT (K := K) rfl) (pv 4) pe_int (fun _ _ => rfl)) (pa_cons (pe_call G_added_weights (hr.mono (by omega)) (by rfl) D_added_weights.m D_added_weights.F.kp D_added_weights.b .nil pass0 (pa_cons (pe_call G_scaled_weights (hr.mono (by omega)) (by rfl) D_scaled_weights.m D_scaled_weights.F.kp D_scaled_weights.b .nil pass0 (pa_cons (pv 0) (pa_cons (pe_ix (k_ixT (K := K) rfl) (pv 4) pe_int (fun _ _ => rfl)) pa_nil))) (pa_cons (pe_call G_scaled_weights (hr.mono (by omega)) (by rfl) D_scaled_weights.m D_scaled_weights.F.kp D_scaled_weights.b .nil pass0 (pa_cons (pv 1) (pa_cons (pe_ix (k_ixT (K := K) rfl) (pv 5) pe_int (fun _ _ => rfl)) pa_nil))) pa_nil))) (pa_cons (pe_call G_hidden_node (hr.mono (by omega)) (by rfl) D_hidden_node.m D_hidden_node.F.kp D_hidden_node.b .nil pass0 (pa_cons (pv 0) (pa_cons (pv 1) (pa_cons (pe_ix (k_ixT (K := K) rfl) (pv 4) pe_int (fun _ _ => rfl)) (pa_cons (pe_ix (k_ixT (K := K) rfl) (pv 5) pe_int (fun _ _ => rfl)) pa_nil))))) pa_nil)))))) pa_nil)))) pa_nil)))), ?_⟩
  obtain ⟨a, xs, rfl, ha, ta⟩ := qs_td hv
  obtain ⟨b, ys, rfl, hb, tb⟩ := qs_td hu
  obtain ⟨l1000, nrt⟩ := nrt.at_
  obtain ⟨m1000, nro⟩ := nro.at_
  have lx : xs.length = (qsOf n t).length := by rw [ta.len, List.length_map]
  have ly : ys.length = (qsOf n o).length := by rw [tb.len, List.length_map]
  refine ⟨_, rfl, _, rfl, a, b, xs, ys, rfl, .inr ⟨ha, hb, fun T hT => ?_⟩⟩
  refine lc_td (K := K) (walk_zipT (K := K) (a := a) (b := b) (xs := xs) (ys := ys) (n := min xs.length ys.length) rfl) ((List.zipWith (hiQ c d (n - 1)) (qsOf n t) (qsOf n o)).map (qnD (n - 1))) (by rw [List.length_map, List.length_zipWith, lx, ly]) (by omega) hT (fun H' s => ⟨Same.kt s _ _ ha, Same.kt s _ _ hb⟩) ?_ ?_
  · rintro i z e' H2 H3 Qy N hi s2 ⟨T2, x', y', rfl, n2, rfl, g1, g2⟩ hQ
    have s3 : Same H2 (upd H2 T2 (.tup [x', y'])) := same_upd n2
    obtain ⟨dx, ex, tx⟩ := ta.getV g1
    rw [List.getElem?_map] at ex
    obtain ⟨q1, e1, rfl⟩ := Option.map_eq_some_iff.mp ex
    obtain ⟨dy, ey, ty⟩ := tb.getV g2
    rw [List.getElem?_map] at ey
    obtain ⟨q2, e2, rfl⟩ := Option.map_eq_some_iff.mp ey
    rw [List.getElem?_map, zip_at2 e1 e2] at hi
    cases hi
    have mq1 := List.mem_of_getElem? e1
    have mq2 := List.mem_of_getElem? e2
    obtain ⟨n', rfl⟩ : ∃ n', n = n' + 1 := by
      cases n with
      | zero => exact absurd mq1 List.not_mem_nil
      | succ m => exact ⟨m, rfl⟩
    have hsp := hsp n' rfl
    subst hsp
    obtain ⟨lq1, nq1⟩ := nrt q1 mq1
    obtain ⟨lq2, nq2⟩ := nro q2 mq2
    have s23 := s2.trans s3
    have k03 := Same.kt (K := K) s23
    have hT2 : SqT K (upd H2 T2 (.tup [x', y'])) T2 [x', y'] := .inl (.inl upd_same)
    generalize upd H2 T2 (.tup [x', y']) = H4 at s3 s23 k03 hT2 hQ ⊢
    refine ⟨T2, _, rfl, hT2, rfl, _, _, rfl, _, _, rfl, rfl, ?_⟩
    refine ⟨rfl, ?_⟩
    refine iteT (B := N H4) ?_
    obtain ⟨e, zs, rfl, he, te⟩ := id (tx.keep k03).tupE
    obtain ⟨f', rs, rfl, hf, tf⟩ := id (ty.keep k03).tupE
    have lz : zs.length = q1.length := by rw [te.len, List.length_map]
    have lr : rs.length = q2.length := by rw [tf.len, List.length_map]
    refine ⟨_, rfl, _, rfl, e, f', zs, rs, rfl, .inr ⟨he, hf, fun T5 hT5 => ?_⟩⟩
    refine lc_td (K := K) (walk_zipT (K := K) (a := e) (b := f') (xs := zs) (ys := rs) (n := min zs.length rs.length) rfl) ((List.zipWith (hiA c d n') q1 q2).map (anD n')) (by rw [List.length_map, List.length_zipWith, lz, lr]) (by omega) hT5 (fun H' s => ⟨Same.kt s _ _ he, Same.kt s _ _ hf⟩) ?_ ?_
    · rintro j z e6 H5 H6 Qy' N' hj s5 ⟨T6, x6, y6, rfl, n6, rfl, g3, g4⟩ hQ'
      have s6 : Same H5 (upd H5 T6 (.tup [x6, y6])) := same_upd n6
      obtain ⟨dx, ex, tx⟩ := te.getV g3
      rw [List.getElem?_map] at ex
      obtain ⟨a1, f1, rfl⟩ := Option.map_eq_some_iff.mp ex
      obtain ⟨dy, ey, ty⟩ := tf.getV g4
      rw [List.getElem?_map] at ey
      obtain ⟨a2, f2, rfl⟩ := Option.map_eq_some_iff.mp ey
      rw [List.getElem?_map, zip_at2 f1 f2] at hj
      cases hj
      have ma1 := List.mem_of_getElem? f1
      have ma2 := List.mem_of_getElem? f2
      obtain ⟨_, l1, c1, o1⟩ := okt.at_ q1 mq1 a1 ma1
      obtain ⟨_, l2, c2, o2⟩ := oko.at_ q2 mq2 a2 ma2
      have s56 := s5.trans s6
      have k6 := Same.kt (K := K) s56
      have hT6 : SqT K (upd H5 T6 (.tup [x6, y6])) T6 [x6, y6] := .inl (.inl upd_same)
      generalize upd H5 T6 (.tup [x6, y6]) = H7 at s6 s56 k6 hT6 hQ' ⊢
      obtain ⟨pn, v0, vw, vt, rfl, hpn, t0, tw, tt⟩ := td_an (tx.keep k6)
      obtain ⟨pn2, u0, uw, ut, rfl, hpn2, _, tw2, tt2⟩ := td_an (ty.keep k6)
      refine ⟨T6, _, rfl, hT6, rfl, _, _, rfl, _, _, rfl, rfl, ?_⟩
      refine ⟨rfl, ?_⟩
      refine iteT (B := N' H7) ?_
      have hx6 := hx.keep (k03.trans k6)
      have hy6 := hy.keep (k03.trans k6)
      refine ⟨_, rfl, pn, _, 0, _, rfl, rfl, hpn, at_of (j := 0) rfl rfl, ?_⟩
      refine ⟨_, rfl, _, rfl, pn, _, 1, _, rfl, rfl, hpn, at_of (j := 1) rfl rfl, x, vw, c, a1.2.1, rfl, hx6, tw, by omega, hc.sm (by omega), fun r hr => (c1 r hr).sm (by omega), fun v9 H9 s9 t9 => ?_⟩
      have k9 := Same.kt (K := K) s9
      refine ⟨_, rfl, _, rfl, pn2, _, 1, _, rfl, rfl, k9 _ _ hpn2, at_of (j := 1) rfl rfl, y, uw, d, a2.2.1, rfl, hy6.keep k9, tw2.keep k9, by omega, hd.sm (by omega), fun r hr => (c2 r hr).sm (by omega), fun v10 H10 s10 t10 => ?_⟩
      have s910 := s9.trans s10
      refine ⟨v9, v10, scW c a1.2.1, scW d a2.2.1, rfl, t9.keep (Same.kt s10), t10, by rw [scW_len, scW_len, l1, l2], by rw [scW_len]; omega, fun r hr => (scW_ch hc c1 r hr).sm (by omega), fun r hr => (scW_ch hd c2 r hr).sm (by omega), fun v11 H11 s11 t11 => ?_⟩
      have s11' := s910.trans s11
      have k11 := Same.kt (K := K) s11'
      refine ⟨_, rfl, _, rfl, _, rfl, pn, _, 2, _, rfl, rfl, k11 _ _ hpn, at_of (j := 2) rfl rfl, _, rfl, pn2, _, 2, _, rfl, rfl, k11 _ _ hpn2, at_of (j := 2) rfl rfl, ?_⟩
      refine ⟨W, x, y, vt, ut, c, d, a1.2.2, a2.2.2, rfl, hx6.keep k11, hy6.keep k11, tt.keep k11, tt2.keep k11, hc, hd, o1, o2, hW, (nq1 a1 ma1).2, (nq2 a2 ma2).2, fun v12 H12 s12 t12 => ?_⟩
      refine ⟨by show 3 ≤ sizeLine; decide, fun p13 n13 => ?_⟩
      have s13 := same_upd (o := .tup [v0, v11, v12]) n13
      refine hQ' (.ref p13) _ (s6.trans (s11'.trans (s12.trans s13))) ?_
      exact .tup (.inl (.inl upd_same)) (.cons (t0.keep (Same.kt (s11'.trans (s12.trans s13)))) (.cons (t11.keep (Same.kt (s12.trans s13))) (.cons (t12.keep (Same.kt s13)) .nil)))
    · intro H5 ws h5 t5 s5
      exact ⟨T5, ws, rfl, SqL.of h5, fun v7 H7 s7 q7 => hQ (.ref v7) H7 (s3.trans (s5.trans s7)) (.tup q7 (t5.keep (Same.kt s7)))⟩
  · intro H1 us h1 u1 s1
    refine ⟨T, us, rfl, SqL.of h1, fun v7 H7 s7 q7 => q (.ref v7) H7 (s1.trans s7) ?_⟩
    rw [ndD_hiN]
    exact .tup q7 (u1.keep (Same.kt s7))
theorem ok_outline {f : Addr} {fd : FuncData} (D : Dn K mg "outline" s_outline ["node"] f fd) (B : Blt mg) (C : Cst K mg aN aO t1 t2 t3 t4 t5 t6 t7) : ∀ n : Nat, FnOk P w K mg base CX0 (1 + n) f fd ["node"] ((spOu K) n) := by
  intro n
  obtain ⟨sp0, G_outline, hsp⟩ : ∃ sp0, FnOk P w K mg base CX0 (0 + n) f fd ["node"] sp0 ∧ (∀ m, n = m + 1 → sp0 = (spOu K) m) := by
    cases n with
    | zero => exact ⟨fun _ _ _ _ => False, ⟨fun vs H Q E h => h.elim, fun A outer s H args us vs Q E _ _ _ _ h => h.elim⟩, fun m e => by omega⟩
    | succ m =>
      have G := ok_outline D B C m
      rw [show 1 + m = 0 + (m + 1) by omega] at G
      exact ⟨_, G, fun m' e => by rw [show m' = m by omega]⟩
  rw [show 1 + n = (0 + n) + 1 by omega]
  refine D.F.ok sc_outline (fun vs H Q E h => ?_) (fun cdv A outer s H vs Q E hr h => ?_)
  · obtain ⟨v, t, rfl, _⟩ := h
    rfl
  obtain ⟨v, t, rfl, hv, nrt, q⟩ := h
  have nd := sc_outline.nd
  have D_outline := D
  refine ⟨_, (pss_one (ps_ret (pe_callTy (k_tupOf (K := K) rfl) (by rfl) B.tuple (by decide +kernel) (pa_cons (pe_lc (own := [("question", 2)]) rfl nd (k_iT (K := K) rfl (pv 0)) (blkOk_by (own := [("question", 2)]) (by kernel_rfl)) (fun _ _ _ _ _ => (pg_name (i := 2) nd rfl (.inl rfl))) (fun _ _ _ _ _ => pts_nil) (fun _ _ _ _ _ => (pe_callTy (k_tupOf (K := K) rfl) (by rfl) B.tuple (by decide +kernel) (pa_cons (pe_lc (own := [("answer", 1)]) rfl nd (k_iT (K := K) rfl (pv 2)) (blkOk_by (own := [("answer", 1)]) (by kernel_rfl)) (fun _ _ _ _ _ => (pg_name (i := 1) nd rfl (.inl rfl))) (fun _ _ _ _ _ => pts_nil) (fun _ _ _ _ _ => (pe_tup (pa_cons (pe_ix (k_ixT (K := K) rfl) (pv 1) pe_int (fun _ _ => rfl)) (pa_cons (pe_call G_outline (hr.mono (by omega)) (by rfl) D_outline.m D_outline.F.kp D_outline.b .nil pass0 (pa_cons (pe_ix (k_ixT (K := K) rfl) (pv 1) pe_int (fun _ _ => rfl)) pa_nil)) pa_nil))))) pa_nil)))) pa_nil)))), ?_⟩
  obtain ⟨a, xs, rfl, ha, ta⟩ := qs_td hv
  obtain ⟨l1000, nrt⟩ := nrt.at_
  have lx : xs.length = (qsOf n t).length := by rw [ta.len, List.length_map]
  refine ⟨_, rfl, a, rfl, ⟨_, ha⟩, fun T hT => ?_⟩
  refine lc_td (K := K) (walk_tup (K := K) (a := a) (xs := xs)) ((qsOf n t).map (ouQ (n - 1))) (by rw [List.length_map, lx]) (by omega) hT (fun H' s => Same.kt s _ _ ha) ?_ ?_
  · rintro i z e' H2 H3 Qy N hi s2 ⟨e3, g1⟩ hQ
    subst e3
    obtain ⟨dx, ex, tx⟩ := ta.getV g1
    rw [List.getElem?_map] at ex
    obtain ⟨qn, eq, rfl⟩ := Option.map_eq_some_iff.mp ex
    rw [List.getElem?_map, eq] at hi
    cases hi
    have mq := List.mem_of_getElem? eq
    obtain ⟨n', rfl⟩ : ∃ n', n = n' + 1 := by
      cases n with
      | zero => exact absurd mq List.not_mem_nil
      | succ m => exact ⟨m, rfl⟩
    have hsp := hsp n' rfl
    subst hsp
    obtain ⟨lq, nq⟩ := nrt qn mq
    have k02 := Same.kt (K := K) s2
    obtain ⟨d, zs, rfl, hd, td⟩ := id (tx.keep k02).tupE
    have lz : zs.length = qn.length := by rw [td.len, List.length_map]
    refine ⟨rfl, ?_⟩
    refine iteT (B := N H3) ?_
    refine ⟨_, rfl, d, rfl, ⟨_, hd⟩, fun T2 hT2 => ?_⟩
    refine lc_td (K := K) (walk_tup (K := K) (a := d) (xs := zs)) (qn.map (ouA n')) (by rw [List.length_map, lz]) (by omega) hT2 (fun H' s => Same.kt s _ _ hd) ?_ ?_
    · rintro j y e6 H5 H6 Qy' N' hj s5 ⟨e7, g2⟩ hQ'
      subst e7
      obtain ⟨dy, ey, ty⟩ := td.getV g2
      rw [List.getElem?_map] at ey
      obtain ⟨an, ea, rfl⟩ := Option.map_eq_some_iff.mp ey
      rw [List.getElem?_map, ea] at hj
      cases hj
      have man := List.mem_of_getElem? ea
      obtain ⟨pn, v0, vw, vt, rfl, hpn, t0, tw, tt⟩ := td_an (ty.keep (Same.kt s5))
      refine ⟨rfl, ?_⟩
      refine iteT (B := N' H6) ?_
      refine ⟨_, rfl, pn, _, 0, _, rfl, rfl, hpn, at_of (j := 0) rfl rfl, _, rfl, pn, _, 2, _, rfl, rfl, hpn, at_of (j := 2) rfl rfl, vt, an.2.2, rfl, tt, (nq an man).2, fun v9 H9 s9 t9 => ?_⟩
      refine ⟨by show 2 ≤ sizeLine; decide, fun p10 n10 => ?_⟩
      have s10 := same_upd (o := .tup [v0, v9]) n10
      refine hQ' (.ref p10) _ (s9.trans s10) ?_
      exact .tup (.inl (.inl upd_same)) (.cons (t0.keep (Same.kt (s9.trans s10))) (.cons (t9.keep (Same.kt s10)) .nil))
    · intro H5 ws h5 t5 s5
      exact ⟨T2, ws, rfl, SqL.of h5, fun v7 H7 s7 q7 => hQ (.ref v7) H7 (s5.trans s7) (.tup q7 (t5.keep (Same.kt s7)))⟩
  · intro H1 us h1 u1 s1
    refine ⟨T, us, rfl, SqL.of h1, fun v7 H7 s7 q7 => q (.ref v7) H7 (s1.trans s7) ?_⟩
    rw [ouD_qs]
    exact .tup q7 (u1.keep (Same.kt s7))
theorem ok_is_shaped {f f1 : Addr} {fd fd1 : FuncData} {Cc fi fe : Addr} (D : Dn K mg "is_shaped" s_is_shaped ["house", "other"] f fd) (B : Blt mg) (C : Cst K mg aN aO t1 t2 t3 t4 t5 t6 t7) (U : Hcl K mg Cc fi fe)
    (D_outline : Dn K mg "outline" s_outline ["node"] f1 fd1) (G_outline : FnOk P w K mg base CX0 16 f1 fd1 ["node"] (anyS 12 (spOu K))) : FnOk P w K mg base CX0 20 f fd ["house", "other"] (spIs K Cc) := by
  refine D.F.ok sc_is_shaped (fun vs H Q E h => ?_) (fun cdv A outer s H vs Q E hr h => ?_)
  · obtain ⟨p, p2, W, W2, m, v, v2, t, o, rfl, _⟩ := h
    rfl
  obtain ⟨p, p2, W, W2, m, v, v2, t, o, rfl, ⟨dx, e1⟩, ⟨dy, e2⟩, hv, hv2, nrt, nro, hm, q⟩ := h
  have nd := sc_is_shaped.nd
  refine ⟨_, (pss_one (ps_ret (pe_and (pe_cmpR op_eq (k_fld (K := K) rfl (pv 0) rfl) (k_fld (K := K) rfl (pv 1) rfl) (nomark _)) (pe_one (pe_cmpR (k_eqD (K := K) rfl hr.units) (pe_call G_outline (hr.mono (by omega)) (by rfl) D_outline.m D_outline.F.kp D_outline.b .nil pass0 (pa_cons (k_fld (K := K) rfl (pv 0) rfl) pa_nil)) (pe_call G_outline (hr.mono (by omega)) (by rfl) D_outline.m D_outline.F.kp D_outline.b .nil pass0 (pa_cons (k_fld (K := K) rfl (pv 1) rfl) pa_nil)) (nomark _)))))), ?_⟩
  refine ⟨_, rfl, p, Cc, dx, _, _, rfl, e1, U.cl, U.nw, hf_w _ _, _, rfl, p2, Cc, dy, _, _, rfl, e2, U.cl, U.nw, hf_w _ _, rfl, _, rfl, ?_⟩
  by_cases h : W = W2
  · subst h
    refine ite2 (fun _ => ?_) (fun c => absurd (decide_eq_true rfl) c)
    refine ⟨_, rfl, p, Cc, dx, _, _, rfl, e1, U.cl, U.nt, hf_t _ _, m, hm, v, t, rfl, hv, nrt, fun v8 H8 s8 t8 => ?_⟩
    refine ⟨_, rfl, p2, Cc, dy, _, _, rfl, s8 _ _ e2, U.cl, U.nt, hf_t _ _, m, hm, v2, o, rfl, hv2.keep (Same.kt s8), nro, fun v9 H9 s9 t9 => ?_⟩
    refine ⟨ouD m t, ouD m o, (t8.keep (Same.kt s9)).dp, t9.dp, (good_ou m t).shaped (by omega), (good_ou m o).shaped (by omega), ?_⟩
    rw [eqv_ou]
    have z := q H9 (s8.trans s9)
    rw [decide_eq_true rfl, Bool.true_and] at z
    exact z
  · refine ite2 (fun c => ?_) (fun c => ?_)
    · exact absurd (show W = W2 by simp at c; omega) h
    · have z := q H (Same.refl _)
      rw [decide_eq_false h, Bool.false_and] at z
      exact z
theorem ok_tossed {HE CA CS : Addr} {f f1 f2 f3 f4 f5 f6 : Addr} {fd fd1 fd2 fd3 fd4 fd5 fd6 : FuncData} {Cc fi fe : Addr} (D : Dn K mg "tossed" s_tossed ["share", "house", "other"] f fd) (B : Blt mg) (C : Cst K mg aN aO t1 t2 t3 t4 t5 t6 t7) (U : Hcl K mg Cc fi fe)
    (D_check_alike : Dn K mg "check_alike" s_check_alike ["house", "other"] f1 fd1) (G_check_alike : FnOk P w K mg base (L2.CX P w) 1 f1 fd1 ["house", "other"] (spAlk Cc CA))
    (D_check_part : Dn K mg "check_part" s_check_part ["thing"] f2 fd2) (G_check_part : FnOk P w K mg base (L2.CX P w) 5 f2 fd2 ["thing"] (spCkP K CS))
    (D_rest_of : Dn K mg "rest_of" s_rest_of ["share"] f3 fd3) (G_rest_of : FnOk P w K mg base CX0 3 f3 fd3 ["share"] (spRest K))
    (D_scaled_weights : Dn K mg "scaled_weights" s_scaled_weights ["share", "weights"] f4 fd4) (G_scaled_weights : FnOk P w K mg base CX0 3 f4 fd4 ["share", "weights"] (spSW K))
    (D_scaled_node : Dn K mg "scaled_node" s_scaled_node ["share", "node"] f5 fd5) (G_scaled_node : FnOk P w K mg base CX0 16 f5 fd5 ["share", "node"] (anyS 12 (spScN K)))
    (D_made_house : Dn K mg "made_house" s_made_house ["worlds", "tree"] f6 fd6) (G_made_house : FnOk P w K mg base CX0 24 f6 fd6 ["worlds", "tree"] (anyS 12 (spMade K Cc))) : FnOk P w K mg base (L2.CX P w) 26 f fd ["share", "house", "other"] (spTos K Cc CA CS) := by
  refine D.F.okX sc_tossed (fun vs H Q E h => ?_) (fun cdv A outer s H vs Q E hr h => ?_)
  · obtain ⟨p, p2, W, W2, m, v, v2, sv, so, t, o, rfl, _⟩ := h
    rfl
  obtain ⟨p, p2, W, W2, m, v, v2, sv, so, t, o, rfl, hp, hp2, hth, qA, qS, qT⟩ := h
  have nd := sc_tossed.nd
  refine ⟨_, (pss_cons (ps_expr (pe_call G_check_alike (hr.mono (by omega)) (by rfl) D_check_alike.m D_check_alike.F.kp D_check_alike.b .nil (passes_call (takes_of rfl rfl rfl rfl) (fun _ _ _ _ h => h)) (pa_cons (pv 1) (pa_cons (pv 2) pa_nil))))
      (pss_cons (ps_expr (pe_call G_check_part (hr.mono (by omega)) (by rfl) D_check_part.m D_check_part.F.kp D_check_part.b .nil (passes_call (takes_of rfl rfl rfl rfl) (fun _ _ _ _ h => h)) (pa_cons (pv 0) pa_nil)))
      (pss_cons (ps_set (i := 3) nd rfl (.inr rfl) (pe_op (k_rep (K := K) rfl) (pe_tup (pa_cons (pe_glob (v := .ref _) rfl C.ONE rfl) pa_nil)) (k_fld (K := K) rfl (pv 1) rfl)))
      (pss_cons (ps_set (i := 4) nd rfl (.inl rfl) (pe_callTy (k_tupOf (K := K) rfl) (by rfl) B.tuple (by decide +kernel) (pa_cons (pe_lc (own := [("number", 5), ("part", 6), ("tree", 7)]) rfl nd (k_iT (K := K) rfl (pe_tup (pa_cons (pe_tup (pa_cons pe_int (pa_cons (pv 0) (pa_cons (k_fld (K := K) rfl (pv 1) rfl) pa_nil)))) (pa_cons (pe_tup (pa_cons pe_int (pa_cons (pe_call G_rest_of (hr.mono (by omega)) (by rfl) D_rest_of.m D_rest_of.F.kp D_rest_of.b .nil pass0 (pa_cons (pv 0) pa_nil)) (pa_cons (k_fld (K := K) rfl (pv 2) rfl) pa_nil)))) pa_nil)))) (blkOk_by (own := [("number", 5), ("part", 6), ("tree", 7)]) (by kernel_rfl)) (fun _ _ _ _ _ => (k_tup (K := K) (n := 3) rfl rfl (pgs_cons (pg_name (i := 5) nd rfl (.inl rfl)) (pgs_cons (pg_name (i := 6) nd rfl (.inl rfl)) (pgs_cons (pg_name (i := 7) nd rfl (.inl rfl)) pgs_nil))))) (fun _ _ _ _ _ => pts_nil) (fun _ _ _ _ _ => (pe_tup (pa_cons (pe_tup (pa_cons (pv 5) pa_nil)) (pa_cons (pe_call G_scaled_weights (hr.mono (by omega)) (by rfl) D_scaled_weights.m D_scaled_weights.F.kp D_scaled_weights.b .nil pass0 (pa_cons (pv 6) (pa_cons (pv 3) pa_nil))) (pa_cons (pe_call G_scaled_node (hr.mono (by omega)) (by rfl) D_scaled_node.m D_scaled_node.F.kp D_scaled_node.b .nil pass0 (pa_cons (pv 6) (pa_cons (pv 7) pa_nil))) pa_nil)))))) pa_nil)))
      (pss_one (ps_ret (pe_call G_made_house (hr.mono (by omega)) (by rfl) D_made_house.m D_made_house.F.kp D_made_house.b .nil pass0 (pa_cons (k_fld (K := K) rfl (pv 1) rfl) (pa_cons (pe_tup (pa_cons (pv 4) pa_nil)) pa_nil))))))))), ?_⟩
  refine ⟨_, rfl, _, rfl, p, p2, W, W2, v, v2, rfl, hp, hp2, fun eW => ?_, fun eW => qA eW⟩
  subst eW
  refine ⟨_, rfl, sv, so, rfl, hth, fun er => ?_, fun er => qS rfl er⟩
  obtain ⟨s, sok, ts, hv, hv2, hm, w5, w1, wst, wso, nrt, nro, ct, co, q⟩ := qT rfl er
  obtain ⟨dx, e1⟩ := id hp
  obtain ⟨dy, e2⟩ := id hp2
  refine ⟨by show 1 ≤ sizeLine; decide, fun p6 n6 => ?_⟩
  have s6 := same_upd (o := .tup [.ref aO]) n6
  refine ⟨_, rfl, p, Cc, dx, _, _, rfl, s6 _ _ e1, U.cl, U.nw, hf_w _ _, p6, (W : Int), _, rfl, rfl, .inl (.inl upd_same), by simp, by omega, by omega, by simp, fun pa H7 s7 q7 => ?_⟩
  have s07 := s6.trans s7
  have k07 := Same.kt (K := K) s07
  have tO : Td K H7 (.ref aO) (rD 1) := td_inj (C.tO _)
  have to := ones_td tO q7
  have lo : (ones W).length = W := ones_len W
  -- the pairs
  refine ⟨_, rfl, _, rfl, p, Cc, dx, _, _, rfl, s07 _ _ e1, U.cl, U.nt, hf_t _ _, by show 3 ≤ sizeLine; decide, fun a na => ?_⟩
  have sa := same_upd (o := .tup [.int 0, sv, v]) na
  have ha : SqT K (upd H7 a (.tup [.int 0, sv, v])) a [.int 0, sv, v] := .inl (.inl upd_same)
  generalize upd H7 a (.tup [.int 0, sv, v]) = H8 at sa ha ⊢
  have s08 := s07.trans sa
  refine ⟨_, rfl, sv, s, rfl, ts.keep (Same.kt s08), sok.ch.sm (by decide), fun rv H9 s9 tr => ?_⟩
  have s09 := s08.trans s9
  refine ⟨_, rfl, p2, Cc, dy, _, _, rfl, s09 _ _ e2, U.cl, U.nt, hf_t _ _, by show 3 ≤ sizeLine; decide, fun b nb => ?_⟩
  have sb := same_upd (o := .tup [.int 1, rv, v2]) nb
  have hb : SqT K (upd H9 b (.tup [.int 1, rv, v2])) b [.int 1, rv, v2] := .inl (.inl upd_same)
  generalize upd H9 b (.tup [.int 1, rv, v2]) = H10 at sb hb ⊢
  refine ⟨by show 2 ≤ sizeLine; decide, fun c nc => ?_⟩
  have sc := same_upd (o := .tup [.ref a, .ref b]) nc
  have hc : SqT K (upd H10 c (.tup [.ref a, .ref b])) c [.ref a, .ref b] := .inl (.inl upd_same)
  generalize upd H10 c (.tup [.ref a, .ref b]) = H11 at sc hc ⊢
  have s911 := sb.trans sc
  have s811 := s9.trans s911
  have s011 := s08.trans s811
  have k011 := Same.kt (K := K) s011
  have pick : ∀ (i : Nat) (x : V) (e : PyData), [V.ref a, V.ref b][i]? = some x → [anD m (toA W m s t 0), anD m (toA W m (rst s) o 1)][i]? = some e → ∃ (r : Addr) (k : Int) (pv tv : V) (c : Rat) (tt : Nd m), x = .ref r ∧ SqT K H11 r [.int k, pv, tv] ∧ Td K H11 pv (rD c) ∧ Td K H11 tv (ndD m tt) ∧ Ch 10 c ∧ WsAll W 6 m tt ∧ Nrw m tt ∧ e = anD m (toA W m c tt k) := by
    intro i x e h1 h2
    cases i with
    | zero =>
      cases h1
      cases h2
      exact ⟨a, 0, sv, v, s, t, rfl, Same.kt s811 _ _ ha, ts.keep k011, hv.keep k011, sok.ch, wst, nrt, rfl⟩
    | succ i =>
      cases i with
      | zero =>
        cases h1
        cases h2
        exact ⟨b, 1, rv, v2, rst s, o, rfl, Same.kt sc _ _ hb, tr.keep (Same.kt s911), hv2.keep k011, sok.rest, wso, nro, rfl⟩
      | succ i => cases h1
  refine ⟨c, rfl, ⟨_, hc⟩, fun T hT => ?_⟩
  refine lc_td (K := K) (walk_tup (K := K) (a := c) (xs := [.ref a, .ref b])) [anD m (toA W m s t 0), anD m (toA W m (rst s) o 1)] rfl (by show 2 ≤ 3000; decide) hT (fun H' s => Same.kt s _ _ hc) ?_ ?_
  · rintro i z e' H2 H3 Qy N hi s2 ⟨e3, g1⟩ hQ
    subst e3
    obtain ⟨r, k, pv, tv, c1, tt, rfl, hr, tp, ttt, ch, wtt, nrtt, rfl⟩ := pick i z e' g1 hi
    have k2 := Same.kt (K := K) s2
    refine ⟨r, _, rfl, k2 _ _ hr, rfl, _, _, rfl, _, _, rfl, _, _, rfl, rfl, ?_⟩
    refine ⟨rfl, ?_⟩
    refine iteT (B := N H3) ?_
    refine ⟨_, rfl, by show 1 ≤ sizeLine; decide, fun p10 n10 => ?_⟩
    have s10 := same_upd (o := .tup [.int k]) n10
    have t10 : Td K (upd H3 p10 (.tup [.int k])) (.ref p10) (wdD [k]) := .tup (.inl (.inl upd_same)) (tdAll_ints [k])
    generalize upd H3 p10 (.tup [.int k]) = H12 at s10 t10 ⊢
    have k10 := k2.trans (Same.kt s10)
    have to12 := to.keep ((Same.kt (sa.trans s811)).trans k10)
    refine ⟨_, rfl, _, rfl, pv, .ref pa, c1, ones W, rfl, tp.keep k10, to12, by omega, ch.sm (by decide), fun r hr => (ones_ch (e := 6) r hr).sm (by decide), fun v13 H13 s13 t13 => ?_⟩
    have k13 := k10.trans (Same.kt s13)
    refine ⟨_, rfl, _, rfl, m, by omega, W, pv, tv, c1, tt, rfl, tp.keep k13, ttt.keep k13, ch, wtt, w5, nrtt, fun v14 H14 s14 t14 => ?_⟩
    refine ⟨by show 3 ≤ sizeLine; decide, fun p15 n15 => ?_⟩
    have s15 := same_upd (o := .tup [.ref p10, v13, v14]) n15
    refine hQ (.ref p15) _ (s10.trans (s13.trans (s14.trans s15))) ?_
    exact .tup (.inl (.inl upd_same)) (.cons (t10.keep (Same.kt (s13.trans (s14.trans s15)))) (.cons (t13.keep (Same.kt (s14.trans s15))) (.cons (t14.keep (Same.kt s15)) .nil)))
  · intro H1 us h1 u1 s1
    refine ⟨T, us, rfl, SqL.of h1, fun v3 H3 s3 q3 => ?_⟩
    have s03 := s011.trans (s1.trans s3)
    refine ⟨_, rfl, p, Cc, dx, _, _, rfl, s03 _ _ e1, U.cl, U.nw, hf_w _ _, _, rfl, by show 1 ≤ sizeLine; decide, fun p9 n9 => ?_⟩
    have s9' := same_upd (o := .tup [.ref v3]) n9
    have t9 : Td K (upd H3 p9 (.tup [.ref v3])) (.ref p9) (ndD (m + 1) (toN W m s (rst s) t o)) := .tup (.inl (.inl upd_same)) (.cons (.tup (Same.kt s9' _ _ q3) (u1.keep (Same.kt (s3.trans s9')))) .nil)
    exact ⟨m + 1, by omega, W, .ref p9, _, rfl, t9, by omega, by rw [cnt_to]; omega, fun p' H' s' h' => q p' (.ref p9) H' (s03.trans (s9'.trans s')) h' (t9.keep (Same.kt s'))⟩
theorem ok_hidden {HE CA CS CP : Addr} {f f1 f2 f3 f4 f5 f6 : Addr} {fd fd1 fd2 fd3 fd4 fd5 fd6 : FuncData} {Cc fi fe : Addr} (D : Dn K mg "hidden" s_hidden ["share", "house", "other"] f fd) (B : Blt mg) (C : Cst K mg aN aO t1 t2 t3 t4 t5 t6 t7) (U : Hcl K mg Cc fi fe)
    (D_check_alike : Dn K mg "check_alike" s_check_alike ["house", "other"] f1 fd1) (G_check_alike : FnOk P w K mg base (L2.CX P w) 1 f1 fd1 ["house", "other"] (spAlk Cc CA))
    (D_check_part : Dn K mg "check_part" s_check_part ["thing"] f2 fd2) (G_check_part : FnOk P w K mg base (L2.CX P w) 5 f2 fd2 ["thing"] (spCkP K CS))
    (D_is_shaped : Dn K mg "is_shaped" s_is_shaped ["house", "other"] f3 fd3) (G_is_shaped : FnOk P w K mg base CX0 20 f3 fd3 ["house", "other"] (spIs K Cc))
    (D_rest_of : Dn K mg "rest_of" s_rest_of ["share"] f4 fd4) (G_rest_of : FnOk P w K mg base CX0 3 f4 fd4 ["share"] (spRest K))
    (D_hidden_node : Dn K mg "hidden_node" s_hidden_node ["share", "rest", "node", "other"] f5 fd5) (G_hidden_node : FnOk P w K mg base CX0 16 f5 fd5 ["share", "rest", "node", "other"] (anyS 12 (spHiN K)))
    (D_made_house : Dn K mg "made_house" s_made_house ["worlds", "tree"] f6 fd6) (G_made_house : FnOk P w K mg base CX0 24 f6 fd6 ["worlds", "tree"] (anyS 12 (spMade K Cc))) (X_NotShaped : XRs K mg HE "NotShaped" CP) : FnOk P w K mg base (L2.CX P w) 26 f fd ["share", "house", "other"] (spHid K Cc CA CS CP) := by
  refine D.F.okX sc_hidden (fun vs H Q E h => ?_) (fun cdv A outer s H vs Q E hr h => ?_)
  · obtain ⟨p, p2, W, W2, m, v, v2, sv, so, t, o, rfl, _⟩ := h
    rfl
  obtain ⟨p, p2, W, W2, m, v, v2, sv, so, t, o, rfl, hp, hp2, hth, qA, qS, qT⟩ := h
  have nd := sc_hidden.nd
  refine ⟨_, (pss_cons (ps_expr (pe_call G_check_alike (hr.mono (by omega)) (by rfl) D_check_alike.m D_check_alike.F.kp D_check_alike.b .nil (passes_call (takes_of rfl rfl rfl rfl) (fun _ _ _ _ h => h)) (pa_cons (pv 1) (pa_cons (pv 2) pa_nil))))
      (pss_cons (ps_expr (pe_call G_check_part (hr.mono (by omega)) (by rfl) D_check_part.m D_check_part.F.kp D_check_part.b .nil (passes_call (takes_of rfl rfl rfl rfl) (fun _ _ _ _ h => h)) (pa_cons (pv 0) pa_nil)))
      (pss_cons (ps_if (pt_not (pt_val (pe_call G_is_shaped (hr.mono (by omega)) (by rfl) D_is_shaped.m D_is_shaped.F.kp D_is_shaped.b .nil pass0 (pa_cons (pv 1) (pa_cons (pv 2) pa_nil))))) (pss_one (ps_raise rfl (takes_of rfl rfl rfl rfl) (pmk_own0 PySem.F.excBase_ValueError X_NotShaped.q X_NotShaped.X.g X_NotShaped.X.k (raises_own X_NotShaped.X.E.hs X_NotShaped.X.T.tyC) (by rfl)))) pss_nil)
      (pss_one (ps_ret (pe_call G_made_house (hr.mono (by omega)) (by rfl) D_made_house.m D_made_house.F.kp D_made_house.b .nil pass0 (pa_cons (k_fld (K := K) rfl (pv 1) rfl) (pa_cons (pe_call G_hidden_node (hr.mono (by omega)) (by rfl) D_hidden_node.m D_hidden_node.F.kp D_hidden_node.b .nil pass0 (pa_cons (pv 0) (pa_cons (pe_call G_rest_of (hr.mono (by omega)) (by rfl) D_rest_of.m D_rest_of.F.kp D_rest_of.b .nil pass0 (pa_cons (pv 0) pa_nil)) (pa_cons (k_fld (K := K) rfl (pv 1) rfl) (pa_cons (k_fld (K := K) rfl (pv 2) rfl) pa_nil))))) pa_nil)))))))), ?_⟩
  refine ⟨_, rfl, _, rfl, p, p2, W, W2, v, v2, rfl, hp, hp2, fun eW => ?_, fun eW => qA eW⟩
  subst eW
  refine ⟨_, rfl, sv, so, rfl, hth, fun er => ?_, fun er => qS rfl er⟩
  obtain ⟨hv, hv2, hm, nrt, nro, qP, qT⟩ := qT rfl er
  obtain ⟨dx, e1⟩ := id hp
  obtain ⟨dy, e2⟩ := id hp2
  refine ⟨_, rfl, _, rfl, p, p2, W, W, m, v, v2, t, o, rfl, hp, hp2, hv, hv2, nrt, nro, by omega, fun H1 s1 => ?_⟩
  rw [decide_eq_true rfl, Bool.true_and]
  cases hs : shB m t o with
  | false => exact ⟨_, rfl, iteT (qP hs H1 s1)⟩
  | true =>
    refine ⟨_, rfl, iteF ?_⟩
    obtain ⟨s, sok, ts, w5, w1, wst, wso, ct, q⟩ := qT hs
    refine ⟨_, rfl, p, Cc, dx, _, _, rfl, s1 _ _ e1, U.cl, U.nw, hf_w _ _, _, rfl, _, rfl, sv, s, rfl, ts.keep (Same.kt s1), sok.ch.sm (by decide), fun rv H2 s2 tr => ?_⟩
    have s02 := s1.trans s2
    have k02 := Same.kt (K := K) s02
    refine ⟨_, rfl, p, Cc, dx, _, _, rfl, s02 _ _ e1, U.cl, U.nt, hf_t _ _, _, rfl, p2, Cc, dy, _, _, rfl, s02 _ _ e2, U.cl, U.nt, hf_t _ _, ?_⟩
    refine ⟨m, by omega, W, sv, rv, v, v2, s, rst s, t, o, rfl, ts.keep k02, tr, hv.keep k02, hv2.keep k02, sok.ch, sok.rest, wst, wso, w5, nrt, nro, fun v3 H3 s3 t3 => ?_⟩
    have c3 := cnt_hi s (rst s) m t o
    exact ⟨m, by omega, W, v3, _, rfl, t3, by omega, by omega, fun p' H' s' h' => q p' v3 H' (s02.trans (s3.trans s')) h' (t3.keep (Same.kt s'))⟩
end
end Tl
/-! what the law draws: other shares -/
namespace Tl
open PySem PySem.Spec PyProof.Rows L2 RZ
section
variable {P : Program} {w : World} {K : PySem.W.Frag} {mg : Str → Option Value} {base : Heap}
theorem ok_law_again {f f1 f2 f3 f4 f5 : Addr} {fd fd1 fd2 fd3 fd4 fd5 : FuncData} (D : Dn K mg "_law_again" s_law_again ["bag", "worlds", "node", "ahead"] f fd) (B : Blt mg) (D_law_low : Dn K mg "_law_low" s_law_low ["top", "bottom"] f1 fd1) (D_law_common : Dn K mg "_law_common" s_law_common ["one", "other"] f2 fd2)
    (D_law_pick : Dn K mg "_law_pick" s_law_pick ["bag", "many"] f3 fd3) (D_law_shares : Dn K mg "_law_shares" s_law_shares ["bag", "many", "least"] f4 fd4) (D_law_times : Dn K mg "_law_times" s_law_times ["one", "other"] f5 fd5) : ∀ n : Nat, FnOk P w K mg base CX0 (4 + n) f fd ["bag", "worlds", "node", "ahead"] (spRW K n) := by
  intro n
  have G_law_shares : FnOk P w K mg base CX0 3 f4 fd4 ["bag", "many", "least"] (spShares K) := ok_law_shares D_law_shares B D_law_low D_law_common D_law_pick
  have G_law_pick : FnOk P w K mg base CX0 1 f3 fd3 ["bag", "many"] spPick := ok_law_pick D_law_pick B
  have G_law_times : FnOk P w K mg base CX0 3 f5 fd5 ["one", "other"] (spTimes K) := ok_law_times D_law_times B D_law_low D_law_common
  obtain ⟨sp0, G_law_again, hsp⟩ : ∃ sp0, FnOk P w K mg base CX0 (3 + n) f fd ["bag", "worlds", "node", "ahead"] sp0 ∧ (∀ m, n = m + 1 → sp0 = spRW K m) := by
    cases n with
    | zero => exact ⟨fun _ _ _ _ => False, ⟨fun vs H Q E h => h.elim, fun A outer s H args us vs Q E _ _ _ _ h => h.elim⟩, fun m e => by omega⟩
    | succ m =>
      have G := ok_law_again D B D_law_low D_law_common D_law_pick D_law_shares D_law_times m
      rw [show 4 + m = 3 + (m + 1) by omega] at G
      exact ⟨_, G, fun m' e => by rw [show m' = m by omega]⟩
  rw [show 4 + n = (3 + n) + 1 by omega]
  refine D.F.ok sc_law_again (fun vs H Q E h => ?_) (fun cdv A outer s H vs Q E hr h => ?_)
  · obtain ⟨b, g, W, e, v, av, ah0, ah, t, rfl, _⟩ := h
    rfl
  obtain ⟨b, g, W, e, v, av, ahead0, ahead, t, rfl, hB, hv, hav, hla, hch, he, hok, hW1, hW5, q⟩ := h
  have nd := sc_law_again.nd
  have D_law_again := D
  refine ⟨_, (pss_cons (ps_set (i := 4) nd rfl (.inl rfl) (pe_lst pa_nil))
      (pss_cons (ps_for PassesOwn.never rfl (k_iT (K := K) rfl (pv 2)) (pg_name (i := 5) nd rfl (.inr rfl)) (pss_cons (ps_set (i := 6) nd rfl (.inr rfl) (pe_lc (own := [("world", 7)]) rfl nd (pi_range1 (by rfl) B.range (pa_cons (pv 1) pa_nil)) (blkOk_by (own := [("world", 7)]) (by kernel_rfl)) (fun _ _ _ _ _ => (pg_name (i := 7) nd rfl (.inl rfl))) (fun _ _ _ _ _ => pts_nil) (fun _ _ _ _ _ => (pe_call G_law_shares (hr.mono (by omega)) (by rfl) D_law_shares.m D_law_shares.F.kp D_law_shares.b .nil pass0 (pa_cons (pv 0) (pa_cons (pe_callB (k_len (K := K) rfl) (by rfl) B.len PySem.boot_len (pa_cons (pv 5) pa_nil)) (pa_cons (pe_call G_law_pick (hr.mono (by omega)) (by rfl) D_law_pick.m D_law_pick.F.kp D_law_pick.b .nil pass0 (pa_cons (pv 0) (pa_cons pe_int pa_nil))) pa_nil)))))))
      (pss_cons (ps_set (i := 8) nd rfl (.inl rfl) (pe_lst pa_nil))
      (pss_cons (ps_for PassesOwn.never rfl (k_enum (K := K) rfl (by rfl) B.enumerate (pa_cons (pv 5) pa_nil)) (k_tup (K := K) (n := 2) rfl rfl (pgs_cons (pg_name (i := 9) nd rfl (.inr rfl)) (pgs_cons (k_tup (K := K) (n := 3) rfl rfl (pgs_cons (pg_name (i := 10) nd rfl (.inl rfl)) (pgs_cons (pg_name (i := 11) nd rfl (.inl rfl)) (pgs_cons (pg_name (i := 12) nd rfl (.inl rfl)) pgs_nil)))) pgs_nil))) (pss_cons (ps_set (i := 13) nd rfl (.inl rfl) (pe_callTy (k_tupOf (K := K) rfl) (by rfl) B.tuple (by decide +kernel) (pa_cons (pe_lc (own := [("world", 7)]) rfl nd (pi_range1 (by rfl) B.range (pa_cons (pv 1) pa_nil)) (blkOk_by (own := [("world", 7)]) (by kernel_rfl)) (fun _ _ _ _ _ => (pg_name (i := 7) nd rfl (.inl rfl))) (fun _ _ _ _ _ => pts_nil) (fun _ _ _ _ _ => (pe_call G_law_times (hr.mono (by omega)) (by rfl) D_law_times.m D_law_times.F.kp D_law_times.b .nil pass0 (pa_cons (pe_ix (k_ixT (K := K) rfl) (pv 3) (pv 7) (fun _ _ => rfl)) (pa_cons (pe_ix (k_ixL (K := K) rfl) (pe_ix (k_ixL (K := K) rfl) (pv 6) (pv 7) (fun _ _ => rfl)) (pv 9) (fun _ _ => rfl)) pa_nil))))) pa_nil)))
      (pss_one (ps_expr (pe_bm PySem.F.plainAttrs_list PySem.F.slot_list_append PySem.F.type_list_append mt_append (pv 8) (pa_cons (pe_tup (pa_cons (pv 10) (pa_cons (pv 13) (pa_cons (pe_call G_law_again (hr.mono (by omega)) (by rfl) D_law_again.m D_law_again.F.kp D_law_again.b .nil pass0 (pa_cons (pv 0) (pa_cons (pv 1) (pa_cons (pv 12) (pa_cons (pv 13) pa_nil))))) pa_nil)))) pa_nil))))))
      (pss_one (ps_expr (pe_bm PySem.F.plainAttrs_list PySem.F.slot_list_append PySem.F.type_list_append mt_append (pv 4) (pa_cons (pe_callTy (k_tupOf (K := K) rfl) (by rfl) B.tuple (by decide +kernel) (pa_cons (pv 8) pa_nil)) pa_nil))))))))
      (pss_one (ps_ret (pe_callTy (k_tupOf (K := K) rfl) (by rfl) B.tuple (by decide +kernel) (pa_cons (pv 4) pa_nil)))))), ?_⟩
  obtain ⟨a, xs, dd, rfl, ha, ed, ta, l0⟩ := td_qs hv
  refine ⟨by show 0 ≤ sizeLine; decide, fun T hT => ?_⟩
  obtain ⟨Tb', Tg⟩ := hB.neNew hT
  have sT := same_upd (o := .lst []) hT
  cases n with
  | zero =>
    have := l0 rfl
    subst this
    refine ⟨_, rfl, a, rfl, ⟨_, Same.kt sT _ _ ha⟩, for_it (walk_tup (K := K) (a := a) (xs := [])) (fun i σ H2 => H2 = upd H T (.lst []) ∧ ∃ o5 o6 o7 o8 o9 o10 o11 o12 o13 : Option V, σ = [some (.ref b), some (.int (W : Int)), some (.ref a), some av, some (.ref T), o5, o6, o7, o8, o9, o10, o11, o12, o13]) ⟨rfl, none, none, none, none, none, none, none, none, none, rfl⟩ (fun i σ H2 _ h => by rw [h.1]; exact Same.kt sT _ _ ha) ?_ ?_⟩
    · rintro i x σ H2 H3 hi
      exact absurd hi (Nat.not_lt_zero _)
    · rintro σ H2 ⟨rfl, o5, o6, o7, o8, o9, o10, o11, o12, o13, rfl⟩
      refine ⟨_, rfl, T, [], rfl, SqL.of upd_same, fun l H' s' q' => q (.ref l) () H' (.tup q' .nil) trivial trivial (hB.keep (sT.trans s')) (.of (sT.trans s'))⟩
  | succ n =>
    have hsp := hsp n rfl
    subst hsp
    obtain ⟨qs, hqs⟩ : ∃ qs : List (Qn n), (qs : Nd (n + 1)) = t := ⟨t, rfl⟩
    subst hqs
    cases ed
    have lx : xs.length = qs.length := by rw [ta.len, List.length_map]
    have l5 : qs.length ≤ 5 := hok.1
    refine ⟨_, rfl, a, rfl, ⟨_, Same.kt sT _ _ ha⟩, for_it (walk_tup (K := K) (a := a) (xs := xs)) (fun i σ H2 => ∃ (us : List V) (qs' : List (Qn n)) (o5 o6 o7 o8 o9 o10 o11 o12 o13 : Option V), σ = [some (.ref b), some (.int (W : Int)), some (.ref a), some av, some (.ref T), o5, o6, o7, o8, o9, o10, o11, o12, o13] ∧ H2 T = some (.lst us) ∧ TdAll K H2 us (qs'.map (qnD n)) ∧
        Al (fun (q q' : Qn n) => Al (fun (a a' : An n) => a.1 = a'.1 ∧ Shp n a.2.2 a'.2.2) q q') (qs.take i) qs' ∧ (∀ q' ∈ qs', QnOk W ahead q' ∧ ∀ a ∈ q', NdOk W n a.2.1 a.2.2) ∧ Bag H2 b g ∧ Frm b g H H2) ⟨[], [], none, none, none, none, none, none, none, none, none, rfl, upd_same, .nil, .nil, fun q hq => absurd hq List.not_mem_nil, hB.keep sT, .of sT⟩ (fun i σ H2 _ h => ?_) ?_ ?_⟩
    · obtain ⟨_, _, _, _, _, _, _, _, _, _, _, _, _, _, _, _, _, F2⟩ := h
      exact hB.kt F2 _ _ ha
    · rintro i x σ H0 H2 hi ⟨us, qs', o5, o6, o7, o8, o9, o10, o11, o12, o13, rfl, h2, t2, al, ok2, B2, F2⟩ ⟨rfl, e1⟩
      obtain ⟨dx, ex, tx⟩ := ta.getV e1
      obtain ⟨qn, eq, rfl⟩ := map_at ex
      obtain ⟨qok, nok⟩ := hok.2 qn (List.mem_of_getElem? eq)
      have q1 := qok.one
      have q12 := qok.most
      have tx2 := tx.keep (hB.kt F2)
      have hav2 := hav.keep (hB.kt F2)
      obtain ⟨p0, ys0, rfl, hp0, tp0⟩ := id tx2.tupE
      have ly0 : ys0.length = qn.length := by rw [tp0.len, List.length_map]
      -- rows
      refine ⟨_, rfl, _, rfl, by omega, by omega, fun R hR => ?_⟩
      obtain ⟨Rb, Rg⟩ := B2.neNew hR
      refine lc_range (lo := 0) (n := W) (fun k H3 => ∃ ds : List (List Rat), ds.length = k ∧ RowsAt K b g g (fun _ => False) H3 R ds ∧ (∀ d ∈ ds, IsShares qn.length d) ∧ Bag H3 b g ∧ Frm b g H2 H3)
        ⟨[], rfl, ⟨Rb, Rg, Rg, (fun z => z), [], upd_same, rfl, fun i r d e1 _ => by simp at e1⟩, fun d h => absurd h List.not_mem_nil, B2.updN Rb Rg, (Frm.refl b g H2).updN hR⟩ ?_ ?_
      · rintro k H3 hk ⟨ds, hd, hRows, hS, B3, F3⟩
        refine ⟨rfl, ?_⟩
        refine iteT (B := ∃ ds : List (List Rat), ds.length = k + 1 ∧ RowsAt K b g g (fun _ => False) H3 R ds ∧ (∀ d ∈ ds, IsShares qn.length d) ∧ Bag H3 b g ∧ Frm b g H2 H3) ?_
        refine ⟨_, rfl, _, rfl, p0, ys0, rfl, .inr (B2.kt F3 _ _ hp0), _, rfl, b, g, 2, rfl, B3, by decide, by decide, fun r4 H4 r40 r41 B4 F4 => ?_⟩
        obtain ⟨lst, hlst, l1⟩ : ∃ k : Nat, r4 = (k : Int) ∧ k ≤ 1 := ⟨r4.toNat, by omega, by omega⟩
        subst hlst
        refine ⟨b, g, qn.length, lst, by rw [ly0]; rfl, B4, by omega, by omega, by omega, by omega, fun ρ d us2 H5 hI h5 t5 fr4 B5 F45 => ?_⟩
        have nρ := B4.neNew fr4
        have fr : H3 ρ = none := Bag.nw F4 fr4 nρ.1 nρ.2
        have F5 : Frm b g H3 H5 := F4.trans F45
        have F5l : Frl b g g H3 H5 := .ofF F5
        obtain ⟨_, _, _, _, rs, h1, h2', h3⟩ := hRows.keep (B3.kt F5) F5l
        have ρR : ρ ≠ R := fun z => by
          obtain ⟨_, _, _, _, rs', h1', _⟩ := hRows
          rw [z, h1'] at fr
          cases fr
        have kR : KT K H5 (upd H5 R (.lst (rs.map V.ref ++ [V.ref ρ]))) := KT.updL h1
        have lrs : rs.length ≤ 5 := by omega
        refine ⟨_, h1, by rw [List.length_map]; exact small1000 (by omega), ds ++ [d], by rw [List.length_append, hd]; rfl, ⟨Rb, Rg, Rg, (fun z => z), rs ++ [ρ], by rw [upd_same, List.map_append]; rfl, by rw [List.length_append, List.length_append, h2']; rfl, ?_⟩, ?_, B5.updN Rb Rg, (F3.trans F5).updN hR⟩
        · intro j ρ' d' e1 e2
          by_cases hj : j < rs.length
          · rw [List.getElem?_append_left hj] at e1
            rw [List.getElem?_append_left (by omega)] at e2
            obtain ⟨nR, m1, m2, m3, us', u1, u2⟩ := h3 j ρ' d' e1 e2
            exact ⟨nR, m1, m2, m3, us', by rw [upd_ne nR.1]; exact u1, u2.keep kR⟩
          · have ej : j = rs.length := by
              have := (List.getElem?_eq_some_iff.mp e1).1
              rw [List.length_append] at this
              simp at this
              omega
            subst ej
            rw [List.getElem?_append_right (Nat.le_refl _), Nat.sub_self] at e1
            rw [h2', List.getElem?_append_right (Nat.le_refl _), Nat.sub_self] at e2
            cases e1
            cases e2
            exact ⟨⟨ρR, fun z => z⟩, nρ.1, nρ.2, nρ.2, us2, by rw [upd_ne ρR]; exact h5, t5.keep kR⟩
        · intro d' hd'
          rcases List.mem_append.mp hd' with h | h
          · exact hS d' h
          · rw [List.mem_singleton.mp h]
            exact hI
      rintro H3 ⟨ds, hd, hRows, hS, B3, F3⟩
      have h3T := F3 _ _ h2 Tb' Tg
      have hp03 := B2.kt F3 _ _ hp0
      have tp03 := tp0.keep (B2.kt F3)
      have hav3 := hav2.keep (B2.kt F3)
      -- answers = []
      refine ⟨by show 0 ≤ sizeLine; decide, fun A hA => ?_⟩
      obtain ⟨Ab, Ag⟩ := B3.neNew hA
      have sA := same_upd (o := .lst []) hA
      have RA : R ≠ A := fun z => by
        obtain ⟨_, _, _, _, rs, h1, _⟩ := hRows
        rw [z, hA] at h1
        cases h1
      have TA : T ≠ A := ne_of_none h3T hA
      refine ⟨_, rfl, p0, ys0, rfl, Same.kt sA _ _ hp03, for_it (walk_enumT (K := K) (a := p0) (xs := ys0)) (fun j σ H4 => ∃ (ws : List V) (qa : Qn n) (o7 o9 o10 o11 o12 o13 : Option V), σ = [some (.ref b), some (.int (W : Int)), some (.ref a), some av, some (.ref T), some (.ref p0), some (.ref R), o7, some (.ref A), o9, o10, o11, o12, o13] ∧ H4 A = some (.lst ws) ∧ TdAll K H4 ws (qa.map (anD n)) ∧
          Al (fun (a a' : An n) => a.1 = a'.1 ∧ Shp n a.2.2 a'.2.2) (qn.take j) qa ∧ (∀ (i : Nat) (a' : An n), qa[i]? = some a' → a'.2.1 = wk W ahead ds i ∧ NdOk W n a'.2.1 a'.2.2) ∧ RowsAt K b g g (fun x => x = A) H4 R ds ∧ Bag H4 b g ∧ Frm b g H3 H4)
        ⟨[], [], _, _, _, _, _, _, rfl, upd_same, .nil, .nil, fun i a' h => by simp at h, (hRows.avoid hA).keep (Same.kt sA) (.of sA), B3.keep sA, .of sA⟩ (fun j σ H4 _ h => ?_) ?_ ?_⟩
      · obtain ⟨_, _, _, _, _, _, _, _, _, _, _, _, _, _, _, F4⟩ := h
        exact B3.kt F4 _ _ hp03
      · rintro j y σ H4 H5 hj ⟨ws, qa, o7', o9', o10', o11', o12', o13', rfl, h4, t4, al4, hw4, hR4, B4, F4⟩ ⟨T2, x1, x2, rfl, n2, rfl, e3, e4⟩
        cases e3
        obtain ⟨dy, ey, ty⟩ := tp03.getV e4
        obtain ⟨an, ea, rfl⟩ := map_at ey
        have ma := List.mem_of_getElem? ea
        have jl : j < qn.length := by omega
        have s5 : Same H4 (upd H4 T2 (.tup [.int (j : Int), x2])) := same_upd n2
        have F5 := F4.trans (.of s5)
        have B5 := B4.keep s5
        have h5 := s5 _ _ h4
        have t5 := t4.keep (Same.kt s5)
        have hR5 := hR4.keep (Same.kt s5) (.of s5)
        have tan := ty.keep (B3.kt F5)
        have e5 : SqT K (upd H4 T2 (.tup [.int (j : Int), x2])) T2 [.int (j : Int), x2] := .inl (.inl upd_same)
        generalize upd H4 T2 (.tup [.int (j : Int), x2]) = H5 at s5 F5 B5 h5 t5 hR5 tan e5 ⊢
        obtain ⟨pa, vw, vz, vt, rfl, hpa, tw, tz, tt⟩ := td_an tan
        refine ⟨T2, _, rfl, e5, rfl, _, _, rfl, _, _, rfl, pa, _, rfl, hpa, rfl, _, _, rfl, _, _, rfl, _, _, rfl, rfl, rfl, ?_⟩
        -- there
        refine ⟨_, rfl, _, rfl, by omega, by omega, fun S hS' => ?_⟩
        have hav5 := hav3.keep (B3.kt F5)
        obtain ⟨aA, aX, rfl, aS, aT⟩ := id hav5.tupE
        refine lc_range (lo := 0) (n := W) (fun k H8 => ∃ vs : List V, H8 S = some (.lst vs) ∧ TdAll K H8 vs (((wk W ahead ds j).take k).map rD) ∧ Same H5 H8) ⟨[], upd_same, .nil, same_upd hS'⟩ ?_ ?_
        · rintro k H8 hk ⟨vs, h8, t8, s8⟩
          refine ⟨rfl, ?_⟩
          refine iteT (B := ∃ vs : List V, H8 S = some (.lst vs) ∧ TdAll K H8 vs (((wk W ahead ds j).take (k + 1)).map rD) ∧ Same H5 H8) ?_
          have ak : ahead[k]? = some ahead[k] := List.getElem?_eq_getElem (by omega)
          obtain ⟨va, eva, tva⟩ := aT.get (i := k) (d := rD ahead[k]) (by rw [List.getElem?_map, ak]; rfl)
          obtain ⟨_, _, _, _, rs, h1, h2', h3⟩ := hR5.keep (Same.kt s8) (.of s8)
          have rk : rs[k]? = some rs[k] := List.getElem?_eq_getElem (by omega)
          have dk : ds[k]? = some ds[k] := List.getElem?_eq_getElem (by omega)
          obtain ⟨_, _, _, _, us', u1, u2⟩ := h3 k _ _ rk dk
          have hIk := hS _ (List.getElem_mem (show k < ds.length by omega))
          obtain ⟨ps, c1, c2, c3, c4⟩ := id hIk
          have lk : ds[k].length = qn.length := by rw [c4, List.length_map, c1]
          have di : ds[k][j]? = some (ds[k][j]'(by omega)) := List.getElem?_eq_getElem _
          obtain ⟨vb, evb, tvb⟩ := u2.get (i := j) (d := rD (ds[k][j]'(by omega))) (by rw [List.getElem?_map, di]; rfl)
          have hk0 : (0 : Int) + (k : Int) = ((k : Nat) : Int) := by omega
          have ca := hch _ (List.getElem_mem (show k < ahead.length by omega))
          have cb : Ch 1 (ds[k][j]'(by omega)) := shares_ch hIk q12 _ (List.getElem_mem _)
          have z1 : LL ^ e < 2 ^ 2000 := pow_lt2000 (by omega)
          have z2 : LL ^ 1 < 2 ^ 2000 := pow_lt2000 (by decide)
          refine ⟨_, rfl, _, rfl, aA, aX, _, va, rfl, by rw [hk0], Same.kt s8 _ _ aS, atI_nat eva, ?_⟩
          refine ⟨_, rfl, _, rfl, R, _, _, _, rfl, by rw [hk0], SqL.of h1, atI_nat (by rw [List.getElem?_map, rk]; rfl), _, rfl, rs[k], us', (j : Int), vb, rfl, rfl, SqL.of u1, atI_nat evb, ?_⟩
          refine ⟨va, vb, _, _, rfl, tva.keep (Same.kt s8), tvb, Nat.lt_of_le_of_lt ca.den z1, Nat.lt_of_le_of_lt cb.den z2, Nat.lt_of_le_of_lt ca.num z1, Nat.lt_of_le_of_lt cb.num z2, fun v H9 s9 tv => ?_⟩
          have h9 := s9 _ _ h8
          have kw : KT K H9 (upd H9 S (.lst (vs ++ [v]))) := KT.updL h9
          refine ⟨vs, h9, ?_, vs ++ [v], upd_same, ?_, fun c o z => ?_⟩
          · rw [t8.len, List.length_map, List.length_take]
            exact small1000 (by omega)
          · have ewk : (wk W ahead ds j)[k]? = some (ahead[k] * (ds[k][j]'(by omega))) := by
              unfold wk
              rw [List.getElem?_map, List.getElem?_range hk]
              show some (ahead.getD k 0 * (ds.getD k []).getD j 0) = some (ahead[k] * (ds[k][j]'(by omega)))
              rw [getD_of ak, getD_of dk, getD_of di]
            rw [List.take_add_one, ewk, List.map_append]
            exact (t8.keep ((Same.kt s9).trans kw)).app (.cons (tv.keep kw) .nil)
          · rw [upd_ne (ne_of_none z hS')]
            exact s9 _ _ (s8 _ _ z)
        rintro H8 ⟨vs, h8, t8, s8⟩
        have lw : (wk W ahead ds j).length = W := by
          unfold wk
          rw [List.length_map, List.length_range]
        rw [List.take_of_length_le (by omega)] at t8
        refine ⟨S, vs, rfl, SqL.of h8, fun wt H9 s9 q9 => ?_⟩
        have s59 := s8.trans s9
        have twt : Td K H9 (.ref wt) (wsD (wk W ahead ds j)) := .tup q9 (t8.keep (Same.kt s9))
        have h9 := s59 _ _ h5
        have chk : ∀ r ∈ wk W ahead ds j, Ch (e + 1) r := by
          intro r hr'
          unfold wk at hr'
          obtain ⟨k, hk, rfl⟩ := List.mem_map.mp hr'
          have hk := List.mem_range.mp hk
          have hk2 : k < ds.length := by omega
          rw [getD_of (List.getElem?_eq_getElem hk2)]
          obtain ⟨p, s, s0, s1, ps, e1⟩ := share_at (hS _ (List.getElem_mem hk2)) jl
          rw [e1]
          exact (mem_getD0 hch (by omega)).mul s0 (by omega) ps
        have B9 := B5.keep s59
        refine ⟨_, rfl, .inl ⟨rfl, _, SqL.of h9⟩, _, rfl, _, rfl, _, rfl, _, rfl, _, rfl, _, rfl, b, g, W, e + 1, vt, .ref wt, an.2.1, wk W ahead ds j, an.2.2, rfl, B9, tt.keep (Same.kt s59), twt, lw, chk, by omega, nok an ma, hW1, hW5, fun v10 t10 H10 tv10 ok10 sh10 B10 F10 => ?_⟩
        refine ⟨by show 3 ≤ sizeLine; decide, fun p11 n11 => ?_⟩
        have s11 : Same H10 (upd H10 p11 (.tup [vw, .ref wt, v10])) := same_upd n11
        have F511 : Frm b g H5 (upd H10 p11 (.tup [vw, .ref wt, v10])) := ((Frm.of s59).trans F10).trans (.of s11)
        have h11 := F511 _ _ h5 Ab Ag
        have kT : KT K (upd H10 p11 (.tup [vw, .ref wt, v10])) (upd (upd H10 p11 (.tup [vw, .ref wt, v10])) A (.lst (ws ++ [.ref p11]))) := KT.updL h11
        have kk := (B5.kt F511).trans kT
        have k911 := (((B9.kt (K := K) F10).trans (Same.kt s11)).trans kT)
        have lqa : qa.length = j := by
          rw [← al4.len, List.length_take]
          omega
        refine ⟨A, ws, _, rfl, rfl, h11, ?_, ws ++ [.ref p11], qa ++ [((an.1, wk W ahead ds j, t10) : An n)], _, _, _, _, _, _, rfl, upd_same, ?_, ?_, fun i a' hi' => ?_, ?_, (B10.keep s11).updN Ab Ag, (F5.trans F511).updN hA⟩
        · rw [t5.len, List.length_map, lqa]
          exact small1000 (by omega)
        · rw [List.map_append]
          exact (t5.keep kk).app (.cons (.tup (kT _ _ (.inl (.inl upd_same))) (.cons (tw.keep kk) (.cons (twt.keep k911) (.cons (tv10.keep ((Same.kt s11).trans kT)) .nil)))) .nil)
        · rw [List.take_add_one, ea]
          exact Al.snoc (R := fun (a a' : An n) => a.1 = a'.1 ∧ Shp n a.2.2 a'.2.2) (a := an) (b := (an.1, wk W ahead ds j, t10)) ⟨rfl, sh10⟩ al4
        · by_cases hl : i < qa.length
          · rw [List.getElem?_append_left hl] at hi'
            exact hw4 i a' hi'
          · have ei : i = qa.length := by
              have := (List.getElem?_eq_some_iff.mp hi').1
              rw [List.length_append] at this
              simp at this
              omega
            subst ei
            rw [List.getElem?_append_right (Nat.le_refl _), Nat.sub_self] at hi'
            cases hi'
            exact ⟨by rw [lqa], ok10⟩
        · obtain ⟨_, _, _, _, rs, h1, h2', h3⟩ := hR5.keep (B5.kt F511) (.ofF F511)
          refine ⟨Rb, Rg, Rg, RA, rs, by rw [upd_ne RA]; exact h1, h2', fun j r d e1 e2 => ?_⟩
          obtain ⟨m0, m1, m2, m3, us', u1, u2⟩ := h3 j r d e1 e2
          exact ⟨m0, m1, m2, m3, us', by rw [upd_ne m0.2]; exact u1, u2.keep kT⟩
      · rintro σ H4 ⟨ws, qa, o7', o9', o10', o11', o12', o13', rfl, h4, t4, al4, hw4, hR4, B4, F4⟩
        rw [ly0, List.take_length] at al4
        have hT4 := F4 _ _ h3T Tb' Tg
        have lqa : qa.length = qn.length := al4.len.symm
        obtain ⟨qok', chq⟩ := rw_ok (m := 0) qok lqa hd hla hS hch (by omega) (fun i a' h => by
          have hi2 : i < qn.length := by
            have := (List.getElem?_eq_some_iff.mp h).1
            omega
          obtain ⟨a'', e1, e2, _⟩ := al4.get (List.getElem?_eq_getElem hi2)
          rw [h] at e1
          cases e1
          exact ⟨_, List.getElem?_eq_getElem hi2, e2.symm, (hw4 i a' h).1⟩)
        refine ⟨_, rfl, .inl ⟨rfl, _, SqL.of hT4⟩, _, rfl, A, ws, rfl, SqL.of h4, fun vt H5 s5 q5 => ?_⟩
        have F35 := F4.trans (.of s5)
        have h5 := F35 _ _ h3T Tb' Tg
        have kT : KT K H5 (upd H5 T (.lst (us ++ [.ref vt]))) := KT.updL h5
        have F25 := F3.trans F35
        have kk := (B2.kt (K := K) F25).trans kT
        have lqs' : qs'.length ≤ 5 := by
          have := al.len
          rw [List.length_take] at this
          omega
        refine ⟨T, us, _, rfl, rfl, h5, ?_, us ++ [.ref vt], qs' ++ [qa], _, _, _, _, _, _, _, _, _, rfl, upd_same, ?_, ?_, fun q' hq' => ?_, (B4.keep s5).updN Tb' Tg, (F2.trans F25).updN hT⟩
        · rw [t2.len, List.length_map]
          exact small1000 (by omega)
        · rw [List.map_append]
          exact (t2.keep kk).app (.cons (.tup (kT _ _ q5) (t4.keep ((Same.kt s5).trans kT))) .nil)
        · rw [List.take_add_one, eq]
          exact Al.snoc (R := fun (q q' : Qn n) => Al (fun (a a' : An n) => a.1 = a'.1 ∧ Shp n a.2.2 a'.2.2) q q') (a := qn) (b := qa) al4 al
        · rcases List.mem_append.mp hq' with z | z
          · exact ok2 q' z
          · rw [List.mem_singleton.mp z]
            refine ⟨qok', fun a' ha' => ?_⟩
            obtain ⟨i, hi', rfl⟩ := List.getElem_of_mem ha'
            exact (hw4 i _ (List.getElem?_eq_getElem hi')).2
    · rintro σ H2 ⟨us, qs', o5, o6, o7, o8, o9, o10, o11, o12, o13, rfl, h2, t2, al, ok2, B2, F2⟩
      rw [lx, List.take_length] at al
      have lq' : qs'.length = qs.length := al.len.symm
      refine ⟨_, rfl, T, us, rfl, SqL.of h2, fun l H3 s3 q3 => ?_⟩
      exact q (.ref l) qs' H3 (.tup q3 (t2.keep (Same.kt s3))) ⟨by show qs'.length ≤ 5; omega, ok2⟩ al (B2.keep s3) (F2.trans (.of s3))
end
end Tl
/-! shapes as the law tells them; shares as the law judges them; deep things -/
namespace Tl
open PySem PySem.Spec PyProof.Rows L2 RZ
def tIfE (t : TT) (ta tb : TE) : TE := fun σ H Q => ∃ R : VK, (∀ v H', R v H' → Q v H') ∧ tIf t ta tb σ H R
theorem pe_ifExpE {X : Cx} {c a b : Expr} {pos : Pos} {tA : TT} {ta tb : TE} (hc : PT X c tA) (ha : PE X a ta) (hb : PE X b tb) : PE X (.IfExp c a b pos) (tIfE tA ta tb) := by
  refine ⟨fun pins s σ H Q I h => ?_⟩
  obtain ⟨R, hm, h'⟩ := h
  refine wpAny_mono ((pe_ifExp hc ha hb).run pins s σ H R I h') (fun u s' z => ?_) fun _ _ x => x
  obtain ⟨v, H', I', r, q⟩ := z
  exact ⟨v, H', I', r, hm v H' q⟩
/-- data with lists at places that N tells -/
inductive Dl (K : PySem.W.Frag) (N : Addr → Prop) (H : Hp) : V → PyData → Prop
  | td {v : V} {d : PyData} : Td K H v d → Dl K N H v d
  | lst {a : Addr} {xs : List V} {ds : List PyData} : H a = some (.lst xs) → N a → xs.length = ds.length → (∀ (i : Nat) (x : V) (d : PyData), xs[i]? = some x → ds[i]? = some d → Dl K N H x d) → Dl K N H (.ref a) (.list ds)
  | pr {a : Addr} {x y : V} {dx dy : PyData} : SqT K H a [x, y] → Dl K N H x dx → Dl K N H y dy → Dl K N H (.ref a) (.tuple [dx, dy])
theorem Dl.keep {K : PySem.W.Frag} {N N' : Addr → Prop} {H H' : Hp} (k : KT K H H') (s : ∀ b o, H b = some o → N b → H' b = some o) (m : ∀ b o, H b = some o → N b → N' b) {v : V} {d : PyData} (h : Dl K N H v d) : Dl K N' H' v d := by
  induction h with
  | td h => exact .td (h.keep k)
  | lst h n l _ ih => exact .lst (s _ _ h n) (m _ _ h n) l ih
  | pr h _ _ i1 i2 => exact .pr (k _ _ h) i1 i2
theorem dpAll_of {K : PySem.W.Frag} {H : Hp} : ∀ {xs : List V} {ds : List PyData}, xs.length = ds.length → (∀ (i : Nat) (x : V) (d : PyData), xs[i]? = some x → ds[i]? = some d → Dp K H x d) → DpAll K H xs ds
  | [], [], _, _ => .nil
  | [], _ :: _, l, _ => by simp at l
  | _ :: _, [], l, _ => by simp at l
  | x :: xs, d :: ds, l, h => .cons (h 0 x d rfl rfl) (dpAll_of (by simpa using l) fun i x d e1 e2 => h (i + 1) x d (by simpa using e1) (by simpa using e2))
theorem Dl.dp {K : PySem.W.Frag} {N : Addr → Prop} {H : Hp} {v : V} {d : PyData} (h : Dl K N H v d) : Dp K H v d := by
  induction h with
  | td h => exact h.dp
  | lst h n l _ ih => exact .lst (SqL.of h) (dpAll_of l ih)
  | pr h _ _ i1 i2 => exact .tup h (.cons i1 (.cons i2 .nil))
/-- a list told item by item, its items with new lists -/
theorem lc_dl {K : PySem.W.Frag} {J : It} {n : Nat} {G : Hp → Prop} {Y : Nat → Hp → V → Hp → Prop} (w : Walk J n G Y) {g : TG} {tt : TT} {te : TE} {vs : List Nat} {σ : L2.St} {H : Hp} {T : Addr} {Qd : Hp → Prop} (es : List PyData) (hl : es.length = n) (hn : n ≤ 3000) (hT : H T = none) (hG : ∀ H', Same H H' → G H')
    (hs : ∀ (i : Nat) (x : V) (e : PyData) (H2 H3 : Hp) (Qy : V → Hp → Prop) (N : Hp → Prop), es[i]? = some e → Same H H2 → Y i H2 x H3 → (∀ y H5, Same H2 H5 → Dl K (fun a => H2 a = none) H5 y e → Qy y H5) → g x (wipe σ vs) H3 fun σ2 H4 => wipe σ2 vs = wipe σ vs ∧ tt σ2 H4 fun b H5 => if b = true then te σ2 H5 Qy else N H5)
    (hd : ∀ H2, Dl K (fun a => H a = none) H2 (.ref T) (.list es) → Same H H2 → Qd H2) :
    ∃ W : Nat → Nat → Hp → Prop, (∃ m, W 0 m (upd H T (.lst []))) ∧ ∀ i m H, W i m H →
      (J.stop i H ∧ Qd H) ∨ (J.go i H ∧ ∃ Nx : Hp → Prop, (∀ H', Nx H' → ∃ m', m' < m ∧ W (i + 1) m' H') ∧ ∀ x H', J.yld i H x H' → g x (wipe σ vs) H' fun σ2 H2 => wipe σ2 vs = wipe σ vs ∧ tt σ2 H2 fun b H3 =>
        if b = true then te σ2 H3 fun y H4 => ∃ acc, H4 T = some (.lst acc) ∧ acc.length < sizeLine ∧ Nx (upd H4 T (.lst (acc ++ [y]))) else Nx H3) := by
  refine lc_it w (fun i H2 => ∃ ws : List V, H2 T = some (.lst ws) ∧ ws.length = (es.take i).length ∧ (∀ (j : Nat) (x : V) (d : PyData), ws[j]? = some x → es[j]? = some d → Dl K (fun a => H a = none ∧ a ≠ T) H2 x d) ∧ Same H H2) ⟨[], upd_same, by simp, fun j x d e _ => by simp at e, same_upd hT⟩ (fun i H2 _ h => hG _ (by obtain ⟨_, _, _, _, s⟩ := h; exact s)) ?_ ?_
  · rintro i x H2 H3 hi ⟨ws, h2, l2, t2, s2⟩ y
    have he : es[i]? = some (es[i]'(by omega)) := List.getElem?_eq_getElem _
    refine hs i x _ H2 H3 _ _ he s2 y fun v H5 s5 tv => ?_
    have h5 := s5 _ _ h2
    have kT : KT K H5 (upd H5 T (.lst (ws ++ [v]))) := KT.updL h5
    have lw : ws.length = i := by
      rw [l2, List.length_take]
      omega
    refine ⟨ws, h5, ?_, ws ++ [v], upd_same, ?_, fun j x d e1 e2 => ?_, fun c o z => ?_⟩
    · have : (3000 : Nat) < sizeLine := by decide
      omega
    · rw [List.length_append, List.length_take, lw]
      show i + 1 = _
      omega
    · by_cases hj : j < ws.length
      · rw [List.getElem?_append_left hj] at e1
        exact (t2 j x d e1 e2).keep ((Same.kt s5).trans kT) (fun b o z n => by rw [upd_ne n.2]; exact s5 _ _ z) fun b o z n => n
      · have ej : j = ws.length := by
          have := (List.getElem?_eq_some_iff.mp e1).1
          rw [List.length_append] at this
          simp at this
          omega
        subst ej
        rw [List.getElem?_append_right (Nat.le_refl _), Nat.sub_self] at e1
        cases e1
        rw [lw, he] at e2
        cases e2
        have ne : ∀ b, H2 b = none → b ≠ T := fun b z n => by
          rw [n, h2] at z
          cases z
        exact tv.keep kT (fun b o z n => by rw [upd_ne (ne b n)]; exact z) fun b o z n => ⟨s2.free n, ne b n⟩
    · rw [upd_ne (ne_of_none z hT)]
      exact s5 _ _ (s2 _ _ z)
  · rintro H2 ⟨ws, h2, l2, t2, s2⟩
    rw [List.take_of_length_le (by omega)] at l2
    exact hd H2 (.lst h2 hT l2 fun j x d e1 e2 => (t2 j x d e1 e2).keep (KT.refl H2) (fun b o z _ => z) fun b o z n => n.1) s2
def spShp (K : PySem.W.Frag) (n : Nat) : Sp := fun vs H Q _ => ∃ (v : V) (t : Nd n), vs = [v] ∧ Td K H v (ndD n t) ∧ Nrw n t ∧ ∀ v' H', Same H H' → Dl K (fun a => H a = none) H' v' (shD n t) → Q v' H'
def spJS (K : PySem.W.Frag) : Sp := fun vs H Q _ => ∃ (v : V) (o : Option (Int × Int)), vs = [v] ∧ Th K H v o ∧ PairOk o ∧ ∀ H', Same H H' → Q (.bl (rtB o)) H'
/-- a list or a tuple of one thing, away from the bag -/
def OneAt (b g : Addr) (H : Hp) (v : V) : Prop := ∃ a x, v = .ref a ∧ a ≠ b ∧ a ≠ g ∧ (H a = some (.lst [x]) ∨ H a = some (.tup [x]))
def spDeep (K : PySem.W.Frag) : Sp := fun vs H Q _ => ∃ (b g : Addr), vs = [.ref b] ∧ Bag H b g ∧ ∀ v H', OneAt b g H' v → Bag H' b g → Frm b g H H' → Q v H'
theorem OneAt.keep {b g : Addr} {H H' : Hp} {v : V} (h : OneAt b g H v) (f : Frm b g H H') : OneAt b g H' v := by
  obtain ⟨a, x, e, n1, n2, h⟩ := h
  exact ⟨a, x, e, n1, n2, h.elim (fun z => .inl (f _ _ z n1 n2)) fun z => .inr (f _ _ z n1 n2)⟩
theorem OneAt.th {K : PySem.W.Frag} {b g : Addr} {H : Hp} {v : V} (h : OneAt b g H v) : Th K H v none := by
  obtain ⟨a, x, rfl, _, _, h | h⟩ := h
  · exact .lst h
  · exact .tup (xs := [x]) (.inl (.inl h)) (by simp)
section
variable {P : Program} {w : World} {K : PySem.W.Frag} {mg : Str → Option Value} {base : Heap} {aN aO : Addr} {t1 t2 t3 t4 t5 t6 t7 : Tok}
theorem ok_law_shape {f : Addr} {fd : FuncData} (D : Dn K mg "_law_shape" s_law_shape ["node"] f fd) (B : Blt mg) (C : Cst K mg aN aO t1 t2 t3 t4 t5 t6 t7) : ∀ n : Nat, FnOk P w K mg base CX0 (1 + n) f fd ["node"] ((spShp K) n) := by
  intro n
  obtain ⟨sp0, G_law_shape, hsp⟩ : ∃ sp0, FnOk P w K mg base CX0 (0 + n) f fd ["node"] sp0 ∧ (∀ m, n = m + 1 → sp0 = (spShp K) m) := by
    cases n with
    | zero => exact ⟨fun _ _ _ _ => False, ⟨fun vs H Q E h => h.elim, fun A outer s H args us vs Q E _ _ _ _ h => h.elim⟩, fun m e => by omega⟩
    | succ m =>
      have G := ok_law_shape D B C m
      rw [show 1 + m = 0 + (m + 1) by omega] at G
      exact ⟨_, G, fun m' e => by rw [show m' = m by omega]⟩
  rw [show 1 + n = (0 + n) + 1 by omega]
  refine D.F.ok sc_law_shape (fun vs H Q E h => ?_) (fun cdv A outer s H vs Q E hr h => ?_)
  · obtain ⟨v, t, rfl, _⟩ := h
    rfl
  obtain ⟨v, t, rfl, hv, nrt, q⟩ := h
  have nd := sc_law_shape.nd
  have D_law_shape := D
  refine ⟨_, (pss_one (ps_ret (pe_lc (own := [("question", 2)]) rfl nd (k_iT (K := K) rfl (pv 0)) (blkOk_by (own := [("question", 2)]) (by kernel_rfl)) (fun _ _ _ _ _ => (pg_name (i := 2) nd rfl (.inl rfl))) (fun _ _ _ _ _ => pts_nil) (fun _ _ _ _ _ => (pe_lc (own := [("answer", 1)]) rfl nd (k_iT (K := K) rfl (pv 2)) (blkOk_by (own := [("answer", 1)]) (by kernel_rfl)) (fun _ _ _ _ _ => (pg_name (i := 1) nd rfl (.inl rfl))) (fun _ _ _ _ _ => pts_nil) (fun _ _ _ _ _ => (pe_tup (pa_cons (pe_ix (k_ixT (K := K) rfl) (pv 1) pe_int (fun _ _ => rfl)) (pa_cons (pe_call G_law_shape (hr.mono (by omega)) (by rfl) D_law_shape.m D_law_shape.F.kp D_law_shape.b .nil pass0 (pa_cons (pe_ix (k_ixT (K := K) rfl) (pv 1) pe_int (fun _ _ => rfl)) pa_nil)) pa_nil))))))))), ?_⟩
  obtain ⟨a, xs, rfl, ha, ta⟩ := qs_td hv
  obtain ⟨l1000, nrt⟩ := nrt.at_
  have lx : xs.length = (qsOf n t).length := by rw [ta.len, List.length_map]
  rw [shD_qs] at q
  refine ⟨_, rfl, a, rfl, ⟨_, ha⟩, fun T hT => ?_⟩
  refine lc_dl (K := K) (walk_tup (K := K) (a := a) (xs := xs)) ((qsOf n t).map (shQ (n - 1))) (by rw [List.length_map, lx]) (by omega) hT (fun H' s => Same.kt s _ _ ha) ?_ (fun H2 d s2 => q _ H2 s2 d)
  rintro i z e' H2 H3 Qy N hi s2 ⟨e3, g1⟩ hQ
  subst e3
  obtain ⟨dx, ex, tx⟩ := ta.getV g1
  rw [List.getElem?_map] at ex
  obtain ⟨qn, eq, rfl⟩ := Option.map_eq_some_iff.mp ex
  rw [List.getElem?_map, eq] at hi
  cases hi
  have mq := List.mem_of_getElem? eq
  obtain ⟨n', rfl⟩ : ∃ n', n = n' + 1 := by
    cases n with
    | zero => exact absurd mq List.not_mem_nil
    | succ m => exact ⟨m, rfl⟩
  have hsp := hsp n' rfl
  subst hsp
  obtain ⟨lq, nq⟩ := nrt qn mq
  have k02 := Same.kt (K := K) s2
  obtain ⟨d, zs, rfl, hd, td⟩ := id (tx.keep k02).tupE
  have lz : zs.length = qn.length := by rw [td.len, List.length_map]
  refine ⟨rfl, ?_⟩
  refine iteT (B := N H3) ?_
  refine ⟨_, rfl, d, rfl, ⟨_, hd⟩, fun T2 hT2 => ?_⟩
  refine lc_dl (K := K) (walk_tup (K := K) (a := d) (xs := zs)) (qn.map (shA n')) (by rw [List.length_map, lz]) (by omega) hT2 (fun H' s => Same.kt s _ _ hd) ?_ (fun H5 dl s5 => hQ _ H5 s5 dl)
  rintro j y e6 H5 H6 Qy' N' hj s5 ⟨e7, g2⟩ hQ'
  subst e7
  obtain ⟨dy, ey, ty⟩ := td.getV g2
  rw [List.getElem?_map] at ey
  obtain ⟨an, ea, rfl⟩ := Option.map_eq_some_iff.mp ey
  rw [List.getElem?_map, ea] at hj
  cases hj
  have man := List.mem_of_getElem? ea
  obtain ⟨pn, v0, vw, vt, rfl, hpn, t0, tw, tt⟩ := td_an (ty.keep (Same.kt s5))
  refine ⟨rfl, ?_⟩
  refine iteT (B := N' H6) ?_
  refine ⟨_, rfl, pn, _, 0, _, rfl, rfl, hpn, at_of (j := 0) rfl rfl, _, rfl, pn, _, 2, _, rfl, rfl, hpn, at_of (j := 2) rfl rfl, vt, an.2.2, rfl, tt, (nq an man).2, fun v9 H9 s9 t9 => ?_⟩
  refine ⟨by show 2 ≤ sizeLine; decide, fun p10 n10 => ?_⟩
  have s10 := same_upd (o := .tup [v0, v9]) n10
  refine hQ' (.ref p10) _ (s9.trans s10) (.pr (.inl (.inl upd_same)) (.td (t0.keep (Same.kt (s9.trans s10)))) (t9.keep (Same.kt s10) (fun b o z _ => s10 _ _ z) fun b o z n => n))
theorem ok_law_int_s {f : Addr} {fd : FuncData} (D : Dn K mg "_law_int" s_law_int ["thing", "least", "most"] f fd) (B : Blt mg) (C : Cst K mg aN aO t1 t2 t3 t4 t5 t6 t7) : FnOk P w K mg base CX0 1 f fd ["thing", "least", "most"] spNumber := by
  refine D.F.ok sc_law_int (fun vs H Q E h => ?_) (fun cdv A outer s H vs Q E hr h => ?_)
  · obtain ⟨i, lo, hi, rfl, _⟩ := h
    rfl
  obtain ⟨i, lo, hi, rfl, q⟩ := h
  have nd := sc_law_int.nd
  refine ⟨_, (pss_one (ps_ret (pe_and (pe_callB (k_isi (K := K) rfl) (by rfl) B.isinstance (by decide +kernel) (pa_cons (pv 0) (pa_cons (pe_bltn (v := .ty "int") (u := .type "int") (by rfl) B.int (by decide +kernel) rfl) pa_nil))) (pe_and (pe_not (pe_callB (k_isi (K := K) rfl) (by rfl) B.isinstance (by decide +kernel) (pa_cons (pv 0) (pa_cons (pe_bltn (v := .ty "bool") (u := .type "bool") (by rfl) B.bool (by decide +kernel) rfl) pa_nil)))) (pe_one (pe_chain op_le op_le (pv 1) (pv 0) (pv 2))))))), ?_⟩
  refine ⟨_, rfl, _, _, _, _, true, rfl, .ty "int", .base (.int i), kit_ty (by decide +kernel), _, rfl, ?_⟩
  refine iteT ⟨_, rfl, _, _, _, _, false, rfl, .ty "bool", .base (.int i), kit_ty (by decide +kernel), ?_⟩
  refine ⟨false, rfl, true, rfl, ?_⟩
  refine iteT ⟨_, rfl, _, rfl, _, _, rfl, rfl, _, rfl, ?_⟩
  refine ite2 (fun c => ?_) (fun c => ?_)
  · have e : (decide (lo ≤ i) && decide (i ≤ hi)) = decide (i ≤ hi) := by rw [c, Bool.true_and]
    rw [e] at q
    exact ⟨_, rfl, _, _, rfl, rfl, q⟩
  · have c : decide (lo ≤ i) = false := Bool.eq_false_iff.mpr c
    rw [c, Bool.false_and] at q
    exact q
theorem ok_law_is_share {f f1 f2 : Addr} {fd fd1 fd2 : FuncData} (D : Dn K mg "_law_is_share" s_law_is_share ["thing"] f fd) (B : Blt mg) (C : Cst K mg aN aO t1 t2 t3 t4 t5 t6 t7)
    (D_law_int : Dn K mg "_law_int" s_law_int ["thing", "least", "most"] f1 fd1) (G_law_int : FnOk P w K mg base CX0 1 f1 fd1 ["thing", "least", "most"] spNumber)
    (D_law_common : Dn K mg "_law_common" s_law_common ["one", "other"] f2 fd2) (G_law_common : FnOk P w K mg base CX0 1 f2 fd2 ["one", "other"] spCommon) : FnOk P w K mg base CX0 2 f fd ["thing"] (spJS K) := by
  refine D.F.ok sc_law_is_share (fun vs H Q E h => ?_) (fun cdv A outer s H vs Q E hr h => ?_)
  · obtain ⟨v, o, rfl, _⟩ := h
    rfl
  obtain ⟨v, o, rfl, hv, po, q⟩ := h
  have nd := sc_law_is_share.nd
  refine ⟨_, (pss_cons (ps_if (PW.pt (pw_or (pt_not (pt_val (pe_callB (k_isi (K := K) rfl) (by rfl) B.isinstance (by decide +kernel) (pa_cons (pv 0) (pa_cons (pe_bltn (v := .ty "tuple") (u := .type "tuple") (by rfl) B.tuple (by decide +kernel) rfl) pa_nil))))) (pw_or (pt_cmpR op_ne (pe_callB (k_len (K := K) rfl) (by rfl) B.len PySem.boot_len (pa_cons (pv 0) pa_nil)) pe_int (nomark _)) (pw_or1 (pt_not (pt_val (pe_callB (k_all (K := K) rfl rfl) (by rfl) B.all (by decide +kernel) (pa_cons (pe_lc (own := [("one", 1)]) rfl nd (k_iT (K := K) rfl (pv 0)) (blkOk_by (own := [("one", 1)]) (by kernel_rfl)) (fun _ _ _ _ _ => (pg_name (i := 1) nd rfl (.inl rfl))) (fun _ _ _ _ _ => pts_nil) (fun _ _ _ _ _ => (pe_call G_law_int (hr.mono (by omega)) (by rfl) D_law_int.m D_law_int.F.kp D_law_int.b .nil pass0 (pa_cons (pv 1) (pa_cons pe_int (pa_cons (pe_op op_pow pe_int pe_int) pa_nil)))))) pa_nil)))))))) (pss_one (ps_ret pe_bl)) pss_nil)
      (pss_one (ps_ret (pe_and (pe_cmpR op_lt (pe_ix (k_ixT (K := K) rfl) (pv 0) pe_int (fun _ _ => rfl)) (pe_ix (k_ixT (K := K) rfl) (pv 0) pe_int (fun _ _ => rfl)) (nomark _)) (pe_one (pe_cmpR op_eq (pe_call G_law_common (hr.mono (by omega)) (by rfl) D_law_common.m D_law_common.F.kp D_law_common.b .nil pass0 (pa_cons (pe_ix (k_ixT (K := K) rfl) (pv 0) pe_int (fun _ _ => rfl)) (pa_cons (pe_ix (k_ixT (K := K) rfl) (pv 0) pe_int (fun _ _ => rfl)) pa_nil))) pe_int (nomark _))))))), ?_⟩
  rcases hv.kind with ⟨t, h1, h2, rfl⟩ | ⟨a, xs, rfl, hs, hx⟩
  · exact ⟨_, rfl, _, _, _, _, false, rfl, .ty "tuple", h1, h2, _, rfl, iteT (q H (Same.refl _))⟩
  refine ⟨_, rfl, _, _, _, _, true, rfl, .ty "tuple", tyx_tup hs, kit_ty (by decide +kernel), _, rfl, iteF ?_⟩
  rcases hx with ⟨l, rfl⟩ | ⟨x, y, rfl, rfl⟩
  · refine ⟨_, rfl, a, _, rfl, .inr hs, rfl, _, rfl, ?_⟩
    rw [decide_eq_false (show ¬ (V.int ((xs.length : Nat) : Int)) = V.int 2 from fun z => l (by have := V.int.inj z; omega))]
    exact iteT (q H (Same.refl _))
  refine ⟨_, rfl, a, _, rfl, .inr hs, rfl, _, rfl, iteF ?_⟩
  refine ⟨_, rfl, a, rfl, ⟨_, hs⟩, fun T hT => ?_⟩
  obtain ⟨bs, hbs⟩ : ∃ bs : List Bool, bs = [decide (1 ≤ x), decide (1 ≤ y)] := ⟨_, rfl⟩
  obtain ⟨px, py, pd⟩ := po
  have up : ∀ z : Int, z.natAbs ≤ 10 ^ 20 → (decide (1 ≤ z) && decide (z ≤ 10 ^ 40)) = decide (1 ≤ z) := fun z hz => by
    have : (10 : Nat) ^ 20 ≤ 10 ^ 40 := Nat.pow_le_pow_right (by decide) (by decide)
    have e : z ≤ 10 ^ 40 := by
      have e40 : ((10 ^ 40 : Nat) : Int) = 10 ^ 40 := by norm_cast
      omega
    rw [decide_eq_true e, Bool.and_true]
  refine lc_it (walk_tup (K := K) (a := a) (xs := [.int x, .int y])) (fun i H2 => H2 T = some (.lst ((bs.take i).map V.bl)) ∧ Same H H2) ⟨upd_same, same_upd hT⟩ (fun i H2 _ h => Same.kt h.2 _ _ hs) ?_ ?_
  · rintro i z H0 H2 hi ⟨h2, s2⟩ ⟨rfl, g1⟩
    have pick : ∃ k : Int, z = .int k ∧ k.natAbs ≤ 10 ^ 20 ∧ bs[i]? = some (decide (1 ≤ k)) := by
      rw [hbs]
      have hi2 : i < 2 := hi
      match i, hi2, g1 with
      | 0, _, g1 => exact ⟨x, (Option.some.inj g1).symm, px, rfl⟩
      | 1, _, g1 => exact ⟨y, (Option.some.inj g1).symm, py, rfl⟩
    obtain ⟨k, rfl, hk, eb⟩ := pick
    refine ⟨rfl, ?_⟩
    refine iteT (B := H2 T = some (.lst ((bs.take (i + 1)).map V.bl)) ∧ Same H H2) ?_
    refine ⟨_, rfl, _, _, rfl, rfl, ⟨by decide, by decide, by decide⟩, k, 1, 10 ^ 40, rfl, ?_⟩
    rw [up k hk]
    refine ⟨_, h2, ?_, ?_, fun c o z => ?_⟩
    · rw [List.length_map, List.length_take]
      exact small1000 (by rw [hbs]; show min i 2 ≤ 1000; omega)
    · rw [upd_same, List.take_add_one, eb, List.map_append]
      rfl
    · rw [upd_ne (ne_of_none z hT)]
      exact s2 _ _ z
  · rintro H2 ⟨h2, s2⟩
    rw [List.take_of_length_le (by rw [hbs]; exact Nat.le_refl _)] at h2
    refine ⟨T, bs, rfl, SqL.of h2, ?_⟩
    have q := q H2 s2
    have hs2 := Same.kt (K := K) s2 _ _ hs
    have eall : bs.all id = (decide (1 ≤ x) && (decide (1 ≤ y) && true)) := by rw [hbs]; rfl
    rw [eall, Bool.and_true]
    by_cases hx1 : 1 ≤ x
    · by_cases hy1 : 1 ≤ y
      · rw [decide_eq_true hx1, decide_eq_true hy1]
        refine ⟨_, rfl, iteF ?_⟩
        refine ⟨_, rfl, a, _, 0, _, rfl, rfl, hs2, at_of (j := 0) rfl rfl, _, rfl, a, _, 1, _, rfl, rfl, hs2, at_of (j := 1) rfl rfl, _, _, rfl, rfl, _, rfl, ?_⟩
        by_cases hlt : x < y
        · rw [decide_eq_true hlt]
          refine iteT ⟨_, rfl, a, _, 0, _, rfl, rfl, hs2, at_of (j := 0) rfl rfl, _, rfl, a, _, 1, _, rfl, rfl, hs2, at_of (j := 1) rfl rfl, x, y, rfl, by omega, by omega, ?_⟩
          have e : decide (V.int ((Nat.gcd x.toNat y.toNat : Nat) : Int) = V.int 1) = rtB (some (x, y)) := by
            have ex : x.natAbs = x.toNat := by omega
            have ey : y.natAbs = y.toNat := by omega
            refine decide_eq_decide.mpr ⟨fun z => ⟨hx1, hlt, by rw [ex, ey]; have := V.int.inj z; omega⟩, fun z => ?_⟩
            have z3 := z.2.2
            rw [ex, ey] at z3
            rw [z3]
            rfl
          refine ⟨rfl, ?_⟩
          rw [e]
          exact q
        · rw [decide_eq_false hlt]
          refine iteF ?_
          have e : rtB (some (x, y)) = false := decide_eq_false fun z => hlt z.2.1
          rw [e] at q
          exact q
      · rw [decide_eq_false hy1, Bool.and_false]
        have e : rtB (some (x, y)) = false := decide_eq_false fun z => hy1 (by omega)
        rw [e] at q
        exact ⟨_, rfl, iteT q⟩
    · rw [decide_eq_false hx1, Bool.false_and]
      have e : rtB (some (x, y)) = false := decide_eq_false fun z => hx1 z.1
      rw [e] at q
      exact ⟨_, rfl, iteT q⟩
theorem ok_law_deep {f f1 : Addr} {fd fd1 : FuncData} (D : Dn K mg "_law_deep" s_law_deep ["bag"] f fd) (B : Blt mg) (C : Cst K mg aN aO t1 t2 t3 t4 t5 t6 t7)
    (D_law_pick : Dn K mg "_law_pick" s_law_pick ["bag", "many"] f1 fd1) (G_law_pick : FnOk P w K mg base CX0 1 f1 fd1 ["bag", "many"] spPick) : FnOk P w K mg base CX0 2 f fd ["bag"] (spDeep K) := by
  refine D.F.ok sc_law_deep (fun vs H Q E h => ?_) (fun cdv A outer s H vs Q E hr h => ?_)
  · obtain ⟨b, g, rfl, _⟩ := h
    rfl
  obtain ⟨b, g, rfl, hB, q⟩ := h
  have nd := sc_law_deep.nd
  refine ⟨_, (pss_cons (ps_set (i := 1) nd rfl (.inl rfl) (pe_lst (pa_cons pe_non pa_nil)))
      (pss_cons (ps_for PassesOwn.never rfl (pi_range1 (by rfl) B.range (pa_cons (pe_op op_add pe_int (pe_call G_law_pick (hr.mono (by omega)) (by rfl) D_law_pick.m D_law_pick.F.kp D_law_pick.b .nil pass0 (pa_cons (pv 0) (pa_cons pe_int pa_nil)))) pa_nil)) (pg_name (i := 2) nd rfl (.inl rfl)) (pss_one (ps_set (i := 1) nd rfl (.inl rfl) (pe_ifExpE (pt_cmpR op_eq (pe_call G_law_pick (hr.mono (by omega)) (by rfl) D_law_pick.m D_law_pick.F.kp D_law_pick.b .nil pass0 (pa_cons (pv 0) (pa_cons pe_int pa_nil))) pe_int (nomark _)) (pe_lst (pa_cons (pv 1) pa_nil)) (pe_tup (pa_cons (pv 1) pa_nil))))))
      (pss_one (ps_ret (pv 1))))), ?_⟩
  refine ⟨by show 1 ≤ sizeLine; decide, fun p hp => ?_⟩
  have s0 := same_upd (o := .lst [.non]) hp
  obtain ⟨pb, pg⟩ := hB.neNew hp
  have o0 : OneAt b g (upd H p (.lst [.non])) (.ref p) := ⟨p, .non, rfl, pb, pg, .inl upd_same⟩
  have B0 := hB.keep s0
  generalize upd H p (.lst [.non]) = H1 at s0 o0 B0 ⊢
  refine ⟨_, rfl, b, g, 5, rfl, B0, by decide, by decide, fun r H2 r0 r1 B2 F2 => ?_⟩
  obtain ⟨k, hk⟩ : ∃ k : Nat, 28 + r = (k : Int) := ⟨(28 + r).toNat, by omega⟩
  refine ⟨_, _, rfl, rfl, (k : Int), by show [V.int (28 + r)] = _; rw [hk], by omega, by omega, for_range (lo := 0) (n := k) (fun i σ H3 => ∃ (v : V) (o2 : Option V), σ = [some (.ref b), some v, o2] ∧ OneAt b g H3 v ∧ Bag H3 b g ∧ Frm b g H H3) ⟨.ref p, none, rfl, o0.keep F2, B2, (Frm.of s0).trans F2⟩ ?_ ?_⟩
  · rintro i σ H3 hi ⟨v, o2, rfl, ov, B3, F3⟩
    refine ⟨fun v' H9 => OneAt b g H9 v' ∧ Bag H9 b g ∧ Frm b g H H9, fun v' H9 h => ⟨v', _, rfl, h.1, h.2.1, h.2.2⟩, ?_⟩
    refine ⟨_, rfl, b, g, 2, rfl, B3, by decide, by decide, fun r4 H4 r40 r41 B4 F4 => ⟨rfl, _, rfl, ?_⟩⟩
    refine ite2 (fun _ => ?_) (fun _ => ?_)
    · refine ⟨_, rfl, by show 1 ≤ sizeLine; decide, fun p5 n5 => ?_⟩
      obtain ⟨pb, pg⟩ := B4.neNew n5
      have s5 := same_upd (o := .lst [v]) n5
      exact ⟨⟨p5, v, rfl, pb, pg, .inl upd_same⟩, B4.keep s5, F3.trans (F4.trans (.of s5))⟩
    · refine ⟨_, rfl, by show 1 ≤ sizeLine; decide, fun p5 n5 => ?_⟩
      obtain ⟨pb, pg⟩ := B4.neNew n5
      have s5 := same_upd (o := .tup [v]) n5
      exact ⟨⟨p5, v, rfl, pb, pg, .inr upd_same⟩, B4.keep s5, F3.trans (F4.trans (.of s5))⟩
  · rintro σ H3 ⟨v, o2, rfl, ov, B3, F3⟩
    exact ⟨_, rfl, q v H3 ov B3 F3⟩
end
end Tl
/-! what is told of tossed and of hidden -/
namespace Tl
open PySem PySem.Spec PyProof.Rows L2 RZ
/-- which word is due -/
def wdOf (k : Nat) (al right sh : Bool) : Str := if al = true then (if right = true then (if k = 1 then (if sh = true then "told" else "shaped") else "told") else "share") else "alike"
def spWrd (K : PySem.W.Frag) (Cc : Addr) : Sp := fun vs H Q _ => ∃ (k : Nat) (p p2 : Addr) (W W2 m : Nat) (v v2 sv : V) (so : Option (Int × Int)) (t o : Nd m), vs = [.int (k : Int), sv, .ref p, .ref p2] ∧ k ≤ 1 ∧ HouseAt Cc H p W v ∧ HouseAt Cc H p2 W2 v2 ∧ Th K H sv so ∧ PairOk so ∧
  (W = W2 → Td K H v (ndD m t) ∧ Td K H v2 (ndD m o) ∧ m ≤ 8 ∧ W ≤ 5 ∧ 1 ≤ W ∧ WsAll W 6 m t ∧ WsAll W 6 m o ∧ Nrw m t ∧ Nrw m o ∧ cnt m t ≤ 1400 ∧ cnt m o ≤ 1400) ∧
  ∀ H', Same H H' → Q (.str (wdOf k (decide (W = W2)) (rtB so) (shB m t o))) H'
section
variable {P : Program} {w : World} {K : PySem.W.Frag} {mg : Str → Option Value} {base : Heap} {aN aO : Addr} {t1 t2 t3 t4 t5 t6 t7 : Tok}
theorem ok_law_word {HE CA CS CP : Addr} {f f1 f2 : Addr} {fd fd1 fd2 : FuncData} {Cc fi fe : Addr} (D : Dn K mg "_law_word" s_law_word ["which", "share", "house", "other"] f fd) (B : Blt mg) (C : Cst K mg aN aO t1 t2 t3 t4 t5 t6 t7) (U : Hcl K mg Cc fi fe)
    (D_tossed : Dn K mg "tossed" s_tossed ["share", "house", "other"] f1 fd1) (G_tossed : FnOk P w K mg base (L2.CX P w) 26 f1 fd1 ["share", "house", "other"] (spTos K Cc CA CS))
    (D_hidden : Dn K mg "hidden" s_hidden ["share", "house", "other"] f2 fd2) (G_hidden : FnOk P w K mg base (L2.CX P w) 26 f2 fd2 ["share", "house", "other"] (spHid K Cc CA CS CP)) (X_HouseError : XFact K mg "HouseError" HE veMro) (X_NotAlike : XRs K mg HE "NotAlike" CA) (X_NoShare : XRs K mg HE "NoShare" CS) (X_NotShaped : XRs K mg HE "NotShaped" CP) (nAS : CA ≠ CS) (nAP : CA ≠ CP) (nSP : CS ≠ CP) : FnOk P w K mg base CX0 27 f fd ["which", "share", "house", "other"] (spWrd K Cc) := by
  refine D.F.ok sc_law_word (fun vs H Q E h => ?_) (fun cdv A outer s H vs Q E hr h => ?_)
  · obtain ⟨k, p, p2, W, W2, m, v, v2, sv, so, t, o, rfl, _⟩ := h
    rfl
  obtain ⟨k, p, p2, W, W2, m, v, v2, sv, so, t, o, rfl, hk, hp, hp2, hth, po, qT0, q⟩ := h
  have nd := sc_law_word.nd
  refine ⟨_, (pss_cons (ps_set (i := 4) nd rfl (.inl rfl) pe_str)
      (pss_cons (ps_tries rfl rfl nd takes0 (fun W pn xe tk _ => (pss_cons (ps_set (i := 5) nd rfl (.inl rfl) (pe_ifExpE (pt_cmpR op_eq (pv 0) pe_int (nomark _)) (pe_callS G_tossed (hr.mono (by omega)) (by rfl) D_tossed.m D_tossed.F.kp D_tossed.b (fun σ => passAt tk σ) (pa_cons (pv 1) (pa_cons (pv 2) (pa_cons (pv 3) pa_nil)))) (pe_callS G_hidden (hr.mono (by omega)) (by rfl) D_hidden.m D_hidden.F.kp D_hidden.b (fun σ => passAt tk σ) (pa_cons (pv 1) (pa_cons (pv 2) (pa_cons (pv 3) pa_nil))))))
      (pss_one (ps_set (i := 4) nd rfl (.inl rfl) (pe_ifExpE (pt_val (pe_callB (k_isi (K := K) rfl) (by rfl) B.isinstance (by decide +kernel) (pa_cons (pv 5) (pa_cons (pe_glob (v := .ref _) rfl U.gHouse rfl) pa_nil)))) pe_str pe_str))))) (TryOk.cons (i := 6) ⟨rfl, by decide, .inl X_NotAlike.X.g⟩ rfl rfl (fun a oe cls d pn hz hf => (pss_one (ps_set (i := 4) nd rfl (.inl rfl) (pe_ifExp (pt_val (pe_callB (k_isE hz hf) (by rfl) B.isinstance (by decide +kernel) (pa_cons (pv 6) (pa_cons (pe_glob (v := .ref _) rfl X_HouseError.g rfl) pa_nil)))) pe_str pe_str)))) (TryOk.cons (i := 6) ⟨rfl, by decide, .inl X_NoShare.X.g⟩ rfl rfl (fun a oe cls d pn hz hf => (pss_one (ps_set (i := 4) nd rfl (.inl rfl) (pe_ifExp (pt_val (pe_callB (k_isE hz hf) (by rfl) B.isinstance (by decide +kernel) (pa_cons (pv 6) (pa_cons (pe_glob (v := .ref _) rfl X_HouseError.g rfl) pa_nil)))) pe_str pe_str)))) (TryOk.cons (i := 6) ⟨rfl, by decide, .inl X_NotShaped.X.g⟩ rfl rfl (fun a oe cls d pn hz hf => (pss_one (ps_set (i := 4) nd rfl (.inl rfl) (pe_ifExp (pt_val (pe_callB (k_isE hz hf) (by rfl) B.isinstance (by decide +kernel) (pa_cons (pv 6) (pa_cons (pe_glob (v := .ref _) rfl X_HouseError.g rfl) pa_nil)))) pe_str pe_str)))) TryOk.nil))))
      (pss_one (ps_ret (pv 4))))), ?_⟩
  have qA : W ≠ W2 → ∀ H', Same H H' → Q (.str "alike") H' := fun h H' s => by
    have z := q H' s
    unfold wdOf at z
    rw [decide_eq_false h, if_neg (by decide)] at z
    exact z
  have qS : W = W2 → rtB so = false → ∀ H', Same H H' → Q (.str "share") H' := fun h h2 H' s => by
    have z := q H' s
    unfold wdOf at z
    rw [decide_eq_true h, h2, if_pos rfl, if_neg (by decide)] at z
    exact z
  have qT : W = W2 → rtB so = true → Td K H v (ndD m t) ∧ Td K H v2 (ndD m o) ∧ m ≤ 8 ∧ W ≤ 5 ∧ 1 ≤ W ∧ WsAll W 6 m t ∧ WsAll W 6 m o ∧ Nrw m t ∧ Nrw m o ∧ cnt m t ≤ 1400 ∧ cnt m o ≤ 1400 ∧
      (k = 1 → shB m t o = false → ∀ H', Same H H' → Q (.str "shaped") H') ∧ (k = 0 ∨ shB m t o = true → ∀ H', Same H H' → Q (.str "told") H') := fun h h2 => by
    obtain ⟨a1, a2, a3, a4, a5, a6, a7, a8, a9, a10, a11⟩ := qT0 h
    refine ⟨a1, a2, a3, a4, a5, a6, a7, a8, a9, a10, a11, fun h3 h4 H' s => ?_, fun h3 H' s => ?_⟩
    · have z := q H' s
      unfold wdOf at z
      rw [decide_eq_true h, h2, if_pos rfl, if_pos rfl, if_pos h3, h4, if_neg (by decide)] at z
      exact z
    · have z := q H' s
      unfold wdOf at z
      rw [decide_eq_true h, h2, if_pos rfl, if_pos rfl] at z
      by_cases hk1 : k = 1
      · have e := h3.resolve_left (by omega)
        rw [if_pos hk1, e, if_pos rfl] at z
        exact z
      · rw [if_neg hk1] at z
        exact z
  have eAA : PySem.W.exmOne K (.ref CA) (.ref CA) = some true := by rw [exm_cc X_NotAlike X_NotAlike, decide_eq_true rfl]
  have eSA : PySem.W.exmOne K (.ref CS) (.ref CA) = some false := by rw [exm_cc X_NoShare X_NotAlike, decide_eq_false (Ne.symm nAS)]
  have eSS : PySem.W.exmOne K (.ref CS) (.ref CS) = some true := by rw [exm_cc X_NoShare X_NoShare, decide_eq_true rfl]
  have ePA : PySem.W.exmOne K (.ref CP) (.ref CA) = some false := by rw [exm_cc X_NotShaped X_NotAlike, decide_eq_false (Ne.symm nAP)]
  have ePS : PySem.W.exmOne K (.ref CP) (.ref CS) = some false := by rw [exm_cc X_NotShaped X_NoShare, decide_eq_false (Ne.symm nSP)]
  have ePP : PySem.W.exmOne K (.ref CP) (.ref CP) = some true := by rw [exm_cc X_NotShaped X_NotShaped, decide_eq_true rfl]
  have kk : PySem.W.kitOne K (.ref Cc) (.ref Cc) = some true := by
    unfold PySem.W.kitOne
    rw [if_pos (beq_self_eq_true _)]
  refine ⟨fun v' H' => Same H H' ∧ ∃ p' W' v'', v' = .ref p' ∧ HouseAt Cc H' p' W' v'' ∧ (∀ H'', Same H' H'' → Q (.str "told") H''), fun v' H' h => ?_, ?_⟩
  · obtain ⟨s', p', W', v'', rfl, ⟨dp, ep⟩, q⟩ := h
    refine ⟨fun v9 H9 => v9 = .str "told" ∧ Same H' H9, fun v9 H9 h => ?_, ?_⟩
    · obtain ⟨rfl, s9⟩ := h
      exact ⟨_, rfl, q H9 s9⟩
    · refine ⟨_, rfl, _, .ref Cc, .ref Cc, .ref Cc, true, rfl, .own Cc, .base (.ins ep U.cl U.ha U.hn U.htk U.hm), kk, _, rfl, iteT ⟨rfl, Same.refl _⟩⟩
  obtain rfl | rfl : k = 0 ∨ k = 1 := by omega
  · refine ⟨_, rfl, rfl, _, rfl, ?_⟩
    rw [decide_eq_true (show V.int ((0 : Nat) : Int) = V.int 0 from rfl)]
    refine iteT ?_
    refine ⟨_, rfl, _, rfl, _, rfl, p, p2, W, W2, m, v, v2, sv, so, t, o, rfl, hp, hp2, hth, fun eW => ?_, fun eW er => ?_, fun eW er => ?_⟩
    · refine ⟨true, eAA, fun _ a ha => ?_, fun z => Bool.noConfusion z⟩
      refine ⟨_, rfl, CA, rfl, rfl, X_NotAlike.X.E, .ref HE, .ref HE, true, rfl, fun u h => h, kit_base X_NotAlike.X X_HouseError, true, rfl, iteT ?_⟩
      exact ⟨_, rfl, qA eW H (Same.refl _)⟩
    · refine ⟨false, eSA, fun z => Bool.noConfusion z, fun _ => ?_⟩
      refine ⟨true, eSS, fun _ a ha => ?_, fun z => Bool.noConfusion z⟩
      refine ⟨_, rfl, CS, rfl, rfl, X_NoShare.X.E, .ref HE, .ref HE, true, rfl, fun u h => h, kit_base X_NoShare.X X_HouseError, true, rfl, iteT ?_⟩
      exact ⟨_, rfl, qS eW er H (Same.refl _)⟩
    · obtain ⟨hv, hv2, hm, w5, w1, wst, wso, nrt, nro, ct, co, qP, qD⟩ := qT eW er
      obtain ⟨s, sok, ts⟩ := th_share hth po er
      exact ⟨s, sok, ts, hv, hv2, hm, w5, w1, wst, wso, nrt, nro, ct, co, fun p' v' H' s' h' t' => ⟨s', p', W, v', rfl, h', fun H'' s'' => qD (.inl rfl) H'' (s'.trans s'')⟩⟩
  · refine ⟨_, rfl, rfl, _, rfl, ?_⟩
    rw [decide_eq_false (show ¬ V.int ((1 : Nat) : Int) = V.int 0 from fun z => by have := V.int.inj z; omega)]
    refine iteF ?_
    refine ⟨_, rfl, _, rfl, _, rfl, p, p2, W, W2, m, v, v2, sv, so, t, o, rfl, hp, hp2, hth, fun eW => ?_, fun eW er => ?_, fun eW er => ?_⟩
    · refine ⟨true, eAA, fun _ a ha => ?_, fun z => Bool.noConfusion z⟩
      refine ⟨_, rfl, CA, rfl, rfl, X_NotAlike.X.E, .ref HE, .ref HE, true, rfl, fun u h => h, kit_base X_NotAlike.X X_HouseError, true, rfl, iteT ?_⟩
      exact ⟨_, rfl, qA eW H (Same.refl _)⟩
    · refine ⟨false, eSA, fun z => Bool.noConfusion z, fun _ => ?_⟩
      refine ⟨true, eSS, fun _ a ha => ?_, fun z => Bool.noConfusion z⟩
      refine ⟨_, rfl, CS, rfl, rfl, X_NoShare.X.E, .ref HE, .ref HE, true, rfl, fun u h => h, kit_base X_NoShare.X X_HouseError, true, rfl, iteT ?_⟩
      exact ⟨_, rfl, qS eW er H (Same.refl _)⟩
    · obtain ⟨hv, hv2, hm, w5, w1, wst, wso, nrt, nro, ct, co, qP, qD⟩ := qT eW er
      refine ⟨hv, hv2, hm, nrt, nro, fun hs H' s' => ?_, fun hs => ?_⟩
      · refine ⟨false, ePA, fun z => Bool.noConfusion z, fun _ => ?_⟩
        refine ⟨false, ePS, fun z => Bool.noConfusion z, fun _ => ?_⟩
        refine ⟨true, ePP, fun _ a ha => ?_, fun z => Bool.noConfusion z⟩
        refine ⟨_, rfl, CP, rfl, rfl, X_NotShaped.X.E, .ref HE, .ref HE, true, rfl, fun u h => h, kit_base X_NotShaped.X X_HouseError, true, rfl, iteT ?_⟩
        exact ⟨_, rfl, qP rfl hs H' s'⟩
      · obtain ⟨s, sok, ts⟩ := th_share hth po er
        exact ⟨s, sok, ts, w5, w1, wst, wso, ct, fun p' v' H' s' h' t' => ⟨s', p', W, v', rfl, h', fun H'' s'' => qD (.inr hs) H'' (s'.trans s'')⟩⟩
end
end Tl
/-! the law's own judges of tossed and of hidden -/
namespace Tl
open PySem PySem.Spec PyProof.Rows L2 RZ
theorem k_lst {X : Cx} {K : PySem.W.Frag} (h : X.K = K) {pos : Pos} {es : List Expr} {k : Nat} {t : TGs} {n : Nat} (hc : X.calm = true) (hp : PGs X es t) (hn : (assignEach es X.env).length = n := by rfl) (hst : (assignEach es X.env).findIdx? (·.1) = none := by rfl) : PG X (.Tuple es k pos) (gLst K n t) := by
  subst h
  exact pg_lst hc hp hn hst
/-- a tree that both judges walk over -/
structure TrA (K : PySem.W.Frag) (H : Hp) (W m : Nat) (v : V) (t : Nd m) : Prop where
  td : Td K H v (ndD m t)
  ws : WsAll W 6 m t
  nrw : Nrw m t
  nar : Nar m t
  few : cnt m t ≤ 1400
theorem TrA.keep {K : PySem.W.Frag} {H H' : Hp} {W m : Nat} {v : V} {t : Nd m} (h : TrA K H W m v t) (s : Same H H') : TrA K H' W m v t := ⟨h.td.keep (Same.kt s), h.ws, h.nrw, h.nar, h.few⟩
def spIT (K : PySem.W.Frag) (Cc : Addr) : Sp := fun vs H Q _ => ∃ (L p : Addr) (W m : Nat) (sv v1 v2 v : V) (s : Rat) (t o : Nd m), vs = [.int (W : Int), sv, .ref L, .ref p] ∧ H L = some (.lst [v1, v2]) ∧ HouseAt Cc H p W v ∧ Td K H v (ndD (m + 1) (toN W m s (rst s) t o)) ∧ Td K H sv (rD s) ∧ ShOk s ∧ TrA K H W m v1 t ∧ TrA K H W m v2 o ∧ m ≤ 8 ∧ 1 ≤ W ∧ W ≤ 5 ∧ ∀ H', Same H H' → Q (.bl true) H'
def spIH (K : PySem.W.Frag) (Cc : Addr) : Sp := fun vs H Q _ => ∃ (L p : Addr) (W m : Nat) (sv v1 v2 v : V) (s : Rat) (t o : Nd m), vs = [.int (W : Int), sv, .ref L, .ref p] ∧ H L = some (.lst [v1, v2]) ∧ HouseAt Cc H p W v ∧ Td K H v (ndD m (hiN s (rst s) m t o)) ∧ Td K H sv (rD s) ∧ ShOk s ∧ TrA K H W m v1 t ∧ TrA K H W m v2 o ∧ shB m t o = true ∧ m ≤ 8 ∧ 1 ≤ W ∧ W ≤ 5 ∧ ∀ H', Same H H' → Q (.bl true) H'
section
variable {P : Program} {w : World} {K : PySem.W.Frag} {mg : Str → Option Value} {base : Heap} {aN aO : Addr} {t1 t2 t3 t4 t5 t6 t7 : Tok}
theorem ok_law_is_tossed {f f1 f2 f3 f4 f5 : Addr} {fd fd1 fd2 fd3 fd4 fd5 : FuncData} {Cc fi fe : Addr} (D : Dn K mg "_law_is_tossed" s_law_is_tossed ["worlds", "share", "trees", "told"] f fd) (B : Blt mg) (C : Cst K mg aN aO t1 t2 t3 t4 t5 t6 t7) (U : Hcl K mg Cc fi fe)
    (D_law_low : Dn K mg "_law_low" s_law_low ["top", "bottom"] f1 fd1) (G_law_low : FnOk P w K mg base CX0 2 f1 fd1 ["top", "bottom"] (spLow K))
    (D_law_shape : Dn K mg "_law_shape" s_law_shape ["node"] f2 fd2) (G_law_shape : FnOk P w K mg base CX0 16 f2 fd2 ["node"] (anyS 12 (spShp K)))
    (D_law_paths : Dn K mg "_law_paths" s_law_paths ["node", "path"] f3 fd3) (G_law_paths : FnOk P w K mg base CX0 20 f3 fd3 ["node", "path"] (anyS 12 (spStd K (fun v p => [v, p]))))
    (D_law_walked : Dn K mg "_law_walked" s_law_walked ["worlds", "tree", "path"] f4 fd4) (G_law_walked : FnOk P w K mg base CX0 1 f4 fd4 ["worlds", "tree", "path"] (spWlk K))
    (D_law_times : Dn K mg "_law_times" s_law_times ["one", "other"] f5 fd5) (G_law_times : FnOk P w K mg base CX0 3 f5 fd5 ["one", "other"] (spTimes K)) : FnOk P w K mg base CX0 21 f fd ["worlds", "share", "trees", "told"] (spIT K Cc) := by
  refine D.F.ok sc_law_is_tossed (fun vs H Q E h => ?_) (fun cdv A outer s H vs Q E hr h => ?_)
  · obtain ⟨L, p, W, m, sv, v1, v2, v, s, t, o, rfl, _⟩ := h
    rfl
  obtain ⟨L, p, W, m, sv, v1, v2, v, s, t, o, rfl, hL, hp, hv, hs, sok, T1, T2, hm, w1, w5, q⟩ := h
  have nd := sc_law_is_tossed.nd
  refine ⟨_, (pss_cons (ps_set (i := 4) nd rfl (.inr rfl) (pe_lst (pa_cons (pv 1) (pa_cons (pe_call G_law_low (hr.mono (by omega)) (by rfl) D_law_low.m D_law_low.F.kp D_law_low.b .nil pass0 (pa_cons (pe_op op_sub (pe_ix (k_ixT (K := K) rfl) (pv 1) pe_int (fun _ _ => rfl)) (pe_ix (k_ixT (K := K) rfl) (pv 1) pe_int (fun _ _ => rfl))) (pa_cons (pe_ix (k_ixT (K := K) rfl) (pv 1) pe_int (fun _ _ => rfl)) pa_nil))) pa_nil))))
      (pss_cons (ps_if (PW.pt (pw_or (pt_cmpR op_ne (pe_callB (k_len (K := K) rfl) (by rfl) B.len PySem.boot_len (pa_cons (k_fld (K := K) rfl (pv 3) rfl) pa_nil)) pe_int (nomark _)) (pw_or1 (pt_cmpR (k_neD (K := K) rfl hr.units) (pe_lc (own := [("answer", 5)]) rfl nd (k_iT (K := K) rfl (pe_ix (k_ixT (K := K) rfl) (k_fld (K := K) rfl (pv 3) rfl) pe_int (fun _ _ => rfl))) (blkOk_by (own := [("answer", 5)]) (by kernel_rfl)) (fun _ _ _ _ _ => (pg_name (i := 5) nd rfl (.inl rfl))) (fun _ _ _ _ _ => pts_nil) (fun _ _ _ _ _ => (pe_ix (k_ixT (K := K) rfl) (pv 5) pe_int (fun _ _ => rfl)))) (pe_lst (pa_cons (pe_tup (pa_cons pe_int pa_nil)) (pa_cons (pe_tup (pa_cons pe_int pa_nil)) pa_nil))) (nomark _))))) (pss_one (ps_ret pe_bl)) pss_nil)
      (pss_cons (ps_for PassesOwn.never rfl (pi_range1 (by rfl) B.range (pa_cons pe_int pa_nil)) (pg_name (i := 6) nd rfl (.inr rfl)) (pss_cons (ps_set (i := 7) nd rfl (.inl rfl) (pe_ix (k_ixT (K := K) rfl) (pe_ix (k_ixT (K := K) rfl) (pe_ix (k_ixT (K := K) rfl) (k_fld (K := K) rfl (pv 3) rfl) pe_int (fun _ _ => rfl)) (pv 6) (fun _ _ => rfl)) pe_int (fun _ _ => rfl)))
      (pss_cons (ps_if (pt_cmpR (k_neD (K := K) rfl hr.units) (pe_call G_law_shape (hr.mono (by omega)) (by rfl) D_law_shape.m D_law_shape.F.kp D_law_shape.b .nil pass0 (pa_cons (pv 7) pa_nil)) (pe_call G_law_shape (hr.mono (by omega)) (by rfl) D_law_shape.m D_law_shape.F.kp D_law_shape.b .nil pass0 (pa_cons (pe_ix (k_ixL (K := K) rfl) (pv 2) (pv 6) (fun _ _ => rfl)) pa_nil)) (nomark _)) (pss_one (ps_ret pe_bl)) pss_nil)
      (pss_one (ps_for PassesOwn.never rfl (k_iL (K := K) rfl (pe_call G_law_paths (hr.mono (by omega)) (by rfl) D_law_paths.m D_law_paths.F.kp D_law_paths.b .nil pass0 (pa_cons (pe_ix (k_ixL (K := K) rfl) (pv 2) (pv 6) (fun _ _ => rfl)) (pa_cons (pe_tup pa_nil) pa_nil)))) (k_tup (K := K) (n := 2) rfl rfl (pgs_cons (pg_name (i := 8) nd rfl (.inl rfl)) (pgs_cons (pg_name (i := 9) nd rfl (.inl rfl)) pgs_nil))) (pss_cons (ps_set (i := 10) nd rfl (.inl rfl) (pe_callTy (k_tupOf (K := K) rfl) (by rfl) B.tuple (by decide +kernel) (pa_cons (pe_lc (own := [("one", 11)]) rfl nd (k_iT (K := K) rfl (pe_ix (k_ixT (K := K) rfl) (pe_call G_law_walked (hr.mono (by omega)) (by rfl) D_law_walked.m D_law_walked.F.kp D_law_walked.b .nil pass0 (pa_cons (pv 0) (pa_cons (pe_ix (k_ixL (K := K) rfl) (pv 2) (pv 6) (fun _ _ => rfl)) (pa_cons (pv 8) pa_nil)))) pe_int (fun _ _ => rfl))) (blkOk_by (own := [("one", 11)]) (by kernel_rfl)) (fun _ _ _ _ _ => (pg_name (i := 11) nd rfl (.inl rfl))) (fun _ _ _ _ _ => pts_nil) (fun _ _ _ _ _ => (pe_call G_law_times (hr.mono (by omega)) (by rfl) D_law_times.m D_law_times.F.kp D_law_times.b .nil pass0 (pa_cons (pe_ix (k_ixL (K := K) rfl) (pv 4) (pv 6) (fun _ _ => rfl)) (pa_cons (pv 11) pa_nil))))) pa_nil)))
      (pss_one (ps_if (pt_cmpR (k_neD (K := K) rfl hr.units) (pe_ix (k_ixT (K := K) rfl) (pe_call G_law_walked (hr.mono (by omega)) (by rfl) D_law_walked.m D_law_walked.F.kp D_law_walked.b .nil pass0 (pa_cons (pv 0) (pa_cons (k_fld (K := K) rfl (pv 3) rfl) (pa_cons (pe_op (k_cat (K := K) rfl) (pe_tup (pa_cons (pe_tup (pa_cons pe_int (pa_cons (pv 6) pa_nil))) pa_nil)) (pv 8)) pa_nil)))) pe_int (fun _ _ => rfl)) (pv 10) (nomark _)) (pss_one (ps_ret pe_bl)) pss_nil))))))))
      (pss_one (ps_ret (pe_cmpR op_eq (k_fld (K := K) rfl (pv 3) rfl) (pv 0) (nomark _))))))), ?_⟩
  obtain ⟨dp, ep⟩ := id hp
  obtain ⟨sa, rfl, hsa⟩ := hs.rE
  have hd : 0 < s.den := Nat.pos_of_ne_zero s.den_nz
  have i0 : atI [V.int s.num, .int (s.den : Int)] 0 = some (.int s.num) := at_of (j := 0) rfl rfl
  have i1 : atI [V.int s.num, .int (s.den : Int)] 1 = some (.int (s.den : Int)) := at_of (j := 1) rfl rfl
  -- parts
  refine ⟨_, rfl, _, rfl, sa, _, 1, _, rfl, rfl, hsa, i1, _, rfl, sa, _, 0, _, rfl, rfl, hsa, i0, _, _, rfl, rfl, _, rfl, sa, _, 1, _, rfl, rfl, hsa, i1, ?_⟩
  have dlt : s.den < 2 ^ 4000 := Nat.lt_trans (sok.ch.sm (by decide)).1 (Nat.pow_lt_pow_right (by decide) (by decide))
  refine ⟨(s.den : Int) - s.num, s.den, rfl, hd, dlt, fun rv H1 s1 tr => ?_⟩
  rw [← rst_mk] at tr
  refine ⟨by show 2 ≤ sizeLine; decide, fun PL nPL => ?_⟩
  have s2 := same_upd (o := .lst [.ref sa, rv]) nPL
  have hPL : (upd H1 PL (.lst [.ref sa, rv])) PL = some (.lst [.ref sa, rv]) := upd_same
  generalize upd H1 PL (.lst [.ref sa, rv]) = H2 at s2 hPL ⊢
  have s02 := s1.trans s2
  have k02 := Same.kt (K := K) s02
  have ep2 := s02 _ _ ep
  have hv2 := hv.keep k02
  have tr2 := tr.keep (Same.kt s2)
  have hs2 := hs.keep k02
  have T1' := T1.keep s02
  have T2' := T2.keep s02
  have hL2 := s02 _ _ hL
  obtain ⟨ta, xs, rfl, hta, tq⟩ := id hv2.tupE
  cases tq with
  | @cons x0 xs' _ _ hq0 tn =>
  cases tn
  obtain ⟨tb, ys, rfl, htb, ty⟩ := id hq0.tupE
  cases ty with
  | @cons y0 ys' _ _ hy0 tn =>
  cases tn with
  | @cons y1 ys' _ _ hy1 tn =>
  cases tn
  refine ⟨_, rfl, p, Cc, dp, _, _, rfl, ep2, U.cl, U.nt, hf_t _ _, ta, _, rfl, .inr hta, rfl, _, rfl, iteF ?_⟩
  refine ⟨_, rfl, p, Cc, dp, _, _, rfl, ep2, U.cl, U.nt, hf_t _ _, ta, _, 0, _, rfl, rfl, hta, at_of (j := 0) rfl rfl, tb, rfl, ⟨_, htb⟩, fun T hT => ?_⟩
  refine lc_td (K := K) (walk_tup (K := K) (a := tb) (xs := [y0, y1])) [wdD [0], wdD [1]] rfl (by show 2 ≤ 3000; decide) hT (fun H' s => Same.kt s _ _ htb) ?_ ?_
  · rintro i z e' H3 H4 Qy N hi s3 ⟨e3, g1⟩ hQ
    subst e3
    have pick : ∃ (c : Rat) (tt : Nd m) (k : Int), Td K H2 z (anD m (toA W m c tt k)) ∧ e' = wdD [k] := by
      cases i with
      | zero =>
        cases hi
        cases g1
        exact ⟨s, t, 0, hy0, rfl⟩
      | succ i =>
        cases i with
        | zero =>
          cases hi
          cases g1
          exact ⟨rst s, o, 1, hy1, rfl⟩
        | succ i => cases hi
    obtain ⟨c, tt, k, tz, rfl⟩ := pick
    obtain ⟨pn, v0, vw, vt, rfl, hpn, t0, tw, ttt⟩ := td_an (tz.keep (Same.kt s3))
    refine ⟨rfl, ?_⟩
    refine iteT (B := N H4) ?_
    exact ⟨_, rfl, pn, _, 0, _, rfl, rfl, hpn, at_of (j := 0) rfl rfl, hQ v0 H4 (Same.refl _) t0⟩
  intro H3 ws h3 t3 s3
  refine ⟨by show 1 ≤ sizeLine; decide, fun q1 n1 => ⟨by show 1 ≤ sizeLine; decide, fun q2 n2 => ⟨by show 2 ≤ sizeLine; decide, fun L3 n3 => ?_⟩⟩⟩
  have s4 := same_upd (o := .tup [.int 0]) n1
  have s5 := same_upd (o := .tup [.int 1]) n2
  have s6 := same_upd (o := .lst [.ref q1, .ref q2]) n3
  have s36 := s4.trans (s5.trans s6)
  have d1 : Td K (upd (upd (upd H3 q1 (.tup [.int 0])) q2 (.tup [.int 1])) L3 (.lst [.ref q1, .ref q2])) (.ref q1) (wdD [0]) := .tup (Same.kt (s5.trans s6) _ _ (.inl (.inl upd_same))) (tdAll_ints [0])
  have d2 : Td K (upd (upd (upd H3 q1 (.tup [.int 0])) q2 (.tup [.int 1])) L3 (.lst [.ref q1, .ref q2])) (.ref q2) (wdD [1]) := .tup (Same.kt s6 _ _ (.inl (.inl upd_same))) (tdAll_ints [1])
  have gw : Good 2 (.list [wdD [0], wdD [1]]) := good_lst fun x hx => by
    rcases List.mem_cons.mp hx with rfl | hx
    · exact good_wdD _
    · rw [List.mem_singleton.mp hx]
      exact good_wdD _
  refine ⟨_, _, .lst (SqL.of (s36 _ _ h3)) (t3.keep (Same.kt s36)).dp, .lst (SqL.of upd_same) (.cons d1.dp (.cons d2.dp .nil)), gw.shaped (by decide), gw.shaped (by decide), _, rfl, ?_⟩
  rw [gw.refl]
  refine iteF ?_
  generalize upd (upd (upd H3 q1 (.tup [.int 0])) q2 (.tup [.int 1])) L3 (.lst [.ref q1, .ref q2]) = H6 at s36 ⊢
  have s26 := s3.trans s36
  clear d1 d2 s4 s5 s6 n1 n2 n3 h3 t3 gw s36 s3
  have k26 := Same.kt (K := K) s26
  -- the sides
  have pick : ∀ i : Nat, i < 2 → ∃ (c : Rat) (tt : Nd m) (pv vi yv : V), [V.ref sa, rv][i]? = some pv ∧ [v1, v2][i]? = some vi ∧ [y0, y1][i]? = some yv ∧ Td K H6 pv (rD c) ∧ Ch 10 c ∧ TrA K H6 W m vi tt ∧ Td K H6 yv (anD m (toA W m c tt (i : Int))) ∧
      ∀ {pp : List (Nat × Nat)} {k : Nat} {t' : Nd k} {w' : List Rat}, Wk m tt (ones W) pp k t' w' → Wk (m + 1) (toN W m s (rst s) t o) (ones W) ((0, i) :: pp) k (scN c k t') (scW c w') := by
    intro i hi
    cases i with
    | zero => exact ⟨s, t, .ref sa, v1, y0, rfl, rfl, rfl, hs2.keep k26, sok.ch, T1'.keep s26, hy0.keep k26, fun h => wk_to0 h⟩
    | succ i =>
      obtain rfl : i = 0 := by omega
      exact ⟨rst s, o, rv, v2, y1, rfl, rfl, rfl, tr2.keep k26, sok.rest, T2'.keep s26, hy1.keep k26, fun h => wk_to1 h⟩
  have ep6 := s26 _ _ ep2
  have hL6 := s26 _ _ hL2
  have hPL6 := s26 _ _ hPL
  have hta6 := k26 _ _ hta
  have htb6 := k26 _ _ htb
  have hv6 := hv2.keep k26
  have q6 : ∀ H', Same H6 H' → Q (.bl true) H' := fun H' s' => q H' (s02.trans (s26.trans s'))
  clear T1' T2' hs2 tr2 hv2 hta htb hPL hL2 ep2 hq0 hy0 hy1 hT
  refine ⟨2, rfl, by decide, by decide, for_range (lo := 0) (n := 2) (fun i σ H7 => ∃ (o5 o6 o7 o8 o9 o10 o11 : Option V), σ = [some (.int (W : Int)), some (.ref sa), some (.ref L), some (.ref p), some (.ref PL), o5, o6, o7, o8, o9, o10, o11] ∧ Same H6 H7) ⟨_, _, _, _, _, _, _, rfl, Same.refl _⟩ ?_ ?_⟩
  · rintro i σ H7 hi ⟨o5, o6, o7, o8, o9, o10, o11, rfl, s7⟩
    show gName 6 (V.int (0 + (i : Int))) _ _ _
    rw [Int.zero_add]
    obtain ⟨c, tt, pv, vi, yv, ei, ej, ek, tp, ch, TT, ty, wkt⟩ := pick i hi
    have k7 := Same.kt (K := K) s7
    obtain ⟨pn, w0, ww, wt, rfl, hpn, tw0, tww, twt⟩ := td_an (ty.keep k7)
    have TT7 := TT.keep s7
    have twt7 : Td K H7 wt (ndD m (scN c m tt)) := twt
    -- behind
    refine ⟨_, rfl, p, Cc, dp, _, _, rfl, s7 _ _ ep6, U.cl, U.nt, hf_t _ _, ta, _, 0, _, rfl, rfl, k7 _ _ hta6, at_of (j := 0) rfl rfl, _, rfl, tb, _, (i : Int), _, rfl, rfl, k7 _ _ htb6, at_of (j := i) rfl ek, pn, _, 2, _, rfl, rfl, hpn, at_of (j := 2) rfl rfl, ?_⟩
    refine ⟨_, rfl, m, by omega, wt, scN c m tt, rfl, twt7, TT.nrw.sc, fun v8 H8 s8 dl8 => ?_⟩
    have s78 := s7.trans s8
    refine ⟨_, rfl, _, rfl, L, _, (i : Int), vi, rfl, rfl, SqL.of (s78 _ _ hL6), at_of (j := i) rfl ej, m, by omega, vi, tt, rfl, (TT.keep s78).td, TT.nrw, fun v9 H9 s9 dl9 => ?_⟩
    have dl8' : Dl K (fun a => H7 a = none) H9 v8 (shD m (scN c m tt)) := dl8.keep (Same.kt s9) (fun b o z _ => s9 _ _ z) fun b o z n => n
    have gs := good_sh m tt
    rw [sh_sc] at dl8'
    refine ⟨_, _, dl8'.dp, dl9.dp, gs.shaped (by omega), gs.shaped (by omega), _, rfl, ?_⟩
    rw [gs.refl]
    refine iteF ?_
    have s69 := s78.trans s9
    clear dl8 dl9 dl8' twt7 twt gs
    refine ⟨_, rfl, _, rfl, L, _, (i : Int), vi, rfl, rfl, SqL.of (s69 _ _ hL6), at_of (j := i) rfl ej, by show 0 ≤ sizeLine; decide, fun p0 n0 => ?_⟩
    have s10 := same_upd (o := .tup []) n0
    have s610 := s69.trans s10
    refine ⟨m, by omega, .ref p0, vi, [], tt, ones W, rfl, (TT.keep s610).td, .tup (.inl (.inl upd_same)) .nil, by show 0 + m ≤ 40; omega, by have := TT.few; omega, TT.nar, fun Lp us H11 s11 nL hLp i11 => ?_⟩
    have s611 := s610.trans s11
    have hPL11 := s611 _ _ hPL6
    have hL11 := s611 _ _ hL6
    have tp11 := tp.keep (Same.kt s611)
    have TT11 := TT.keep s611
    have ep11 := s611 _ _ ep6
    have hv11 := hv6.keep (Same.kt s611)
    refine ⟨Lp, rfl, ⟨_, SqL.of hLp⟩, for_list (K := K) (a := Lp) (xs := us) (fun j σ H12 => ∃ (o5 o8 o9 o10 o11 : Option V), σ = [some (.int (W : Int)), some (.ref sa), some (.ref L), some (.ref p), some (.ref PL), o5, some (.int (i : Int)), some wt, o8, o9, o10, o11] ∧ Same H11 H12) ⟨_, _, _, _, _, rfl, Same.refl _⟩ (fun j σ H12 _ h => ?_) ?_ ?_⟩
    · obtain ⟨_, _, _, _, _, _, s12⟩ := h
      exact SqL.of (s12 _ _ hLp)
    · rintro j x σ H12 hj ⟨o5, o8, o9, o10, o11, rfl, s12⟩
      obtain ⟨l, el⟩ : ∃ l, (lnsN m tt 0)[j]? = some l := ⟨_, List.getElem?_eq_getElem (by
        have z : us.length = (lnsN m tt 0).length := i11.1
        rw [← z]
        exact (List.getElem?_eq_some_iff.mp hj).1)⟩
      obtain ⟨a, pth, nv, pp, mf, tf, wf, rfl, ha, tpp, tn, wk, _⟩ := i11.2 j x l hj el
      have k12 := Same.kt (K := K) s12
      have tpp : Td K H12 pth (ptD pp) := tpp.keep k12
      obtain ⟨wsf, lwf, cwf⟩ := TT11.ws.walk wk (ones_len W) (fun r hr => ones_ch r hr)
      refine ⟨a, _, rfl, k12 _ _ ha, rfl, _, _, rfl, _, _, rfl, rfl, ?_⟩
      -- due
      refine ⟨_, rfl, _, rfl, _, rfl, L, _, (i : Int), vi, rfl, rfl, SqL.of (s12 _ _ hL11), at_of (j := i) rfl ej, _, rfl, W, m, tt, vi, pth, pp, mf, tf, wf, rfl, w1, w5, (TT11.keep s12).td, tpp, wk, fun r14 wv nv' H14 s14 hr14 twv tnv => ?_⟩
      refine ⟨r14, _, 0, wv, rfl, rfl, hr14, at_of (j := 0) rfl rfl, ?_⟩
      obtain ⟨wa, wxs, rfl, hwa, twx⟩ := twv.tupE
      have lwx : wxs.length = W := by rw [twx.len, List.length_map, lwf]
      have s1114 := s12.trans s14
      have k1114 := Same.kt (K := K) s1114
      refine ⟨wa, rfl, ⟨_, hwa⟩, fun T hT => ?_⟩
      refine lc_td (K := K) (walk_tup (K := K) (a := wa) (xs := wxs)) ((scW c wf).map rD) (by rw [List.length_map, scW_len, lwf, lwx]) (by omega) hT (fun H' s => Same.kt s _ _ hwa) ?_ ?_
      · rintro l z e' H15 H16 Qy N hl s15 ⟨e3, g1⟩ hQ
        subst e3
        obtain ⟨r1, e1, tr1⟩ := wsD_at' twx g1
        rw [List.getElem?_map, scW_at e1] at hl
        cases hl
        refine ⟨rfl, ?_⟩
        refine iteT (B := N H16) ?_
        have z1 := ll2000 (by decide) ch
        have z2 := ll2000 (by decide) (cwf r1 (List.mem_of_getElem? e1))
        exact ⟨_, rfl, _, rfl, PL, _, (i : Int), pv, rfl, rfl, SqL.of (s15 _ _ (s1114 _ _ hPL11)), at_of (j := i) rfl ei, _, rfl, pv, z, c, r1, rfl, tp11.keep (Same.kt (s1114.trans s15)), tr1.keep (Same.kt s15), z1.1, z2.1, z1.2, z2.2, fun v H4 s4 t4 => hQ v H4 s4 t4⟩
      intro H15 ws h15 t15 s15
      refine ⟨T, ws, rfl, SqL.of h15, fun dv H16 s16 q16 => ?_⟩
      have tdue : Td K H16 (.ref dv) (wsD (scW c wf)) := .tup q16 (t15.keep (Same.kt s16))
      have s1416 := s15.trans s16
      have s1116 := s1114.trans s1416
      have tpp16 := tpp.keep (Same.kt (s14.trans s1416))
      obtain ⟨pa, pxs, rfl, hpa, tpa⟩ := id tpp16.tupE
      have lpx : pxs.length = pp.length := by rw [tpa.len, List.length_map]
      have wln := wk.len
      -- walked
      refine ⟨_, rfl, _, rfl, p, Cc, dp, _, _, rfl, s1116 _ _ ep11, U.cl, U.nt, hf_t _ _, ?_⟩
      refine ⟨_, rfl, by show 2 ≤ sizeLine; decide, fun q1 n1 => ⟨by show 1 ≤ sizeLine; decide, fun q2 n2 => ?_⟩⟩
      have s17 := same_upd (o := .tup [.int 0, .int (i : Int)]) n1
      have s18 := same_upd (o := .tup [.ref q1]) n2
      have tq1 : Td K (upd (upd H16 q1 (.tup [.int 0, .int (i : Int)])) q2 (.tup [.ref q1])) (.ref q1) (.tuple [.int ((0 : Nat) : Int), .int (i : Int)]) := .tup (Same.kt s18 _ _ (.inl (.inl upd_same))) (.cons (.int _) (.cons (.int _) .nil))
      have hq2 : SqT K (upd (upd H16 q1 (.tup [.int 0, .int (i : Int)])) q2 (.tup [.ref q1])) q2 [.ref q1] := .inl (.inl upd_same)
      have s168 := s17.trans s18
      generalize upd (upd H16 q1 (.tup [.int 0, .int (i : Int)])) q2 (.tup [.ref q1]) = H18 at s168 tq1 hq2 ⊢
      refine ⟨_, rfl, q2, pa, _, _, rfl, rfl, hq2, Same.kt s168 _ _ hpa, by rw [lpx]; exact Nat.le_of_lt (small1000 (by simp; omega)), fun p3 H19 s19 q19 => ?_⟩
      have s1619 := s168.trans s19
      have s1119 := s1116.trans s1619
      have tpath : Td K H19 (.ref p3) (ptD ((0, i) :: pp)) := .tup q19 (.cons (tq1.keep (Same.kt s19)) (tpa.keep (Same.kt s1619)))
      refine ⟨W, m + 1, toN W m s (rst s) t o, .ref ta, .ref p3, (0, i) :: pp, mf, scN c mf tf, scW c wf, rfl, w1, w5, hv11.keep (Same.kt s1119), tpath, wkt wk, fun r20 wv2 nv2 H20 s20 hr20 twv2 tnv2 => ?_⟩
      refine ⟨r20, _, 0, wv2, rfl, rfl, hr20, at_of (j := 0) rfl rfl, _, rfl, ?_⟩
      refine ⟨_, _, twv2.dp, (tdue.keep (Same.kt (s1619.trans s20))).dp, (good_wsD _).shaped (by decide), (good_wsD _).shaped (by decide), _, rfl, ?_⟩
      rw [(good_wsD _).refl]
      refine iteF ?_
      exact ⟨_, _, _, _, _, rfl, s1119.trans s20⟩
    · rintro σ H12 ⟨o5, o8, o9, o10, o11, rfl, s12⟩
      exact ⟨o5, _, _, o8, o9, o10, o11, rfl, s611.trans s12⟩
  · rintro σ H7 ⟨o5, o6, o7, o8, o9, o10, o11, rfl, s7⟩
    refine ⟨_, rfl, p, Cc, dp, _, _, rfl, s7 _ _ ep6, U.cl, U.nw, hf_w _ _, _, rfl, rfl, ?_⟩
    rw [decide_eq_true rfl]
    exact q6 H7 s7
theorem ok_law_is_hidden {f f1 f2 f3 f4 f5 f6 : Addr} {fd fd1 fd2 fd3 fd4 fd5 fd6 : FuncData} {Cc fi fe : Addr} (D : Dn K mg "_law_is_hidden" s_law_is_hidden ["worlds", "share", "trees", "told"] f fd) (B : Blt mg) (C : Cst K mg aN aO t1 t2 t3 t4 t5 t6 t7) (U : Hcl K mg Cc fi fe)
    (D_law_low : Dn K mg "_law_low" s_law_low ["top", "bottom"] f1 fd1) (G_law_low : FnOk P w K mg base CX0 2 f1 fd1 ["top", "bottom"] (spLow K))
    (D_law_shape : Dn K mg "_law_shape" s_law_shape ["node"] f2 fd2) (G_law_shape : FnOk P w K mg base CX0 16 f2 fd2 ["node"] (anyS 12 (spShp K)))
    (D_law_paths : Dn K mg "_law_paths" s_law_paths ["node", "path"] f3 fd3) (G_law_paths : FnOk P w K mg base CX0 20 f3 fd3 ["node", "path"] (anyS 12 (spStd K (fun v p => [v, p]))))
    (D_law_walked : Dn K mg "_law_walked" s_law_walked ["worlds", "tree", "path"] f4 fd4) (G_law_walked : FnOk P w K mg base CX0 1 f4 fd4 ["worlds", "tree", "path"] (spWlk K))
    (D_law_times : Dn K mg "_law_times" s_law_times ["one", "other"] f5 fd5) (G_law_times : FnOk P w K mg base CX0 3 f5 fd5 ["one", "other"] (spTimes K))
    (D_law_plus : Dn K mg "_law_plus" s_law_plus ["one", "other"] f6 fd6) (G_law_plus : FnOk P w K mg base CX0 3 f6 fd6 ["one", "other"] (spPlus K)) : FnOk P w K mg base CX0 21 f fd ["worlds", "share", "trees", "told"] (spIH K Cc) := by
  refine D.F.ok sc_law_is_hidden (fun vs H Q E h => ?_) (fun cdv A outer s H vs Q E hr h => ?_)
  · obtain ⟨L, p, W, m, sv, v1, v2, v, s, t, o, rfl, _⟩ := h
    rfl
  obtain ⟨L, p, W, m, sv, v1, v2, v, s, t, o, rfl, hL, hp, hv, hs, sok, T1, T2, sh, hm, w1, w5, q⟩ := h
  have nd := sc_law_is_hidden.nd
  refine ⟨_, (pss_cons (ps_set (i := 4) nd rfl (.inr rfl) (pe_call G_law_low (hr.mono (by omega)) (by rfl) D_law_low.m D_law_low.F.kp D_law_low.b .nil pass0 (pa_cons (pe_op op_sub (pe_ix (k_ixT (K := K) rfl) (pv 1) pe_int (fun _ _ => rfl)) (pe_ix (k_ixT (K := K) rfl) (pv 1) pe_int (fun _ _ => rfl))) (pa_cons (pe_ix (k_ixT (K := K) rfl) (pv 1) pe_int (fun _ _ => rfl)) pa_nil))))
      (pss_cons (ps_if (PW.pt (pw_or (pt_cmpR op_ne (k_fld (K := K) rfl (pv 3) rfl) (pv 0) (nomark _)) (pw_or1 (pt_cmpR (k_neD (K := K) rfl hr.units) (pe_call G_law_shape (hr.mono (by omega)) (by rfl) D_law_shape.m D_law_shape.F.kp D_law_shape.b .nil pass0 (pa_cons (k_fld (K := K) rfl (pv 3) rfl) pa_nil)) (pe_call G_law_shape (hr.mono (by omega)) (by rfl) D_law_shape.m D_law_shape.F.kp D_law_shape.b .nil pass0 (pa_cons (pe_ix (k_ixL (K := K) rfl) (pv 2) pe_int (fun _ _ => rfl)) pa_nil)) (nomark _))))) (pss_one (ps_ret pe_bl)) pss_nil)
      (pss_cons (ps_for PassesOwn.never rfl (k_iL (K := K) rfl (pe_call G_law_paths (hr.mono (by omega)) (by rfl) D_law_paths.m D_law_paths.F.kp D_law_paths.b .nil pass0 (pa_cons (pe_ix (k_ixL (K := K) rfl) (pv 2) pe_int (fun _ _ => rfl)) (pa_cons (pe_tup pa_nil) pa_nil)))) (k_tup (K := K) (n := 2) rfl rfl (pgs_cons (pg_name (i := 5) nd rfl (.inr rfl)) (pgs_cons (pg_name (i := 6) nd rfl (.inl rfl)) pgs_nil))) (pss_cons (ps_asg (pe_lc (own := [("tree", 9)]) rfl nd (k_iL (K := K) rfl (pv 2)) (blkOk_by (own := [("tree", 9)]) (by kernel_rfl)) (fun _ _ _ _ _ => (pg_name (i := 9) nd rfl (.inl rfl))) (fun _ _ _ _ _ => pts_nil) (fun _ _ _ _ _ => (pe_ix (k_ixT (K := K) rfl) (pe_call G_law_walked (hr.mono (by omega)) (by rfl) D_law_walked.m D_law_walked.F.kp D_law_walked.b .nil pass0 (pa_cons (pv 0) (pa_cons (pv 9) (pa_cons (pv 5) pa_nil)))) pe_int (fun _ _ => rfl)))) (k_lst (K := K) (n := 2) rfl rfl (pgs_cons (pg_name (i := 7) nd rfl (.inl rfl)) (pgs_cons (pg_name (i := 8) nd rfl (.inl rfl)) pgs_nil))))
      (pss_cons (ps_setLc (i := 10) (own := [("one", 11), ("two", 12)]) rfl nd rfl rfl (sw_true rfl rfl rfl (by decide +kernel)) (k_zip (K := K) rfl (by rfl) B.zip (pa_cons (pv 7) (pa_cons (pv 8) pa_nil))) (blkOk_by (own := [("one", 11), ("two", 12)]) (by kernel_rfl)) (fun _ _ _ _ _ => (k_tup (K := K) (n := 2) rfl rfl (pgs_cons (pg_name (i := 11) nd rfl (.inl rfl)) (pgs_cons (pg_name (i := 12) nd rfl (.inl rfl)) pgs_nil)))) (fun _ _ _ _ _ => pts_nil) (fun _ _ _ _ _ => (pe_call G_law_plus (hr.mono (by omega)) (by rfl) D_law_plus.m D_law_plus.F.kp D_law_plus.b .nil pass0 (pa_cons (pe_call G_law_times (hr.mono (by omega)) (by rfl) D_law_times.m D_law_times.F.kp D_law_times.b .nil pass0 (pa_cons (pv 1) (pa_cons (pv 11) pa_nil))) (pa_cons (pe_call G_law_times (hr.mono (by omega)) (by rfl) D_law_times.m D_law_times.F.kp D_law_times.b .nil pass0 (pa_cons (pv 4) (pa_cons (pv 12) pa_nil))) pa_nil)))))
      (pss_one (ps_if (pt_cmpR (k_neD (K := K) rfl hr.units) (pe_ix (k_ixT (K := K) rfl) (pe_call G_law_walked (hr.mono (by omega)) (by rfl) D_law_walked.m D_law_walked.F.kp D_law_walked.b .nil pass0 (pa_cons (pv 0) (pa_cons (k_fld (K := K) rfl (pv 3) rfl) (pa_cons (pv 5) pa_nil)))) pe_int (fun _ _ => rfl)) (pe_callTy (k_tupOf (K := K) rfl) (by rfl) B.tuple (by decide +kernel) (pa_cons (pv 10) pa_nil)) (nomark _)) (pss_one (ps_ret pe_bl)) pss_nil)))))
      (pss_one (ps_ret pe_bl))))), ?_⟩
  obtain ⟨dp, ep⟩ := id hp
  obtain ⟨sa, rfl, hsa⟩ := hs.rE
  have hd : 0 < s.den := Nat.pos_of_ne_zero s.den_nz
  have i0 : atI [V.int s.num, .int (s.den : Int)] 0 = some (.int s.num) := at_of (j := 0) rfl rfl
  have i1 : atI [V.int s.num, .int (s.den : Int)] 1 = some (.int (s.den : Int)) := at_of (j := 1) rfl rfl
  refine ⟨_, rfl, sa, _, 1, _, rfl, rfl, hsa, i1, _, rfl, sa, _, 0, _, rfl, rfl, hsa, i0, _, _, rfl, rfl, _, rfl, sa, _, 1, _, rfl, rfl, hsa, i1, ?_⟩
  have dlt : s.den < 2 ^ 4000 := Nat.lt_trans (sok.ch.sm (by decide)).1 (Nat.pow_lt_pow_right (by decide) (by decide))
  refine ⟨(s.den : Int) - s.num, s.den, rfl, hd, dlt, fun rv H1 s1 tr => ?_⟩
  rw [← rst_mk] at tr
  obtain ⟨ra, rfl, hra⟩ := id tr.rE
  have ep1 := s1 _ _ ep
  refine ⟨_, rfl, p, Cc, dp, _, _, rfl, ep1, U.cl, U.nw, hf_w _ _, _, rfl, rfl, _, rfl, ?_⟩
  rw [decide_eq_true rfl]
  refine iteF ?_
  refine ⟨_, rfl, p, Cc, dp, _, _, rfl, ep1, U.cl, U.nt, hf_t _ _, m, by omega, v, hiN s (rst s) m t o, rfl, hv.keep (Same.kt s1), T1.nrw.hi, fun v2' H2 s2 dl2 => ?_⟩
  have s02 := s1.trans s2
  refine ⟨_, rfl, L, _, 0, v1, rfl, rfl, SqL.of (s02 _ _ hL), at_of (j := 0) rfl rfl, m, by omega, v1, t, rfl, (T1.keep s02).td, T1.nrw, fun v3 H3 s3 dl3 => ?_⟩
  have dl2' : Dl K (fun a => H1 a = none) H3 v2' (shD m (hiN s (rst s) m t o)) := dl2.keep (Same.kt s3) (fun b o z _ => s3 _ _ z) fun b o z n => n
  have gs := good_sh m t
  rw [sh_hi s (rst s) m t o sh] at dl2'
  refine ⟨_, _, dl2'.dp, dl3.dp, gs.shaped (by omega), gs.shaped (by omega), _, rfl, ?_⟩
  rw [gs.refl]
  refine iteF ?_
  have s03 := s02.trans s3
  have s13 := s2.trans s3
  clear dl2 dl2' dl3 gs
  refine ⟨_, rfl, L, _, 0, v1, rfl, rfl, SqL.of (s03 _ _ hL), at_of (j := 0) rfl rfl, by show 0 ≤ sizeLine; decide, fun p0 n0 => ?_⟩
  have s4 := same_upd (o := .tup []) n0
  have s04 := s03.trans s4
  refine ⟨m, by omega, .ref p0, v1, [], t, ones W, rfl, (T1.keep s04).td, .tup (.inl (.inl upd_same)) .nil, by show 0 + m ≤ 40; omega, by have := T1.few; omega, T1.nar, fun Lp us H5 s5 nL hLp i5 => ?_⟩
  have s05 := s04.trans s5
  have k05 := Same.kt (K := K) s05
  have hL5 := s05 _ _ hL
  have ep5 := s05 _ _ ep
  have T15 := T1.keep s05
  have T25 := T2.keep s05
  have hv5 := hv.keep k05
  have ts5 := hs.keep k05
  have tr5 := tr.keep (Same.kt (s13.trans (s4.trans s5)))
  refine ⟨Lp, rfl, ⟨_, SqL.of hLp⟩, for_list (K := K) (a := Lp) (xs := us) (fun j σ H6 => ∃ (o5 o6 o7 o8 o9 o10 o11 o12 : Option V), σ = [some (.int (W : Int)), some (.ref sa), some (.ref L), some (.ref p), some (.ref ra), o5, o6, o7, o8, o9, o10, o11, o12] ∧ Same H5 H6) ⟨_, _, _, _, _, _, _, _, rfl, Same.refl _⟩ (fun j σ H6 _ h => ?_) ?_ ?_⟩
  · obtain ⟨_, _, _, _, _, _, _, _, _, s6⟩ := h
    exact SqL.of (s6 _ _ hLp)
  · rintro j x σ H6 hj ⟨o5, o6, o7, o8, o9, o10, o11, o12, rfl, s6⟩
    obtain ⟨l, el⟩ : ∃ l, (lnsN m t 0)[j]? = some l := ⟨_, List.getElem?_eq_getElem (by
      have z : us.length = (lnsN m t 0).length := i5.1
      rw [← z]
      exact (List.getElem?_eq_some_iff.mp hj).1)⟩
    obtain ⟨a, pth, nv, pp, mf, tf, wf, rfl, ha, tpp, tn, wk, _⟩ := i5.2 j x l hj el
    have k6 := Same.kt (K := K) s6
    have tpp : Td K H6 pth (ptD pp) := tpp.keep k6
    obtain ⟨of, vf, wk2, sh2, wk3⟩ := Wk.hi (s := s) (r := rst s) wk (v := ones W) sh
    rw [hiW_ones W (rst_sum s)] at wk3
    obtain ⟨_, lwf, cwf⟩ := T15.ws.walk wk (ones_len W) (fun r hr => ones_ch r hr)
    obtain ⟨_, lvf, cvf⟩ := T25.ws.walk wk2 (ones_len W) (fun r hr => ones_ch r hr)
    refine ⟨a, _, rfl, k6 _ _ ha, rfl, _, _, rfl, _, _, rfl, rfl, ?_⟩
    -- first, second
    have hL6 := s6 _ _ hL5
    refine ⟨_, rfl, L, rfl, ⟨_, SqL.of hL6⟩, fun T hT => ?_⟩
    refine lc_td (K := K) (walk_list (K := K) (a := L) (xs := [v1, v2])) [wsD wf, wsD vf] rfl (by show 2 ≤ 3000; decide) hT (fun H' s => SqL.of (s _ _ hL6)) ?_ ?_
    · rintro i z e' H7 H8 Qy N hi s7 ⟨e3, g1⟩ hQ
      subst e3
      have pick : ∃ (tt : Nd m) (tf' : Nd mf) (wf' : List Rat), TrA K H5 W m z tt ∧ Wk m tt (ones W) pp mf tf' wf' ∧ e' = wsD wf' := by
        cases i with
        | zero =>
          cases hi
          cases g1
          exact ⟨t, tf, wf, T15, wk, rfl⟩
        | succ i =>
          cases i with
          | zero =>
            cases hi
            cases g1
            exact ⟨o, of, vf, T25, wk2, rfl⟩
          | succ i => cases hi
      obtain ⟨tt, tf', wf', TT, wk', rfl⟩ := pick
      refine ⟨rfl, ?_⟩
      refine iteT (B := N H8) ?_
      refine ⟨_, rfl, _, rfl, _, rfl, W, m, tt, z, pth, pp, mf, tf', wf', rfl, w1, w5, (TT.keep (s6.trans s7)).td, tpp.keep (Same.kt s7), wk', fun r wv nv' H9 s9 hr9 twv tnv => ?_⟩
      exact ⟨r, _, 0, wv, rfl, rfl, hr9, at_of (j := 0) rfl rfl, hQ wv H9 s9 twv⟩
    intro H7 ws h7 t7 s7
    cases t7 with
    | @cons f0 ws' _ _ tf0 t7 =>
    cases t7 with
    | @cons f1' ws' _ _ tf1 t7 =>
    cases t7
    refine ⟨T, _, rfl, SqL.of h7, rfl, _, _, rfl, _, _, rfl, rfl, ?_⟩
    obtain ⟨fa, fxs, rfl, hfa, tfx⟩ := id tf0.tupE
    obtain ⟨ga, gxs, rfl, hga, tgx⟩ := id tf1.tupE
    have lfx : fxs.length = W := by rw [tfx.len, List.length_map, lwf]
    have lgx : gxs.length = W := by rw [tgx.len, List.length_map, lvf]
    have s57 := s6.trans s7
    have k57 := Same.kt (K := K) s57
    refine ⟨_, rfl, _, rfl, fa, ga, fxs, gxs, rfl, .inr ⟨hfa, hga, fun T2 hT2 => ?_⟩⟩
    have lh : (hiW s (rst s) wf vf).length = W := addW_len (by rw [scW_len, lwf]) (by rw [scW_len, lvf])
    refine lc_td (K := K) (walk_zipT (K := K) (a := fa) (b := ga) (xs := fxs) (ys := gxs) (n := W) (by omega)) ((hiW s (rst s) wf vf).map rD) (by rw [List.length_map, lh]) (by omega) hT2 (fun H' s => ⟨Same.kt s _ _ hfa, Same.kt s _ _ hga⟩) ?_ ?_
    · rintro i z e' H8 H9 Qy N hi s8 ⟨T3, x', y', rfl, n3, rfl, g1, g2⟩ hQ
      have s9 : Same H8 (upd H8 T3 (.tup [x', y'])) := same_upd n3
      obtain ⟨r1, e1, tr1⟩ := wsD_at' tfx g1
      obtain ⟨r2, e2, tr2⟩ := wsD_at' tgx g2
      rw [List.getElem?_map] at hi
      unfold hiW at hi
      rw [addW_at (scW_at e1) (scW_at e2)] at hi
      cases hi
      have s79 := s8.trans s9
      have k79 := Same.kt (K := K) s79
      have k59 := k57.trans k79
      have tT3 : SqT K (upd H8 T3 (.tup [x', y'])) T3 [x', y'] := .inl (.inl upd_same)
      generalize upd H8 T3 (.tup [x', y']) = H9 at s9 s79 k79 k59 tT3 hQ ⊢
      refine ⟨T3, _, rfl, tT3, rfl, _, _, rfl, _, _, rfl, rfl, ?_⟩
      refine ⟨rfl, ?_⟩
      refine iteT (B := N H9) ?_
      have c1 := cwf r1 (List.mem_of_getElem? e1)
      have c2 := cvf r2 (List.mem_of_getElem? e2)
      have z0 := ll2000 (by decide) sok.ch
      have z1 := ll2000 (by decide) c1
      have z2 := ll2000 (by decide) sok.rest
      have z3 := ll2000 (by decide) c2
      refine ⟨_, rfl, _, rfl, .ref sa, x', s, r1, rfl, ts5.keep k59, tr1.keep k79, z0.1, z1.1, z0.2, z1.2, fun v10 H10 s10 t10 => ?_⟩
      have k10 := Same.kt (K := K) s10
      refine ⟨_, rfl, _, rfl, .ref ra, y', rst s, r2, rfl, tr5.keep (k59.trans k10), tr2.keep (k79.trans k10), z2.1, z3.1, z2.2, z3.2, fun v11 H11 s11 t11 => ?_⟩
      exact ⟨v10, v11, s * r1, rst s * r2, rfl, t10.keep (Same.kt s11), t11, (sok.ch.prod c1).sm (by decide), (sok.rest.prod c2).sm (by decide), fun v12 H12 s12 t12 => hQ v12 H12 (s9.trans (s10.trans (s11.trans s12))) t12⟩
    intro H8 ws h8 t8 s8
    have s58 := s57.trans s8
    have k58 := Same.kt (K := K) s58
    refine ⟨_, rfl, _, rfl, p, Cc, dp, _, _, rfl, s58 _ _ ep5, U.cl, U.nt, hf_t _ _, _, rfl, W, m, hiN s (rst s) m t o, v, pth, pp, mf, hiN s (rst s) mf tf of, hiW s (rst s) wf vf, rfl, w1, w5, hv5.keep k58, tpp.keep (Same.kt (s7.trans s8)), wk3, fun r9 wv nv' H9 s9 hr9 twv tnv => ?_⟩
    refine ⟨r9, _, 0, wv, rfl, rfl, hr9, at_of (j := 0) rfl rfl, ?_⟩
    refine ⟨_, rfl, T2, ws, rfl, SqL.of (s9 _ _ h8), fun dv H10 s10 q10 => ?_⟩
    have tdue : Td K H10 (.ref dv) (wsD (hiW s (rst s) wf vf)) := .tup q10 (t8.keep (Same.kt (s9.trans s10)))
    refine ⟨_, _, (twv.keep (Same.kt s10)).dp, tdue.dp, (good_wsD _).shaped (by decide), (good_wsD _).shaped (by decide), _, rfl, ?_⟩
    rw [(good_wsD _).refl]
    refine iteF ?_
    exact ⟨_, _, _, _, _, _, _, _, rfl, s58.trans (s9.trans s10)⟩
  · rintro σ H6 ⟨o5, o6, o7, o8, o9, o10, o11, o12, rfl, s6⟩
    exact q H6 (s05.trans s6)
end
end Tl
/-! the law -/
namespace Tl
open PySem PySem.Spec PyProof.Rows L2 RZ
/-- a statement whose ways lead to one state -/
def tJoin (t : TS) : TS := fun D σ H => ∃ R : L2.St → Hp → Prop, (∀ σ' H', R σ' H' → D.nx σ' H') ∧ t { nx := R, rt := D.rt, bk := D.bk, ct := D.ct } σ H
theorem ps_join {X : Cx} {st : Stmt} {t : TS} (h : PS X st t) : PS X st (tJoin t) := by
  refine ⟨fun pins s σ H D I h' => ?_⟩
  obtain ⟨R, hm, h'⟩ := h'
  refine wpAny_mono (h.run pins s σ H _ I h') (fun f s' z => ?_) fun _ _ x => x
  cases f with
  | ret u => exact z
  | next =>
    obtain ⟨σ', H', J, q⟩ := z
    exact ⟨σ', H', J, hm _ _ q⟩
  | brk => exact z
  | cont => exact z
/-- a drawn tree of the law -/
def Tr2 (K : PySem.W.Frag) (W : Nat) (H : Hp) (x : V) : Prop := ∃ t : Nd 2, Td K H x (ndD 2 t) ∧ NdOk W 2 (ones W) t ∧ cnt 2 t ≤ 30
theorem tr2_of {K : PySem.W.Frag} {W n : Nat} {H : Hp} {x : V} {t : Nd n} (hn : n ≤ 2) (h : Td K H x (ndD n t)) (ok : NdOk W n (ones W) t) (c : cnt n t ≤ 30) : Tr2 K W H x := by
  match n, hn, t, h, ok, c with
  | 0, _, t, h, ok, c =>
    refine ⟨emptyNd 2, ?_, ndOk_empty W 2 _, by rw [cnt_empty]; omega⟩
    rw [ndD_empty]
    exact h
  | 1, _, t, h, ok, c =>
    refine ⟨upN 1 (show List (Qn 0) from t), ?_, upN_ok ok, ?_⟩
    · have e := upN_D 1 (show List (Qn 0) from t)
      exact (congrArg (fun d => Td K H x d) e).mpr h
    · exact Nat.le_trans (Nat.le_of_eq (upN_cnt 1 (show List (Qn 0) from t))) c
  | 2, _, t, h, ok, c => exact ⟨t, h, ok, c⟩
/-- a thing that may be drawn as a share -/
def OdOk (K : PySem.W.Frag) (b g : Addr) (H : Hp) (v : V) : Prop := ∃ so, Th K H v so ∧ PairOk so ∧ ∀ a, v = .ref a → a ≠ b ∧ a ≠ g
theorem OdOk.keep {K : PySem.W.Frag} {b g : Addr} {H H' : Hp} {v : V} (B : Bag H b g) (f : Frm b g H H') (h : OdOk K b g H v) : OdOk K b g H' v := by
  obtain ⟨so, h, p, n⟩ := h
  refine ⟨so, ?_, p, n⟩
  have k := B.kt (K := K) f
  cases h with
  | pair h => exact .pair (k _ _ h)
  | tup h l => exact .tup (k _ _ h) l
  | lst h => exact .lst (f _ _ h (n _ rfl).1 (n _ rfl).2)
  | non => exact .non
  | bl b => exact .bl b
  | int i => exact .int i
  | str x => exact .str x
theorem od_pair {K : PySem.W.Frag} {b g p : Addr} {H : Hp} {x y : Int} (h : H p = some (.tup [.int x, .int y])) (pb : p ≠ b) (pg : p ≠ g) (ok : PairOk (some (x, y))) : OdOk K b g H (.ref p) := ⟨_, .pair (.inl (.inl h)), ok, fun a e => by cases e; exact ⟨pb, pg⟩⟩
theorem od_grow {K : PySem.W.Frag} {b g : Addr} {H H' : Hp} {l : List V} {y : V} (B : Bag H b g) (f : Frm b g H H') (h : ∀ x ∈ l, OdOk K b g H x) (hy : OdOk K b g H' y) : ∀ x ∈ l ++ [y], OdOk K b g H' x := fun x hx => by
  rcases List.mem_append.mp hx with hx | hx
  · exact (h x hx).keep B f
  · rw [List.mem_singleton.mp hx]
    exact hy
section
variable {P : Program} {w : World} {K : PySem.W.Frag} {mg : Str → Option Value} {base : Heap} {aN aO : Addr} {t1 t2 t3 t4 t5 t6 t7 : Tok}
theorem ok_law {Cc CA CS CP fi fe f f1 f2 f3 f4 f5 f6 f7 f8 f9 f10 f11 f12 f13 f14 : Addr} {fd fd1 fd2 fd3 fd4 fd5 fd6 fd7 fd8 fd9 fd10 fd11 fd12 fd13 fd14 fdi fde : FuncData} (D : Dn K mg "law" s_law ["script"] f fd) (B : Blt mg) (U : Hcl K mg Cc fi fe)
    (UN : PySem.W.findIn K (.ref Cc) "__ne__" = some (some (.builtin "object.__ne__")))
    (D_law_bag : Dn K mg "_law_bag" s_law_bag ["script"] f1 fd1) (G_law_bag : FnOk P w K mg base CX0 1 f1 fd1 ["script"] (spBag K)) (D_law_pick : Dn K mg "_law_pick" s_law_pick ["bag", "many"] f2 fd2) (G_law_pick : FnOk P w K mg base CX0 1 f2 fd2 ["bag", "many"] spPick)
    (D_law_tree : Dn K mg "_law_tree" s_law_tree ["bag", "worlds", "rounds", "answers"] f3 fd3) (G_law_tree : FnOk P w K mg base CX0 30 f3 fd3 ["bag", "worlds", "rounds", "answers"] (anyS 3 (spTree K)))
    (D_law_again : Dn K mg "_law_again" s_law_again ["bag", "worlds", "node", "ahead"] f4 fd4) (G_law_again : FnOk P w K mg base CX0 6 f4 fd4 ["bag", "worlds", "node", "ahead"] (spRW K 2))
    (D_law_deep : Dn K mg "_law_deep" s_law_deep ["bag"] f5 fd5) (G_law_deep : FnOk P w K mg base CX0 2 f5 fd5 ["bag"] (spDeep K))
    (D_law_some : Dn K mg "_law_some" s_law_some ["bag", "things"] f6 fd6) (G_law_some : FnOk P w K mg base CX0 2 f6 fd6 ["bag", "things"] spSome)
    (D_law_shape : Dn K mg "_law_shape" s_law_shape ["node"] f7 fd7) (G_law_shape : FnOk P w K mg base CX0 3 f7 fd7 ["node"] (spShp K 2))
    (D_is_shaped : Dn K mg "is_shaped" s_is_shaped ["house", "other"] f8 fd8) (G_is_shaped : FnOk P w K mg base CX0 20 f8 fd8 ["house", "other"] (spIs K Cc))
    (D_law_is_share : Dn K mg "_law_is_share" s_law_is_share ["thing"] f9 fd9) (G_law_is_share : FnOk P w K mg base CX0 2 f9 fd9 ["thing"] (spJS K))
    (D_law_word : Dn K mg "_law_word" s_law_word ["which", "share", "house", "other"] f10 fd10) (G_law_word : FnOk P w K mg base CX0 27 f10 fd10 ["which", "share", "house", "other"] (spWrd K Cc))
    (D_law_is_tossed : Dn K mg "_law_is_tossed" s_law_is_tossed ["worlds", "share", "trees", "told"] f11 fd11) (G_law_is_tossed : FnOk P w K mg base CX0 21 f11 fd11 ["worlds", "share", "trees", "told"] (spIT K Cc))
    (D_law_is_hidden : Dn K mg "_law_is_hidden" s_law_is_hidden ["worlds", "share", "trees", "told"] f12 fd12) (G_law_is_hidden : FnOk P w K mg base CX0 21 f12 fd12 ["worlds", "share", "trees", "told"] (spIH K Cc))
    (D_tossed : Dn K mg "tossed" s_tossed ["share", "house", "other"] f13 fd13) (G_tossed : FnOk P w K mg base (L2.CX P w) 26 f13 fd13 ["share", "house", "other"] (spTos K Cc CA CS))
    (D_hidden : Dn K mg "hidden" s_hidden ["share", "house", "other"] f14 fd14) (G_hidden : FnOk P w K mg base (L2.CX P w) 26 f14 fd14 ["share", "house", "other"] (spHid K Cc CA CS CP))
    (D_House_init : Dm K "__init__" "House.__init__" s_House_init ["self", "worlds", "tree"] fi fdi) (G_House_init : FnOk P w K mg base CX0 24 fi fdi ["self", "worlds", "tree"] (anyS 8 (spInit K Cc)))
    (D_House_eq : Dm K "__eq__" "House.__eq__" s_House_eq ["self", "other"] fe fde) (G_House_eq : FnOk P w K mg base CX0 1 fe fde ["self", "other"] (spEq (HEq2 K Cc))) : FnG P w K mg base CX0 32 f fd ["script"] (spTrue K) := by
  refine okG D.F sc_law (fun vs H Q E h => ?_) (fun cdv A outer s H vs Q E hr hgu h => ?_)
  · obtain ⟨a, ns, rfl, _⟩ := h
    rfl
  obtain ⟨a, ns, rfl, hs, h63, q⟩ := h
  have nd := sc_law.nd
  refine ⟨_, (pss_cons (ps_set (i := 1) nd rfl (.inl rfl) (pe_call G_law_bag (hr.mono (by omega)) (by rfl) D_law_bag.m D_law_bag.F.kp D_law_bag.b .nil pass0 (pa_cons (pv 0) pa_nil)))
      (pss_cons (ps_for PassesOwn.never rfl (pi_range1 (by rfl) B.range (pa_cons pe_int pa_nil)) (pg_name (i := 2) nd rfl (.inl rfl)) (pss_cons (ps_set (i := 3) nd rfl (.inl rfl) (pe_op op_add pe_int (pe_call G_law_pick (hr.mono (by omega)) (by rfl) D_law_pick.m D_law_pick.F.kp D_law_pick.b .nil pass0 (pa_cons (pv 1) (pa_cons pe_int pa_nil)))))
      (pss_cons (ps_set (i := 4) nd rfl (.inl rfl) (pe_ifExpE (pt_cmpR op_gt (pe_call G_law_pick (hr.mono (by omega)) (by rfl) D_law_pick.m D_law_pick.F.kp D_law_pick.b .nil pass0 (pa_cons (pv 1) (pa_cons pe_int pa_nil))) pe_int (nomark _)) (pe_call G_law_tree (hr.mono (by omega)) (by rfl) D_law_tree.m D_law_tree.F.kp D_law_tree.b .nil pass0 (pa_cons (pv 1) (pa_cons (pv 3) (pa_cons (pe_op op_add pe_int (pe_call G_law_pick (hr.mono (by omega)) (by rfl) D_law_pick.m D_law_pick.F.kp D_law_pick.b .nil pass0 (pa_cons (pv 1) (pa_cons pe_int pa_nil)))) (pa_cons pe_int pa_nil))))) (pe_tup pa_nil)))
      (pss_cons (ps_set (i := 5) nd rfl (.inl rfl) (pe_call G_law_again (hr.mono (by omega)) (by rfl) D_law_again.m D_law_again.F.kp D_law_again.b .nil pass0 (pa_cons (pv 1) (pa_cons (pv 3) (pa_cons (pv 4) (pa_cons (pe_op (k_rep (K := K) rfl) (pe_tup (pa_cons (pe_tup (pa_cons pe_int (pa_cons pe_int pa_nil))) pa_nil)) (pv 3)) pa_nil))))))
      (pss_cons (ps_join (ps_if (pt_cmpR op_eq (pe_call G_law_pick (hr.mono (by omega)) (by rfl) D_law_pick.m D_law_pick.F.kp D_law_pick.b .nil pass0 (pa_cons (pv 1) (pa_cons pe_int pa_nil))) pe_int (nomark _)) (pss_one (ps_set (i := 5) nd rfl (.inl rfl) (pe_call G_law_tree (hr.mono (by omega)) (by rfl) D_law_tree.m D_law_tree.F.kp D_law_tree.b .nil pass0 (pa_cons (pv 1) (pa_cons (pv 3) (pa_cons pe_int (pa_cons pe_int pa_nil))))))) pss_nil))
      (pss_cons (ps_set (i := 6) nd rfl (.inl rfl) (pe_lst (pa_cons (pe_tup (pa_cons pe_int (pa_cons pe_int pa_nil))) (pa_cons (pe_tup (pa_cons pe_int (pa_cons pe_int pa_nil))) (pa_cons (pe_tup (pa_cons pe_int (pa_cons pe_int pa_nil))) (pa_cons (pe_tup (pa_cons pe_int (pa_cons pe_int pa_nil))) (pa_cons (pe_tup (pa_cons (pe_un un_neg pe_int) (pa_cons pe_int pa_nil))) (pa_cons (pe_lst (pa_cons pe_int (pa_cons pe_int pa_nil))) (pa_cons pe_non (pa_cons pe_bl (pa_cons pe_int (pa_cons pe_str (pa_cons (pe_tup pa_nil) (pa_cons (pe_call G_law_deep (hr.mono (by omega)) (by rfl) D_law_deep.m D_law_deep.F.kp D_law_deep.b .nil pass0 (pa_cons (pv 1) pa_nil)) (pa_cons (pe_tup (pa_cons pe_int (pa_cons pe_int (pa_cons pe_int pa_nil)))) pa_nil)))))))))))))))
      (pss_cons (ps_set (i := 7) nd rfl (.inl rfl) (pe_lst (pa_cons (pe_tup (pa_cons pe_int (pa_cons pe_int pa_nil))) (pa_cons (pe_tup (pa_cons pe_int (pa_cons pe_int pa_nil))) (pa_cons (pe_tup (pa_cons pe_int (pa_cons pe_int pa_nil))) (pa_cons (pe_tup (pa_cons pe_int (pa_cons (pe_op op_pow pe_int pe_int) pa_nil))) (pa_cons (pe_tup (pa_cons pe_int (pa_cons pe_int pa_nil))) pa_nil)))))))
      (pss_cons (ps_set (i := 8) nd rfl (.inl rfl) (pe_ifExpE (pt_cmpR op_gt (pe_call G_law_pick (hr.mono (by omega)) (by rfl) D_law_pick.m D_law_pick.F.kp D_law_pick.b .nil pass0 (pa_cons (pv 1) (pa_cons pe_int pa_nil))) pe_int (nomark _)) (pe_call G_law_some (hr.mono (by omega)) (by rfl) D_law_some.m D_law_some.F.kp D_law_some.b .nil pass0 (pa_cons (pv 1) (pa_cons (pv 7) pa_nil))) (pe_call G_law_some (hr.mono (by omega)) (by rfl) D_law_some.m D_law_some.F.kp D_law_some.b .nil pass0 (pa_cons (pv 1) (pa_cons (pv 6) pa_nil)))))
      (pss_cons (ps_par (i := 9) (j := 10) rfl nd rfl rfl (by decide) rfl rfl (pa_cons (pe_make U.mkH G_House_init (hr.mono (by omega)) (by rfl) U.gHouse D_House_init.b .nil pass0 (pa_cons (pv 3) (pa_cons (pv 4) pa_nil))) (pa_cons (pe_make U.mkH G_House_init (hr.mono (by omega)) (by rfl) U.gHouse D_House_init.b .nil pass0 (pa_cons (pv 3) (pa_cons (pv 5) pa_nil))) pa_nil)) (by rfl))
      (pss_cons (ps_set (i := 11) nd rfl (.inl rfl) (pe_cmpR (k_eqD (K := K) rfl hr.units) (pe_call G_law_shape (hr.mono (by omega)) (by rfl) D_law_shape.m D_law_shape.F.kp D_law_shape.b .nil pass0 (pa_cons (pv 4) pa_nil)) (pe_call G_law_shape (hr.mono (by omega)) (by rfl) D_law_shape.m D_law_shape.F.kp D_law_shape.b .nil pass0 (pa_cons (pv 5) pa_nil)) (nomark _)))
      (pss_cons (ps_if (PW.pt (pw_or (pt_cmpR op_ne (pe_call G_is_shaped (hr.mono (by omega)) (by rfl) D_is_shaped.m D_is_shaped.F.kp D_is_shaped.b .nil pass0 (pa_cons (pv 9) (pa_cons (pv 10) pa_nil))) (pv 11) (nomark _)) (pw_or1 (pt_cmpR op_notBl (pe_call G_is_shaped (hr.mono (by omega)) (by rfl) D_is_shaped.m D_is_shaped.F.kp D_is_shaped.b .nil pass0 (pa_cons (pv 9) (pa_cons (pe_make U.mkH G_House_init (hr.mono (by omega)) (by rfl) U.gHouse D_House_init.b .nil pass0 (pa_cons (pe_op op_add (pv 3) pe_int) (pa_cons (pe_tup pa_nil) pa_nil))) pa_nil))) pe_bl (nomark _))))) (pss_one (ps_ret pe_bl)) pss_nil)
      (pss_cons (ps_set (i := 12) nd rfl (.inl rfl) (pe_call G_law_is_share (hr.mono (by omega)) (by rfl) D_law_is_share.m D_law_is_share.F.kp D_law_is_share.b .nil pass0 (pa_cons (pv 8) pa_nil)))
      (pss_cons (ps_if (pt_cmpR op_ne (pe_call G_law_word (hr.mono (by omega)) (by rfl) D_law_word.m D_law_word.F.kp D_law_word.b .nil pass0 (pa_cons pe_int (pa_cons (pv 8) (pa_cons (pv 9) (pa_cons (pv 10) pa_nil))))) (pe_ifExpE (pt_val (pv 12)) pe_str pe_str) (nomark _)) (pss_one (ps_ret pe_bl)) pss_nil)
      (pss_cons (ps_if (pt_cmpR op_ne (pe_call G_law_word (hr.mono (by omega)) (by rfl) D_law_word.m D_law_word.F.kp D_law_word.b .nil pass0 (pa_cons pe_int (pa_cons (pv 8) (pa_cons (pv 9) (pa_cons (pv 10) pa_nil))))) (pe_ifExpE (pt_not (pt_val (pv 12))) pe_str (pe_ifExpE (pt_val (pv 11)) pe_str pe_str)) (nomark _)) (pss_one (ps_ret pe_bl)) pss_nil)
      (pss_cons (ps_join (ps_if (PW.pt (pw_and (pt_val (pv 12)) (pw_and1 (pt_not (pt_val (pe_call G_law_is_tossed (hr.mono (by omega)) (by rfl) D_law_is_tossed.m D_law_is_tossed.F.kp D_law_is_tossed.b .nil pass0 (pa_cons (pv 3) (pa_cons (pv 8) (pa_cons (pe_lst (pa_cons (pv 4) (pa_cons (pv 5) pa_nil))) (pa_cons (pe_call (E := E0) G_tossed (hr.mono (by omega)) (by rfl) D_tossed.m D_tossed.F.kp D_tossed.b .nil passL (pa_cons (pv 8) (pa_cons (pv 9) (pa_cons (pv 10) pa_nil)))) pa_nil)))))))))) (pss_one (ps_ret pe_bl)) pss_nil))
      (pss_cons (ps_join (ps_if (PW.pt (pw_and (pt_val (pv 12)) (pw_and (pt_val (pv 11)) (pw_and1 (pt_not (pt_val (pe_call G_law_is_hidden (hr.mono (by omega)) (by rfl) D_law_is_hidden.m D_law_is_hidden.F.kp D_law_is_hidden.b .nil pass0 (pa_cons (pv 3) (pa_cons (pv 8) (pa_cons (pe_lst (pa_cons (pv 4) (pa_cons (pv 5) pa_nil))) (pa_cons (pe_call (E := E0) G_hidden (hr.mono (by omega)) (by rfl) D_hidden.m D_hidden.F.kp D_hidden.b .nil passL (pa_cons (pv 8) (pa_cons (pv 9) (pa_cons (pv 10) pa_nil)))) pa_nil))))))))))) (pss_one (ps_ret pe_bl)) pss_nil))
      (pss_cons (ps_set (i := 13) nd rfl (.inl rfl) (pe_make U.mkH G_House_init (hr.mono (by omega)) (by rfl) U.gHouse D_House_init.b .nil pass0 (pa_cons (pe_op op_add (pv 3) pe_int) (pa_cons (pe_tup pa_nil) pa_nil))))
      (pss_cons (ps_for PassesOwn.never rfl (pi_range1 (by rfl) B.range (pa_cons pe_int pa_nil)) (pg_name (i := 14) nd rfl (.inl rfl)) (pss_one (ps_if (PW.pt (pw_or (pt_cmpR op_ne (pe_call G_law_word (hr.mono (by omega)) (by rfl) D_law_word.m D_law_word.F.kp D_law_word.b .nil pass0 (pa_cons (pv 14) (pa_cons (pv 8) (pa_cons (pv 9) (pa_cons (pv 13) pa_nil))))) pe_str (nomark _)) (pw_or1 (pt_cmpR op_ne (pe_call G_law_word (hr.mono (by omega)) (by rfl) D_law_word.m D_law_word.F.kp D_law_word.b .nil pass0 (pa_cons (pv 14) (pa_cons (pv 8) (pa_cons (pv 13) (pa_cons (pv 10) pa_nil))))) pe_str (nomark _))))) (pss_one (ps_ret pe_bl)) pss_nil)))
      (pss_one (ps_if (PW.pt (pw_or (pt_cmpR (op_neG (R := HEq2 K Cc) (E := E0) G_House_eq UN U.hm U.eq U.eqf D_House_eq.b pass0 (hr.mono (by omega))) (pv 9) (pe_make U.mkH G_House_init (hr.mono (by omega)) (by rfl) U.gHouse D_House_init.b .nil pass0 (pa_cons (pv 3) (pa_cons (pv 4) pa_nil))) (nomark _)) (pw_or1 (pt_cmpR (op_neG (R := HEq2 K Cc) (E := E0) G_House_eq UN U.hm U.eq U.eqf D_House_eq.b pass0 (hr.mono (by omega))) (pv 10) (pe_make U.mkH G_House_init (hr.mono (by omega)) (by rfl) U.gHouse D_House_init.b .nil pass0 (pa_cons (pv 3) (pa_cons (pv 5) pa_nil))) (nomark _))))) (pss_one (ps_ret pe_bl)) pss_nil))))))))))))))))))))
      (pss_one (ps_ret pe_bl)))), ?_⟩
  refine ⟨_, rfl, a, ns, rfl, hs, h63, fun b g H1 s1 B1 b0 g0 => ?_⟩
  refine ⟨4, rfl, by decide, by decide, for_range (lo := 0) (n := 4) (fun i σ H2 => Bag H2 b g ∧ ∃ o2 o3 o4 o5 o6 o7 o8 o9 o10 o11 o12 o13 o14 : Option V, σ = [some (.ref a), some (.ref b), o2, o3, o4, o5, o6, o7, o8, o9, o10, o11, o12, o13, o14]) ⟨B1, none, none, none, none, none, none, none, none, none, none, none, none, none, rfl⟩ ?_ ?_⟩
  · rintro i σ H2 hi ⟨B2, o2, o3, o4, o5, o6, o7, o8, o9, o10, o11, o12, o13, o14, rfl⟩
    refine ⟨_, rfl, b, g, 3, rfl, B2, by decide, by decide, fun r H3 r0 r1 B3 F3 => ⟨_, _, rfl, rfl, ?_⟩⟩
    obtain ⟨W, eW⟩ : ∃ W : Nat, 1 + r = (W : Int) := ⟨(1 + r).toNat, by omega⟩
    have w1 : 1 ≤ W := by omega
    have w3 : W ≤ 3 := by omega
    show gName 3 (V.int (1 + r)) _ _ _
    rw [eW]
    clear eW r0 r1 F3 B2
    -- first
    refine ⟨fun v H5 => Bag H5 b g ∧ Tr2 K W H5 v, fun v1 H4 h => ?_, ?_⟩
    · obtain ⟨B4, t, tv1, ok1, cn1⟩ := h
      -- second
      refine ⟨_, rfl, _, rfl, _, rfl, by show 2 ≤ sizeLine; decide, fun p1 n1 => ⟨by show 1 ≤ sizeLine; decide, fun p2 n2 => ?_⟩⟩
      have s2 : Same H4 (upd (upd H4 p1 (.tup [.int 1, .int 1])) p2 (.tup [.ref p1])) := (same_upd n1).trans (same_upd n2)
      refine ⟨_, rfl, p2, (W : Int), _, rfl, rfl, .inl (.inl upd_same), by simp, by omega, by omega, by simp, fun pa H5 s5 q5 => ?_⟩
      have tp1 : Td K H5 (.ref p1) (rD 1) := by
        rw [rD_one]
        exact .tup (Same.kt s5 _ _ (Same.kt (same_upd n2) _ _ (.inl (.inl upd_same)))) (tdAll_ints [1, 1])
      have ta : Td K H5 (.ref pa) (wsD (ones W)) := ones_td tp1 q5
      have s45 := s2.trans s5
      refine ⟨b, g, W, 0, v1, .ref pa, ones W, ones W, t, rfl, B4.keep s45, tv1.keep (Same.kt s45), ta, ones_len W, fun r hr => ones_ch r hr, by decide, ok1, w1, by omega, fun v2 t2 H6 tv2 ok2 sh2 B6 F6 => ?_⟩
      have tv1 := tv1.keep ((Same.kt s45).trans ((B4.keep s45).kt F6))
      have c2 : cnt 2 t2 ≤ 30 := by rw [← cnt_shp sh2]; exact cn1
      clear s2 s5 tp1 ta s45 n1 n2 q5 sh2 F6 B4
      -- if .. second = _law_tree
      refine ⟨fun σ' H' => Bag H' b g ∧ Td K H' v1 (ndD 2 t) ∧ ∃ v2 o2 o6 o7 o8 o9 o10 o11 o12 o13 o14, σ' = [some (.ref a), some (.ref b), o2, some (.int (W : Int)), some v1, some v2, o6, o7, o8, o9, o10, o11, o12, o13, o14] ∧ Tr2 K W H' v2, fun σ' H' h => ?_, ?_⟩
      · clear tv1 tv2 ok2 B6 c2 t2 v2
        obtain ⟨B7, tv1, v2, o2, o6, o7, o8, o9, o10, o11, o12, o13, o14, rfl, t2, tv2, ok2, cn2⟩ := h
        -- odd
        have od0 : ∀ x ∈ ([] : List V), OdOk K b g H' x := fun x h => absurd h List.not_mem_nil
        have F0 : Frm b g H' H' := Frm.refl b g H'
        refine ⟨by show 2 ≤ sizeLine; decide, fun p1 n1 => ?_⟩
        obtain ⟨pb1, pg1⟩ := B7.neNew n1
        have sA1 := same_upd (o := .tup [.int 1, .int 1]) n1
        have fA1 : Frm b g H' (upd H' p1 (.tup [.int 1, .int 1])) := .of sA1
        have od1 := od_grow B7 fA1 od0 (od_pair upd_same pb1 pg1 ⟨by decide, by decide, fun h1 h2 => by first | (exfalso; revert h1 h2; decide) | decide +kernel⟩)
        have BA1 := B7.keep sA1
        have FA1 := F0.trans fA1
        clear od0 F0 sA1
        generalize upd H' p1 (.tup [.int 1, .int 1]) = HA1 at fA1 od1 BA1 FA1 ⊢
        clear fA1 n1 pb1 pg1
        refine ⟨by show 2 ≤ sizeLine; decide, fun p2 n2 => ?_⟩
        obtain ⟨pb2, pg2⟩ := BA1.neNew n2
        have sA2 := same_upd (o := .tup [.int 0, .int 1]) n2
        have fA2 : Frm b g HA1 (upd HA1 p2 (.tup [.int 0, .int 1])) := .of sA2
        have od2 := od_grow BA1 fA2 od1 (od_pair upd_same pb2 pg2 ⟨by decide, by decide, fun h1 h2 => by first | (exfalso; revert h1 h2; decide) | decide +kernel⟩)
        have BA2 := BA1.keep sA2
        have FA2 := FA1.trans fA2
        clear od1 FA1 sA2
        generalize upd HA1 p2 (.tup [.int 0, .int 1]) = HA2 at fA2 od2 BA2 FA2 ⊢
        clear fA2 n2 pb2 pg2
        refine ⟨by show 2 ≤ sizeLine; decide, fun p3 n3 => ?_⟩
        obtain ⟨pb3, pg3⟩ := BA2.neNew n3
        have sA3 := same_upd (o := .tup [.int 3, .int 2]) n3
        have fA3 : Frm b g HA2 (upd HA2 p3 (.tup [.int 3, .int 2])) := .of sA3
        have od3 := od_grow BA2 fA3 od2 (od_pair upd_same pb3 pg3 ⟨by decide, by decide, fun h1 h2 => by first | (exfalso; revert h1 h2; decide) | decide +kernel⟩)
        have BA3 := BA2.keep sA3
        have FA3 := FA2.trans fA3
        clear od2 FA2 sA3
        generalize upd HA2 p3 (.tup [.int 3, .int 2]) = HA3 at fA3 od3 BA3 FA3 ⊢
        clear fA3 n3 pb3 pg3
        refine ⟨by show 2 ≤ sizeLine; decide, fun p4 n4 => ?_⟩
        obtain ⟨pb4, pg4⟩ := BA3.neNew n4
        have sA4 := same_upd (o := .tup [.int 2, .int 4]) n4
        have fA4 : Frm b g HA3 (upd HA3 p4 (.tup [.int 2, .int 4])) := .of sA4
        have od4 := od_grow BA3 fA4 od3 (od_pair upd_same pb4 pg4 ⟨by decide, by decide, fun h1 h2 => by first | (exfalso; revert h1 h2; decide) | decide +kernel⟩)
        have BA4 := BA3.keep sA4
        have FA4 := FA3.trans fA4
        clear od3 FA3 sA4
        generalize upd HA3 p4 (.tup [.int 2, .int 4]) = HA4 at fA4 od4 BA4 FA4 ⊢
        clear fA4 n4 pb4 pg4
        refine ⟨_, rfl, by show 2 ≤ sizeLine; decide, fun p5 n5 => ?_⟩
        obtain ⟨pb5, pg5⟩ := BA4.neNew n5
        have sA5 := same_upd (o := .tup [.int (-1), .int 2]) n5
        have fA5 : Frm b g HA4 (upd HA4 p5 (.tup [.int (-1), .int 2])) := .of sA5
        have od5 := od_grow BA4 fA5 od4 (od_pair upd_same pb5 pg5 ⟨by decide, by decide, fun h1 h2 => by first | (exfalso; revert h1 h2; decide) | decide +kernel⟩)
        have BA5 := BA4.keep sA5
        have FA5 := FA4.trans fA5
        clear od4 FA4 sA5
        generalize upd HA4 p5 (.tup [.int (-1), .int 2]) = HA5 at fA5 od5 BA5 FA5 ⊢
        clear fA5 n5 pb5 pg5
        refine ⟨by show 2 ≤ sizeLine; decide, fun p6 n6 => ?_⟩
        obtain ⟨pb6, pg6⟩ := BA5.neNew n6
        have sA6 := same_upd (o := .lst [.int 1, .int 2]) n6
        have fA6 : Frm b g HA5 (upd HA5 p6 (.lst [.int 1, .int 2])) := .of sA6
        have od6 := od_grow BA5 fA6 od5 ⟨none, .lst upd_same, trivial, fun a e => by cases e; exact ⟨pb6, pg6⟩⟩
        have BA6 := BA5.keep sA6
        have FA6 := FA5.trans fA6
        clear od5 FA5 sA6
        generalize upd HA5 p6 (.lst [.int 1, .int 2]) = HA6 at fA6 od6 BA6 FA6 ⊢
        clear fA6 n6 pb6 pg6
        have odv : ∀ x ∈ ([V.ref p1, .ref p2, .ref p3, .ref p4, .ref p5, .ref p6, .non, .bl true, .int 1, .str "1/2"] : List V), OdOk K b g HA6 x := fun x hx => by
          simp only [List.mem_cons, List.not_mem_nil, or_false] at hx
          rcases hx with rfl | rfl | rfl | rfl | rfl | rfl | rfl | rfl | rfl | rfl
          · exact od6 _ (by simp)
          · exact od6 _ (by simp)
          · exact od6 _ (by simp)
          · exact od6 _ (by simp)
          · exact od6 _ (by simp)
          · exact od6 _ (by simp)
          · exact ⟨none, .non, trivial, fun a e => by cases e⟩
          · exact ⟨none, .bl _, trivial, fun a e => by cases e⟩
          · exact ⟨none, .int _, trivial, fun a e => by cases e⟩
          · exact ⟨none, .str _, trivial, fun a e => by cases e⟩
        clear od6
        have od6 := odv
        clear odv
        refine ⟨by show 0 ≤ sizeLine; decide, fun p7 n7 => ?_⟩
        obtain ⟨pb7, pg7⟩ := BA6.neNew n7
        have sA7 := same_upd (o := .tup []) n7
        have fA7 : Frm b g HA6 (upd HA6 p7 (.tup [])) := .of sA7
        have od7 := od_grow BA6 fA7 od6 ⟨none, .tup (.inl (.inl upd_same)) (by simp), trivial, fun a e => by cases e; exact ⟨pb7, pg7⟩⟩
        have BA7 := BA6.keep sA7
        have FA7 := FA6.trans fA7
        clear od6 FA6 sA7
        generalize upd HA6 p7 (.tup []) = HA7 at fA7 od7 BA7 FA7 ⊢
        clear fA7 n7 pb7 pg7
        refine ⟨_, rfl, b, g, rfl, BA7, fun dv HD ov BD FD => ?_⟩
        have odD := od_grow BA7 FD od7 (y := dv) ⟨none, ov.th, trivial, fun a e => by
          obtain ⟨a', x, e', n1, n2, _⟩ := ov
          rw [e] at e'
          cases e'
          exact ⟨n1, n2⟩⟩
        have FAD := FA7.trans FD
        clear od7 FA7 ov FD
        refine ⟨by show 3 ≤ sizeLine; decide, fun p8 n8 => ?_⟩
        obtain ⟨pb8, pg8⟩ := BD.neNew n8
        have sA8 := same_upd (o := .tup [.int 1, .int 2, .int 3]) n8
        have fA8 : Frm b g HD (upd HD p8 (.tup [.int 1, .int 2, .int 3])) := .of sA8
        have od8 := od_grow BD fA8 odD ⟨none, .tup (.inl (.inl upd_same)) (by simp), trivial, fun a e => by cases e; exact ⟨pb8, pg8⟩⟩
        have BA8 := BD.keep sA8
        have FA8 := FAD.trans fA8
        clear odD FAD sA8
        generalize upd HD p8 (.tup [.int 1, .int 2, .int 3]) = HA8 at fA8 od8 BA8 FA8 ⊢
        clear fA8 n8 pb8 pg8
        refine ⟨by show 13 ≤ sizeLine; decide, fun lo nlo => ?_⟩
        obtain ⟨lob, log⟩ := BA8.neNew nlo
        have sL := same_upd (o := .lst [.ref p1, .ref p2, .ref p3, .ref p4, .ref p5, .ref p6, .non, .bl true, .int 1, .str "1/2", .ref p7, dv, .ref p8]) nlo
        have hlo : (upd HA8 lo (.lst [.ref p1, .ref p2, .ref p3, .ref p4, .ref p5, .ref p6, .non, .bl true, .int 1, .str "1/2", .ref p7, dv, .ref p8])) lo = some (.lst [.ref p1, .ref p2, .ref p3, .ref p4, .ref p5, .ref p6, .non, .bl true, .int 1, .str "1/2", .ref p7, dv, .ref p8]) := upd_same
        have BL := BA8.keep sL
        have FL := FA8.trans (.of sL)
        have odl : ∀ x ∈ ([.ref p1, .ref p2, .ref p3, .ref p4, .ref p5, .ref p6, .non, .bl true, .int 1, .str "1/2", .ref p7, dv, .ref p8] : List V), OdOk K b g (upd HA8 lo (.lst [.ref p1, .ref p2, .ref p3, .ref p4, .ref p5, .ref p6, .non, .bl true, .int 1, .str "1/2", .ref p7, dv, .ref p8])) x := fun x hx => (od8 x hx).keep BA8 (.of sL)
        generalize upd HA8 lo (.lst [.ref p1, .ref p2, .ref p3, .ref p4, .ref p5, .ref p6, .non, .bl true, .int 1, .str "1/2", .ref p7, dv, .ref p8]) = HL at hlo BL FL odl ⊢
        clear od8 BA8 FA8 nlo sL
        have odl : ∀ x ∈ ([.ref p1, .ref p2, .ref p3, .ref p4, .ref p5, .ref p6, .non, .bl true, .int 1, .str "1/2", .ref p7, dv, .ref p8] : List V), OdOk K b g HL x := odl
        have q0 : ∀ x ∈ ([] : List V), OdOk K b g HL x := fun x h => absurd h List.not_mem_nil
        have G0 : Frm b g HL HL := Frm.refl b g HL
        refine ⟨by show 2 ≤ sizeLine; decide, fun y1 m1 => ?_⟩
        obtain ⟨qb1, qg1⟩ := BL.neNew m1
        have sB1 := same_upd (o := .tup [.int 1, .int 2]) m1
        have fB1 : Frm b g HL (upd HL y1 (.tup [.int 1, .int 2])) := .of sB1
        have q1 := od_grow BL fB1 q0 (od_pair upd_same qb1 qg1 ⟨by decide, by decide, fun h1 h2 => by decide +kernel⟩)
        have BB1 := BL.keep sB1
        have G1 := G0.trans fB1
        clear q0 G0 sB1
        generalize upd HL y1 (.tup [.int 1, .int 2]) = HB1 at fB1 q1 BB1 G1 ⊢
        clear fB1 m1 qb1 qg1
        refine ⟨by show 2 ≤ sizeLine; decide, fun y2 m2 => ?_⟩
        obtain ⟨qb2, qg2⟩ := BB1.neNew m2
        have sB2 := same_upd (o := .tup [.int 1, .int 3]) m2
        have fB2 : Frm b g HB1 (upd HB1 y2 (.tup [.int 1, .int 3])) := .of sB2
        have q2 := od_grow BB1 fB2 q1 (od_pair upd_same qb2 qg2 ⟨by decide, by decide, fun h1 h2 => by decide +kernel⟩)
        have BB2 := BB1.keep sB2
        have G2 := G1.trans fB2
        clear q1 G1 sB2
        generalize upd HB1 y2 (.tup [.int 1, .int 3]) = HB2 at fB2 q2 BB2 G2 ⊢
        clear fB2 m2 qb2 qg2
        refine ⟨by show 2 ≤ sizeLine; decide, fun y3 m3 => ?_⟩
        obtain ⟨qb3, qg3⟩ := BB2.neNew m3
        have sB3 := same_upd (o := .tup [.int 99, .int 100]) m3
        have fB3 : Frm b g HB2 (upd HB2 y3 (.tup [.int 99, .int 100])) := .of sB3
        have q3 := od_grow BB2 fB3 q2 (od_pair upd_same qb3 qg3 ⟨by decide, by decide, fun h1 h2 => by decide +kernel⟩)
        have BB3 := BB2.keep sB3
        have G3 := G2.trans fB3
        clear q2 G2 sB3
        generalize upd HB2 y3 (.tup [.int 99, .int 100]) = HB3 at fB3 q3 BB3 G3 ⊢
        clear fB3 m3 qb3 qg3
        refine ⟨_, _, rfl, rfl, ⟨by decide, by decide, by decide⟩, by show 2 ≤ sizeLine; decide, fun y4 m4 => ?_⟩
        obtain ⟨qb4, qg4⟩ := BB3.neNew m4
        have sB4 := same_upd (o := .tup [.int 1, (fun (i j : Int) => V.int (i ^ j.toNat)) 10 20]) m4
        have fB4 : Frm b g HB3 (upd HB3 y4 (.tup [.int 1, (fun (i j : Int) => V.int (i ^ j.toNat)) 10 20])) := .of sB4
        have q4 := od_grow BB3 fB4 q3 (od_pair (x := 1) (y := 10 ^ 20) upd_same qb4 qg4 ⟨by decide, by decide, fun h1 h2 => by decide +kernel⟩)
        have BB4 := BB3.keep sB4
        have G4 := G3.trans fB4
        clear q3 G3 sB4
        generalize upd HB3 y4 (.tup [.int 1, (fun (i j : Int) => V.int (i ^ j.toNat)) 10 20]) = HB4 at fB4 q4 BB4 G4 ⊢
        clear fB4 m4 qb4 qg4
        refine ⟨by show 2 ≤ sizeLine; decide, fun y5 m5 => ?_⟩
        obtain ⟨qb5, qg5⟩ := BB4.neNew m5
        have sB5 := same_upd (o := .tup [.int 2, .int 5]) m5
        have fB5 : Frm b g HB4 (upd HB4 y5 (.tup [.int 2, .int 5])) := .of sB5
        have q5 := od_grow BB4 fB5 q4 (od_pair upd_same qb5 qg5 ⟨by decide, by decide, fun h1 h2 => by decide +kernel⟩)
        have BB5 := BB4.keep sB5
        have G5 := G4.trans fB5
        clear q4 G4 sB5
        generalize upd HB4 y5 (.tup [.int 2, .int 5]) = HB5 at fB5 q5 BB5 G5 ⊢
        clear fB5 m5 qb5 qg5
        refine ⟨by show 5 ≤ sizeLine; decide, fun ls nls => ?_⟩
        obtain ⟨lsb, lsg⟩ := BB5.neNew nls
        have sM := same_upd (o := .lst [.ref y1, .ref y2, .ref y3, .ref y4, .ref y5]) nls
        have hls : (upd HB5 ls (.lst [.ref y1, .ref y2, .ref y3, .ref y4, .ref y5])) ls = some (.lst [.ref y1, .ref y2, .ref y3, .ref y4, .ref y5]) := upd_same
        have hlo := sM _ _ (G5 _ _ hlo lob log)
        have odl := fun x hx => ((odl x hx).keep BL G5).keep BB5 (.of sM)
        have ods : ∀ x ∈ ([.ref y1, .ref y2, .ref y3, .ref y4, .ref y5] : List V), OdOk K b g (upd HB5 ls (.lst [.ref y1, .ref y2, .ref y3, .ref y4, .ref y5])) x := fun x hx => (q5 x hx).keep BB5 (.of sM)
        have BM := BB5.keep sM
        have FM : Frm b g H' (upd HB5 ls (.lst [.ref y1, .ref y2, .ref y3, .ref y4, .ref y5])) := FL.trans (G5.trans (.of sM))
        generalize upd HB5 ls (.lst [.ref y1, .ref y2, .ref y3, .ref y4, .ref y5]) = HM at hls hlo odl ods BM FM ⊢
        clear q5 G5 BB5 BL FL nls sM
        have kM := B7.kt (K := K) FM
        have tv1 := tv1.keep kM
        have tv2 := tv2.keep kM
        clear kM FM B7
        -- share
        refine ⟨fun v H5 => Bag H5 b g ∧ Td K H5 v1 (ndD 2 t) ∧ Td K H5 v2 (ndD 2 t2) ∧ OdOk K b g H5 v, fun sv HS h => ?_, ?_⟩
        · clear tv1 tv2 BM hls hlo odl ods
          obtain ⟨BS, tv1, tv2, so, hth, po, _⟩ := h
          have T1 : TreeOk K HS W 2 v1 t := ⟨tv1, ok1, by omega, by decide, w1, by omega⟩
          have T2 : TreeOk K HS W 2 v2 t2 := ⟨tv2, ok2, by omega, by decide, w1, by omega⟩
          refine ⟨_, rfl, _, rfl, fun x dx nx ndx ne => ⟨2, by decide, x, dx, W, v1, t, rfl, upd_same, T1.keep (own_same nx ndx), fun H9 h9 k9 => ⟨rfl, ?_⟩⟩⟩
          obtain ⟨s9, hs1⟩ := mk_hs nx ndx T1 h9 k9
          clear h9 k9 ne nx ndx
          have T2 := T2.keep s9
          refine ⟨_, rfl, _, rfl, fun x2 dx2 nx2 ndx2 ne2 => ⟨2, by decide, x2, dx2, W, v2, t2, rfl, upd_same, T2.keep (own_same nx2 ndx2), fun H10 h10 k10 => ⟨rfl, ?_⟩⟩⟩
          obtain ⟨s10, hs2⟩ := mk_hs nx2 ndx2 T2 h10 k10
          clear h10 k10 ne2 nx2 ndx2
          have hs1 := hs1.keep s10
          have hth := hth.keep (s9.trans s10)
          have BS := BS.keep (s9.trans s10)
          clear tv1 tv2 T1 T2 s9 s10
          refine ⟨_, _, rfl, ?_⟩
          -- shaped
          have nr1 := nrw_of ok1
          have nr2 := nrw_of ok2
          have A1 : WsAll W 6 2 t := wsAll_of ok1
          have A2 : WsAll W 6 2 t2 := wsAll_of ok2
          have N1 := nar_of ok1
          have N2 := nar_of ok2
          refine ⟨_, rfl, v1, t, rfl, hs1.td, nr1, fun va Ha sa dla => ⟨_, rfl, v2, t2, rfl, hs2.td.keep (Same.kt sa), nr2, fun vb Hb sb dlb => ?_⟩⟩
          refine ⟨_, _, (dla.keep (N' := fun a => H10 a = none) (Same.kt sb) (fun b o z _ => sb _ _ z) fun b o z n => n).dp, dlb.dp, (good_sh 2 t).shaped (by decide), (good_sh 2 t2).shaped (by decide), ?_⟩
          rw [eqv_sh]
          obtain ⟨bsh, hbsh⟩ : ∃ c, c = shB 2 t t2 := ⟨_, rfl⟩
          rw [← hbsh]
          have hs1 := (hs1.keep sa).keep sb
          have hs2 := (hs2.keep sa).keep sb
          have hth := (hth.keep sa).keep sb
          have BS := (BS.keep sa).keep sb
          clear dla dlb sa sb
          -- is_shaped
          refine ⟨_, rfl, _, rfl, x, x2, W, W, 2, v1, v2, t, t2, rfl, hs1.at_, hs2.at_, hs1.td, hs2.td, nr1, nr2, by decide, fun Hc sc => ?_⟩
          rw [decide_eq_true rfl, Bool.true_and, ← hbsh]
          refine ⟨_, rfl, rfl, _, rfl, ?_⟩
          rw [decide_eq_true rfl]
          refine iteF ?_
          have hs1 := hs1.keep sc
          have hs2 := hs2.keep sc
          have hth := hth.keep sc
          have BS := BS.keep sc
          refine ⟨_, rfl, _, rfl, _, _, rfl, rfl, by show 0 ≤ sizeLine; decide, fun p9 n9 => ?_⟩
          have sd := same_upd (o := .tup []) n9
          have T3 : TreeOk K (upd Hc p9 (.tup [])) (W + 1) 2 (.ref p9) (emptyNd 2) := ⟨by rw [ndD_empty]; exact .tup (.inl (.inl upd_same)) .nil, ndOk_empty _ 2 _, by rw [cnt_empty]; decide, by decide, by omega, by omega⟩
          have hs1 := hs1.keep sd
          have hs2 := hs2.keep sd
          have hth := hth.keep sd
          have BS := BS.keep sd
          generalize upd Hc p9 (.tup []) = Hd at sd T3 hs1 hs2 hth BS ⊢
          refine fun x3 dx3 nx3 ndx3 ne3 => ⟨2, by decide, x3, dx3, W + 1, .ref p9, emptyNd 2, rfl, upd_same, T3.keep (own_same nx3 ndx3), fun He he ke => ⟨rfl, ?_⟩⟩
          obtain ⟨se, hs3⟩ := mk_hs nx3 ndx3 T3 he ke
          clear he ke ne3 nx3 ndx3
          have hs1 := hs1.keep se
          have hs2 := hs2.keep se
          have hth := hth.keep se
          have BS := BS.keep se
          refine ⟨x, x3, W, W + 1, 2, v1, .ref p9, t, emptyNd 2, rfl, hs1.at_, hs3.at_, hs1.td, hs3.td, nr1, nrw_of (ndOk_empty (W + 1) 2 (ones (W + 1))), by decide, fun Hf sf => ?_⟩
          have hs1 := hs1.keep sf
          have hs2 := hs2.keep sf
          have hth := hth.keep sf
          have BS := BS.keep sf
          rw [decide_eq_false (show ¬ W = W + 1 by omega), Bool.false_and]
          refine ⟨false, false, rfl, rfl, _, rfl, ?_⟩
          rw [decide_eq_true rfl]
          refine iteF ?_
          clear sc sd T3 hs3 se sf n9
          -- right
          refine ⟨_, rfl, sv, so, rfl, hth, po, fun Hg sg => ?_⟩
          have hs1 := hs1.keep sg
          have hs2 := hs2.keep sg
          have hth := hth.keep sg
          have BS := BS.keep sg
          clear sg
          obtain ⟨br, hbr⟩ : ∃ c, c = rtB so := ⟨_, rfl⟩
          rw [← hbr]
          have base : W = W → Td K Hg v1 (ndD 2 t) ∧ Td K Hg v2 (ndD 2 t2) ∧ (2 ≤ 8) ∧ W ≤ 5 ∧ 1 ≤ W ∧ WsAll W 6 2 t ∧ WsAll W 6 2 t2 ∧ Nrw 2 t ∧ Nrw 2 t2 ∧ cnt 2 t ≤ 1400 ∧ cnt 2 t2 ≤ 1400 := fun _ => ⟨hs1.td, hs2.td, by decide, by omega, w1, A1, A2, nr1, nr2, by omega, by omega⟩
          -- _law_word(0, ..)
          refine ⟨_, rfl, _, rfl, _, rfl, 0, x, x2, W, W, 2, v1, v2, sv, so, t, t2, rfl, by decide, hs1.at_, hs2.at_, hth, po, base, fun Hh sh => ?_⟩
          rw [decide_eq_true rfl, ← hbr, ← hbsh]
          refine ⟨fun v H5 => v = .str (wdOf 0 true br bsh) ∧ Same Hh H5, fun v H5 h => ?_, ?_⟩
          · obtain ⟨rfl, si⟩ := h
            refine ⟨rfl, _, rfl, ?_⟩
            rw [decide_eq_true rfl]
            refine iteF ?_
            have hs1 := (hs1.keep sh).keep si
            have hs2 := (hs2.keep sh).keep si
            have hth := (hth.keep sh).keep si
            have BS := (BS.keep sh).keep si
            have base : W = W → Td K H5 v1 (ndD 2 t) ∧ Td K H5 v2 (ndD 2 t2) ∧ (2 ≤ 8) ∧ W ≤ 5 ∧ 1 ≤ W ∧ WsAll W 6 2 t ∧ WsAll W 6 2 t2 ∧ Nrw 2 t ∧ Nrw 2 t2 ∧ cnt 2 t ≤ 1400 ∧ cnt 2 t2 ≤ 1400 := fun _ => ⟨hs1.td, hs2.td, by decide, by omega, w1, A1, A2, nr1, nr2, by omega, by omega⟩
            clear sh si
            -- _law_word(1, ..)
            refine ⟨_, rfl, _, rfl, _, rfl, 1, x, x2, W, W, 2, v1, v2, sv, so, t, t2, rfl, by decide, hs1.at_, hs2.at_, hth, po, base, fun Hh sh => ?_⟩
            rw [decide_eq_true rfl, ← hbr, ← hbsh]
            refine ⟨fun v H6 => v = .str (wdOf 1 true br bsh) ∧ Same Hh H6, fun v H6 h => ?_, ?_⟩
            · obtain ⟨rfl, si⟩ := h
              refine ⟨rfl, _, rfl, ?_⟩
              rw [decide_eq_true rfl]
              refine iteF ?_
              have hs1 := (hs1.keep sh).keep si
              have hs2 := (hs2.keep sh).keep si
              have hth := (hth.keep sh).keep si
              have BS := (BS.keep sh).keep si
              clear sh si base
              have TA1 : TrA K H6 W 2 v1 t := ⟨hs1.td, A1, nr1, N1, by omega⟩
              have TA2 : TrA K H6 W 2 v2 t2 := ⟨hs2.td, A2, nr2, N2, by omega⟩
              -- tossed
              refine ⟨fun σ' H7 => Same H6 H7 ∧ σ' = [some (.ref a), some (.ref b), o2, some (.int (W : Int)), some v1, some v2, some (.ref lo), some (.ref ls), some sv, some (.ref x), some (.ref x2), some (.bl bsh), some (.bl br), o13, o14], fun σ' H7 h => ?_, ?_⟩
              · obtain ⟨s7, rfl⟩ := h
                have hs1 := hs1.keep s7
                have hs2 := hs2.keep s7
                have hth := hth.keep s7
                have BS := BS.keep s7
                have TA1 := TA1.keep s7
                have TA2 := TA2.keep s7
                clear s7
                -- hidden
                refine ⟨fun σ' H8 => Same H7 H8 ∧ σ' = [some (.ref a), some (.ref b), o2, some (.int (W : Int)), some v1, some v2, some (.ref lo), some (.ref ls), some sv, some (.ref x), some (.ref x2), some (.bl bsh), some (.bl br), o13, o14], fun σ' H8 h => ?_, ?_⟩
                · obtain ⟨s8, rfl⟩ := h
                  have hs1 := hs1.keep s8
                  have hs2 := hs2.keep s8
                  have hth := hth.keep s8
                  have BS := BS.keep s8
                  clear s8 TA1 TA2
                  -- strange
                  refine ⟨_, rfl, _, _, rfl, rfl, by show 0 ≤ sizeLine; decide, fun p9 n9 => ?_⟩
                  have sd := same_upd (o := .tup []) n9
                  have T3 : TreeOk K (upd H8 p9 (.tup [])) (W + 1) 2 (.ref p9) (emptyNd 2) := ⟨by rw [ndD_empty]; exact .tup (.inl (.inl upd_same)) .nil, ndOk_empty _ 2 _, by rw [cnt_empty]; decide, by decide, by omega, by omega⟩
                  have hs1 := hs1.keep sd
                  have hs2 := hs2.keep sd
                  have hth := hth.keep sd
                  have BS := BS.keep sd
                  generalize upd H8 p9 (.tup []) = Hd at sd T3 hs1 hs2 hth BS ⊢
                  refine fun x3 dx3 nx3 ndx3 ne3 => ⟨2, by decide, x3, dx3, W + 1, .ref p9, emptyNd 2, rfl, upd_same, T3.keep (own_same nx3 ndx3), fun He he ke => ⟨rfl, ?_⟩⟩
                  obtain ⟨se, hs3⟩ := mk_hs nx3 ndx3 T3 he ke
                  clear he ke ne3 nx3 ndx3
                  have hs1 := hs1.keep se
                  have hs2 := hs2.keep se
                  have hth := hth.keep se
                  have BS := BS.keep se
                  clear sd T3 se n9
                  refine ⟨2, rfl, by decide, by decide, for_range (lo := 0) (n := 2) (fun i σ H9 => Same He H9 ∧ ∃ o14, σ = [some (.ref a), some (.ref b), o2, some (.int (W : Int)), some v1, some v2, some (.ref lo), some (.ref ls), some sv, some (.ref x), some (.ref x2), some (.bl bsh), some (.bl br), some (.ref x3), o14]) ⟨Same.refl _, _, rfl⟩ ?_ ?_⟩
                  · rintro i σ H9 hi ⟨s9, o14, rfl⟩
                    show gName 14 (V.int (0 + (i : Int))) _ _ _
                    rw [Int.zero_add]
                    have k1 := hs1.keep s9
                    have k2 := hs2.keep s9
                    have k3 := hs3.keep s9
                    refine ⟨_, rfl, _, rfl, _, rfl, _, rfl, i, x, x3, W, W + 1, 2, v1, .ref p9, sv, so, t, emptyNd 2, rfl, by omega, k1.at_, k3.at_, hth.keep s9, po, fun e => absurd e (by omega), fun H10 s10 => ?_⟩
                    rw [decide_eq_false (show ¬ W = W + 1 by omega)]
                    refine ⟨rfl, _, rfl, ?_⟩
                    rw [decide_eq_true (show V.str (wdOf i false (rtB so) (shB 2 t (emptyNd 2))) = V.str "alike" from rfl)]
                    refine iteF ?_
                    refine ⟨_, rfl, _, rfl, _, rfl, _, rfl, i, x3, x2, W + 1, W, 2, .ref p9, v2, sv, so, emptyNd 2, t2, rfl, by omega, (k3.keep s10).at_, (k2.keep s10).at_, (hth.keep s9).keep s10, po, fun e => absurd e (by omega), fun H11 s11 => ?_⟩
                    rw [decide_eq_false (show ¬ W + 1 = W by omega)]
                    refine ⟨rfl, _, rfl, ?_⟩
                    rw [decide_eq_true (show V.str (wdOf i false (rtB so) (shB 2 (emptyNd 2) t2)) = V.str "alike" from rfl)]
                    exact iteF ⟨s9.trans (s10.trans s11), _, rfl⟩
                  · rintro σ H9 ⟨s9, o14, rfl⟩
                    have hs1 := hs1.keep s9
                    have hs2 := hs2.keep s9
                    have BS := BS.keep s9
                    have g1 := good_ndD 2 t
                    have g2 := good_ndD 2 t2
                    have T1' := hs1.tree
                    have T2' := hs2.tree
                    refine ⟨_, rfl, _, rfl, _, rfl, fun x4 dx4 nx4 ndx4 ne4 => ⟨2, by decide, x4, dx4, W, v1, t, rfl, upd_same, T1'.keep (own_same nx4 ndx4), fun H10 h10 k10 => ⟨rfl, ?_⟩⟩⟩
                    obtain ⟨s10, hs4⟩ := mk_hs nx4 ndx4 T1' h10 k10
                    have hs1 := hs1.keep s10
                    have hs2 := hs2.keep s10
                    have BS := BS.keep s10
                    have T2' := T2'.keep s10
                    obtain ⟨d1, e1⟩ := id hs1.at_
                    obtain ⟨d4, e4⟩ := id hs4.at_
                    refine ⟨⟨x, x4, d1, d4, _, _, rfl, rfl, e1, e4, W, v1, v1, _, 3 * 2 + 2, ⟨d1, e1⟩, ⟨d4, e4⟩, hs1.td, hs4.td, g1, by decide⟩, fun H11 s11 => ⟨_, rfl, iteF ?_⟩⟩
                    have s11 : Same H10 H11 := s11
                    have hs2 := hs2.keep s11
                    have BS := BS.keep s11
                    have T2' := T2'.keep s11
                    refine ⟨_, rfl, _, rfl, _, rfl, fun x5 dx5 nx5 ndx5 ne5 => ⟨2, by decide, x5, dx5, W, v2, t2, rfl, upd_same, T2'.keep (own_same nx5 ndx5), fun H12 h12 k12 => ⟨rfl, ?_⟩⟩⟩
                    obtain ⟨s12, hs5⟩ := mk_hs nx5 ndx5 T2' h12 k12
                    have hs2 := hs2.keep s12
                    have BS := BS.keep s12
                    obtain ⟨d2, e2⟩ := id hs2.at_
                    obtain ⟨d5, e5⟩ := id hs5.at_
                    refine ⟨⟨x2, x5, d2, d5, _, _, rfl, rfl, e2, e5, W, v2, v2, _, 3 * 2 + 2, ⟨d2, e2⟩, ⟨d5, e5⟩, hs2.td, hs5.td, g2, by decide⟩, fun H13 s13 => ⟨_, rfl, iteF ?_⟩⟩
                    have s13 : Same H12 H13 := s13
                    exact ⟨BS.keep s13, _, _, _, _, _, _, _, _, _, _, _, _, _, rfl⟩
                · refine ⟨_, rfl, br, rfl, ite2 (fun c => ?_) (fun c => iteF ⟨Same.refl _, rfl⟩)⟩
                  refine ⟨_, rfl, bsh, rfl, ite2 (fun c2 => ?_) (fun c2 => iteF ⟨Same.refl _, rfl⟩)⟩
                  have er : rtB so = true := hbr.symm.trans c
                  have esh : shB 2 t t2 = true := hbsh.symm.trans c2
                  obtain ⟨s, sok, ts⟩ := th_share hth po er
                  refine ⟨_, rfl, _, rfl, _, rfl, _, rfl, by show 2 ≤ sizeLine; decide, fun TL nTL => ?_⟩
                  have sT := same_upd (o := .lst [v1, v2]) nTL
                  have hTL : (upd H7 TL (.lst [v1, v2])) TL = some (.lst [v1, v2]) := upd_same
                  generalize upd H7 TL (.lst [v1, v2]) = H8 at sT hTL ⊢
                  have hs1 := hs1.keep sT
                  have hs2 := hs2.keep sT
                  have ts := ts.keep (Same.kt sT)
                  refine ⟨_, rfl, _, rfl, _, rfl, x, x2, W, W, 2, v1, v2, sv, so, t, t2, rfl, hs1.at_, hs2.at_, hth.keep sT, fun e => absurd rfl e, fun _ e => Bool.noConfusion (e.symm.trans er), fun _ _ => ⟨hs1.td, hs2.td, by decide, nr1, nr2, fun e => Bool.noConfusion (e.symm.trans esh), fun _ => ⟨s, sok, ts, by omega, w1, A1, A2, by omega, fun p' v' H9 s9 h9 t9 => ?_⟩⟩⟩
                  refine ⟨TL, p', W, 2, sv, v1, v2, v', s, t, t2, rfl, s9 _ _ hTL, h9, t9, ts.keep (Same.kt s9), sok, (TA1.keep sT).keep s9, (TA2.keep sT).keep s9, esh, by decide, w1, by omega, fun H10 s10 => ⟨_, rfl, iteF ⟨sT.trans (s9.trans s10), rfl⟩⟩⟩
              · refine ⟨_, rfl, br, rfl, ite2 (fun c => ?_) (fun c => iteF ⟨Same.refl _, rfl⟩)⟩
                have er : rtB so = true := hbr.symm.trans c
                obtain ⟨s, sok, ts⟩ := th_share hth po er
                refine ⟨_, rfl, _, rfl, _, rfl, _, rfl, by show 2 ≤ sizeLine; decide, fun TL nTL => ?_⟩
                have sT := same_upd (o := .lst [v1, v2]) nTL
                have hTL : (upd H6 TL (.lst [v1, v2])) TL = some (.lst [v1, v2]) := upd_same
                generalize upd H6 TL (.lst [v1, v2]) = H7 at sT hTL ⊢
                have hs1 := hs1.keep sT
                have hs2 := hs2.keep sT
                have ts := ts.keep (Same.kt sT)
                refine ⟨_, rfl, _, rfl, _, rfl, x, x2, W, W, 2, v1, v2, sv, so, t, t2, rfl, hs1.at_, hs2.at_, hth.keep sT, fun e => absurd rfl e, fun _ e => Bool.noConfusion (e.symm.trans er), fun _ _ => ⟨s, sok, ts, hs1.td, hs2.td, by decide, by omega, w1, A1, A2, nr1, nr2, by omega, by omega, fun p' v' H8 s8 h8 t8 => ?_⟩⟩
                refine ⟨TL, p', W, 2, sv, v1, v2, v', s, t, t2, rfl, s8 _ _ hTL, h8, t8, ts.keep (Same.kt s8), sok, (TA1.keep sT).keep s8, (TA2.keep sT).keep s8, by decide, w1, by omega, fun H9 s9 => ⟨_, rfl, iteF ⟨sT.trans (s8.trans s9), rfl⟩⟩⟩
            · refine ⟨_, rfl, br, rfl, ?_⟩
              refine ite2 (fun c => ?_) (fun c => ?_)
              · rw [show br = false by simpa using c]
                exact ⟨rfl, Same.refl _⟩
              · rw [show br = true by simpa using c]
                refine ⟨fun v H6 => v = .str (wdOf 1 true true bsh) ∧ Same Hh H6, fun v H6 h => h, ⟨_, rfl, bsh, rfl, ite2 (fun c => ?_) (fun c => ?_)⟩⟩
                · rw [c]
                  exact ⟨rfl, Same.refl _⟩
                · rw [show bsh = false by simpa using c]
                  exact ⟨rfl, Same.refl _⟩
          · refine ⟨_, rfl, br, rfl, ?_⟩
            refine ite2 (fun c => ?_) (fun c => ?_)
            · rw [c]
              exact ⟨rfl, Same.refl _⟩
            · rw [show br = false by simpa using c]
              exact ⟨rfl, Same.refl _⟩
        · refine ⟨_, rfl, b, g, 3, rfl, BM, by decide, by decide, fun r H8 r0 r1 B8 F8 => ⟨_, _, rfl, rfl, _, rfl, ?_⟩⟩
          have k8 := BM.kt (K := K) F8
          refine ite2 (fun c => ?_) (fun c => ?_)
          · refine ⟨_, rfl, _, rfl, b, g, ls, _, rfl, B8, F8 _ _ hls lsb lsg, lsb, lsg, by show 0 < 5; decide, by show 5 ≤ 1000; decide, fun i x H9 ex B9 F9 => ?_⟩
            have k9 := B8.kt (K := K) F9
            exact ⟨B9, (tv1.keep k8).keep k9, (tv2.keep k8).keep k9, ((ods x (List.mem_of_getElem? ex)).keep BM F8).keep B8 F9⟩
          · refine ⟨_, rfl, _, rfl, b, g, lo, _, rfl, B8, F8 _ _ hlo lob log, lob, log, by show 0 < 13; decide, by show 13 ≤ 1000; decide, fun i x H9 ex B9 F9 => ?_⟩
            have k9 := B8.kt (K := K) F9
            exact ⟨B9, (tv1.keep k8).keep k9, (tv2.keep k8).keep k9, ((odl x (List.mem_of_getElem? ex)).keep BM F8).keep B8 F9⟩
      · refine ⟨_, rfl, b, g, 3, rfl, B6, by decide, by decide, fun r H7 r0 r1 B7 F7 => ⟨rfl, _, rfl, ?_⟩⟩
        have k7 := B6.kt (K := K) F7
        refine ite2 (fun c => ?_) (fun c => ?_)
        · refine ⟨_, rfl, _, rfl, 1, by decide, b, g, W, 7, rfl, B7, by decide, w1, by omega, fun v t3 H8 tv ok cn B8 F8 => ?_⟩
          exact ⟨B8, (tv1.keep k7).keep (B7.kt F8), v, _, _, _, _, _, _, _, _, _, _, rfl, tr2_of (by decide) tv ok.ok (by omega)⟩
        · exact ⟨B7, tv1.keep k7, v2, _, _, _, _, _, _, _, _, _, _, rfl, t2, tv2.keep k7, ok2, c2⟩
    · refine ⟨_, rfl, b, g, 6, rfl, B3, by decide, by decide, fun r H5 r0 r1 B5 F5 => ⟨_, _, rfl, rfl, _, rfl, ?_⟩⟩
      refine ite2 (fun c => ?_) (fun c => ?_)
      · refine ⟨_, rfl, _, rfl, _, rfl, b, g, 2, rfl, B5, by decide, by decide, fun r' H6 r0' r1' B6 F6 => ⟨_, _, rfl, rfl, ?_⟩⟩
        obtain ⟨n, en⟩ : ∃ n : Nat, r' = (n : Int) := ⟨r'.toNat, by omega⟩
        have hn1 : n ≤ 1 := by omega
        subst en
        have e1 : (((n + 1 : Nat)) : Int) = 1 + (n : Int) := by omega
        refine ⟨n, by omega, b, g, W, 7, ?_, B6, by omega, w1, by omega, fun v t H7 tv ok cn B7 F7 => ?_⟩
        · rw [e1]
          rfl
        exact ⟨B7, tr2_of (by omega) tv ok.ok (by omega)⟩
      · refine ⟨by show 0 ≤ sizeLine; decide, fun p0 n0 => ?_⟩
        have s6 := same_upd (o := .tup []) n0
        exact ⟨B5.keep s6, tr2_of (n := 0) (t := ()) (by decide) (.tup (.inl (.inl upd_same)) .nil) trivial (by decide)⟩
  · rintro σ H2 ⟨B2, o2, o3, o4, o5, o6, o7, o8, o9, o10, o11, o12, o13, o14, rfl⟩
    exact q H2
end
end Tl
namespace Tl
open PySem PySem.Spec PyProof.Rows L2 RZ
theorem all_mk {l : PySem.W.OpenLaw} {w : World} {K : PySem.W.Frag} {h : Heap} {mg : Str → Option Value} {fa Cc C_HouseError C_NotAlike C_NoShare C_NotShaped aO f_is_integral f_is_number f_is_fraction f_is_chance f_is_share f_are_chances f_reduced f_added f_multiplied f_less f_common_bottom f_times_whole f_total f_added_weights f_scaled_weights f_total_weights f_is_word f_is_answer f_is_ascending f_check_tree f_check_node f_check_question f_answers_in f_rounds_in f_outline f_House_init f_House_eq f_made_house f_check_alike f_is_shaped f_check_part f_rest_of f_scaled_node f_tossed f_hidden_node f_hidden f_law_bag f_law_pick f_law_some f_law_common f_law_low f_law_plus f_law_times f_law_shares f_law_question f_law_node f_law_tree f_law_int f_law_deep f_law_paths f_law_walked f_law_again f_law_shape f_law_is_share f_law_word f_law_is_tossed f_law_is_hidden f_law : Addr} (X : K.In h) (G : h.Ns mainGlobals mg) (hfa : mg "law" = some (.ref fa))
    {nm_HouseError nm_NotAlike nm_NoShare nm_NotShaped qn_HouseError qn_NotAlike qn_NoShare qn_NotShaped : Str} {N_HouseError N_NotAlike N_NoShare N_NotShaped : Addr} {bs_HouseError bs_NotAlike bs_NoShare bs_NotShaped sub_HouseError sub_NotAlike sub_NoShare sub_NotShaped : List Value} {sn_HouseError sn_NotAlike sn_NoShare sn_NotShaped : List Str} {ab_HouseError ab_NotAlike ab_NoShare ab_NotShaped : Bool} {col_HouseError col_NotAlike col_NoShare col_NotShaped : Option Bool} {k0_HouseError k0_NotAlike k0_NoShare k0_NotShaped k1_HouseError k1_NotAlike k1_NoShare k1_NotShaped k2_HouseError k2_NotAlike k2_NoShare k2_NotShaped k3_HouseError k3_NotAlike k3_NoShare k3_NotShaped k5_HouseError k5_NotAlike k5_NoShare k5_NotShaped : Option Value} {dd_HouseError dd_NotAlike dd_NoShare dd_NotShaped : Option Addr} {odO od_is_integral an_is_integral od_is_number an_is_number od_is_fraction an_is_fraction od_is_chance an_is_chance od_is_share an_is_share od_are_chances an_are_chances od_reduced an_reduced od_added an_added od_multiplied an_multiplied od_less an_less od_common_bottom an_common_bottom od_times_whole an_times_whole od_total an_total od_added_weights an_added_weights od_scaled_weights an_scaled_weights od_total_weights an_total_weights od_is_word an_is_word od_is_answer an_is_answer od_is_ascending an_is_ascending od_check_tree an_check_tree od_check_node an_check_node od_check_question an_check_question od_answers_in an_answers_in od_rounds_in an_rounds_in od_outline an_outline od_House_init an_House_init od_House_eq an_House_eq od_made_house an_made_house od_check_alike an_check_alike od_is_shaped an_is_shaped od_check_part an_check_part od_rest_of an_rest_of od_scaled_node an_scaled_node od_tossed an_tossed od_hidden_node an_hidden_node od_hidden an_hidden od_law_bag an_law_bag od_law_pick an_law_pick od_law_some an_law_some od_law_common an_law_common od_law_low an_law_low od_law_plus an_law_plus od_law_times an_law_times od_law_shares an_law_shares od_law_question an_law_question od_law_node an_law_node od_law_tree an_law_tree od_law_int an_law_int od_law_deep an_law_deep od_law_paths an_law_paths od_law_walked an_law_walked od_law_again an_law_again od_law_shape an_law_shape od_law_is_share an_law_is_share od_law_word an_law_word od_law_is_tossed an_law_is_tossed od_law_is_hidden an_law_is_hidden od_law an_law : Option Addr} {slO sl_is_integral sl_is_number sl_is_fraction sl_is_chance sl_is_share sl_are_chances sl_reduced sl_added sl_multiplied sl_less sl_common_bottom sl_times_whole sl_total sl_added_weights sl_scaled_weights sl_total_weights sl_is_word sl_is_answer sl_is_ascending sl_check_tree sl_check_node sl_check_question sl_answers_in sl_rounds_in sl_outline sl_House_init sl_House_eq sl_made_house sl_check_alike sl_is_shaped sl_check_part sl_rest_of sl_scaled_node sl_tossed sl_hidden_node sl_hidden sl_law_bag sl_law_pick sl_law_some sl_law_common sl_law_low sl_law_plus sl_law_times sl_law_shares sl_law_question sl_law_node sl_law_tree sl_law_int sl_law_deep sl_law_paths sl_law_walked sl_law_again sl_law_shape sl_law_is_share sl_law_word sl_law_is_tossed sl_law_is_hidden sl_law : Array (Option Value)} {oc_is_integral kV_is_integral dc_is_integral pm_is_integral cd_is_integral ct_is_integral oc_is_number kV_is_number dc_is_number pm_is_number cd_is_number ct_is_number oc_is_fraction kV_is_fraction dc_is_fraction pm_is_fraction cd_is_fraction ct_is_fraction oc_is_chance kV_is_chance dc_is_chance pm_is_chance cd_is_chance ct_is_chance oc_is_share kV_is_share dc_is_share pm_is_share cd_is_share ct_is_share oc_are_chances kV_are_chances dc_are_chances pm_are_chances cd_are_chances ct_are_chances oc_reduced kV_reduced dc_reduced pm_reduced cd_reduced ct_reduced oc_added kV_added dc_added pm_added cd_added ct_added oc_multiplied kV_multiplied dc_multiplied pm_multiplied cd_multiplied ct_multiplied oc_less kV_less dc_less pm_less cd_less ct_less oc_common_bottom kV_common_bottom dc_common_bottom pm_common_bottom cd_common_bottom ct_common_bottom oc_times_whole kV_times_whole dc_times_whole pm_times_whole cd_times_whole ct_times_whole oc_total kV_total dc_total pm_total cd_total ct_total oc_added_weights kV_added_weights dc_added_weights pm_added_weights cd_added_weights ct_added_weights oc_scaled_weights kV_scaled_weights dc_scaled_weights pm_scaled_weights cd_scaled_weights ct_scaled_weights oc_total_weights kV_total_weights dc_total_weights pm_total_weights cd_total_weights ct_total_weights oc_is_word kV_is_word dc_is_word pm_is_word cd_is_word ct_is_word oc_is_answer kV_is_answer dc_is_answer pm_is_answer cd_is_answer ct_is_answer oc_is_ascending kV_is_ascending dc_is_ascending pm_is_ascending cd_is_ascending ct_is_ascending oc_check_tree kV_check_tree dc_check_tree pm_check_tree cd_check_tree ct_check_tree oc_check_node kV_check_node dc_check_node pm_check_node cd_check_node ct_check_node oc_check_question kV_check_question dc_check_question pm_check_question cd_check_question ct_check_question oc_answers_in kV_answers_in dc_answers_in pm_answers_in cd_answers_in ct_answers_in oc_rounds_in kV_rounds_in dc_rounds_in pm_rounds_in cd_rounds_in ct_rounds_in oc_outline kV_outline dc_outline pm_outline cd_outline ct_outline oc_House_init kV_House_init dc_House_init pm_House_init cd_House_init ct_House_init oc_House_eq kV_House_eq dc_House_eq pm_House_eq cd_House_eq ct_House_eq oc_made_house kV_made_house dc_made_house pm_made_house cd_made_house ct_made_house oc_check_alike kV_check_alike dc_check_alike pm_check_alike cd_check_alike ct_check_alike oc_is_shaped kV_is_shaped dc_is_shaped pm_is_shaped cd_is_shaped ct_is_shaped oc_check_part kV_check_part dc_check_part pm_check_part cd_check_part ct_check_part oc_rest_of kV_rest_of dc_rest_of pm_rest_of cd_rest_of ct_rest_of oc_scaled_node kV_scaled_node dc_scaled_node pm_scaled_node cd_scaled_node ct_scaled_node oc_tossed kV_tossed dc_tossed pm_tossed cd_tossed ct_tossed oc_hidden_node kV_hidden_node dc_hidden_node pm_hidden_node cd_hidden_node ct_hidden_node oc_hidden kV_hidden dc_hidden pm_hidden cd_hidden ct_hidden oc_law_bag kV_law_bag dc_law_bag pm_law_bag cd_law_bag ct_law_bag oc_law_pick kV_law_pick dc_law_pick pm_law_pick cd_law_pick ct_law_pick oc_law_some kV_law_some dc_law_some pm_law_some cd_law_some ct_law_some oc_law_common kV_law_common dc_law_common pm_law_common cd_law_common ct_law_common oc_law_low kV_law_low dc_law_low pm_law_low cd_law_low ct_law_low oc_law_plus kV_law_plus dc_law_plus pm_law_plus cd_law_plus ct_law_plus oc_law_times kV_law_times dc_law_times pm_law_times cd_law_times ct_law_times oc_law_shares kV_law_shares dc_law_shares pm_law_shares cd_law_shares ct_law_shares oc_law_question kV_law_question dc_law_question pm_law_question cd_law_question ct_law_question oc_law_node kV_law_node dc_law_node pm_law_node cd_law_node ct_law_node oc_law_tree kV_law_tree dc_law_tree pm_law_tree cd_law_tree ct_law_tree oc_law_int kV_law_int dc_law_int pm_law_int cd_law_int ct_law_int oc_law_deep kV_law_deep dc_law_deep pm_law_deep cd_law_deep ct_law_deep oc_law_paths kV_law_paths dc_law_paths pm_law_paths cd_law_paths ct_law_paths oc_law_walked kV_law_walked dc_law_walked pm_law_walked cd_law_walked ct_law_walked oc_law_again kV_law_again dc_law_again pm_law_again cd_law_again ct_law_again oc_law_shape kV_law_shape dc_law_shape pm_law_shape cd_law_shape ct_law_shape oc_law_is_share kV_law_is_share dc_law_is_share pm_law_is_share cd_law_is_share ct_law_is_share oc_law_word kV_law_word dc_law_word pm_law_word cd_law_word ct_law_word oc_law_is_tossed kV_law_is_tossed dc_law_is_tossed pm_law_is_tossed cd_law_is_tossed ct_law_is_tossed oc_law_is_hidden kV_law_is_hidden dc_law_is_hidden pm_law_is_hidden cd_law_is_hidden ct_law_is_hidden oc_law kV_law dc_law pm_law cd_law ct_law : Value} {tO1 tO2 t1 t2 t3 t4 t5 t6 t7 : Tok} {nO : Nat}
    (aC : PySem.W.nsIn K mainGlobals "House" = some (some (.ref Cc)))
    (a_is_integral : PySem.W.nsIn K mainGlobals "is_integral" = some (some (.ref f_is_integral)))
    (l_is_integral : K.lookup f_is_integral = some ⟨oc_is_integral, od_is_integral, .func (PySem.W.fnOf "is_integral" "is_integral" (defArgs s_is_integral) (defBody s_is_integral) (defScope s_is_integral) .none kV_is_integral dc_is_integral pm_is_integral an_is_integral cd_is_integral ct_is_integral), sl_is_integral⟩)
    (c_is_integral : PySem.W.codeIn K cd_is_integral "is_integral" = true)
    (k_is_integral : PySem.W.keepIn K (.ref f_is_integral) = true)
    (a_is_number : PySem.W.nsIn K mainGlobals "is_number" = some (some (.ref f_is_number)))
    (l_is_number : K.lookup f_is_number = some ⟨oc_is_number, od_is_number, .func (PySem.W.fnOf "is_number" "is_number" (defArgs s_is_number) (defBody s_is_number) (defScope s_is_number) .none kV_is_number dc_is_number pm_is_number an_is_number cd_is_number ct_is_number), sl_is_number⟩)
    (c_is_number : PySem.W.codeIn K cd_is_number "is_number" = true)
    (k_is_number : PySem.W.keepIn K (.ref f_is_number) = true)
    (a_is_fraction : PySem.W.nsIn K mainGlobals "is_fraction" = some (some (.ref f_is_fraction)))
    (l_is_fraction : K.lookup f_is_fraction = some ⟨oc_is_fraction, od_is_fraction, .func (PySem.W.fnOf "is_fraction" "is_fraction" (defArgs s_is_fraction) (defBody s_is_fraction) (defScope s_is_fraction) .none kV_is_fraction dc_is_fraction pm_is_fraction an_is_fraction cd_is_fraction ct_is_fraction), sl_is_fraction⟩)
    (c_is_fraction : PySem.W.codeIn K cd_is_fraction "is_fraction" = true)
    (k_is_fraction : PySem.W.keepIn K (.ref f_is_fraction) = true)
    (a_is_chance : PySem.W.nsIn K mainGlobals "is_chance" = some (some (.ref f_is_chance)))
    (l_is_chance : K.lookup f_is_chance = some ⟨oc_is_chance, od_is_chance, .func (PySem.W.fnOf "is_chance" "is_chance" (defArgs s_is_chance) (defBody s_is_chance) (defScope s_is_chance) .none kV_is_chance dc_is_chance pm_is_chance an_is_chance cd_is_chance ct_is_chance), sl_is_chance⟩)
    (c_is_chance : PySem.W.codeIn K cd_is_chance "is_chance" = true)
    (k_is_chance : PySem.W.keepIn K (.ref f_is_chance) = true)
    (a_is_share : PySem.W.nsIn K mainGlobals "is_share" = some (some (.ref f_is_share)))
    (l_is_share : K.lookup f_is_share = some ⟨oc_is_share, od_is_share, .func (PySem.W.fnOf "is_share" "is_share" (defArgs s_is_share) (defBody s_is_share) (defScope s_is_share) .none kV_is_share dc_is_share pm_is_share an_is_share cd_is_share ct_is_share), sl_is_share⟩)
    (c_is_share : PySem.W.codeIn K cd_is_share "is_share" = true)
    (k_is_share : PySem.W.keepIn K (.ref f_is_share) = true)
    (a_are_chances : PySem.W.nsIn K mainGlobals "are_chances" = some (some (.ref f_are_chances)))
    (l_are_chances : K.lookup f_are_chances = some ⟨oc_are_chances, od_are_chances, .func (PySem.W.fnOf "are_chances" "are_chances" (defArgs s_are_chances) (defBody s_are_chances) (defScope s_are_chances) .none kV_are_chances dc_are_chances pm_are_chances an_are_chances cd_are_chances ct_are_chances), sl_are_chances⟩)
    (c_are_chances : PySem.W.codeIn K cd_are_chances "are_chances" = true)
    (k_are_chances : PySem.W.keepIn K (.ref f_are_chances) = true)
    (a_reduced : PySem.W.nsIn K mainGlobals "reduced" = some (some (.ref f_reduced)))
    (l_reduced : K.lookup f_reduced = some ⟨oc_reduced, od_reduced, .func (PySem.W.fnOf "reduced" "reduced" (defArgs s_reduced) (defBody s_reduced) (defScope s_reduced) .none kV_reduced dc_reduced pm_reduced an_reduced cd_reduced ct_reduced), sl_reduced⟩)
    (c_reduced : PySem.W.codeIn K cd_reduced "reduced" = true)
    (k_reduced : PySem.W.keepIn K (.ref f_reduced) = true)
    (a_added : PySem.W.nsIn K mainGlobals "added" = some (some (.ref f_added)))
    (l_added : K.lookup f_added = some ⟨oc_added, od_added, .func (PySem.W.fnOf "added" "added" (defArgs s_added) (defBody s_added) (defScope s_added) .none kV_added dc_added pm_added an_added cd_added ct_added), sl_added⟩)
    (c_added : PySem.W.codeIn K cd_added "added" = true)
    (k_added : PySem.W.keepIn K (.ref f_added) = true)
    (a_multiplied : PySem.W.nsIn K mainGlobals "multiplied" = some (some (.ref f_multiplied)))
    (l_multiplied : K.lookup f_multiplied = some ⟨oc_multiplied, od_multiplied, .func (PySem.W.fnOf "multiplied" "multiplied" (defArgs s_multiplied) (defBody s_multiplied) (defScope s_multiplied) .none kV_multiplied dc_multiplied pm_multiplied an_multiplied cd_multiplied ct_multiplied), sl_multiplied⟩)
    (c_multiplied : PySem.W.codeIn K cd_multiplied "multiplied" = true)
    (k_multiplied : PySem.W.keepIn K (.ref f_multiplied) = true)
    (a_less : PySem.W.nsIn K mainGlobals "less" = some (some (.ref f_less)))
    (l_less : K.lookup f_less = some ⟨oc_less, od_less, .func (PySem.W.fnOf "less" "less" (defArgs s_less) (defBody s_less) (defScope s_less) .none kV_less dc_less pm_less an_less cd_less ct_less), sl_less⟩)
    (c_less : PySem.W.codeIn K cd_less "less" = true)
    (k_less : PySem.W.keepIn K (.ref f_less) = true)
    (a_common_bottom : PySem.W.nsIn K mainGlobals "common_bottom" = some (some (.ref f_common_bottom)))
    (l_common_bottom : K.lookup f_common_bottom = some ⟨oc_common_bottom, od_common_bottom, .func (PySem.W.fnOf "common_bottom" "common_bottom" (defArgs s_common_bottom) (defBody s_common_bottom) (defScope s_common_bottom) .none kV_common_bottom dc_common_bottom pm_common_bottom an_common_bottom cd_common_bottom ct_common_bottom), sl_common_bottom⟩)
    (c_common_bottom : PySem.W.codeIn K cd_common_bottom "common_bottom" = true)
    (k_common_bottom : PySem.W.keepIn K (.ref f_common_bottom) = true)
    (a_times_whole : PySem.W.nsIn K mainGlobals "times_whole" = some (some (.ref f_times_whole)))
    (l_times_whole : K.lookup f_times_whole = some ⟨oc_times_whole, od_times_whole, .func (PySem.W.fnOf "times_whole" "times_whole" (defArgs s_times_whole) (defBody s_times_whole) (defScope s_times_whole) .none kV_times_whole dc_times_whole pm_times_whole an_times_whole cd_times_whole ct_times_whole), sl_times_whole⟩)
    (c_times_whole : PySem.W.codeIn K cd_times_whole "times_whole" = true)
    (k_times_whole : PySem.W.keepIn K (.ref f_times_whole) = true)
    (a_total : PySem.W.nsIn K mainGlobals "total" = some (some (.ref f_total)))
    (l_total : K.lookup f_total = some ⟨oc_total, od_total, .func (PySem.W.fnOf "total" "total" (defArgs s_total) (defBody s_total) (defScope s_total) .none kV_total dc_total pm_total an_total cd_total ct_total), sl_total⟩)
    (c_total : PySem.W.codeIn K cd_total "total" = true)
    (k_total : PySem.W.keepIn K (.ref f_total) = true)
    (a_added_weights : PySem.W.nsIn K mainGlobals "added_weights" = some (some (.ref f_added_weights)))
    (l_added_weights : K.lookup f_added_weights = some ⟨oc_added_weights, od_added_weights, .func (PySem.W.fnOf "added_weights" "added_weights" (defArgs s_added_weights) (defBody s_added_weights) (defScope s_added_weights) .none kV_added_weights dc_added_weights pm_added_weights an_added_weights cd_added_weights ct_added_weights), sl_added_weights⟩)
    (c_added_weights : PySem.W.codeIn K cd_added_weights "added_weights" = true)
    (k_added_weights : PySem.W.keepIn K (.ref f_added_weights) = true)
    (a_scaled_weights : PySem.W.nsIn K mainGlobals "scaled_weights" = some (some (.ref f_scaled_weights)))
    (l_scaled_weights : K.lookup f_scaled_weights = some ⟨oc_scaled_weights, od_scaled_weights, .func (PySem.W.fnOf "scaled_weights" "scaled_weights" (defArgs s_scaled_weights) (defBody s_scaled_weights) (defScope s_scaled_weights) .none kV_scaled_weights dc_scaled_weights pm_scaled_weights an_scaled_weights cd_scaled_weights ct_scaled_weights), sl_scaled_weights⟩)
    (c_scaled_weights : PySem.W.codeIn K cd_scaled_weights "scaled_weights" = true)
    (k_scaled_weights : PySem.W.keepIn K (.ref f_scaled_weights) = true)
    (a_total_weights : PySem.W.nsIn K mainGlobals "total_weights" = some (some (.ref f_total_weights)))
    (l_total_weights : K.lookup f_total_weights = some ⟨oc_total_weights, od_total_weights, .func (PySem.W.fnOf "total_weights" "total_weights" (defArgs s_total_weights) (defBody s_total_weights) (defScope s_total_weights) .none kV_total_weights dc_total_weights pm_total_weights an_total_weights cd_total_weights ct_total_weights), sl_total_weights⟩)
    (c_total_weights : PySem.W.codeIn K cd_total_weights "total_weights" = true)
    (k_total_weights : PySem.W.keepIn K (.ref f_total_weights) = true)
    (a_is_word : PySem.W.nsIn K mainGlobals "is_word" = some (some (.ref f_is_word)))
    (l_is_word : K.lookup f_is_word = some ⟨oc_is_word, od_is_word, .func (PySem.W.fnOf "is_word" "is_word" (defArgs s_is_word) (defBody s_is_word) (defScope s_is_word) .none kV_is_word dc_is_word pm_is_word an_is_word cd_is_word ct_is_word), sl_is_word⟩)
    (c_is_word : PySem.W.codeIn K cd_is_word "is_word" = true)
    (k_is_word : PySem.W.keepIn K (.ref f_is_word) = true)
    (a_is_answer : PySem.W.nsIn K mainGlobals "is_answer" = some (some (.ref f_is_answer)))
    (l_is_answer : K.lookup f_is_answer = some ⟨oc_is_answer, od_is_answer, .func (PySem.W.fnOf "is_answer" "is_answer" (defArgs s_is_answer) (defBody s_is_answer) (defScope s_is_answer) .none kV_is_answer dc_is_answer pm_is_answer an_is_answer cd_is_answer ct_is_answer), sl_is_answer⟩)
    (c_is_answer : PySem.W.codeIn K cd_is_answer "is_answer" = true)
    (k_is_answer : PySem.W.keepIn K (.ref f_is_answer) = true)
    (a_is_ascending : PySem.W.nsIn K mainGlobals "is_ascending" = some (some (.ref f_is_ascending)))
    (l_is_ascending : K.lookup f_is_ascending = some ⟨oc_is_ascending, od_is_ascending, .func (PySem.W.fnOf "is_ascending" "is_ascending" (defArgs s_is_ascending) (defBody s_is_ascending) (defScope s_is_ascending) .none kV_is_ascending dc_is_ascending pm_is_ascending an_is_ascending cd_is_ascending ct_is_ascending), sl_is_ascending⟩)
    (c_is_ascending : PySem.W.codeIn K cd_is_ascending "is_ascending" = true)
    (k_is_ascending : PySem.W.keepIn K (.ref f_is_ascending) = true)
    (a_check_tree : PySem.W.nsIn K mainGlobals "check_tree" = some (some (.ref f_check_tree)))
    (l_check_tree : K.lookup f_check_tree = some ⟨oc_check_tree, od_check_tree, .func (PySem.W.fnOf "check_tree" "check_tree" (defArgs s_check_tree) (defBody s_check_tree) (defScope s_check_tree) .none kV_check_tree dc_check_tree pm_check_tree an_check_tree cd_check_tree ct_check_tree), sl_check_tree⟩)
    (c_check_tree : PySem.W.codeIn K cd_check_tree "check_tree" = true)
    (k_check_tree : PySem.W.keepIn K (.ref f_check_tree) = true)
    (a_check_node : PySem.W.nsIn K mainGlobals "check_node" = some (some (.ref f_check_node)))
    (l_check_node : K.lookup f_check_node = some ⟨oc_check_node, od_check_node, .func (PySem.W.fnOf "check_node" "check_node" (defArgs s_check_node) (defBody s_check_node) (defScope s_check_node) .none kV_check_node dc_check_node pm_check_node an_check_node cd_check_node ct_check_node), sl_check_node⟩)
    (c_check_node : PySem.W.codeIn K cd_check_node "check_node" = true)
    (k_check_node : PySem.W.keepIn K (.ref f_check_node) = true)
    (a_check_question : PySem.W.nsIn K mainGlobals "check_question" = some (some (.ref f_check_question)))
    (l_check_question : K.lookup f_check_question = some ⟨oc_check_question, od_check_question, .func (PySem.W.fnOf "check_question" "check_question" (defArgs s_check_question) (defBody s_check_question) (defScope s_check_question) .none kV_check_question dc_check_question pm_check_question an_check_question cd_check_question ct_check_question), sl_check_question⟩)
    (c_check_question : PySem.W.codeIn K cd_check_question "check_question" = true)
    (k_check_question : PySem.W.keepIn K (.ref f_check_question) = true)
    (a_answers_in : PySem.W.nsIn K mainGlobals "answers_in" = some (some (.ref f_answers_in)))
    (l_answers_in : K.lookup f_answers_in = some ⟨oc_answers_in, od_answers_in, .func (PySem.W.fnOf "answers_in" "answers_in" (defArgs s_answers_in) (defBody s_answers_in) (defScope s_answers_in) .none kV_answers_in dc_answers_in pm_answers_in an_answers_in cd_answers_in ct_answers_in), sl_answers_in⟩)
    (c_answers_in : PySem.W.codeIn K cd_answers_in "answers_in" = true)
    (k_answers_in : PySem.W.keepIn K (.ref f_answers_in) = true)
    (a_rounds_in : PySem.W.nsIn K mainGlobals "rounds_in" = some (some (.ref f_rounds_in)))
    (l_rounds_in : K.lookup f_rounds_in = some ⟨oc_rounds_in, od_rounds_in, .func (PySem.W.fnOf "rounds_in" "rounds_in" (defArgs s_rounds_in) (defBody s_rounds_in) (defScope s_rounds_in) .none kV_rounds_in dc_rounds_in pm_rounds_in an_rounds_in cd_rounds_in ct_rounds_in), sl_rounds_in⟩)
    (c_rounds_in : PySem.W.codeIn K cd_rounds_in "rounds_in" = true)
    (k_rounds_in : PySem.W.keepIn K (.ref f_rounds_in) = true)
    (a_outline : PySem.W.nsIn K mainGlobals "outline" = some (some (.ref f_outline)))
    (l_outline : K.lookup f_outline = some ⟨oc_outline, od_outline, .func (PySem.W.fnOf "outline" "outline" (defArgs s_outline) (defBody s_outline) (defScope s_outline) .none kV_outline dc_outline pm_outline an_outline cd_outline ct_outline), sl_outline⟩)
    (c_outline : PySem.W.codeIn K cd_outline "outline" = true)
    (k_outline : PySem.W.keepIn K (.ref f_outline) = true)
    (a_House_init : PySem.W.findIn K (.ref Cc) "__init__" = some (some (.ref f_House_init)))
    (i_House_init : PySem.W.isFn K (.ref f_House_init) = true)
    (l_House_init : K.lookup f_House_init = some ⟨oc_House_init, od_House_init, .func (PySem.W.fnOf "__init__" "House.__init__" (defArgs s_House_init) (defBody s_House_init) (defScope s_House_init) .none kV_House_init dc_House_init pm_House_init an_House_init cd_House_init ct_House_init), sl_House_init⟩)
    (c_House_init : PySem.W.codeIn K cd_House_init "House.__init__" = true)
    (k_House_init : PySem.W.keepIn K (.ref f_House_init) = true)
    (a_House_eq : PySem.W.findIn K (.ref Cc) "__eq__" = some (some (.ref f_House_eq)))
    (i_House_eq : PySem.W.isFn K (.ref f_House_eq) = true)
    (l_House_eq : K.lookup f_House_eq = some ⟨oc_House_eq, od_House_eq, .func (PySem.W.fnOf "__eq__" "House.__eq__" (defArgs s_House_eq) (defBody s_House_eq) (defScope s_House_eq) .none kV_House_eq dc_House_eq pm_House_eq an_House_eq cd_House_eq ct_House_eq), sl_House_eq⟩)
    (c_House_eq : PySem.W.codeIn K cd_House_eq "House.__eq__" = true)
    (k_House_eq : PySem.W.keepIn K (.ref f_House_eq) = true)
    (a_made_house : PySem.W.nsIn K mainGlobals "made_house" = some (some (.ref f_made_house)))
    (l_made_house : K.lookup f_made_house = some ⟨oc_made_house, od_made_house, .func (PySem.W.fnOf "made_house" "made_house" (defArgs s_made_house) (defBody s_made_house) (defScope s_made_house) .none kV_made_house dc_made_house pm_made_house an_made_house cd_made_house ct_made_house), sl_made_house⟩)
    (c_made_house : PySem.W.codeIn K cd_made_house "made_house" = true)
    (k_made_house : PySem.W.keepIn K (.ref f_made_house) = true)
    (a_check_alike : PySem.W.nsIn K mainGlobals "check_alike" = some (some (.ref f_check_alike)))
    (l_check_alike : K.lookup f_check_alike = some ⟨oc_check_alike, od_check_alike, .func (PySem.W.fnOf "check_alike" "check_alike" (defArgs s_check_alike) (defBody s_check_alike) (defScope s_check_alike) .none kV_check_alike dc_check_alike pm_check_alike an_check_alike cd_check_alike ct_check_alike), sl_check_alike⟩)
    (c_check_alike : PySem.W.codeIn K cd_check_alike "check_alike" = true)
    (k_check_alike : PySem.W.keepIn K (.ref f_check_alike) = true)
    (a_is_shaped : PySem.W.nsIn K mainGlobals "is_shaped" = some (some (.ref f_is_shaped)))
    (l_is_shaped : K.lookup f_is_shaped = some ⟨oc_is_shaped, od_is_shaped, .func (PySem.W.fnOf "is_shaped" "is_shaped" (defArgs s_is_shaped) (defBody s_is_shaped) (defScope s_is_shaped) .none kV_is_shaped dc_is_shaped pm_is_shaped an_is_shaped cd_is_shaped ct_is_shaped), sl_is_shaped⟩)
    (c_is_shaped : PySem.W.codeIn K cd_is_shaped "is_shaped" = true)
    (k_is_shaped : PySem.W.keepIn K (.ref f_is_shaped) = true)
    (a_check_part : PySem.W.nsIn K mainGlobals "check_part" = some (some (.ref f_check_part)))
    (l_check_part : K.lookup f_check_part = some ⟨oc_check_part, od_check_part, .func (PySem.W.fnOf "check_part" "check_part" (defArgs s_check_part) (defBody s_check_part) (defScope s_check_part) .none kV_check_part dc_check_part pm_check_part an_check_part cd_check_part ct_check_part), sl_check_part⟩)
    (c_check_part : PySem.W.codeIn K cd_check_part "check_part" = true)
    (k_check_part : PySem.W.keepIn K (.ref f_check_part) = true)
    (a_rest_of : PySem.W.nsIn K mainGlobals "rest_of" = some (some (.ref f_rest_of)))
    (l_rest_of : K.lookup f_rest_of = some ⟨oc_rest_of, od_rest_of, .func (PySem.W.fnOf "rest_of" "rest_of" (defArgs s_rest_of) (defBody s_rest_of) (defScope s_rest_of) .none kV_rest_of dc_rest_of pm_rest_of an_rest_of cd_rest_of ct_rest_of), sl_rest_of⟩)
    (c_rest_of : PySem.W.codeIn K cd_rest_of "rest_of" = true)
    (k_rest_of : PySem.W.keepIn K (.ref f_rest_of) = true)
    (a_scaled_node : PySem.W.nsIn K mainGlobals "scaled_node" = some (some (.ref f_scaled_node)))
    (l_scaled_node : K.lookup f_scaled_node = some ⟨oc_scaled_node, od_scaled_node, .func (PySem.W.fnOf "scaled_node" "scaled_node" (defArgs s_scaled_node) (defBody s_scaled_node) (defScope s_scaled_node) .none kV_scaled_node dc_scaled_node pm_scaled_node an_scaled_node cd_scaled_node ct_scaled_node), sl_scaled_node⟩)
    (c_scaled_node : PySem.W.codeIn K cd_scaled_node "scaled_node" = true)
    (k_scaled_node : PySem.W.keepIn K (.ref f_scaled_node) = true)
    (a_tossed : PySem.W.nsIn K mainGlobals "tossed" = some (some (.ref f_tossed)))
    (l_tossed : K.lookup f_tossed = some ⟨oc_tossed, od_tossed, .func (PySem.W.fnOf "tossed" "tossed" (defArgs s_tossed) (defBody s_tossed) (defScope s_tossed) .none kV_tossed dc_tossed pm_tossed an_tossed cd_tossed ct_tossed), sl_tossed⟩)
    (c_tossed : PySem.W.codeIn K cd_tossed "tossed" = true)
    (k_tossed : PySem.W.keepIn K (.ref f_tossed) = true)
    (a_hidden_node : PySem.W.nsIn K mainGlobals "hidden_node" = some (some (.ref f_hidden_node)))
    (l_hidden_node : K.lookup f_hidden_node = some ⟨oc_hidden_node, od_hidden_node, .func (PySem.W.fnOf "hidden_node" "hidden_node" (defArgs s_hidden_node) (defBody s_hidden_node) (defScope s_hidden_node) .none kV_hidden_node dc_hidden_node pm_hidden_node an_hidden_node cd_hidden_node ct_hidden_node), sl_hidden_node⟩)
    (c_hidden_node : PySem.W.codeIn K cd_hidden_node "hidden_node" = true)
    (k_hidden_node : PySem.W.keepIn K (.ref f_hidden_node) = true)
    (a_hidden : PySem.W.nsIn K mainGlobals "hidden" = some (some (.ref f_hidden)))
    (l_hidden : K.lookup f_hidden = some ⟨oc_hidden, od_hidden, .func (PySem.W.fnOf "hidden" "hidden" (defArgs s_hidden) (defBody s_hidden) (defScope s_hidden) .none kV_hidden dc_hidden pm_hidden an_hidden cd_hidden ct_hidden), sl_hidden⟩)
    (c_hidden : PySem.W.codeIn K cd_hidden "hidden" = true)
    (k_hidden : PySem.W.keepIn K (.ref f_hidden) = true)
    (a_law_bag : PySem.W.nsIn K mainGlobals "_law_bag" = some (some (.ref f_law_bag)))
    (l_law_bag : K.lookup f_law_bag = some ⟨oc_law_bag, od_law_bag, .func (PySem.W.fnOf "_law_bag" "_law_bag" (defArgs s_law_bag) (defBody s_law_bag) (defScope s_law_bag) .none kV_law_bag dc_law_bag pm_law_bag an_law_bag cd_law_bag ct_law_bag), sl_law_bag⟩)
    (c_law_bag : PySem.W.codeIn K cd_law_bag "_law_bag" = true)
    (k_law_bag : PySem.W.keepIn K (.ref f_law_bag) = true)
    (a_law_pick : PySem.W.nsIn K mainGlobals "_law_pick" = some (some (.ref f_law_pick)))
    (l_law_pick : K.lookup f_law_pick = some ⟨oc_law_pick, od_law_pick, .func (PySem.W.fnOf "_law_pick" "_law_pick" (defArgs s_law_pick) (defBody s_law_pick) (defScope s_law_pick) .none kV_law_pick dc_law_pick pm_law_pick an_law_pick cd_law_pick ct_law_pick), sl_law_pick⟩)
    (c_law_pick : PySem.W.codeIn K cd_law_pick "_law_pick" = true)
    (k_law_pick : PySem.W.keepIn K (.ref f_law_pick) = true)
    (a_law_some : PySem.W.nsIn K mainGlobals "_law_some" = some (some (.ref f_law_some)))
    (l_law_some : K.lookup f_law_some = some ⟨oc_law_some, od_law_some, .func (PySem.W.fnOf "_law_some" "_law_some" (defArgs s_law_some) (defBody s_law_some) (defScope s_law_some) .none kV_law_some dc_law_some pm_law_some an_law_some cd_law_some ct_law_some), sl_law_some⟩)
    (c_law_some : PySem.W.codeIn K cd_law_some "_law_some" = true)
    (k_law_some : PySem.W.keepIn K (.ref f_law_some) = true)
    (a_law_common : PySem.W.nsIn K mainGlobals "_law_common" = some (some (.ref f_law_common)))
    (l_law_common : K.lookup f_law_common = some ⟨oc_law_common, od_law_common, .func (PySem.W.fnOf "_law_common" "_law_common" (defArgs s_law_common) (defBody s_law_common) (defScope s_law_common) .none kV_law_common dc_law_common pm_law_common an_law_common cd_law_common ct_law_common), sl_law_common⟩)
    (c_law_common : PySem.W.codeIn K cd_law_common "_law_common" = true)
    (k_law_common : PySem.W.keepIn K (.ref f_law_common) = true)
    (a_law_low : PySem.W.nsIn K mainGlobals "_law_low" = some (some (.ref f_law_low)))
    (l_law_low : K.lookup f_law_low = some ⟨oc_law_low, od_law_low, .func (PySem.W.fnOf "_law_low" "_law_low" (defArgs s_law_low) (defBody s_law_low) (defScope s_law_low) .none kV_law_low dc_law_low pm_law_low an_law_low cd_law_low ct_law_low), sl_law_low⟩)
    (c_law_low : PySem.W.codeIn K cd_law_low "_law_low" = true)
    (k_law_low : PySem.W.keepIn K (.ref f_law_low) = true)
    (a_law_plus : PySem.W.nsIn K mainGlobals "_law_plus" = some (some (.ref f_law_plus)))
    (l_law_plus : K.lookup f_law_plus = some ⟨oc_law_plus, od_law_plus, .func (PySem.W.fnOf "_law_plus" "_law_plus" (defArgs s_law_plus) (defBody s_law_plus) (defScope s_law_plus) .none kV_law_plus dc_law_plus pm_law_plus an_law_plus cd_law_plus ct_law_plus), sl_law_plus⟩)
    (c_law_plus : PySem.W.codeIn K cd_law_plus "_law_plus" = true)
    (k_law_plus : PySem.W.keepIn K (.ref f_law_plus) = true)
    (a_law_times : PySem.W.nsIn K mainGlobals "_law_times" = some (some (.ref f_law_times)))
    (l_law_times : K.lookup f_law_times = some ⟨oc_law_times, od_law_times, .func (PySem.W.fnOf "_law_times" "_law_times" (defArgs s_law_times) (defBody s_law_times) (defScope s_law_times) .none kV_law_times dc_law_times pm_law_times an_law_times cd_law_times ct_law_times), sl_law_times⟩)
    (c_law_times : PySem.W.codeIn K cd_law_times "_law_times" = true)
    (k_law_times : PySem.W.keepIn K (.ref f_law_times) = true)
    (a_law_shares : PySem.W.nsIn K mainGlobals "_law_shares" = some (some (.ref f_law_shares)))
    (l_law_shares : K.lookup f_law_shares = some ⟨oc_law_shares, od_law_shares, .func (PySem.W.fnOf "_law_shares" "_law_shares" (defArgs s_law_shares) (defBody s_law_shares) (defScope s_law_shares) .none kV_law_shares dc_law_shares pm_law_shares an_law_shares cd_law_shares ct_law_shares), sl_law_shares⟩)
    (c_law_shares : PySem.W.codeIn K cd_law_shares "_law_shares" = true)
    (k_law_shares : PySem.W.keepIn K (.ref f_law_shares) = true)
    (a_law_question : PySem.W.nsIn K mainGlobals "_law_question" = some (some (.ref f_law_question)))
    (l_law_question : K.lookup f_law_question = some ⟨oc_law_question, od_law_question, .func (PySem.W.fnOf "_law_question" "_law_question" (defArgs s_law_question) (defBody s_law_question) (defScope s_law_question) .none kV_law_question dc_law_question pm_law_question an_law_question cd_law_question ct_law_question), sl_law_question⟩)
    (c_law_question : PySem.W.codeIn K cd_law_question "_law_question" = true)
    (k_law_question : PySem.W.keepIn K (.ref f_law_question) = true)
    (a_law_node : PySem.W.nsIn K mainGlobals "_law_node" = some (some (.ref f_law_node)))
    (l_law_node : K.lookup f_law_node = some ⟨oc_law_node, od_law_node, .func (PySem.W.fnOf "_law_node" "_law_node" (defArgs s_law_node) (defBody s_law_node) (defScope s_law_node) .none kV_law_node dc_law_node pm_law_node an_law_node cd_law_node ct_law_node), sl_law_node⟩)
    (c_law_node : PySem.W.codeIn K cd_law_node "_law_node" = true)
    (k_law_node : PySem.W.keepIn K (.ref f_law_node) = true)
    (a_law_tree : PySem.W.nsIn K mainGlobals "_law_tree" = some (some (.ref f_law_tree)))
    (l_law_tree : K.lookup f_law_tree = some ⟨oc_law_tree, od_law_tree, .func (PySem.W.fnOf "_law_tree" "_law_tree" (defArgs s_law_tree) (defBody s_law_tree) (defScope s_law_tree) .none kV_law_tree dc_law_tree pm_law_tree an_law_tree cd_law_tree ct_law_tree), sl_law_tree⟩)
    (c_law_tree : PySem.W.codeIn K cd_law_tree "_law_tree" = true)
    (k_law_tree : PySem.W.keepIn K (.ref f_law_tree) = true)
    (a_law_int : PySem.W.nsIn K mainGlobals "_law_int" = some (some (.ref f_law_int)))
    (l_law_int : K.lookup f_law_int = some ⟨oc_law_int, od_law_int, .func (PySem.W.fnOf "_law_int" "_law_int" (defArgs s_law_int) (defBody s_law_int) (defScope s_law_int) .none kV_law_int dc_law_int pm_law_int an_law_int cd_law_int ct_law_int), sl_law_int⟩)
    (c_law_int : PySem.W.codeIn K cd_law_int "_law_int" = true)
    (k_law_int : PySem.W.keepIn K (.ref f_law_int) = true)
    (a_law_deep : PySem.W.nsIn K mainGlobals "_law_deep" = some (some (.ref f_law_deep)))
    (l_law_deep : K.lookup f_law_deep = some ⟨oc_law_deep, od_law_deep, .func (PySem.W.fnOf "_law_deep" "_law_deep" (defArgs s_law_deep) (defBody s_law_deep) (defScope s_law_deep) .none kV_law_deep dc_law_deep pm_law_deep an_law_deep cd_law_deep ct_law_deep), sl_law_deep⟩)
    (c_law_deep : PySem.W.codeIn K cd_law_deep "_law_deep" = true)
    (k_law_deep : PySem.W.keepIn K (.ref f_law_deep) = true)
    (a_law_paths : PySem.W.nsIn K mainGlobals "_law_paths" = some (some (.ref f_law_paths)))
    (l_law_paths : K.lookup f_law_paths = some ⟨oc_law_paths, od_law_paths, .func (PySem.W.fnOf "_law_paths" "_law_paths" (defArgs s_law_paths) (defBody s_law_paths) (defScope s_law_paths) .none kV_law_paths dc_law_paths pm_law_paths an_law_paths cd_law_paths ct_law_paths), sl_law_paths⟩)
    (c_law_paths : PySem.W.codeIn K cd_law_paths "_law_paths" = true)
    (k_law_paths : PySem.W.keepIn K (.ref f_law_paths) = true)
    (a_law_walked : PySem.W.nsIn K mainGlobals "_law_walked" = some (some (.ref f_law_walked)))
    (l_law_walked : K.lookup f_law_walked = some ⟨oc_law_walked, od_law_walked, .func (PySem.W.fnOf "_law_walked" "_law_walked" (defArgs s_law_walked) (defBody s_law_walked) (defScope s_law_walked) .none kV_law_walked dc_law_walked pm_law_walked an_law_walked cd_law_walked ct_law_walked), sl_law_walked⟩)
    (c_law_walked : PySem.W.codeIn K cd_law_walked "_law_walked" = true)
    (k_law_walked : PySem.W.keepIn K (.ref f_law_walked) = true)
    (a_law_again : PySem.W.nsIn K mainGlobals "_law_again" = some (some (.ref f_law_again)))
    (l_law_again : K.lookup f_law_again = some ⟨oc_law_again, od_law_again, .func (PySem.W.fnOf "_law_again" "_law_again" (defArgs s_law_again) (defBody s_law_again) (defScope s_law_again) .none kV_law_again dc_law_again pm_law_again an_law_again cd_law_again ct_law_again), sl_law_again⟩)
    (c_law_again : PySem.W.codeIn K cd_law_again "_law_again" = true)
    (k_law_again : PySem.W.keepIn K (.ref f_law_again) = true)
    (a_law_shape : PySem.W.nsIn K mainGlobals "_law_shape" = some (some (.ref f_law_shape)))
    (l_law_shape : K.lookup f_law_shape = some ⟨oc_law_shape, od_law_shape, .func (PySem.W.fnOf "_law_shape" "_law_shape" (defArgs s_law_shape) (defBody s_law_shape) (defScope s_law_shape) .none kV_law_shape dc_law_shape pm_law_shape an_law_shape cd_law_shape ct_law_shape), sl_law_shape⟩)
    (c_law_shape : PySem.W.codeIn K cd_law_shape "_law_shape" = true)
    (k_law_shape : PySem.W.keepIn K (.ref f_law_shape) = true)
    (a_law_is_share : PySem.W.nsIn K mainGlobals "_law_is_share" = some (some (.ref f_law_is_share)))
    (l_law_is_share : K.lookup f_law_is_share = some ⟨oc_law_is_share, od_law_is_share, .func (PySem.W.fnOf "_law_is_share" "_law_is_share" (defArgs s_law_is_share) (defBody s_law_is_share) (defScope s_law_is_share) .none kV_law_is_share dc_law_is_share pm_law_is_share an_law_is_share cd_law_is_share ct_law_is_share), sl_law_is_share⟩)
    (c_law_is_share : PySem.W.codeIn K cd_law_is_share "_law_is_share" = true)
    (k_law_is_share : PySem.W.keepIn K (.ref f_law_is_share) = true)
    (a_law_word : PySem.W.nsIn K mainGlobals "_law_word" = some (some (.ref f_law_word)))
    (l_law_word : K.lookup f_law_word = some ⟨oc_law_word, od_law_word, .func (PySem.W.fnOf "_law_word" "_law_word" (defArgs s_law_word) (defBody s_law_word) (defScope s_law_word) .none kV_law_word dc_law_word pm_law_word an_law_word cd_law_word ct_law_word), sl_law_word⟩)
    (c_law_word : PySem.W.codeIn K cd_law_word "_law_word" = true)
    (k_law_word : PySem.W.keepIn K (.ref f_law_word) = true)
    (a_law_is_tossed : PySem.W.nsIn K mainGlobals "_law_is_tossed" = some (some (.ref f_law_is_tossed)))
    (l_law_is_tossed : K.lookup f_law_is_tossed = some ⟨oc_law_is_tossed, od_law_is_tossed, .func (PySem.W.fnOf "_law_is_tossed" "_law_is_tossed" (defArgs s_law_is_tossed) (defBody s_law_is_tossed) (defScope s_law_is_tossed) .none kV_law_is_tossed dc_law_is_tossed pm_law_is_tossed an_law_is_tossed cd_law_is_tossed ct_law_is_tossed), sl_law_is_tossed⟩)
    (c_law_is_tossed : PySem.W.codeIn K cd_law_is_tossed "_law_is_tossed" = true)
    (k_law_is_tossed : PySem.W.keepIn K (.ref f_law_is_tossed) = true)
    (a_law_is_hidden : PySem.W.nsIn K mainGlobals "_law_is_hidden" = some (some (.ref f_law_is_hidden)))
    (l_law_is_hidden : K.lookup f_law_is_hidden = some ⟨oc_law_is_hidden, od_law_is_hidden, .func (PySem.W.fnOf "_law_is_hidden" "_law_is_hidden" (defArgs s_law_is_hidden) (defBody s_law_is_hidden) (defScope s_law_is_hidden) .none kV_law_is_hidden dc_law_is_hidden pm_law_is_hidden an_law_is_hidden cd_law_is_hidden ct_law_is_hidden), sl_law_is_hidden⟩)
    (c_law_is_hidden : PySem.W.codeIn K cd_law_is_hidden "_law_is_hidden" = true)
    (k_law_is_hidden : PySem.W.keepIn K (.ref f_law_is_hidden) = true)
    (a_law : PySem.W.nsIn K mainGlobals "law" = some (some (.ref f_law)))
    (l_law : K.lookup f_law = some ⟨oc_law, od_law, .func (PySem.W.fnOf "law" "law" (defArgs s_law) (defBody s_law) (defScope s_law) .none kV_law dc_law pm_law an_law cd_law ct_law), sl_law⟩)
    (c_law : PySem.W.codeIn K cd_law "law" = true)
    (k_law : PySem.W.keepIn K (.ref f_law) = true)
    (pgC : PySem.W.plainGet K Cc Str.empty = true)
    (hdC : PySem.W.hasDictIn K Cc = true)
    (poC : PySem.W.plainOver K Cc = true)
    (saC : PySem.W.findIn K (.ref Cc) "__setattr__" = some (some (.builtin "object.__setattr__")))
    (mkC : PySem.W.makesIn K Cc = true)
    (kcC : PySem.W.keepIn K (.ref Cc) = true)
    (nwC : PySem.W.findIn K (.ref Cc) "worlds" = some none)
    (ntC : PySem.W.findIn K (.ref Cc) "tree" = some none)
    (haC : PySem.W.findIn K (.ref Cc) "__class__" = some (some (.builtin "object.__class__")))
    (hnC : PySem.W.specialIn K (.builtin "object.__class__") "__get__" = some (some (.builtin "getset_descriptor.__get__")))
    (htC : PySem.W.takesIn K (.builtin "object.__class__") = some true)
    (hmC : PySem.W.mroIn K Cc (.type "object") = some true)
    (gcd : PySem.W.nsIn K mainGlobals "gcd" = some (some (.builtin "math.gcd")))
    (lcm : PySem.W.nsIn K mainGlobals "lcm" = some (some (.builtin "math.lcm")))
    (aO0 : PySem.W.nsIn K mainGlobals "ONE" = some (some (.ref aO)))
    (lO : K.lookup aO = some ⟨.type "tuple", odO, .seq #[.int 1 tO1, .int 1 tO2] nO, slO⟩)
    (m_MOST_QUESTIONS : PySem.W.nsIn K mainGlobals "MOST_QUESTIONS" = some (some (.int 5 t1)))
    (m_MOST_WORDS : PySem.W.nsIn K mainGlobals "MOST_WORDS" = some (some (.int 12 t2)))
    (m_MOST_NUMBERS : PySem.W.nsIn K mainGlobals "MOST_NUMBERS" = some (some (.int 8 t3)))
    (m_MOST_ON_A_WAY : PySem.W.nsIn K mainGlobals "MOST_ON_A_WAY" = some (some (.int 8 t4)))
    (m_MOST_PASSED : PySem.W.nsIn K mainGlobals "MOST_PASSED" = some (some (.int 1500 t5)))
    (m_MOST_ROUNDS : PySem.W.nsIn K mainGlobals "MOST_ROUNDS" = some (some (.int 12 t6)))
    (m_MOST_ANSWERS : PySem.W.nsIn K mainGlobals "MOST_ANSWERS" = some (some (.int 3000 t7)))
    (neC : PySem.W.findIn K (.ref Cc) "__ne__" = some (some (.builtin "object.__ne__")))
    (a_HouseError : PySem.W.nsIn K mainGlobals "HouseError" = some (some (.ref C_HouseError)))
    (x_HouseError : K.lookup C_HouseError = some (excClassObj nm_HouseError qn_HouseError C_HouseError N_HouseError bs_HouseError veMro true sn_HouseError sub_HouseError ab_HouseError col_HouseError dd_HouseError k0_HouseError k1_HouseError k2_HouseError k3_HouseError k5_HouseError "ValueError.__new__"))
    (sa_HouseError : PySem.W.findIn K (.ref C_HouseError) "__setattr__" = some (some (.builtin "object.__setattr__")))
    (kp_HouseError : PySem.W.keepIn K (.ref C_HouseError) = true)
    (hg_HouseError : PySem.W.findIn K (.ref C_HouseError) "__getattribute__" = some (some (.builtin "BaseException.__getattribute__")))
    (hk_HouseError : PySem.W.findIn K (.ref C_HouseError) "__getattr__" = some none)
    (hc_HouseError : PySem.W.findIn K (.ref C_HouseError) "__class__" = some (some (.builtin "object.__class__")))
    (a_NotAlike : PySem.W.nsIn K mainGlobals "NotAlike" = some (some (.ref C_NotAlike)))
    (x_NotAlike : K.lookup C_NotAlike = some (excClassObj nm_NotAlike qn_NotAlike C_NotAlike N_NotAlike bs_NotAlike (.ref C_HouseError :: veMro) true sn_NotAlike sub_NotAlike ab_NotAlike col_NotAlike dd_NotAlike k0_NotAlike k1_NotAlike k2_NotAlike k3_NotAlike k5_NotAlike "ValueError.__new__"))
    (sa_NotAlike : PySem.W.findIn K (.ref C_NotAlike) "__setattr__" = some (some (.builtin "object.__setattr__")))
    (kp_NotAlike : PySem.W.keepIn K (.ref C_NotAlike) = true)
    (hg_NotAlike : PySem.W.findIn K (.ref C_NotAlike) "__getattribute__" = some (some (.builtin "BaseException.__getattribute__")))
    (hk_NotAlike : PySem.W.findIn K (.ref C_NotAlike) "__getattr__" = some none)
    (hc_NotAlike : PySem.W.findIn K (.ref C_NotAlike) "__class__" = some (some (.builtin "object.__class__")))
    (q_NotAlike : PySem.W.excIn K C_NotAlike veMro "ValueError.__new__" = true)
    (a_NoShare : PySem.W.nsIn K mainGlobals "NoShare" = some (some (.ref C_NoShare)))
    (x_NoShare : K.lookup C_NoShare = some (excClassObj nm_NoShare qn_NoShare C_NoShare N_NoShare bs_NoShare (.ref C_HouseError :: veMro) true sn_NoShare sub_NoShare ab_NoShare col_NoShare dd_NoShare k0_NoShare k1_NoShare k2_NoShare k3_NoShare k5_NoShare "ValueError.__new__"))
    (sa_NoShare : PySem.W.findIn K (.ref C_NoShare) "__setattr__" = some (some (.builtin "object.__setattr__")))
    (kp_NoShare : PySem.W.keepIn K (.ref C_NoShare) = true)
    (hg_NoShare : PySem.W.findIn K (.ref C_NoShare) "__getattribute__" = some (some (.builtin "BaseException.__getattribute__")))
    (hk_NoShare : PySem.W.findIn K (.ref C_NoShare) "__getattr__" = some none)
    (hc_NoShare : PySem.W.findIn K (.ref C_NoShare) "__class__" = some (some (.builtin "object.__class__")))
    (q_NoShare : PySem.W.excIn K C_NoShare veMro "ValueError.__new__" = true)
    (a_NotShaped : PySem.W.nsIn K mainGlobals "NotShaped" = some (some (.ref C_NotShaped)))
    (x_NotShaped : K.lookup C_NotShaped = some (excClassObj nm_NotShaped qn_NotShaped C_NotShaped N_NotShaped bs_NotShaped (.ref C_HouseError :: veMro) true sn_NotShaped sub_NotShaped ab_NotShaped col_NotShaped dd_NotShaped k0_NotShaped k1_NotShaped k2_NotShaped k3_NotShaped k5_NotShaped "ValueError.__new__"))
    (sa_NotShaped : PySem.W.findIn K (.ref C_NotShaped) "__setattr__" = some (some (.builtin "object.__setattr__")))
    (kp_NotShaped : PySem.W.keepIn K (.ref C_NotShaped) = true)
    (hg_NotShaped : PySem.W.findIn K (.ref C_NotShaped) "__getattribute__" = some (some (.builtin "BaseException.__getattribute__")))
    (hk_NotShaped : PySem.W.findIn K (.ref C_NotShaped) "__getattr__" = some none)
    (hc_NotShaped : PySem.W.findIn K (.ref C_NotShaped) "__class__" = some (some (.builtin "object.__class__")))
    (q_NotShaped : PySem.W.excIn K C_NotShaped veMro "ValueError.__new__" = true)
    (xnodup : [C_HouseError, C_NotAlike, C_NoShare, C_NotShaped].Nodup)
    (z_len : PySem.W.nsIn K mainGlobals "len" = some none)
    (z_int : PySem.W.nsIn K mainGlobals "int" = some none)
    (z_abs : PySem.W.nsIn K mainGlobals "abs" = some none)
    (z_sum : PySem.W.nsIn K mainGlobals "sum" = some none)
    (z_range : PySem.W.nsIn K mainGlobals "range" = some none)
    (z_repr : PySem.W.nsIn K mainGlobals "repr" = some none)
    (z_isinstance : PySem.W.nsIn K mainGlobals "isinstance" = some none)
    (z_any : PySem.W.nsIn K mainGlobals "any" = some none)
    (z_all : PySem.W.nsIn K mainGlobals "all" = some none)
    (z_tuple : PySem.W.nsIn K mainGlobals "tuple" = some none)
    (z_list : PySem.W.nsIn K mainGlobals "list" = some none)
    (z_zip : PySem.W.nsIn K mainGlobals "zip" = some none)
    (z_enumerate : PySem.W.nsIn K mainGlobals "enumerate" = some none)
    (z_max : PySem.W.nsIn K mainGlobals "max" = some none)
    (z_bool : PySem.W.nsIn K mainGlobals "bool" = some none) :
    ∃ fd : FuncData, (∀ (s : Shared) (v : Value), BindsTo s fd ⟨[v], []⟩ [("script", v)]) ∧ ∀ base : Heap, K.In base → base.Ns mainGlobals mg → FnG l.prog w K mg base CX0 32 fa fd ["script"] (spTrue K) := by
  have e := hfa.symm.trans (PySem.W.mg_of X G a_law)
  cases e
  have B : Blt mg := ⟨PySem.W.mg_none_of X G z_len, PySem.W.mg_none_of X G z_int, PySem.W.mg_none_of X G z_abs, PySem.W.mg_none_of X G z_sum, PySem.W.mg_none_of X G z_range, PySem.W.mg_none_of X G z_repr, PySem.W.mg_none_of X G z_isinstance, PySem.W.mg_none_of X G z_any, PySem.W.mg_none_of X G z_all, PySem.W.mg_none_of X G z_tuple, PySem.W.mg_none_of X G z_list, PySem.W.mg_none_of X G z_zip, PySem.W.mg_none_of X G z_enumerate, PySem.W.mg_none_of X G z_max, PySem.W.mg_none_of X G z_bool⟩
  have tO : ∀ H : Hp, SqT K H aO [.int 1, .int 1] := fun H => .inr ⟨_, #[.int 1 tO1, .int 1 tO2], nO, lO, rfl, rfl, by show 2 ≤ sizeLine; decide, .cons ⟨tO1, rfl⟩ (.cons ⟨tO2, rfl⟩ .nil)⟩
  have C : Cst K mg aO aO t1 t2 t3 t4 t5 t6 t7 := ⟨PySem.W.mg_of X G gcd, PySem.W.mg_of X G lcm, PySem.W.mg_of X G aO0, tO, PySem.W.mg_of X G m_MOST_QUESTIONS, PySem.W.mg_of X G m_MOST_WORDS, PySem.W.mg_of X G m_MOST_NUMBERS, PySem.W.mg_of X G m_MOST_ON_A_WAY, PySem.W.mg_of X G m_MOST_PASSED, PySem.W.mg_of X G m_MOST_ROUNDS, PySem.W.mg_of X G m_MOST_ANSWERS⟩
  have U : Hcl K mg Cc f_House_init f_House_eq := ⟨⟨pgC, hdC, poC, saC⟩, nwC, ntC, ⟨mkC, a_House_init, i_House_init, kcC⟩, a_House_eq, i_House_eq, PySem.W.mg_of X G aC, haC, hnC, htC, hmC⟩
  have XF_HouseError : XFact K mg "HouseError" C_HouseError veMro := exc_cls (PySem.W.mg_of X G a_HouseError) x_HouseError rfl (by decide +kernel) (by decide +kernel) sa_HouseError kp_HouseError hg_HouseError hk_HouseError hc_HouseError hnC htC
  have XF_NotAlike : XFact K mg "NotAlike" C_NotAlike (.ref C_HouseError :: veMro) := exc_cls (PySem.W.mg_of X G a_NotAlike) x_NotAlike rfl ve_in.1 ve_in.2 sa_NotAlike kp_NotAlike hg_NotAlike hk_NotAlike hc_NotAlike hnC htC
  have X_NotAlike : XRs K mg C_HouseError "NotAlike" C_NotAlike := ⟨XF_NotAlike, q_NotAlike, fun z => by simp [z] at xnodup⟩
  have XF_NoShare : XFact K mg "NoShare" C_NoShare (.ref C_HouseError :: veMro) := exc_cls (PySem.W.mg_of X G a_NoShare) x_NoShare rfl ve_in.1 ve_in.2 sa_NoShare kp_NoShare hg_NoShare hk_NoShare hc_NoShare hnC htC
  have X_NoShare : XRs K mg C_HouseError "NoShare" C_NoShare := ⟨XF_NoShare, q_NoShare, fun z => by simp [z] at xnodup⟩
  have XF_NotShaped : XFact K mg "NotShaped" C_NotShaped (.ref C_HouseError :: veMro) := exc_cls (PySem.W.mg_of X G a_NotShaped) x_NotShaped rfl ve_in.1 ve_in.2 sa_NotShaped kp_NotShaped hg_NotShaped hk_NotShaped hc_NotShaped hnC htC
  have X_NotShaped : XRs K mg C_HouseError "NotShaped" C_NotShaped := ⟨XF_NotShaped, q_NotShaped, fun z => by simp [z] at xnodup⟩
  have X_HouseError := XF_HouseError
  have UN := neC
  have F_is_integral := fun_mk (st := s_is_integral) l_is_integral c_is_integral k_is_integral
  have D_is_integral : Dn K mg "is_integral" s_is_integral ["thing"] f_is_integral _ := ⟨F_is_integral, F_is_integral.binds (ps := ["thing"]) fun _ _ _ _ _ _ us hl => match us, hl with | [_], _ => rfl, PySem.W.mg_of X G a_is_integral⟩
  have F_is_number := fun_mk (st := s_is_number) l_is_number c_is_number k_is_number
  have D_is_number : Dn K mg "is_number" s_is_number ["thing", "least", "most"] f_is_number _ := ⟨F_is_number, F_is_number.binds (ps := ["thing", "least", "most"]) fun _ _ _ _ _ _ us hl => match us, hl with | [_, _, _], _ => rfl, PySem.W.mg_of X G a_is_number⟩
  have F_is_fraction := fun_mk (st := s_is_fraction) l_is_fraction c_is_fraction k_is_fraction
  have D_is_fraction : Dn K mg "is_fraction" s_is_fraction ["thing"] f_is_fraction _ := ⟨F_is_fraction, F_is_fraction.binds (ps := ["thing"]) fun _ _ _ _ _ _ us hl => match us, hl with | [_], _ => rfl, PySem.W.mg_of X G a_is_fraction⟩
  have F_is_chance := fun_mk (st := s_is_chance) l_is_chance c_is_chance k_is_chance
  have D_is_chance : Dn K mg "is_chance" s_is_chance ["thing"] f_is_chance _ := ⟨F_is_chance, F_is_chance.binds (ps := ["thing"]) fun _ _ _ _ _ _ us hl => match us, hl with | [_], _ => rfl, PySem.W.mg_of X G a_is_chance⟩
  have F_is_share := fun_mk (st := s_is_share) l_is_share c_is_share k_is_share
  have D_is_share : Dn K mg "is_share" s_is_share ["thing"] f_is_share _ := ⟨F_is_share, F_is_share.binds (ps := ["thing"]) fun _ _ _ _ _ _ us hl => match us, hl with | [_], _ => rfl, PySem.W.mg_of X G a_is_share⟩
  have F_are_chances := fun_mk (st := s_are_chances) l_are_chances c_are_chances k_are_chances
  have D_are_chances : Dn K mg "are_chances" s_are_chances ["thing", "many"] f_are_chances _ := ⟨F_are_chances, F_are_chances.binds (ps := ["thing", "many"]) fun _ _ _ _ _ _ us hl => match us, hl with | [_, _], _ => rfl, PySem.W.mg_of X G a_are_chances⟩
  have F_reduced := fun_mk (st := s_reduced) l_reduced c_reduced k_reduced
  have D_reduced : Dn K mg "reduced" s_reduced ["top", "bottom"] f_reduced _ := ⟨F_reduced, F_reduced.binds (ps := ["top", "bottom"]) fun _ _ _ _ _ _ us hl => match us, hl with | [_, _], _ => rfl, PySem.W.mg_of X G a_reduced⟩
  have F_added := fun_mk (st := s_added) l_added c_added k_added
  have D_added : Dn K mg "added" s_added ["first", "second"] f_added _ := ⟨F_added, F_added.binds (ps := ["first", "second"]) fun _ _ _ _ _ _ us hl => match us, hl with | [_, _], _ => rfl, PySem.W.mg_of X G a_added⟩
  have F_multiplied := fun_mk (st := s_multiplied) l_multiplied c_multiplied k_multiplied
  have D_multiplied : Dn K mg "multiplied" s_multiplied ["first", "second"] f_multiplied _ := ⟨F_multiplied, F_multiplied.binds (ps := ["first", "second"]) fun _ _ _ _ _ _ us hl => match us, hl with | [_, _], _ => rfl, PySem.W.mg_of X G a_multiplied⟩
  have F_less := fun_mk (st := s_less) l_less c_less k_less
  have D_less : Dn K mg "less" s_less ["fraction"] f_less _ := ⟨F_less, F_less.binds (ps := ["fraction"]) fun _ _ _ _ _ _ us hl => match us, hl with | [_], _ => rfl, PySem.W.mg_of X G a_less⟩
  have F_common_bottom := fun_mk (st := s_common_bottom) l_common_bottom c_common_bottom k_common_bottom
  have D_common_bottom : Dn K mg "common_bottom" s_common_bottom ["fractions"] f_common_bottom _ := ⟨F_common_bottom, F_common_bottom.binds (ps := ["fractions"]) fun _ _ _ _ _ _ us hl => match us, hl with | [_], _ => rfl, PySem.W.mg_of X G a_common_bottom⟩
  have F_times_whole := fun_mk (st := s_times_whole) l_times_whole c_times_whole k_times_whole
  have D_times_whole : Dn K mg "times_whole" s_times_whole ["fraction", "whole"] f_times_whole _ := ⟨F_times_whole, F_times_whole.binds (ps := ["fraction", "whole"]) fun _ _ _ _ _ _ us hl => match us, hl with | [_, _], _ => rfl, PySem.W.mg_of X G a_times_whole⟩
  have F_total := fun_mk (st := s_total) l_total c_total k_total
  have D_total : Dn K mg "total" s_total ["fractions"] f_total _ := ⟨F_total, F_total.binds (ps := ["fractions"]) fun _ _ _ _ _ _ us hl => match us, hl with | [_], _ => rfl, PySem.W.mg_of X G a_total⟩
  have F_added_weights := fun_mk (st := s_added_weights) l_added_weights c_added_weights k_added_weights
  have D_added_weights : Dn K mg "added_weights" s_added_weights ["first", "second"] f_added_weights _ := ⟨F_added_weights, F_added_weights.binds (ps := ["first", "second"]) fun _ _ _ _ _ _ us hl => match us, hl with | [_, _], _ => rfl, PySem.W.mg_of X G a_added_weights⟩
  have F_scaled_weights := fun_mk (st := s_scaled_weights) l_scaled_weights c_scaled_weights k_scaled_weights
  have D_scaled_weights : Dn K mg "scaled_weights" s_scaled_weights ["share", "weights"] f_scaled_weights _ := ⟨F_scaled_weights, F_scaled_weights.binds (ps := ["share", "weights"]) fun _ _ _ _ _ _ us hl => match us, hl with | [_, _], _ => rfl, PySem.W.mg_of X G a_scaled_weights⟩
  have F_total_weights := fun_mk (st := s_total_weights) l_total_weights c_total_weights k_total_weights
  have D_total_weights : Dn K mg "total_weights" s_total_weights ["rows", "worlds"] f_total_weights _ := ⟨F_total_weights, F_total_weights.binds (ps := ["rows", "worlds"]) fun _ _ _ _ _ _ us hl => match us, hl with | [_, _], _ => rfl, PySem.W.mg_of X G a_total_weights⟩
  have F_is_word := fun_mk (st := s_is_word) l_is_word c_is_word k_is_word
  have D_is_word : Dn K mg "is_word" s_is_word ["thing"] f_is_word _ := ⟨F_is_word, F_is_word.binds (ps := ["thing"]) fun _ _ _ _ _ _ us hl => match us, hl with | [_], _ => rfl, PySem.W.mg_of X G a_is_word⟩
  have F_is_answer := fun_mk (st := s_is_answer) l_is_answer c_is_answer k_is_answer
  have D_is_answer : Dn K mg "is_answer" s_is_answer ["thing", "worlds"] f_is_answer _ := ⟨F_is_answer, F_is_answer.binds (ps := ["thing", "worlds"]) fun _ _ _ _ _ _ us hl => match us, hl with | [_, _], _ => rfl, PySem.W.mg_of X G a_is_answer⟩
  have F_is_ascending := fun_mk (st := s_is_ascending) l_is_ascending c_is_ascending k_is_ascending
  have D_is_ascending : Dn K mg "is_ascending" s_is_ascending ["rows"] f_is_ascending _ := ⟨F_is_ascending, F_is_ascending.binds (ps := ["rows"]) fun _ _ _ _ _ _ us hl => match us, hl with | [_], _ => rfl, PySem.W.mg_of X G a_is_ascending⟩
  have F_check_tree := fun_mk (st := s_check_tree) l_check_tree c_check_tree k_check_tree
  have D_check_tree : Dn K mg "check_tree" s_check_tree ["worlds", "tree"] f_check_tree _ := ⟨F_check_tree, F_check_tree.binds (ps := ["worlds", "tree"]) fun _ _ _ _ _ _ us hl => match us, hl with | [_, _], _ => rfl, PySem.W.mg_of X G a_check_tree⟩
  have F_check_node := fun_mk (st := s_check_node) l_check_node c_check_node k_check_node
  have D_check_node : Dn K mg "check_node" s_check_node ["node", "place", "ahead"] f_check_node _ := ⟨F_check_node, F_check_node.binds (ps := ["node", "place", "ahead"]) fun _ _ _ _ _ _ us hl => match us, hl with | [_, _, _], _ => rfl, PySem.W.mg_of X G a_check_node⟩
  have F_check_question := fun_mk (st := s_check_question) l_check_question c_check_question k_check_question
  have D_check_question : Dn K mg "check_question" s_check_question ["question", "place", "ahead"] f_check_question _ := ⟨F_check_question, F_check_question.binds (ps := ["question", "place", "ahead"]) fun _ _ _ _ _ _ us hl => match us, hl with | [_, _, _], _ => rfl, PySem.W.mg_of X G a_check_question⟩
  have F_answers_in := fun_mk (st := s_answers_in) l_answers_in c_answers_in k_answers_in
  have D_answers_in : Dn K mg "answers_in" s_answers_in ["node"] f_answers_in _ := ⟨F_answers_in, F_answers_in.binds (ps := ["node"]) fun _ _ _ _ _ _ us hl => match us, hl with | [_], _ => rfl, PySem.W.mg_of X G a_answers_in⟩
  have F_rounds_in := fun_mk (st := s_rounds_in) l_rounds_in c_rounds_in k_rounds_in
  have D_rounds_in : Dn K mg "rounds_in" s_rounds_in ["node"] f_rounds_in _ := ⟨F_rounds_in, F_rounds_in.binds (ps := ["node"]) fun _ _ _ _ _ _ us hl => match us, hl with | [_], _ => rfl, PySem.W.mg_of X G a_rounds_in⟩
  have F_outline := fun_mk (st := s_outline) l_outline c_outline k_outline
  have D_outline : Dn K mg "outline" s_outline ["node"] f_outline _ := ⟨F_outline, F_outline.binds (ps := ["node"]) fun _ _ _ _ _ _ us hl => match us, hl with | [_], _ => rfl, PySem.W.mg_of X G a_outline⟩
  have F_House_init := fun_mk (st := s_House_init) l_House_init c_House_init k_House_init
  have D_House_init : Dm K "__init__" "House.__init__" s_House_init ["self", "worlds", "tree"] f_House_init _ := ⟨F_House_init, F_House_init.binds (ps := ["self", "worlds", "tree"]) fun _ _ _ _ _ _ us hl => match us, hl with | [_, _, _], _ => rfl⟩
  have F_House_eq := fun_mk (st := s_House_eq) l_House_eq c_House_eq k_House_eq
  have D_House_eq : Dm K "__eq__" "House.__eq__" s_House_eq ["self", "other"] f_House_eq _ := ⟨F_House_eq, F_House_eq.binds (ps := ["self", "other"]) fun _ _ _ _ _ _ us hl => match us, hl with | [_, _], _ => rfl⟩
  have F_made_house := fun_mk (st := s_made_house) l_made_house c_made_house k_made_house
  have D_made_house : Dn K mg "made_house" s_made_house ["worlds", "tree"] f_made_house _ := ⟨F_made_house, F_made_house.binds (ps := ["worlds", "tree"]) fun _ _ _ _ _ _ us hl => match us, hl with | [_, _], _ => rfl, PySem.W.mg_of X G a_made_house⟩
  have F_check_alike := fun_mk (st := s_check_alike) l_check_alike c_check_alike k_check_alike
  have D_check_alike : Dn K mg "check_alike" s_check_alike ["house", "other"] f_check_alike _ := ⟨F_check_alike, F_check_alike.binds (ps := ["house", "other"]) fun _ _ _ _ _ _ us hl => match us, hl with | [_, _], _ => rfl, PySem.W.mg_of X G a_check_alike⟩
  have F_is_shaped := fun_mk (st := s_is_shaped) l_is_shaped c_is_shaped k_is_shaped
  have D_is_shaped : Dn K mg "is_shaped" s_is_shaped ["house", "other"] f_is_shaped _ := ⟨F_is_shaped, F_is_shaped.binds (ps := ["house", "other"]) fun _ _ _ _ _ _ us hl => match us, hl with | [_, _], _ => rfl, PySem.W.mg_of X G a_is_shaped⟩
  have F_check_part := fun_mk (st := s_check_part) l_check_part c_check_part k_check_part
  have D_check_part : Dn K mg "check_part" s_check_part ["thing"] f_check_part _ := ⟨F_check_part, F_check_part.binds (ps := ["thing"]) fun _ _ _ _ _ _ us hl => match us, hl with | [_], _ => rfl, PySem.W.mg_of X G a_check_part⟩
  have F_rest_of := fun_mk (st := s_rest_of) l_rest_of c_rest_of k_rest_of
  have D_rest_of : Dn K mg "rest_of" s_rest_of ["share"] f_rest_of _ := ⟨F_rest_of, F_rest_of.binds (ps := ["share"]) fun _ _ _ _ _ _ us hl => match us, hl with | [_], _ => rfl, PySem.W.mg_of X G a_rest_of⟩
  have F_scaled_node := fun_mk (st := s_scaled_node) l_scaled_node c_scaled_node k_scaled_node
  have D_scaled_node : Dn K mg "scaled_node" s_scaled_node ["share", "node"] f_scaled_node _ := ⟨F_scaled_node, F_scaled_node.binds (ps := ["share", "node"]) fun _ _ _ _ _ _ us hl => match us, hl with | [_, _], _ => rfl, PySem.W.mg_of X G a_scaled_node⟩
  have F_tossed := fun_mk (st := s_tossed) l_tossed c_tossed k_tossed
  have D_tossed : Dn K mg "tossed" s_tossed ["share", "house", "other"] f_tossed _ := ⟨F_tossed, F_tossed.binds (ps := ["share", "house", "other"]) fun _ _ _ _ _ _ us hl => match us, hl with | [_, _, _], _ => rfl, PySem.W.mg_of X G a_tossed⟩
  have F_hidden_node := fun_mk (st := s_hidden_node) l_hidden_node c_hidden_node k_hidden_node
  have D_hidden_node : Dn K mg "hidden_node" s_hidden_node ["share", "rest", "node", "other"] f_hidden_node _ := ⟨F_hidden_node, F_hidden_node.binds (ps := ["share", "rest", "node", "other"]) fun _ _ _ _ _ _ us hl => match us, hl with | [_, _, _, _], _ => rfl, PySem.W.mg_of X G a_hidden_node⟩
  have F_hidden := fun_mk (st := s_hidden) l_hidden c_hidden k_hidden
  have D_hidden : Dn K mg "hidden" s_hidden ["share", "house", "other"] f_hidden _ := ⟨F_hidden, F_hidden.binds (ps := ["share", "house", "other"]) fun _ _ _ _ _ _ us hl => match us, hl with | [_, _, _], _ => rfl, PySem.W.mg_of X G a_hidden⟩
  have F_law_bag := fun_mk (st := s_law_bag) l_law_bag c_law_bag k_law_bag
  have D_law_bag : Dn K mg "_law_bag" s_law_bag ["script"] f_law_bag _ := ⟨F_law_bag, F_law_bag.binds (ps := ["script"]) fun _ _ _ _ _ _ us hl => match us, hl with | [_], _ => rfl, PySem.W.mg_of X G a_law_bag⟩
  have F_law_pick := fun_mk (st := s_law_pick) l_law_pick c_law_pick k_law_pick
  have D_law_pick : Dn K mg "_law_pick" s_law_pick ["bag", "many"] f_law_pick _ := ⟨F_law_pick, F_law_pick.binds (ps := ["bag", "many"]) fun _ _ _ _ _ _ us hl => match us, hl with | [_, _], _ => rfl, PySem.W.mg_of X G a_law_pick⟩
  have F_law_some := fun_mk (st := s_law_some) l_law_some c_law_some k_law_some
  have D_law_some : Dn K mg "_law_some" s_law_some ["bag", "things"] f_law_some _ := ⟨F_law_some, F_law_some.binds (ps := ["bag", "things"]) fun _ _ _ _ _ _ us hl => match us, hl with | [_, _], _ => rfl, PySem.W.mg_of X G a_law_some⟩
  have F_law_common := fun_mk (st := s_law_common) l_law_common c_law_common k_law_common
  have D_law_common : Dn K mg "_law_common" s_law_common ["one", "other"] f_law_common _ := ⟨F_law_common, F_law_common.binds (ps := ["one", "other"]) fun _ _ _ _ _ _ us hl => match us, hl with | [_, _], _ => rfl, PySem.W.mg_of X G a_law_common⟩
  have F_law_low := fun_mk (st := s_law_low) l_law_low c_law_low k_law_low
  have D_law_low : Dn K mg "_law_low" s_law_low ["top", "bottom"] f_law_low _ := ⟨F_law_low, F_law_low.binds (ps := ["top", "bottom"]) fun _ _ _ _ _ _ us hl => match us, hl with | [_, _], _ => rfl, PySem.W.mg_of X G a_law_low⟩
  have F_law_plus := fun_mk (st := s_law_plus) l_law_plus c_law_plus k_law_plus
  have D_law_plus : Dn K mg "_law_plus" s_law_plus ["one", "other"] f_law_plus _ := ⟨F_law_plus, F_law_plus.binds (ps := ["one", "other"]) fun _ _ _ _ _ _ us hl => match us, hl with | [_, _], _ => rfl, PySem.W.mg_of X G a_law_plus⟩
  have F_law_times := fun_mk (st := s_law_times) l_law_times c_law_times k_law_times
  have D_law_times : Dn K mg "_law_times" s_law_times ["one", "other"] f_law_times _ := ⟨F_law_times, F_law_times.binds (ps := ["one", "other"]) fun _ _ _ _ _ _ us hl => match us, hl with | [_, _], _ => rfl, PySem.W.mg_of X G a_law_times⟩
  have F_law_shares := fun_mk (st := s_law_shares) l_law_shares c_law_shares k_law_shares
  have D_law_shares : Dn K mg "_law_shares" s_law_shares ["bag", "many", "least"] f_law_shares _ := ⟨F_law_shares, F_law_shares.binds (ps := ["bag", "many", "least"]) fun _ _ _ _ _ _ us hl => match us, hl with | [_, _, _], _ => rfl, PySem.W.mg_of X G a_law_shares⟩
  have F_law_question := fun_mk (st := s_law_question) l_law_question c_law_question k_law_question
  have D_law_question : Dn K mg "_law_question" s_law_question ["bag", "worlds", "ahead", "rounds", "left"] f_law_question _ := ⟨F_law_question, F_law_question.binds (ps := ["bag", "worlds", "ahead", "rounds", "left"]) fun _ _ _ _ _ _ us hl => match us, hl with | [_, _, _, _, _], _ => rfl, PySem.W.mg_of X G a_law_question⟩
  have F_law_node := fun_mk (st := s_law_node) l_law_node c_law_node k_law_node
  have D_law_node : Dn K mg "_law_node" s_law_node ["bag", "worlds", "ahead", "rounds", "left"] f_law_node _ := ⟨F_law_node, F_law_node.binds (ps := ["bag", "worlds", "ahead", "rounds", "left"]) fun _ _ _ _ _ _ us hl => match us, hl with | [_, _, _, _, _], _ => rfl, PySem.W.mg_of X G a_law_node⟩
  have F_law_tree := fun_mk (st := s_law_tree) l_law_tree c_law_tree k_law_tree
  have D_law_tree : Dn K mg "_law_tree" s_law_tree ["bag", "worlds", "rounds", "answers"] f_law_tree _ := ⟨F_law_tree, F_law_tree.binds (ps := ["bag", "worlds", "rounds", "answers"]) fun _ _ _ _ _ _ us hl => match us, hl with | [_, _, _, _], _ => rfl, PySem.W.mg_of X G a_law_tree⟩
  have F_law_int := fun_mk (st := s_law_int) l_law_int c_law_int k_law_int
  have D_law_int : Dn K mg "_law_int" s_law_int ["thing", "least", "most"] f_law_int _ := ⟨F_law_int, F_law_int.binds (ps := ["thing", "least", "most"]) fun _ _ _ _ _ _ us hl => match us, hl with | [_, _, _], _ => rfl, PySem.W.mg_of X G a_law_int⟩
  have F_law_deep := fun_mk (st := s_law_deep) l_law_deep c_law_deep k_law_deep
  have D_law_deep : Dn K mg "_law_deep" s_law_deep ["bag"] f_law_deep _ := ⟨F_law_deep, F_law_deep.binds (ps := ["bag"]) fun _ _ _ _ _ _ us hl => match us, hl with | [_], _ => rfl, PySem.W.mg_of X G a_law_deep⟩
  have F_law_paths := fun_mk (st := s_law_paths) l_law_paths c_law_paths k_law_paths
  have D_law_paths : Dn K mg "_law_paths" s_law_paths ["node", "path"] f_law_paths _ := ⟨F_law_paths, F_law_paths.binds (ps := ["node", "path"]) fun _ _ _ _ _ _ us hl => match us, hl with | [_, _], _ => rfl, PySem.W.mg_of X G a_law_paths⟩
  have F_law_walked := fun_mk (st := s_law_walked) l_law_walked c_law_walked k_law_walked
  have D_law_walked : Dn K mg "_law_walked" s_law_walked ["worlds", "tree", "path"] f_law_walked _ := ⟨F_law_walked, F_law_walked.binds (ps := ["worlds", "tree", "path"]) fun _ _ _ _ _ _ us hl => match us, hl with | [_, _, _], _ => rfl, PySem.W.mg_of X G a_law_walked⟩
  have F_law_again := fun_mk (st := s_law_again) l_law_again c_law_again k_law_again
  have D_law_again : Dn K mg "_law_again" s_law_again ["bag", "worlds", "node", "ahead"] f_law_again _ := ⟨F_law_again, F_law_again.binds (ps := ["bag", "worlds", "node", "ahead"]) fun _ _ _ _ _ _ us hl => match us, hl with | [_, _, _, _], _ => rfl, PySem.W.mg_of X G a_law_again⟩
  have F_law_shape := fun_mk (st := s_law_shape) l_law_shape c_law_shape k_law_shape
  have D_law_shape : Dn K mg "_law_shape" s_law_shape ["node"] f_law_shape _ := ⟨F_law_shape, F_law_shape.binds (ps := ["node"]) fun _ _ _ _ _ _ us hl => match us, hl with | [_], _ => rfl, PySem.W.mg_of X G a_law_shape⟩
  have F_law_is_share := fun_mk (st := s_law_is_share) l_law_is_share c_law_is_share k_law_is_share
  have D_law_is_share : Dn K mg "_law_is_share" s_law_is_share ["thing"] f_law_is_share _ := ⟨F_law_is_share, F_law_is_share.binds (ps := ["thing"]) fun _ _ _ _ _ _ us hl => match us, hl with | [_], _ => rfl, PySem.W.mg_of X G a_law_is_share⟩
  have F_law_word := fun_mk (st := s_law_word) l_law_word c_law_word k_law_word
  have D_law_word : Dn K mg "_law_word" s_law_word ["which", "share", "house", "other"] f_law_word _ := ⟨F_law_word, F_law_word.binds (ps := ["which", "share", "house", "other"]) fun _ _ _ _ _ _ us hl => match us, hl with | [_, _, _, _], _ => rfl, PySem.W.mg_of X G a_law_word⟩
  have F_law_is_tossed := fun_mk (st := s_law_is_tossed) l_law_is_tossed c_law_is_tossed k_law_is_tossed
  have D_law_is_tossed : Dn K mg "_law_is_tossed" s_law_is_tossed ["worlds", "share", "trees", "told"] f_law_is_tossed _ := ⟨F_law_is_tossed, F_law_is_tossed.binds (ps := ["worlds", "share", "trees", "told"]) fun _ _ _ _ _ _ us hl => match us, hl with | [_, _, _, _], _ => rfl, PySem.W.mg_of X G a_law_is_tossed⟩
  have F_law_is_hidden := fun_mk (st := s_law_is_hidden) l_law_is_hidden c_law_is_hidden k_law_is_hidden
  have D_law_is_hidden : Dn K mg "_law_is_hidden" s_law_is_hidden ["worlds", "share", "trees", "told"] f_law_is_hidden _ := ⟨F_law_is_hidden, F_law_is_hidden.binds (ps := ["worlds", "share", "trees", "told"]) fun _ _ _ _ _ _ us hl => match us, hl with | [_, _, _, _], _ => rfl, PySem.W.mg_of X G a_law_is_hidden⟩
  have F_law := fun_mk (st := s_law) l_law c_law k_law
  have D_law : Dn K mg "law" s_law ["script"] fa _ := ⟨F_law, F_law.binds (ps := ["script"]) fun _ _ _ _ _ _ us hl => match us, hl with | [_], _ => rfl, PySem.W.mg_of X G a_law⟩
  have D_sum : DTot K mg f_common_bottom _ := ⟨D_common_bottom, _, _, D_times_whole⟩
  refine ⟨PySem.W.fnOf "law" "law" (defArgs s_law) (defBody s_law) (defScope s_law) .none kV_law dc_law pm_law an_law cd_law ct_law, fun s v => .of_eq rfl, fun base _ _ => ?_⟩
  have qn := ok_law_qn (P := l.prog) (w := w) (base := base) D_law_question B D_law_low D_law_common D_law_pick D_law_shares D_law_some D_law_times D_law_node
  have tree := fun n => ok_law_tree D_law_tree B D_law_pick D_law_question (qn (n + 1)).1
  have ck := ok_checks (P := l.prog) (w := w) (base := base) B C D_check_node D_check_question D_is_answer D_is_ascending D_total_weights D_is_number D_is_integral D_is_word D_is_fraction D_is_chance D_reduced D_sum D_total D_are_chances
  have ini := fun n => ok_House_init D_House_init B C U D_check_tree (ok_check_tree D_check_tree B C D_check_node (ck n).2 D_answers_in) D_is_number D_is_integral
  have G_multiplied := ok_multiplied (P := l.prog) (w := w) (base := base) D_multiplied B C D_reduced
  have G_added := ok_added (P := l.prog) (w := w) (base := base) D_added B C D_reduced
  have G_is_integral := ok_is_integral (P := l.prog) (w := w) (K := K) (base := base) D_is_integral B
  have G_is_fraction := ok_is_fraction_o (P := l.prog) (w := w) (base := base) D_is_fraction B C D_is_integral G_is_integral
  have G_is_chance := ok_is_chance_o (P := l.prog) (w := w) (base := base) D_is_chance B C D_is_fraction G_is_fraction
  have G_is_share := ok_is_share_o (P := l.prog) (w := w) (base := base) D_is_share B C D_is_chance G_is_chance
  have G_check_part := ok_check_part (P := l.prog) (w := w) (base := base) D_check_part B C D_is_share G_is_share X_NoShare
  have G_less := ok_less (P := l.prog) (w := w) (base := base) D_less B C
  have G_rest_of := ok_rest_of (P := l.prog) (w := w) (base := base) D_rest_of B C D_added G_added D_less G_less
  have G_scaled_weights := ok_scaled_weights (P := l.prog) (w := w) (base := base) D_scaled_weights B C D_multiplied G_multiplied
  have G_added_weights := ok_added_weights (P := l.prog) (w := w) (base := base) D_added_weights B C D_added G_added
  have G_scaled_node : FnOk l.prog w K mg base CX0 16 f_scaled_node _ ["share", "node"] (anyS 12 (spScN K)) := FnOk.anyS (lv := fun n => 4 + n) (ok_scaled_node D_scaled_node B C D_scaled_weights G_scaled_weights) fun n hn => by show 4 + n ≤ 16; omega
  have G_hidden_node : FnOk l.prog w K mg base CX0 16 f_hidden_node _ ["share", "rest", "node", "other"] (anyS 12 (spHiN K)) := FnOk.anyS (lv := fun n => 4 + n) (ok_hidden_node D_hidden_node B C D_scaled_weights G_scaled_weights D_added_weights G_added_weights) fun n hn => by show 4 + n ≤ 16; omega
  have G_outline : FnOk l.prog w K mg base CX0 16 f_outline _ ["node"] (anyS 12 (spOu K)) := FnOk.anyS (lv := fun n => 1 + n) (ok_outline D_outline B C) fun n hn => by show 1 + n ≤ 16; omega
  have G_is_shaped := ok_is_shaped (P := l.prog) (w := w) (base := base) D_is_shaped B C U D_outline G_outline
  have G_check_alike := ok_check_alike (P := l.prog) (w := w) (base := base) D_check_alike B C U X_NotAlike
  have G_made_house : FnOk l.prog w K mg base CX0 24 f_made_house _ ["worlds", "tree"] (anyS 12 (spMade K Cc)) := FnOk.anyS (lv := fun n => 12 + n) (fun n => ok_made_house (n := n) D_made_house B C U D_rounds_in D_answers_in D_House_init (ini 0)) fun n hn => by show 12 + n ≤ 24; omega
  have G_tossed := ok_tossed (HE := C_HouseError) (P := l.prog) (w := w) (base := base) D_tossed B C U D_check_alike G_check_alike D_check_part G_check_part D_rest_of G_rest_of D_scaled_weights G_scaled_weights D_scaled_node G_scaled_node D_made_house G_made_house
  have G_hidden := ok_hidden (P := l.prog) (w := w) (base := base) D_hidden B C U D_check_alike G_check_alike D_check_part G_check_part D_is_shaped G_is_shaped D_rest_of G_rest_of D_hidden_node G_hidden_node D_made_house G_made_house X_NotShaped
  have G_law_pick := ok_law_pick (P := l.prog) (w := w) (base := base) D_law_pick B
  have G_law_low := ok_law_low (P := l.prog) (w := w) (K := K) (base := base) D_law_low B D_law_common
  have G_law_common := ok_law_common (P := l.prog) (w := w) (K := K) (base := base) D_law_common B
  have G_law_times := ok_law_times (P := l.prog) (w := w) (base := base) D_law_times B D_law_low D_law_common
  have G_law_plus := ok_law_plus (P := l.prog) (w := w) (base := base) D_law_plus B D_law_low D_law_common
  have G_law_again := ok_law_again (P := l.prog) (w := w) (base := base) D_law_again B D_law_low D_law_common D_law_pick D_law_shares D_law_times 2
  have shp := ok_law_shape (P := l.prog) (w := w) (base := base) D_law_shape B C
  have G_law_shape : FnOk l.prog w K mg base CX0 16 f_law_shape _ ["node"] (anyS 12 (spShp K)) := FnOk.anyS (lv := fun n => 1 + n) shp fun n hn => by show 1 + n ≤ 16; omega
  have G_law_int := ok_law_int_s (P := l.prog) (w := w) (K := K) (base := base) D_law_int B C
  have G_law_is_share := ok_law_is_share (P := l.prog) (w := w) (base := base) D_law_is_share B C D_law_int G_law_int D_law_common G_law_common
  have G_law_deep := ok_law_deep (P := l.prog) (w := w) (K := K) (base := base) D_law_deep B C D_law_pick G_law_pick
  have G_law_some := ok_law_some (P := l.prog) (w := w) (K := K) (base := base) D_law_some B D_law_pick
  have G_law_paths : FnOk l.prog w K mg base CX0 20 f_law_paths _ ["node", "path"] (anyS 12 (spStd K (fun v p => [v, p]))) := FnOk.anyS (lv := fun n => 1 + n) (ok_law_paths D_law_paths B) fun n hn => by show 1 + n ≤ 20; omega
  have G_law_walked := ok_law_walked (P := l.prog) (w := w) (base := base) D_law_walked B C
  have nAS : C_NotAlike ≠ C_NoShare := fun z => by simp [z] at xnodup
  have nAP : C_NotAlike ≠ C_NotShaped := fun z => by simp [z] at xnodup
  have nSP : C_NoShare ≠ C_NotShaped := fun z => by simp [z] at xnodup
  have G_law_word := ok_law_word (P := l.prog) (w := w) (base := base) D_law_word B C U D_tossed G_tossed D_hidden G_hidden X_HouseError X_NotAlike X_NoShare X_NotShaped nAS nAP nSP
  have G_law_is_tossed := ok_law_is_tossed (P := l.prog) (w := w) (base := base) D_law_is_tossed B C U D_law_low G_law_low D_law_shape G_law_shape D_law_paths G_law_paths D_law_walked G_law_walked D_law_times G_law_times
  have G_law_is_hidden := ok_law_is_hidden (P := l.prog) (w := w) (base := base) D_law_is_hidden B C U D_law_low G_law_low D_law_shape G_law_shape D_law_paths G_law_paths D_law_walked G_law_walked D_law_times G_law_times D_law_plus G_law_plus
  have G_ini : FnOk l.prog w K mg base CX0 24 f_House_init _ ["self", "worlds", "tree"] (anyS 8 (spInit K Cc)) := FnOk.anyS (lv := fun n => 8 + 2 * n) ini fun n hn => by show 8 + 2 * n ≤ 24; omega
  exact ok_law D_law B U UN D_law_bag (ok_law_bag D_law_bag B) D_law_pick G_law_pick D_law_tree (FnOk.anyS (lv := fun n => 6 + 2 * (n + 1)) tree fun n hn => by show 6 + 2 * (n + 1) ≤ 30; omega) D_law_again G_law_again D_law_deep G_law_deep D_law_some G_law_some D_law_shape (shp 2) D_is_shaped G_is_shaped D_law_is_share G_law_is_share D_law_word G_law_word D_law_is_tossed G_law_is_tossed D_law_is_hidden G_law_is_hidden D_tossed G_tossed D_hidden G_hidden D_House_init G_ini D_House_eq (ok_House_eq D_House_eq B U)
end Tl
open PySem PySem.W PyProof.Rows
set_option maxRecDepth 100000 in
set_option maxHeartbeats 0 in
theorem PySem.Challenge.cw_tellsless_k41_whole_houses_tossed_and_hi_holds : PySem.Challenge.rw_tellsless_k41_whole_houses_tossed_and_hi.Holds := by
  w_on; o_law; k_head; (case hw => w_witness2)
  k_fill
  refine Tl.walkG (l := PySem.Challenge.rw_tellsless_k41_whole_houses_tossed_and_hi) (k := 32) (x := "script") rfl rfl ⟨rfl, by decide, by decide⟩ (fun w h Y => PySem.W.kIn_of Y) ?F
  case F =>
    intro w mg fa h KX G hmg
    refine' Tl.all_mk KX G hmg ?aC ?a_is_integral ?l_is_integral ?c_is_integral ?k_is_integral ?a_is_number ?l_is_number ?c_is_number ?k_is_number ?a_is_fraction ?l_is_fraction ?c_is_fraction ?k_is_fraction ?a_is_chance ?l_is_chance ?c_is_chance ?k_is_chance ?a_is_share ?l_is_share ?c_is_share ?k_is_share ?a_are_chances ?l_are_chances ?c_are_chances ?k_are_chances ?a_reduced ?l_reduced ?c_reduced ?k_reduced ?a_added ?l_added ?c_added ?k_added ?a_multiplied ?l_multiplied ?c_multiplied ?k_multiplied ?a_less ?l_less ?c_less ?k_less ?a_common_bottom ?l_common_bottom ?c_common_bottom ?k_common_bottom ?a_times_whole ?l_times_whole ?c_times_whole ?k_times_whole ?a_total ?l_total ?c_total ?k_total ?a_added_weights ?l_added_weights ?c_added_weights ?k_added_weights ?a_scaled_weights ?l_scaled_weights ?c_scaled_weights ?k_scaled_weights ?a_total_weights ?l_total_weights ?c_total_weights ?k_total_weights ?a_is_word ?l_is_word ?c_is_word ?k_is_word ?a_is_answer ?l_is_answer ?c_is_answer ?k_is_answer ?a_is_ascending ?l_is_ascending ?c_is_ascending ?k_is_ascending ?a_check_tree ?l_check_tree ?c_check_tree ?k_check_tree ?a_check_node ?l_check_node ?c_check_node ?k_check_node ?a_check_question ?l_check_question ?c_check_question ?k_check_question ?a_answers_in ?l_answers_in ?c_answers_in ?k_answers_in ?a_rounds_in ?l_rounds_in ?c_rounds_in ?k_rounds_in ?a_outline ?l_outline ?c_outline ?k_outline ?a_House_init ?i_House_init ?l_House_init ?c_House_init ?k_House_init ?a_House_eq ?i_House_eq ?l_House_eq ?c_House_eq ?k_House_eq ?a_made_house ?l_made_house ?c_made_house ?k_made_house ?a_check_alike ?l_check_alike ?c_check_alike ?k_check_alike ?a_is_shaped ?l_is_shaped ?c_is_shaped ?k_is_shaped ?a_check_part ?l_check_part ?c_check_part ?k_check_part ?a_rest_of ?l_rest_of ?c_rest_of ?k_rest_of ?a_scaled_node ?l_scaled_node ?c_scaled_node ?k_scaled_node ?a_tossed ?l_tossed ?c_tossed ?k_tossed ?a_hidden_node ?l_hidden_node ?c_hidden_node ?k_hidden_node ?a_hidden ?l_hidden ?c_hidden ?k_hidden ?a_law_bag ?l_law_bag ?c_law_bag ?k_law_bag ?a_law_pick ?l_law_pick ?c_law_pick ?k_law_pick ?a_law_some ?l_law_some ?c_law_some ?k_law_some ?a_law_common ?l_law_common ?c_law_common ?k_law_common ?a_law_low ?l_law_low ?c_law_low ?k_law_low ?a_law_plus ?l_law_plus ?c_law_plus ?k_law_plus ?a_law_times ?l_law_times ?c_law_times ?k_law_times ?a_law_shares ?l_law_shares ?c_law_shares ?k_law_shares ?a_law_question ?l_law_question ?c_law_question ?k_law_question ?a_law_node ?l_law_node ?c_law_node ?k_law_node ?a_law_tree ?l_law_tree ?c_law_tree ?k_law_tree ?a_law_int ?l_law_int ?c_law_int ?k_law_int ?a_law_deep ?l_law_deep ?c_law_deep ?k_law_deep ?a_law_paths ?l_law_paths ?c_law_paths ?k_law_paths ?a_law_walked ?l_law_walked ?c_law_walked ?k_law_walked ?a_law_again ?l_law_again ?c_law_again ?k_law_again ?a_law_shape ?l_law_shape ?c_law_shape ?k_law_shape ?a_law_is_share ?l_law_is_share ?c_law_is_share ?k_law_is_share ?a_law_word ?l_law_word ?c_law_word ?k_law_word ?a_law_is_tossed ?l_law_is_tossed ?c_law_is_tossed ?k_law_is_tossed ?a_law_is_hidden ?l_law_is_hidden ?c_law_is_hidden ?k_law_is_hidden ?a_law ?l_law ?c_law ?k_law ?pgC ?hdC ?poC ?saC ?mkC ?kcC ?nwC ?ntC ?haC ?hnC ?htC ?hmC ?gcd ?lcm ?aO0 ?lO ?m_MOST_QUESTIONS ?m_MOST_WORDS ?m_MOST_NUMBERS ?m_MOST_ON_A_WAY ?m_MOST_PASSED ?m_MOST_ROUNDS ?m_MOST_ANSWERS ?neC ?a_HouseError ?x_HouseError ?sa_HouseError ?kp_HouseError ?hg_HouseError ?hk_HouseError ?hc_HouseError ?a_NotAlike ?x_NotAlike ?sa_NotAlike ?kp_NotAlike ?hg_NotAlike ?hk_NotAlike ?hc_NotAlike ?q_NotAlike ?a_NoShare ?x_NoShare ?sa_NoShare ?kp_NoShare ?hg_NoShare ?hk_NoShare ?hc_NoShare ?q_NoShare ?a_NotShaped ?x_NotShaped ?sa_NotShaped ?kp_NotShaped ?hg_NotShaped ?hk_NotShaped ?hc_NotShaped ?q_NotShaped ?xnodup ?z_len ?z_int ?z_abs ?z_sum ?z_range ?z_repr ?z_isinstance ?z_any ?z_all ?z_tuple ?z_list ?z_zip ?z_enumerate ?z_max ?z_bool
    (case aC => k_is)
    (case a_is_integral => k_is)
    (case l_is_integral => k_is)
    (case c_is_integral => k_is)
    (case k_is_integral => k_is)
    (case a_is_number => k_is)
    (case l_is_number => k_is)
    (case c_is_number => k_is)
    (case k_is_number => k_is)
    (case a_is_fraction => k_is)
    (case l_is_fraction => k_is)
    (case c_is_fraction => k_is)
    (case k_is_fraction => k_is)
    (case a_is_chance => k_is)
    (case l_is_chance => k_is)
    (case c_is_chance => k_is)
    (case k_is_chance => k_is)
    (case a_is_share => k_is)
    (case l_is_share => k_is)
    (case c_is_share => k_is)
    (case k_is_share => k_is)
    (case a_are_chances => k_is)
    (case l_are_chances => k_is)
    (case c_are_chances => k_is)
    (case k_are_chances => k_is)
    (case a_reduced => k_is)
    (case l_reduced => k_is)
    (case c_reduced => k_is)
    (case k_reduced => k_is)
    (case a_added => k_is)
    (case l_added => k_is)
    (case c_added => k_is)
    (case k_added => k_is)
    (case a_multiplied => k_is)
    (case l_multiplied => k_is)
    (case c_multiplied => k_is)
    (case k_multiplied => k_is)
    (case a_less => k_is)
    (case l_less => k_is)
    (case c_less => k_is)
    (case k_less => k_is)
    (case a_common_bottom => k_is)
    (case l_common_bottom => k_is)
    (case c_common_bottom => k_is)
    (case k_common_bottom => k_is)
    (case a_times_whole => k_is)
    (case l_times_whole => k_is)
    (case c_times_whole => k_is)
    (case k_times_whole => k_is)
    (case a_total => k_is)
    (case l_total => k_is)
    (case c_total => k_is)
    (case k_total => k_is)
    (case a_added_weights => k_is)
    (case l_added_weights => k_is)
    (case c_added_weights => k_is)
    (case k_added_weights => k_is)
    (case a_scaled_weights => k_is)
    (case l_scaled_weights => k_is)
    (case c_scaled_weights => k_is)
    (case k_scaled_weights => k_is)
    (case a_total_weights => k_is)
    (case l_total_weights => k_is)
    (case c_total_weights => k_is)
    (case k_total_weights => k_is)
    (case a_is_word => k_is)
    (case l_is_word => k_is)
    (case c_is_word => k_is)
    (case k_is_word => k_is)
    (case a_is_answer => k_is)
    (case l_is_answer => k_is)
    (case c_is_answer => k_is)
    (case k_is_answer => k_is)
    (case a_is_ascending => k_is)
    (case l_is_ascending => k_is)
    (case c_is_ascending => k_is)
    (case k_is_ascending => k_is)
    (case a_check_tree => k_is)
    (case l_check_tree => k_is)
    (case c_check_tree => k_is)
    (case k_check_tree => k_is)
    (case a_check_node => k_is)
    (case l_check_node => k_is)
    (case c_check_node => k_is)
    (case k_check_node => k_is)
    (case a_check_question => k_is)
    (case l_check_question => k_is)
    (case c_check_question => k_is)
    (case k_check_question => k_is)
    (case a_answers_in => k_is)
    (case l_answers_in => k_is)
    (case c_answers_in => k_is)
    (case k_answers_in => k_is)
    (case a_rounds_in => k_is)
    (case l_rounds_in => k_is)
    (case c_rounds_in => k_is)
    (case k_rounds_in => k_is)
    (case a_outline => k_is)
    (case l_outline => k_is)
    (case c_outline => k_is)
    (case k_outline => k_is)
    (case a_House_init => k_is)
    (case i_House_init => k_is)
    (case l_House_init => k_is)
    (case c_House_init => k_is)
    (case k_House_init => k_is)
    (case a_House_eq => k_is)
    (case i_House_eq => k_is)
    (case l_House_eq => k_is)
    (case c_House_eq => k_is)
    (case k_House_eq => k_is)
    (case a_made_house => k_is)
    (case l_made_house => k_is)
    (case c_made_house => k_is)
    (case k_made_house => k_is)
    (case a_check_alike => k_is)
    (case l_check_alike => k_is)
    (case c_check_alike => k_is)
    (case k_check_alike => k_is)
    (case a_is_shaped => k_is)
    (case l_is_shaped => k_is)
    (case c_is_shaped => k_is)
    (case k_is_shaped => k_is)
    (case a_check_part => k_is)
    (case l_check_part => k_is)
    (case c_check_part => k_is)
    (case k_check_part => k_is)
    (case a_rest_of => k_is)
    (case l_rest_of => k_is)
    (case c_rest_of => k_is)
    (case k_rest_of => k_is)
    (case a_scaled_node => k_is)
    (case l_scaled_node => k_is)
    (case c_scaled_node => k_is)
    (case k_scaled_node => k_is)
    (case a_tossed => k_is)
    (case l_tossed => k_is)
    (case c_tossed => k_is)
    (case k_tossed => k_is)
    (case a_hidden_node => k_is)
    (case l_hidden_node => k_is)
    (case c_hidden_node => k_is)
    (case k_hidden_node => k_is)
    (case a_hidden => k_is)
    (case l_hidden => k_is)
    (case c_hidden => k_is)
    (case k_hidden => k_is)
    (case a_law_bag => k_is)
    (case l_law_bag => k_is)
    (case c_law_bag => k_is)
    (case k_law_bag => k_is)
    (case a_law_pick => k_is)
    (case l_law_pick => k_is)
    (case c_law_pick => k_is)
    (case k_law_pick => k_is)
    (case a_law_some => k_is)
    (case l_law_some => k_is)
    (case c_law_some => k_is)
    (case k_law_some => k_is)
    (case a_law_common => k_is)
    (case l_law_common => k_is)
    (case c_law_common => k_is)
    (case k_law_common => k_is)
    (case a_law_low => k_is)
    (case l_law_low => k_is)
    (case c_law_low => k_is)
    (case k_law_low => k_is)
    (case a_law_plus => k_is)
    (case l_law_plus => k_is)
    (case c_law_plus => k_is)
    (case k_law_plus => k_is)
    (case a_law_times => k_is)
    (case l_law_times => k_is)
    (case c_law_times => k_is)
    (case k_law_times => k_is)
    (case a_law_shares => k_is)
    (case l_law_shares => k_is)
    (case c_law_shares => k_is)
    (case k_law_shares => k_is)
    (case a_law_question => k_is)
    (case l_law_question => k_is)
    (case c_law_question => k_is)
    (case k_law_question => k_is)
    (case a_law_node => k_is)
    (case l_law_node => k_is)
    (case c_law_node => k_is)
    (case k_law_node => k_is)
    (case a_law_tree => k_is)
    (case l_law_tree => k_is)
    (case c_law_tree => k_is)
    (case k_law_tree => k_is)
    (case a_law_int => k_is)
    (case l_law_int => k_is)
    (case c_law_int => k_is)
    (case k_law_int => k_is)
    (case a_law_deep => k_is)
    (case l_law_deep => k_is)
    (case c_law_deep => k_is)
    (case k_law_deep => k_is)
    (case a_law_paths => k_is)
    (case l_law_paths => k_is)
    (case c_law_paths => k_is)
    (case k_law_paths => k_is)
    (case a_law_walked => k_is)
    (case l_law_walked => k_is)
    (case c_law_walked => k_is)
    (case k_law_walked => k_is)
    (case a_law_again => k_is)
    (case l_law_again => k_is)
    (case c_law_again => k_is)
    (case k_law_again => k_is)
    (case a_law_shape => k_is)
    (case l_law_shape => k_is)
    (case c_law_shape => k_is)
    (case k_law_shape => k_is)
    (case a_law_is_share => k_is)
    (case l_law_is_share => k_is)
    (case c_law_is_share => k_is)
    (case k_law_is_share => k_is)
    (case a_law_word => k_is)
    (case l_law_word => k_is)
    (case c_law_word => k_is)
    (case k_law_word => k_is)
    (case a_law_is_tossed => k_is)
    (case l_law_is_tossed => k_is)
    (case c_law_is_tossed => k_is)
    (case k_law_is_tossed => k_is)
    (case a_law_is_hidden => k_is)
    (case l_law_is_hidden => k_is)
    (case c_law_is_hidden => k_is)
    (case k_law_is_hidden => k_is)
    (case a_law => k_is)
    (case l_law => k_is)
    (case c_law => k_is)
    (case k_law => k_is)
    (case pgC => k_is)
    (case hdC => k_is)
    (case poC => k_is)
    (case saC => k_is)
    (case mkC => k_is)
    (case kcC => k_is)
    (case nwC => k_is)
    (case ntC => k_is)
    (case haC => k_is)
    (case hnC => k_is)
    (case htC => k_is)
    (case hmC => k_is)
    (case gcd => k_is)
    (case lcm => k_is)
    (case aO0 => k_is)
    (case lO => k_is)
    (case m_MOST_QUESTIONS => k_is)
    (case m_MOST_WORDS => k_is)
    (case m_MOST_NUMBERS => k_is)
    (case m_MOST_ON_A_WAY => k_is)
    (case m_MOST_PASSED => k_is)
    (case m_MOST_ROUNDS => k_is)
    (case m_MOST_ANSWERS => k_is)
    (case neC => k_is)
    (case a_HouseError => k_is)
    (case x_HouseError => k_is)
    (case sa_HouseError => k_is)
    (case kp_HouseError => k_is)
    (case hg_HouseError => k_is)
    (case hk_HouseError => k_is)
    (case hc_HouseError => k_is)
    (case a_NotAlike => k_is)
    (case x_NotAlike => k_is)
    (case sa_NotAlike => k_is)
    (case kp_NotAlike => k_is)
    (case hg_NotAlike => k_is)
    (case hk_NotAlike => k_is)
    (case hc_NotAlike => k_is)
    (case q_NotAlike => k_exc)
    (case a_NoShare => k_is)
    (case x_NoShare => k_is)
    (case sa_NoShare => k_is)
    (case kp_NoShare => k_is)
    (case hg_NoShare => k_is)
    (case hk_NoShare => k_is)
    (case hc_NoShare => k_is)
    (case q_NoShare => k_exc)
    (case a_NotShaped => k_is)
    (case x_NotShaped => k_is)
    (case sa_NotShaped => k_is)
    (case kp_NotShaped => k_is)
    (case hg_NotShaped => k_is)
    (case hk_NotShaped => k_is)
    (case hc_NotShaped => k_is)
    (case q_NotShaped => k_exc)
    (case xnodup => decide +kernel)
    (case z_len => k_is)
    (case z_int => k_is)
    (case z_abs => k_is)
    (case z_sum => k_is)
    (case z_range => k_is)
    (case z_repr => k_is)
    (case z_isinstance => k_is)
    (case z_any => k_is)
    (case z_all => k_is)
    (case z_tuple => k_is)
    (case z_list => k_is)
    (case z_zip => k_is)
    (case z_enumerate => k_is)
    (case z_max => k_is)
    (case z_bool => k_is)
