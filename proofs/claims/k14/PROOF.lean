import PyProof.Rows.All
import Wide.All
import OpenK.AllK
import Wide.FinOn
import HandS.ForMost
import HandS.Gcd
import HandS.Zip
import HandS.Walk
import HandS.SortKw
import HandS.TupMul
import HandS.TupAny
import HandS.IsInst
import HandS.OwnEq
import HandS.Wide
import KE.DataMinMax
import KE.GoesMore
import KE.GoesEnum
import PyProof.ReprBulk
import PyProof.P3Eq
import HandS.Dict
import KE.KeyNested
import KE.KDictPairs
import KE.GoesNew
import KE.KDictWalk
import HandS.Style
import HandS.NamedTupSort
import PySem.Challenge.RW_tellsless_k14_whole_passing_and_joined
set_option Elab.async false
set_option linter.all false
set_option maxRecDepth 100000
set_option maxHeartbeats 16000000
/-! rules that the layer lacks -/
namespace Tl
open PySem PySem.Spec PyProof.Rows L2 RZ
section
variable {X : Cx}
/-- repr of nested data -/
def rReprD (K : PySem.W.Frag) : List V → Hp → VK → Prop := fun xs H Q =>
  ∃ (a : Addr) (d : PyData), xs = [.ref a] ∧ Dp K H (.ref a) d ∧ d.showable = true ∧ d.hasDict = false ∧ d.depth ≤ 60 ∧ d.shown.length ≤ sizeLine ∧ Q (.str d.shown) H
theorem cr_reprD (hu : X.A.units + 64 < cLine) (hg : X.A.guards = some []) : CallR X (.builtin "repr") (rReprD X.K) := by
  intro pins s σ H xs us Q I r h
  obtain ⟨a, d, rfl, hd, h1, h2, h3, h4, q⟩ := h
  rw [Vals.ref1 r]
  obtain ⟨as, rd⟩ := Dp.reads I d _ _ hd rfl
  refine repr_of_reads' rd h1 (PyData.noDict_hsm h2) hg (by omega) (fun _ _ e => e) (fun h' u tk hk => ?_) h4
  exact ⟨.str d.shown, H, I.kept (t' := tk) hk, ⟨_, rfl⟩, q⟩
/-- xs[i], i from 0 on, read for a store by an operator -/
def gAtL (K : PySem.W.Frag) : V → V → Hp → VK → Prop := fun x y H Q => ∃ p xs j v, x = .ref p ∧ y = .int ((j : Nat) : Int) ∧ SqL K H p xs ∧ xs[j]? = some v ∧ Q v H
theorem get_listP : PGet X (gAtL X.K) := by
  intro pins s σ H o i ov iv Q I ro ri h
  obtain ⟨p, xs, j, z, rfl, rfl, hq, he, q⟩ := h
  cases ro
  obtain ⟨t, rfl⟩ := ri
  obtain ⟨its, r, pl, hz⟩ := I.list hq
  obtain ⟨w, ew, rw'⟩ := r.get he
  have hn := line63
  have hj : j < xs.length := (List.getElem?_eq_some_iff.mp he).1
  exact wpAny_getItem_list pl.isList (by omega) (by omega) (by simpa using ew) ⟨z, H, I, rw', q⟩
end

section
variable {X : Cx}
def topOf (d : Int) : List Int → Int
  | [] => d
  | n :: r => r.foldl max n
def rMaxDf (K : PySem.W.Frag) : List V → List V → Hp → VK → Prop := fun vs zs H Q => ∃ (a : Addr) (ns : List Int) (d : Int), vs = [V.ref a] ∧ zs = [.int d] ∧ SqL K H a (ns.map V.int) ∧ Q (.int (topOf d ns)) H
theorem reads_ints {h : Heap} : ∀ {us : List Value} {ns : List Int}, IntsAre us ns → ∃ as, ReadsAll h us (ns.map PyData.int) as
  | _, _, .nil => ⟨_, .nil⟩
  | _, _, .cons n t r => by
    obtain ⟨as, q⟩ := reads_ints (h := h) r
    exact ⟨_, .cons (.int n t) q⟩
theorem depth_ints : ∀ ns : List Int, PyData.depthAll (ns.map PyData.int) = 0
  | [] => rfl
  | n :: r => by
    show max (PyData.depth (.int n)) (PyData.depthAll (r.map PyData.int)) = 0
    rw [depth_ints r]
    rfl
theorem alike_ints (ns : List Int) : PySem.W.AlikeAll (ns.map PyData.int) := by
  constructor
  · intro x hx y hy
    obtain ⟨i, _, rfl⟩ := List.mem_map.mp hx
    obtain ⟨j, _, rfl⟩ := List.mem_map.mp hy
    rfl
  · intro x hx
    obtain ⟨i, _, rfl⟩ := List.mem_map.mp hx
    exact fun h => by cases h
theorem cr_maxDf (hc : X.calm = true) (hu : X.A.units + 64 < cLine) : CallRK X (.builtin "max") [Str.ofString "default"] (rMaxDf X.K) := by
  intro pins s σ H vs zs us ws Q I r rz h
  obtain ⟨a, ns, d, rfl, rfl, hs, q⟩ := h
  obtain ⟨its, rv, pl, hz⟩ := I.list hs
  rw [Vals.ref1 r]
  obtain ⟨w1, rfl, t, rfl⟩ := vals1 rz
  have hi := rv.ints
  obtain ⟨as, hr⟩ := reads_ints (h := s.heap) hi
  refine PySem.W.max_list_default (vs := its.toArray) (xs := ns.map PyData.int) (as := as) (I.ok.hd hc) pl.isList (by simpa using hr) (alike_ints ns) (by rw [depth_ints]; omega) (fun hn h' tk hk => ?_) fun y ys i v h' tk bs e ev hv hk => ?_
  · have e : ns = [] := List.map_eq_nil_iff.mp hn
    subst e
    exact ⟨.int d, H, I.kept (t' := tk) hk, ⟨t, rfl⟩, q⟩
  · cases ns with
    | nil => cases e
    | cons n r =>
      cases e
      rw [PySem.W.maxD_ints] at hv
      cases hv
      exact ⟨.int _, H, I.kept (t' := tk) hk, ⟨_, rfl⟩, q⟩
end

/-! enumerate(a tuple) -/
def IteT (K : PySem.W.Frag) (a : Addr) : It :=
  ⟨fun i H => ∃ (xs : List V) (x : V), SqT K H a xs ∧ xs[i]? = some x,
   fun i H v H' => ∃ T x, v = .ref T ∧ H T = none ∧ H' = upd H T (.tup [.int (i : Nat), x]) ∧ ∀ xs, SqT K H a xs → xs[i]? = some x,
   fun i H => ∃ xs : List V, SqT K H a xs ∧ xs.length = i⟩
set_option maxHeartbeats 1000000 in
theorem enum_new_tup (l : Addr) (items : Array Value) : Meets (Builtin.«enumerate.__new__» ⟨[.type "enumerate", .ref l], []⟩) (fun _ R s => s.heap.IsTuple l items ∧
      R (.ok (.ret (.ref (s.heap.objs.size + 1)))) { s with heap := (s.heap.push { cls := .type "tuple_iterator", data := .fields #[.ref l, .int 0 0] }).push { cls := .type "enumerate", data := .fields #[.none, .bool false, .ref s.heap.objs.size, rawInt 0, .none, .none] } }) :=
  .of_wp fun prog w A R s ⟨ht, h⟩ => by
    obtain ⟨hp, g, d, tk, os⟩ := s
    have hsz : ∀ o : Obj, (hp.push o).objs.size = hp.objs.size + 1 := fun o => Heap.size_push ..
    have hsub := sub_enumerate
    have q1 : ∀ {A' : Around} {E' : Value → Shared → Prop} {Q' : Value → Shared → Prop}, Q' (.ref hp.objs.size) ⟨hp.push { cls := .type "tuple_iterator", data := .fields #[.ref l, .int 0 0] }, g, d, tk, os⟩ → wpAny (model prog w) A' (pyIter (.ref l)) Q' E' ⟨hp, g, d, tk, os⟩ :=
      fun q => wpAny_pyIter_tuple (s := ⟨hp, g, d, tk, os⟩) ht q
    rw [← hsz { cls := .type "tuple_iterator", data := .fields #[.ref l, .int 0 0] }] at h
    wp_walk using q1
    refine wpAny_stack_any fun st => wpAny_pure ?_
    split
    · rename_i c _ _ _ _ _
      rcases (c == Value.type "enumerate") with _ | _ <;> (wp_walk using q1; exact ⟨_, rfl, h⟩)
    · wp_walk using q1
      exact ⟨_, rfl, h⟩
theorem enum_tup {prog : Program} {w : World} {A : Around} {E : Value → Shared → Prop} {s : Shared} {l : Addr} {items : Array Value} {Q : Value → Shared → Prop} (ht : s.heap.IsTuple l items)
    (h : ∀ h', IsEnum h' (s.heap.objs.size + 1) s.heap.objs.size 0 .none → h'.IsTupleIter s.heap.objs.size l 0 →
      (∀ b o, s.heap.get? b = some o → h'.get? b = some o) → Q (.ref (s.heap.objs.size + 1)) { s with heap := h' }) :
    wpAny (model prog w) A (call (.type "enumerate") [.ref l]) Q E s := by
  refine callType_new F.called_enumerate (by decide) (F.typeCall_enumerate_1 _) (F.newCall_enumerate_1 _) (fun ob => F.args_object_init_2 ob _) F.entry_enumerate_new (enum_new_tup l items) ⟨ht, ?_⟩
  have e2 : IsEnum ((s.heap.push { cls := .type "tuple_iterator", data := .fields #[.ref l, .int 0 0] }).push { cls := .type "enumerate", data := .fields #[.none, .bool false, .ref s.heap.objs.size, rawInt 0, .none, .none] }) (s.heap.objs.size + 1) s.heap.objs.size 0 .none := by
    have e3 := Heap.get?_push_size (s.heap.push { cls := .type "tuple_iterator", data := .fields #[.ref l, .int 0 0] }) (o := { cls := .type "enumerate", data := .fields #[.none, .bool false, .ref s.heap.objs.size, rawInt 0, .none, .none] }) rfl
    rw [Heap.size_push] at e3
    exact e3
  exact ⟨⟨_, e2, rfl⟩, h _ e2 ⟨_, Heap.get?_push_of_some _ (Heap.get?_push_size _ rfl), rfl, rfl⟩ fun b o x => Heap.get?_push_of_some _ (Heap.get?_push_of_some _ x)⟩
theorem turn_enumT {P : Program} {w : World} {K : PySem.W.Frag} {elts : List Expr} {kk : Nat} {tpos : Pos} (a e it : Addr) :
    Turn P w K (.Tuple elts kk tpos) (IteT K a) [e, it] e (fun i h => (∃ old, IsEnum h e it ((i : Nat) : Int) old) ∧ h.IsTupleIter it a i ∧ e ≠ it ∧ e ≠ a ∧ a ≠ it) where
  mem := List.mem_cons_self
  obj := by
    rintro i h ⟨⟨old, he⟩, ⟨o, ho, hc, hd⟩, _⟩ b hb
    rcases (show b = e ∨ b = it by simpa using hb) with rfl | rfl
    · exact ⟨_, he, fun v q => by cases q⟩
    · exact ⟨o, ho, fun v q => by rw [hd] at q; cases q⟩
  keep := by
    rintro i h h' ⟨⟨old, he⟩, hi, hne⟩ k
    exact ⟨⟨old, k e (by simp) _ he⟩, hi.at fun o q => k it (by simp) o q, hne⟩
  item := by
    intro X hP hw hK hc i pins s σ H E I hf st hg
    subst hP hw hK
    obtain ⟨⟨old, he⟩, hit, hne, hea, hai⟩ := st
    obtain ⟨xs, x, hq, hx⟩ := hg
    obtain ⟨its, rv, pt, hz⟩ := I.tuple hq
    obtain ⟨u, hu, ru⟩ := rv.get hx
    have hlt : i < its.toArray.size := by
      rw [List.size_toArray]
      exact (List.getElem?_eq_some_iff.mp hu).1
    have lte : e < s.heap.objs.size := Heap.lt_size he
    have lti : it < s.heap.objs.size := by
      obtain ⟨_, q, _⟩ := hit
      exact Heap.lt_size q
    have D := Draws.tuple (prog := X.prog) (w := X.w) (A := X.A.in1) (I.ok.hd hc) it a hai its.toArray
    refine wpAny_pyNext_enum_itemD D he ⟨hit, pt⟩ hlt hne (by simp [hne, hea]) fun v h' tk hP ho hit' hT hsz hk => ?_
    have ev : v = u := by
      have q1 : its[i]? = some v := by simpa using hP
      rw [hu] at q1
      exact (Option.some.inj q1).symm
    subst ev
    refine ⟨_, rfl, wpAny_letOwnedTupleGo_enum (s := { s with heap := h', toks := tk + 1 }) ho fun h2 he2 sb => ?_⟩
    have hT2 : h2.get? s.heap.objs.size = some { cls := .type "tuple", data := .seq #[.int i tk, v] } := (sb.2 _ (Nat.ne_of_gt lte)).trans hT
    have mk : ObjOk X.prog X.w (upd H s.heap.objs.size (.tup [.int (i : Nat), x])) h2 s.heap.objs.size (.tup [.int (i : Nat), x]) :=
      ⟨by show 2 ≤ sizeLine; decide, [.int i tk, v], .cons ⟨_, rfl⟩ (.cons ru .nil), ⟨_, hT2, rfl, _, rfl⟩⟩
    have I1 : Inv X pins σ (upd H s.heap.objs.size (.tup [.int (i : Nat), x])) { s with heap := h2, toks := tk + 1 } :=
      I.turnedNew (ch := [e, it]) (fun b ob hb q => by
        have z1 : b ≠ e := fun z => hb (by simp [z])
        have z2 : b ≠ it := fun z => hb (by simp [z])
        exact (sb.2 b z1).trans (hk b ob z1 z2 q)) hf (Nat.le_refl _) mk
    refine ⟨.ref s.heap.objs.size, _, I1, rfl, ⟨_, x, rfl, I.hok.fresh (Nat.le_refl _), rfl, fun ys hy => by rw [I.tuple_inj hy hq]; exact hx⟩, ⟨⟨v, ?_⟩, hit'.1.at fun o q => (sb.2 it (Ne.symm hne)).trans q, hne, hea, hai⟩, fun b hb => ?_⟩
    · rw [show ((i + 1 : Nat) : Int) = (i : Int) + 1 by omega]
      exact he2
    · have lb : b < s.heap.objs.size := by
        rcases (show b = e ∨ b = it by simpa using hb) with z | z
        · rw [z]; exact lte
        · rw [z]; exact lti
      rw [upd_ne (Nat.ne_of_lt lb)]
      exact (hf b hb).1
  done := by
    intro X hP hw hK hc i pins s σ H E I hf st hg
    subst hP hw hK
    obtain ⟨⟨old, he⟩, hit, hne, hea, hai⟩ := st
    obtain ⟨xs, hq, hx⟩ := hg
    obtain ⟨its, rv, pt, hz⟩ := I.tuple hq
    obtain ⟨f0, f1, f2, f3, f4, f5⟩ := hf it (by simp)
    have hl : its.toArray.size = i := by
      rw [List.size_toArray, ← rv.length]
      exact hx
    have D := Draws.tuple (prog := X.prog) (w := X.w) (A := X.A.in1) (I.ok.hd hc) it a hai its.toArray
    exact wpAny_pyNext_enum_endD D he ⟨by rw [hl]; exact hit, pt⟩ fun h' eb => ⟨rfl, I.turned (t' := s.toks) (fun b o hb q => eb b o hb q) f0 f1 f3 f4 f5⟩
  self := fun A i s Q E st h => by
    obtain ⟨⟨_, he⟩, _⟩ := st
    exact wpAny_pyIter_enum he h
def iEnumT (K : PySem.W.Frag) (ta : TA) : TI := fun σ H R => ta σ H fun vs H1 => ∃ a xs, vs = [.ref a] ∧ SqT K H1 a xs ∧ R (IteT K a) H1
theorem pi_enumT {X : Cx} {e : Expr} {ta : TA} {p pos tpos : Pos} {elts : List Expr} {kk : Nat} (hg : Gl X "enumerate") (hm : X.mg "enumerate" = none) (ha : PA X [e] ta) (hs : starEach [e] X.env = [(false, eval e X.env)] := by rfl) :
    PI X (.Tuple elts kk tpos) (.Call (.Name "enumerate" p) [e] [] pos) (iEnumT X.K ta) := by
  refine ⟨fun pins s σ H R I h => Call_ (ld_blt I hg hm boot_enumerate (PyProof.Rows.callWith_type1 (thn (ha.run pos pins s σ H _ I h) fun us s1 hq => ?_) hs rfl))⟩
  obtain ⟨vs, H1, I1, r1, a, xs, rfl, hT, q⟩ := hq
  rw [Vals.ref1 r1]
  obtain ⟨its, rv, pt, hz⟩ := I1.tuple hT
  have hat : a < s1.heap.objs.size := by
    obtain ⟨o, ho, _⟩ := id pt
    exact Heap.lt_size ho
  refine enum_tup (show s1.heap.IsTuple a its.toArray from pt) fun h' he hit hk => wpAny_pyIter_enum he ?_
  have I2 : Inv X pins σ H1 { s1 with heap := h' } := I1.kept (t' := s1.toks) hk
  refine ⟨_, [s1.heap.objs.size + 1, s1.heap.objs.size], _, _, H1, rfl, I2, turn_enumT a (s1.heap.objs.size + 1) s1.heap.objs.size, ⟨⟨.none, he⟩, hit, Nat.succ_ne_self _, Nat.ne_of_gt (Nat.lt_succ_of_lt hat), Nat.ne_of_lt hat⟩, fun b hb => ?_, q⟩
  have hle : s1.heap.objs.size ≤ b := by
    rcases (show b = s1.heap.objs.size + 1 ∨ b = s1.heap.objs.size by simpa using hb) with z | z
    · rw [z]; exact Nat.le_succ _
    · rw [z]; exact Nat.le_refl _
  exact I1.fpOk hle (I1.hok.fresh hle)
theorem walk_enumT {K : PySem.W.Frag} {a : Addr} {xs : List V} : Walk (IteT K a) xs.length (fun H => SqT K H a xs) (YPair (fun i => some (.int (i : Nat))) (fun i => xs[i]?)) := by
  refine ⟨fun i _ hi q => ⟨xs, xs[i], q, by simp [hi]⟩, fun _ q => ⟨xs, q, rfl⟩, fun i H v H' _ q y => ?_⟩
  obtain ⟨T, x, h1, h2, h3, h4⟩ := y
  exact ⟨T, .int (i : Nat), x, h1, h2, h3, rfl, h4 xs q⟩
theorem walk_zipT {K : PySem.W.Frag} {a b : Addr} {xs ys : List V} {n : Nat} (hn : n = min xs.length ys.length) : Walk (ItzT K a b) n (fun H => SqT K H a xs ∧ SqT K H b ys) (YPair (fun i => xs[i]?) (fun i => ys[i]?)) := by
  subst hn
  refine ⟨fun i _ hi q => ⟨xs, ys, xs[i]'(by omega), ys[i]'(by omega), q.1, q.2, List.getElem?_eq_getElem _, List.getElem?_eq_getElem _⟩, fun _ q => ⟨xs, ys, q.1, q.2, by omega⟩, fun i H v H' _ q y => ?_⟩
  obtain ⟨T, x, z, h1, h2, h3, h4, h5⟩ := y
  exact ⟨T, x, z, h1, h2, h3, h4 xs q.1, h5 ys q.2⟩

/-! a tuple times an int, also 1 -/
theorem mul_one_tup (l : Addr) (items : Array Value) (n : Nat) (dd : Option Addr) (sl : Array (Option Value)) (u : Tok) (hne : items.isEmpty = false) : Meets (Builtin.«tuple.__mul__» ⟨[.ref l, .int 1 u], []⟩) (fun _ R s => s.heap.get? l = some { cls := .type "tuple", dict := dd, data := .seq items n, slots := sl } ∧ R (.ok (.ret (.ref l))) s) :=
  .of_wp fun prog w A R s h => by
    obtain ⟨hp, g, d, tk, os⟩ := s
    obtain ⟨hl, h⟩ := h
    have f1 := AutoSeq1.idx_int
    wp_walk using wpAny_loadPart' hl
    exact ⟨_, rfl, h⟩
def rRepP (K : PySem.W.Frag) : R2 := fun x y H Q => ∃ l k xs, x = .ref l ∧ y = .int k ∧ SqT K H l xs ∧ xs ≠ [] ∧ 1 ≤ k ∧ k ≤ 1000 ∧ xs.length ≤ 1000 ∧ ∀ p H', Same H H' → SqT K H' p (List.replicate k.toNat xs).flatten → Q (.ref p) H'
theorem same_upd {H : Hp} {p : Addr} {o : HO} (h : H p = none) : Same H (upd H p o) := fun b x e => by
  rw [upd_ne (ne_of_none e h)]
  exact e
theorem op_repP {X : Cx} : OpR X (binaryOp .Mult) (rRepP X.K) := by
  intro pins s σ H x y v u Q I rx ry h
  obtain ⟨l, k, xs, rfl, rfl, hT, hne, h1, h2, hz, q⟩ := h
  by_cases hk : 2 ≤ k
  · exact op_repT pins s σ H _ _ v u Q I rx ry ⟨l, k, xs, rfl, rfl, hT, hne, hk, h2, hz, fun p hp => q p _ (same_upd hp) (.inl (.inl upd_same))⟩
  · obtain rfl : k = 1 := by omega
    cases rx
    obtain ⟨t, rfl⟩ := ry
    obtain ⟨its, r, ⟨⟨cls, dd, data, sl⟩, ho, hc, n, hd⟩, hs⟩ := I.tuple hT
    simp only at hc hd
    subst hc hd
    have hn : its.toArray.isEmpty = false := by
      cases its with
      | nil =>
        cases r
        exact absurd rfl hne
      | cons a b => rfl
    refine wpAny_binaryOp_repeat_ref (T := "tuple") (U := "int") (by decide) ⟨_, ho, rfl⟩ (fun s' => typeIs_int s' 1 t) noFill_tuple_mul F.fills_int_mul F.slot_int_rmul repeat_tuple F.slot_int_index.lookup
      (call_meets F.slot_int_rmul (typeIs_int s 1 t) F.entry_int_rmul (F.args_int_rmul_2 _ _) (int_rmul_tuple 1 t l its.toArray n dd sl)
        ⟨ho, rfl, ⟨_, ho, rfl⟩, call_meets F.slot_tuple_mul ⟨_, ho, rfl⟩ F.entry_tuple_mul (F.args_tuple_mul_2 _ _) (mul_one_tup l its.toArray n dd sl t hn) ⟨ho, ?_⟩⟩)
    exact ⟨.ref l, H, I, rfl, q l H (Same.refl H) (by rw [show (List.replicate (Int.toNat 1) xs).flatten = xs by simp]; exact hT)⟩

/-! ### defs that want no repr to run around them -/
structure FnG (P : Program) (w : World) (K : PySem.W.Frag) (mg : Str → Option Value) (base : Heap) (CX : CXT) (k : Nat) (f : Addr) (fd : FuncData) (ps : List Str) (sp : Sp) : Prop where
  many : ∀ vs H Q E, sp vs H Q E → vs.length = ps.length
  goes : ∀ (A : Around) (outer : List Env) (s : Shared) (H : Hp) (args : Args) (us : List Value) (vs : List V) (Q : VK) (E : XK), Room k A → A.guards = some [] → Env0 P w K mg base A outer s H → BindsTo s fd args (ps.zip us) → Vals vs us → sp vs H Q E →
    codeAny (model P w) A (.call (.ref f) args) (CR CX outer P w H s Q E) s
section
variable {P : Program} {w : World} {K : PySem.W.Frag} {mg : Str → Option Value} {base : Heap}
theorem okG {x qual : Str} {st : Stmt} {f : Addr} {fd : FuncData} {N ps : List Str} {k : Nat} {sp : Sp} (F : Fun K x qual st f fd) (S : FnScope N ps (defScope st)) (len : ∀ vs H Q E, sp vs H Q E → vs.length = ps.length)
    (bd : ∀ (cdv : Value) (A : Around) (outer : List Env) (s : Shared) (H : Hp) (vs : List V) (Q : VK) (E : XK), Room k (A.deeper (envOfC qual (defScope st) s.heap.objs.size f cdv)) → A.guards = some [] → sp vs H Q E →
      ∃ t, PSs (cxOf CX0 P w K mg base N qual (defScope st) f cdv A outer s H E).nox (defBody st) t ∧ t { nx := fun _ H' => Q .non H', rt := Q } (start N vs) H) : FnG P w K mg base CX0 (k + 1) f fd ps sp := by
  obtain ⟨oc, od, kV, doc, pm, an, cdv, ct, osl, rfl, lk, hcd⟩ := F.ex
  refine ⟨len, fun A outer s H args us vs Q E hr hgu e0 hb rv hsp => ?_⟩
  have hl := len _ _ _ _ hsp
  have kin : K.In s.heap := e0.mod.kin.keeps fun b o e => (e0.bs b o e).1
  have nol : s.heap.NoLimit := e0.mod.nolimit.keeps fun b o e => (e0.bs b o e).1
  have kinds : ∀ y ∈ ps.zip us, (defScope st).names.lookup y.1 = some .local ∨ ((defScope st).names.lookup y.1 = some .cell ∧ ((cellsFrom (s.heap.objs.size + 1) (defScope st).names []).lookup y.1).isSome = true) := by
    rintro ⟨n, v⟩ hy
    have hn := (List.of_mem_zip hy).1
    rcases S.par n hn with q | q
    · exact Or.inl q
    · exact Or.inr ⟨q, PySem.W.cellsFrom_some _ _ _ (Or.inl q)⟩
  refine codeAny_call_function hr.depth (kin _ _ lk) rfl S.co S.gen rfl (PySem.W.codeRec_of kin hcd) (hb _ _ _ _ (wpAny_newFunctionEnv_cells S.kind kinds fun env ee s1 x => ?_))
  subst ee
  refine ⟨nol.keeps x.toInCall.keep, codeAny_func ?_⟩
  obtain ⟨t, ht, hq⟩ := bd cdv A outer s H vs Q E (hr.deeper _) hgu hsp
  have J : Inv (cxOf CX0 P w K mg base N qual (defScope st) f cdv A outer s H E) [] (start N vs) H s1 := inv_start S hr.hd e0 hl rv x
  refine wpAny_mono (ht.nox.run [] s1 (start N vs) H _ J hq) (fun fl s2 hs => ?_) fun e s2 hs => hs
  have done : ∀ {σ' : L2.St} {H' : Hp} {v : V} {u : Value}, Inv (cxOf CX0 P w K mg base N qual (defScope st) f cdv A outer s H E) [] σ' H' s2 → RelV v u → Q v H' → CE outer P w H s Q u s2 :=
    fun {σ' H' v u} L r q => ⟨v, H', L.os, L.bare, L.base, L.hok, r, q⟩
  cases fl with
  | ret u =>
    obtain ⟨v, σ', H', L, r, q⟩ := hs
    exact done L r q
  | next =>
    obtain ⟨σ', H', L, q⟩ := hs
    exact done (v := V.non) (u := Value.none) L rfl q
  | brk =>
    obtain ⟨_, _, _, q⟩ := hs
    exact q.elim
  | cont =>
    obtain ⟨_, _, _, q⟩ := hs
    exact q.elim
end
section
variable {X : Cx} {CX : CXT} {k : Nat} {f : Addr} {fd : FuncData} {ps : List Str} {sp : Sp} {dvs : List V} {ds : List Value} {E : XK} {x : Str} {p pos : Pos} {e : Expr} {es : List Expr} {t : TA}
theorem pe_callG (F : FnG X.prog X.w X.K X.mg X.base CX k f fd ps sp) (hr : Room k X.A) (hgu : X.A.guards = some []) (hg : Gl X x) (hm : X.mg x = some (.ref f)) (hk : PySem.W.keepIn X.K (.ref f) = true) (hb : Binds X.K fd ps ds) (hd : Vals dvs ds) (hx : Passes CX X E)
    (ha : PA X (e :: es) t) (hdb : (x == ("__debug__" : Str)) = false := by decide) (he : starEach (e :: es) X.env = (false, eval e X.env) :: starEach es X.env := by rfl) (hpl : (backTo pos (starEach es X.env)).any (·.1) = false := by rfl) :
    PE X (.Call (.Name x p) (e :: es) [] pos) (tCall sp dvs E t) := by
  refine ⟨fun pins s σ H Q I h => wpAny_Call_Name_kw (ld_glob I hg hm ?_ hdb)⟩
  refine PySem.W.callWith_K (h₀ := X.base) I.ok.mod.kin hk (thn (ha.run pos pins s σ H _ I h) ?_) he hpl
  rintro us s1 ⟨vs, H1, I1, r, q⟩
  refine ⟨I1.kIn, ?_⟩
  have r2 : Vals (vs ++ dvs) (us ++ ds) := r.append hd
  have hl : (us ++ ds).length = ps.length := by
    rw [← r2.length]
    exact F.many _ _ _ _ q
  refine wpAny_call (codeAny_mono (F.goes X.A X.stack s1 H1 ⟨us, []⟩ (us ++ ds) (vs ++ dvs) Q E hr hgu I1.env0 (hb s1 us I1.kIn hl) r2 q) ?_)
  intro res s2 hq
  match res, hq with
  | .error e, hq => exact hx pins σ H1 s1 e s2 I1 hq
  | .ok (.ret u), hq => exact I1.after hq
end
/-- a law's own promise -/
def spTrue (K : PySem.W.Frag) : Sp := fun vs H Q _ => ∃ (a : Addr) (ns : List Int), vs = [.ref a] ∧ SqL K H a (ns.map V.int) ∧ ns.length ≤ 63 ∧ ∀ H', Q (.bl true) H'
theorem callG {P : Program} {w : World} {K : PySem.W.Frag} {mg mb : Str → Option Value} {k : Nat} {fa a : Addr} {fd : FuncData} {x : Str} {s₁ : Shared} {vs : List Value} {ns : List Int}
    (kin : K.In s₁.heap) (hns : s₁.heap.Ns mainGlobals mg) (hbl : s₁.heap.Ns builtinsNs mb) (hbb : ∀ x : Str, x ≠ "__name__" → mb x = bootBuiltins x) (nol : s₁.heap.NoLimit) (hgens : s₁.gens = #[])
    (ha : s₁.heap.get? a = some { cls := .type "list", data := .seq vs.toArray }) (hi : IntsAre vs ns) (h63 : ns.length ≤ 63) (hr : Room k callerA)
    (F : ∀ base : Heap, K.In base → base.Ns mainGlobals mg → FnG P w K mg base CX0 k fa fd [x] (spTrue K)) (hbind : ∀ (s : Shared) (u : Value), BindsTo s fd ⟨[u], []⟩ [(x, u)]) :
    codeAny (model P w) callerA (.call (.ref fa) ⟨[.ref a], []⟩) (fun r s' => r = .ok (.ret (.bool true)) ∧ OldK s₁.heap s'.heap ∧ s'.os = s₁.os ∧ AllBare s'.gens) s₁ := by
  have hl : ns.length ≤ sizeLine := Nat.le_trans h63 (by decide)
  have rv := vals_ints hi
  have lv := hi.length
  have main : ∀ T : Hp, Only T → SqL K T a (ns.map V.int) → HOk P w T s₁.heap → (∀ b, T b ≠ none → b = a) → (T a ≠ none → K.lookup a = none) →
      codeAny (model P w) callerA (.call (.ref fa) ⟨[.ref a], []⟩) (fun r s' => r = .ok (.ret (.bool true)) ∧ OldK s₁.heap s'.heap ∧ s'.os = s₁.os ∧ AllBare s'.gens) s₁ := by
    intro T only hS hok only_a notK
    have put : ∀ {b : Addr} {o : Obj}, s₁.heap.get? b = some o → T b = none → (hidT s₁.heap T).get? b = some o := fun e n => hidT_get e n
    have dict_free : ∀ {b : Addr} {o : Obj} {es : Array DictEntry} {ep : Nat}, s₁.heap.get? b = some o → o.data = .dict es ep → T b = none := by
      intro b o es ep e d
      match q : T b with
      | none => rfl
      | some u =>
        obtain rfl := only_a b (by rw [q]; exact fun z => by cases z)
        rw [ha] at e
        cases e
        exact absurd (show Data.seq vs.toArray _ = Data.dict es ep from d) (fun z => by cases z)
    have nsB : ∀ {b : Addr} {m : Str → Option Value}, s₁.heap.Ns b m → (hidT s₁.heap T).Ns b m := by
      rintro b m ⟨o, es, ep, e, d, r⟩
      exact ⟨o, es, ep, put e (dict_free e d), d, r⟩
    have kinB : K.In (hidT s₁.heap T) := by
      intro b o e
      refine put (kin b o e) ?_
      match q : T b with
      | none => rfl
      | some u =>
        have q' : T b ≠ none := by rw [q]; exact fun z => by cases z
        obtain rfl := only_a b q'
        rw [notK q'] at e
        cases e
    obtain ⟨mc, l1, l2⟩ := nol
    have md : Mod K mg (hidT s₁.heap T) := ⟨kinB, nsB hns, ⟨mb, nsB hbl, hbb⟩, ⟨mc, nsB l1, l2⟩⟩
    have e0 : Env0 P w K mg (hidT s₁.heap T) callerA [] s₁ T :=
      { frames := rfl, mod := md, bs := fun b o e => of_hidT e, bsz := Nat.le_of_eq (hidT_size _ _), funs := trivial, frf := fun b hb => (List.not_mem_nil (show b ∈ ([] : List Addr) from hb)).elim, hok := hok, bare := .of_eq hgens }
    have sp0 : spTrue K [.ref a] T (fun v _ => v = .bl true) (fun _ _ _ => False) := ⟨a, ns, rfl, hS, h63, fun _ => rfl⟩
    refine codeAny_mono ((F _ kinB (nsB hns)).goes callerA [] s₁ T ⟨[.ref a], []⟩ [.ref a] [.ref a] _ _ hr rfl e0 (hbind s₁ (.ref a)) (.cons rfl .nil) sp0) ?_
    intro r s2 h
    match r, h with
    | .error e, h => exact h.elim
    | .ok (.ret u), h =>
      obtain ⟨v, T', os, bare, un, hok2, r2, q⟩ := h
      obtain rfl : v = .bl true := q
      obtain rfl : u = Value.bool true := r2
      refine ⟨rfl, OldK.of_keep fun b o e => ?_, os, bare⟩
      match q : T b with
      | none => exact un.keep b o e q (fun z => (List.not_mem_nil (show b ∈ ([] : List Addr) from z)).elim) List.not_mem_nil
      | some u =>
        rcases only b with z | ⟨ob, xs, z⟩
        · rw [q] at z
          cases z
        · obtain ⟨e1, _⟩ := hok b _ z
          obtain ⟨e2, _⟩ := hok2 b _ (un.frzs b ob _ z)
          rw [e] at e1
          cases e1
          exact e2
  match hk : K.lookup a with
  | some o =>
    have e := kin a o hk
    rw [ha] at e
    cases e
    exact main (fun _ => none) (fun _ => Or.inl rfl) (Or.inr ⟨_, vs.toArray, _, hk, rfl, rfl, rfl, by rw [List.size_toArray, lv]; exact hl, by simpa using rv⟩) (fun b u z => by cases (show (none : Option HO) = some u from z)) (fun b z => (z rfl).elim) fun z => (z rfl).elim
  | none =>
    refine main (fun b => if b = a then some (.frz { cls := .type "list", data := .seq vs.toArray } (.lst (ns.map V.int))) else none) (fun b => ?_) (Or.inl (Or.inr ⟨{ cls := .type "list", data := .seq vs.toArray }, if_pos rfl⟩)) (fun b u z => ?_) (fun b z => ?_) fun _ => hk
    · by_cases hb : b = a
      · exact Or.inr ⟨_, _, if_pos hb⟩
      · exact Or.inl (if_neg hb)
    · by_cases hb : b = a
      · cases (if_pos hb).symm.trans z
        subst hb
        exact ⟨ha, by rw [List.length_map]; exact hl, vs, _, rv, ha⟩
      · cases (if_neg hb).symm.trans z
    · exact Decidable.byContradiction fun hb => z (if_neg hb)
theorem walkG {l : PySem.W.OpenLaw} {k : Nat} {q : Program} {loose : List Str} {XP : (Str → Option Value) → Heap → Prop} {YP : World → Heap → Prop} {d : DefRec} {K : Params → PySem.W.Frag} {x : Str}
    (hn : l.most = some 63) (hdf : d.params.defaults = []) (hr : Room k callerA) (hY : ∀ (w : World) (h : Heap), YP w h → (K w.params).In h)
    (F : ∀ (w : World) (mg : Str → Option Value) (fa : Addr) (h : Heap), (K w.params).In h → h.Ns mainGlobals mg → mg d.name = some (.ref fa) →
      ∃ fd : FuncData, (∀ (s : Shared) (u : Value), BindsTo s fd ⟨[u], []⟩ [(x, u)]) ∧ ∀ base : Heap, (K w.params).In base → base.Ns mainGlobals mg → FnG l.prog w (K w.params) mg base CX0 k fa fd [x] (spTrue (K w.params))) :
    PySem.W.WalkO q loose XP YP l.row.toRowW d [] (fun f vs => PySem.call f vs) := by
  refine Att.attach_call hn hdf ?_
  intro w s₀ s₁ mg mb fa o pm cd doc a vs ns G Y ho hd hcd hmg hob hints hlen hg
  have kin := hY w _ Y
  obtain ⟨fd, hb, hF⟩ := F w mg fa _ kin G.T.g hmg
  exact callG kin G.T.g G.T.b G.T.builtins G.T.nolimit hg hob hints hlen hr hF hb
end Tl
/-! data without lists, frames, the bag -/
namespace Tl
open PySem PySem.Spec PyProof.Rows L2 RZ
/-! ### heaps -/
/-- all tuples stay -/
def KT (K : PySem.W.Frag) (H H' : Hp) : Prop := ∀ a xs, SqT K H a xs → SqT K H' a xs
theorem KT.refl {K : PySem.W.Frag} (H : Hp) : KT K H H := fun _ _ h => h
theorem KT.trans {K : PySem.W.Frag} {H1 H2 H3 : Hp} (a : KT K H1 H2) (b : KT K H2 H3) : KT K H1 H3 := fun x xs h => b x xs (a x xs h)
theorem Same.kt {K : PySem.W.Frag} {H H' : Hp} (h : Same H H') : KT K H H' := fun a xs q => by
  rcases q with (q | ⟨o, q⟩) | q
  · exact .inl (.inl (h _ _ q))
  · exact .inl (.inr ⟨o, h _ _ q⟩)
  · exact .inr q
/-- all but the lists at b and g stays as it was -/
def Frm (b g : Addr) (H H' : Hp) : Prop := ∀ a o, H a = some o → a ≠ b → a ≠ g → H' a = some o
theorem Frm.refl (b g : Addr) (H : Hp) : Frm b g H H := fun _ _ h _ _ => h
theorem Frm.trans {b g : Addr} {H1 H2 H3 : Hp} (x : Frm b g H1 H2) (y : Frm b g H2 H3) : Frm b g H1 H3 := fun a o h h1 h2 => y a o (x a o h h1 h2) h1 h2
theorem Frm.of {b g : Addr} {H H' : Hp} (h : Same H H') : Frm b g H H' := fun a o q _ _ => h a o q
theorem Frm.updB {b g : Addr} {H : Hp} {o : HO} : Frm b g H (upd H b o) := fun a x h h1 _ => by rw [upd_ne h1]; exact h
theorem Frm.updG {b g : Addr} {H : Hp} {o : HO} : Frm b g H (upd H g o) := fun a x h _ h2 => by rw [upd_ne h2]; exact h
/-! ### data of tuples -/
mutual
inductive Td (K : PySem.W.Frag) (H : Hp) : V → PyData → Prop
  | non : Td K H .non .none
  | bl (b : Bool) : Td K H (.bl b) (.bool b)
  | int (i : Int) : Td K H (.int i) (.int i)
  | str (x : Str) : Td K H (.str x) (.str x)
  | tup {a : Addr} {xs : List V} {ds : List PyData} : SqT K H a xs → TdAll K H xs ds → Td K H (.ref a) (.tuple ds)
inductive TdAll (K : PySem.W.Frag) (H : Hp) : List V → List PyData → Prop
  | nil : TdAll K H [] []
  | cons {v : V} {vs : List V} {d : PyData} {ds : List PyData} : Td K H v d → TdAll K H vs ds → TdAll K H (v :: vs) (d :: ds)
end
variable {K : PySem.W.Frag} {H H' : Hp}
mutual
theorem Td.dp : ∀ {v : V} {d : PyData}, Td K H v d → Dp K H v d
  | _, _, .non => .non
  | _, _, .bl b => .bl b
  | _, _, .int i => .int i
  | _, _, .str x => .str x
  | _, _, .tup h a => .tup h (TdAll.dp a)
theorem TdAll.dp : ∀ {v : List V} {d : List PyData}, TdAll K H v d → DpAll K H v d
  | _, _, .nil => .nil
  | _, _, .cons h t => .cons (Td.dp h) (TdAll.dp t)
end
mutual
theorem Td.keep (k : KT K H H') : ∀ {v : V} {d : PyData}, Td K H v d → Td K H' v d
  | _, _, .non => .non
  | _, _, .bl b => .bl b
  | _, _, .int i => .int i
  | _, _, .str x => .str x
  | _, _, .tup h a => .tup (k _ _ h) (TdAll.keep k a)
theorem TdAll.keep (k : KT K H H') : ∀ {v : List V} {d : List PyData}, TdAll K H v d → TdAll K H' v d
  | _, _, .nil => .nil
  | _, _, .cons h t => .cons (Td.keep k h) (TdAll.keep k t)
end
theorem TdAll.len : ∀ {v : List V} {d : List PyData}, TdAll K H v d → v.length = d.length
  | _, _, .nil => rfl
  | _, _, .cons _ t => congrArg (· + 1) (TdAll.len t)
theorem TdAll.get : ∀ {vs : List V} {ds : List PyData} {i : Nat} {d : PyData}, TdAll K H vs ds → ds[i]? = some d → ∃ v, vs[i]? = some v ∧ Td K H v d
  | _, _, _, _, .nil, e => by simp at e
  | _, _, 0, _, .cons h _, e => by
    simp at e
    subst e
    exact ⟨_, rfl, h⟩
  | _, _, i + 1, d, .cons _ t, e => by
    obtain ⟨v, h1, h2⟩ := TdAll.get (i := i) (d := d) t (by simpa using e)
    exact ⟨v, by simpa using h1, h2⟩
theorem TdAll.getV : ∀ {vs : List V} {ds : List PyData} {i : Nat} {v : V}, TdAll K H vs ds → vs[i]? = some v → ∃ d, ds[i]? = some d ∧ Td K H v d
  | _, _, _, _, .nil, e => by simp at e
  | _, _, 0, _, .cons h _, e => by
    simp at e
    subst e
    exact ⟨_, rfl, h⟩
  | _, _, i + 1, v, .cons _ t, e => by
    obtain ⟨d, h1, h2⟩ := TdAll.getV (i := i) (v := v) t (by simpa using e)
    exact ⟨d, by simpa using h1, h2⟩
theorem TdAll.app : ∀ {vs ws : List V} {ds es : List PyData}, TdAll K H vs ds → TdAll K H ws es → TdAll K H (vs ++ ws) (ds ++ es)
  | _, _, _, _, .nil, h => h
  | _, _, _, _, .cons h t, q => .cons h (TdAll.app t q)
theorem Td.tupE {v : V} {ds : List PyData} (h : Td K H v (.tuple ds)) : ∃ a xs, v = .ref a ∧ SqT K H a xs ∧ TdAll K H xs ds := by
  cases h with
  | tup h a => exact ⟨_, _, rfl, h, a⟩
theorem Td.intE {v : V} {i : Int} (h : Td K H v (.int i)) : v = .int i := by
  cases h
  rfl
theorem tdAll_ints : ∀ ns : List Int, TdAll K H (ns.map V.int) (ns.map PyData.int)
  | [] => .nil
  | n :: r => .cons (.int n) (tdAll_ints r)
theorem tdAll_intsE : ∀ {ns : List Int} {vs : List V}, TdAll K H vs (ns.map PyData.int) → vs = ns.map V.int
  | [], _, h => by
    cases h
    rfl
  | n :: r, _, h => by
    cases h with
    | cons h t =>
      cases h
      rw [tdAll_intsE t]
      rfl
/-- a list of values, each at its datum -/
theorem tdAll_iff {vs : List V} {ds : List PyData} (hl : vs.length = ds.length) (h : ∀ (i : Nat) (v : V) (d : PyData), vs[i]? = some v → ds[i]? = some d → Td K H v d) : TdAll K H vs ds := by
  induction vs generalizing ds with
  | nil =>
    cases ds with
    | nil => exact .nil
    | cons d r => simp at hl
  | cons v vs ih =>
    cases ds with
    | nil => simp at hl
    | cons d r =>
      refine .cons (h 0 v d rfl rfl) (ih (by simpa using hl) fun i v d h1 h2 => h (i + 1) v d (by simpa using h1) (by simpa using h2))
/-! ### the bag -/
structure Bag (H : Hp) (b g : Addr) : Prop where
  ne : b ≠ g
  hb : ∃ s c al, H b = some (.lst [.int s, .int c, .ref g, al]) ∧ (al = .non ∨ ∃ n, al = .int n)
  hg : ∃ gs : List Int, H g = some (.lst (gs.map V.int)) ∧ gs.length ≤ 63
theorem Bag.kt {b g : Addr} (B : Bag H b g) (f : Frm b g H H') : KT K H H' := fun a xs q => by
  obtain ⟨s, c, al, hb, _⟩ := B.hb
  obtain ⟨gs, hg, _⟩ := B.hg
  rcases q with (q | ⟨o, q⟩) | q
  · refine .inl (.inl (f _ _ q ?_ ?_))
    · intro e
      rw [e, hb] at q
      cases q
    · intro e
      rw [e, hg] at q
      cases q
  · refine .inl (.inr ⟨o, f _ _ q ?_ ?_⟩)
    · intro e
      rw [e, hb] at q
      cases q
    · intro e
      rw [e, hg] at q
      cases q
  · exact .inr q
theorem Bag.keep {b g : Addr} (B : Bag H b g) (s : Same H H') : Bag H' b g :=
  ⟨B.ne, let ⟨x, c, al, h, r⟩ := B.hb; ⟨x, c, al, s _ _ h, r⟩, let ⟨gs, h, r⟩ := B.hg; ⟨gs, s _ _ h, r⟩⟩
/-- another list stands -/
theorem Bag.other {b g a : Addr} {o : HO} (B : Bag H b g) (h : H a = some o) (h2 : ∀ xs, o ≠ .lst xs) : a ≠ b ∧ a ≠ g := by
  obtain ⟨s, c, al, hb, _⟩ := B.hb
  obtain ⟨gs, hg, _⟩ := B.hg
  constructor
  · intro e
    rw [e, hb] at h
    exact h2 _ (Option.some.inj h).symm
  · intro e
    rw [e, hg] at h
    exact h2 _ (Option.some.inj h).symm
theorem Bag.neNew {b g a : Addr} (B : Bag H b g) (h : H a = none) : a ≠ b ∧ a ≠ g := by
  obtain ⟨s, c, al, hb, _⟩ := B.hb
  obtain ⟨gs, hg, _⟩ := B.hg
  refine ⟨fun e => ?_, fun e => ?_⟩
  · rw [e, hb] at h
    cases h
  · rw [e, hg] at h
    cases h
end Tl
/-! the rules with the written part named (for blocks) -/
namespace Tl
open PySem PySem.Spec PyProof.Rows L2 RZ
section
variable {X : Cx} {K : PySem.W.Frag} (h : X.K = K)
include h
theorem k_ixL : IxR X (rIxL K) := by subst h; exact ix_list
theorem k_ixT : IxR X (rIxT K) := by subst h; exact ix_tup
def rLen (K : PySem.W.Frag) : List V → Hp → VK → Prop := fun xs H Q => ∃ p ys, xs = [.ref p] ∧ (SqL K H p ys ∨ SqT K H p ys) ∧ Q (.int ys.length) H
theorem k_len : CallR X (.builtin "len") (rLen K) := by subst h; exact call_len_seq
theorem k_sum (hc : X.calm = true) : CallR X (.builtin "sum") (rSum K) := by subst h; exact cr_sum hc
theorem k_any (hc : X.calm = true) : CallR X (.builtin "any") (rAny K) := by subst h; exact cr_any hc
theorem k_all (hc : X.calm = true) : CallR X (.builtin "all") (rAll K) := by subst h; exact cr_all hc
theorem k_eqD (hu : X.A.units + 64 < cLine) : OpR X (compareOp .Eq) (rEqD K) := by subst h; exact op_eqD hu
theorem k_neD (hu : X.A.units + 64 < cLine) : OpR X (compareOp .NotEq) (rNeD K) := by subst h; exact op_neD hu
theorem k_ltT (hu : X.A.units < cLine) : OpR X (compareOp .Lt) (rLtT K) := by subst h; exact op_ltT hu
theorem k_rep : OpR X (binaryOp .Mult) (rRepP K) := by subst h; exact op_repP
def rCatP (K : PySem.W.Frag) : R2 := fun x y H Q => ∃ a b xs ys, x = .ref a ∧ y = .ref b ∧ SqT K H a xs ∧ SqT K H b ys ∧ xs.length + ys.length ≤ sizeLine ∧ ∀ p H', Same H H' → SqT K H' p (xs ++ ys) → Q (.ref p) H'
theorem k_cat : OpR X (binaryOp .Add) (rCatP K) := by
  subst h
  intro pins s σ H x y v u Q I rx ry ⟨a, b, xs, ys, e1, e2, ha, hb, hz, q⟩
  refine op_catA pins s σ H x y v u Q I rx ry ⟨a, b, xs, ys, e1, e2, ha, hb, hz, fun z => ?_, fun _ z => ?_, fun _ _ p hp => q p _ (same_upd hp) (.inl (.inl upd_same))⟩
  · subst z
    exact q b H (Same.refl H) hb
  · subst z
    exact q a H (Same.refl H) (by rw [List.append_nil]; exact ha)
def rTupOf (K : PySem.W.Frag) : List V → Hp → VK → Prop := fun xs H Q => ∃ p ys, xs = [.ref p] ∧ SqL K H p ys ∧ ∀ l H', Same H H' → SqT K H' l ys → Q (.ref l) H'
theorem k_tupOf : CallR X (.type "tuple") (rTupOf K) := by
  subst h
  intro pins s σ H xs us Q I r ⟨p, ys, e, hs, q⟩
  exact call_tuple_of pins s σ H xs us Q I r ⟨p, ys, e, .inl ⟨hs, fun l hl => q l _ (same_upd hl) (.inl (.inl upd_same))⟩⟩
theorem k_isi : CallR X (.builtin "isinstance") (rIsi K) := by subst h; exact call_isi
theorem k_repr (hu : X.A.units + 64 < cLine) (hg : X.A.guards = some []) : CallR X (.builtin "repr") (rReprD K) := by subst h; exact cr_reprD hu hg
theorem k_maxDf (hc : X.calm = true) (hu : X.A.units + 64 < cLine) : CallRK X (.builtin "max") [Str.ofString "default"] (rMaxDf K) := by subst h; exact cr_maxDf hc hu
theorem k_slL : SlR X (rSlL K) := by subst h; exact sl_list
theorem k_getL : PGet X (gAtL K) := by subst h; exact get_listP
theorem k_tup {pos : Pos} {es : List Expr} {k : Nat} {t : TGs} {n : Nat} (hc : X.calm = true) (hp : PGs X es t) (hn : (assignEach es X.env).length = n := by rfl) (hst : (assignEach es X.env).findIdx? (·.1) = none := by rfl) : PG X (.Tuple es k pos) (gTup K n t) := by
  subst h
  exact pg_tup hc hp hn hst
theorem k_iL {tg l : Expr} {tl : TE} (hl : PE X l tl) : PI X tg l (iList K tl) := by subst h; exact pi_list hl
theorem k_iT {tg l : Expr} {tl : TE} (hl : PE X l tl) : PI X tg l (iTup K tl) := by subst h; exact pi_tup hl
theorem k_enum {e : Expr} {ta : TA} {p pos tpos : Pos} {elts : List Expr} {kk : Nat} (hg : Gl X "enumerate") (hm : X.mg "enumerate" = none) (ha : PA X [e] ta) (hs : starEach [e] X.env = [(false, eval e X.env)] := by rfl) :
    PI X (.Tuple elts kk tpos) (.Call (.Name "enumerate" p) [e] [] pos) (iEnumT K ta) := by subst h; exact pi_enumT hg hm ha hs
theorem k_zip {e e2 : Expr} {ta : TA} {p pos tpos : Pos} {elts : List Expr} {kk : Nat} (hg : Gl X "zip") (hm : X.mg "zip" = none) (ha : PA X [e, e2] ta)
    (hs : starEach [e, e2] X.env = (false, eval e X.env) :: starEach [e2] X.env := by rfl) (hpl : (backTo pos (starEach [e2] X.env)).any (·.1) = false := by rfl) :
    PI X (.Tuple elts kk tpos) (.Call (.Name "zip" p) [e, e2] [] pos) (iZipA K ta) := by subst h; exact pi_zipA hg hm ha hs hpl
theorem k_fld {e : Expr} {ta : TE} {f : Str} {pos : Pos} (he : PE X e ta) (hb : attributeBase e f X.env (eval e X.env) = eval e X.env) : PE X (.Attribute e f pos) (tFld K ta f) := by subst h; exact pe_fld he hb
end
end Tl
/-! every second item: a[::2], a[1::2]; list(a) -/
namespace Tl
open PySem PySem.Spec PyProof.Rows L2 RZ
def ev2 {T : Type} : List T → List T
  | [] => []
  | [a] => [a]
  | a :: _ :: r => a :: ev2 r
theorem ev2_at {T : Type} : ∀ (l : List T) (i : Nat), (ev2 l)[i]? = l[2 * i]?
  | [], i => by
    show ([] : List T)[i]? = _
    rw [List.getElem?_nil, List.getElem?_nil]
  | [a], 0 => rfl
  | [a], i + 1 => by
    rw [List.getElem?_eq_none (by show 1 ≤ i + 1; omega), List.getElem?_eq_none (by show 1 ≤ 2 * (i + 1); omega)]
  | a :: b :: r, 0 => rfl
  | a :: b :: r, i + 1 => by
    show (ev2 r)[i]? = _
    rw [ev2_at r i, show 2 * (i + 1) = 2 * i + 1 + 1 by omega, List.getElem?_cons_succ, List.getElem?_cons_succ]
theorem ev2_len {T : Type} : ∀ l : List T, (ev2 l).length = (l.length + 1) / 2
  | [] => by
    show 0 = (0 + 1) / 2
    decide
  | [a] => by
    show 1 = (1 + 1) / 2
    decide
  | a :: b :: r => by
    show (ev2 r).length + 1 = (r.length + 1 + 1 + 1) / 2
    rw [ev2_len r]
    omega
theorem pick2 {T : Type} : ∀ l : List T, ((List.range ((l.length + 1) / 2)).filterMap fun k => l[2 * k]?) = ev2 l
  | [] => by
    have e : (([] : List T).length + 1) / 2 = 0 := by
      show (0 + 1) / 2 = 0
      decide
    rw [e]
    rfl
  | [a] => by
    have e : ([a].length + 1) / 2 = 1 := by
      show (1 + 1) / 2 = 1
      decide
    rw [e]
    rfl
  | a :: b :: r => by
    have e : ((a :: b :: r).length + 1) / 2 = (r.length + 1) / 2 + 1 := by
      show (r.length + 1 + 1 + 1) / 2 = _
      omega
    rw [e, List.range_succ_eq_map, List.filterMap_cons, List.filterMap_map]
    show a :: _ = a :: ev2 r
    rw [← pick2 r]
    congr 1
theorem pick2_from {T : Type} (l : List T) (a : Nat) (ha : a ≤ l.length) : ((sliceRange (a : Int) (l.length : Int) 2).filterMap fun k => l[k]?) = ev2 (l.drop a) := by
  have c : (if (2 : Int) > 0 then (if (a : Int) < (l.length : Int) then ((l.length : Int) - a + 2 - 1) / 2 else 0) else (if (a : Int) > (l.length : Int) then ((a : Int) - l.length - 2 - 1) / (-2) else 0)).toNat = ((l.drop a).length + 1) / 2 := by
    rw [if_pos (by decide), List.length_drop]
    split <;> omega
  unfold sliceRange
  simp only []
  rw [c, List.filterMap_map, ← pick2 (l.drop a)]
  congr 1
  funext k
  show l[((a : Int) + 2 * (k : Int)).toNat]? = (l.drop a)[2 * k]?
  rw [List.getElem?_drop]
  congr 1
/-- a[::2] and a[1::2] -/
def rSlS (K : PySem.W.Frag) : V → Option Int → Hp → VK → Prop := fun x lo H Q => ∃ (p : Addr) (xs : List V) (j : Nat), x = .ref p ∧ SqL K H p xs ∧ (lo = none ∧ j = 0 ∨ lo = some 1 ∧ j = 1) ∧ 1 ≤ xs.length ∧ ∀ q, H q = none → Q (.ref q) (upd H q (.lst (ev2 (xs.drop j))))
def tSlS (K : PySem.W.Frag) (te : TE) (tl : TO) : TE := fun σ H Q => te σ H fun x H1 => tl σ H1 fun lo H2 => rSlS K x lo H2 Q
theorem ev2_vals {xs : List V} {us : List Value} (r : Vals xs us) : Vals (ev2 xs) (ev2 us) := by
  have g : ∀ (n : Nat) (xs : List V) (us : List Value), xs.length ≤ n → Vals xs us → Vals (ev2 xs) (ev2 us) := by
    intro n
    induction n with
    | zero =>
      intro xs us h r
      cases r with
      | nil => exact .nil
      | cons _ _ => simp at h
    | succ n ih =>
      intro xs us h r
      cases r with
      | nil => exact .nil
      | cons r1 t =>
        cases t with
        | nil => exact .cons r1 .nil
        | cons r2 t => exact .cons r1 (ih _ _ (by simp at h; omega) t)
  exact g _ _ _ (Nat.le_refl _) r
section
variable {X : Cx} {K : PySem.W.Frag} (hK : X.K = K)
include hK
theorem k_slS {e : Expr} {lo : Option Expr} {te : TE} {tl : TO} {kk : Nat} {p3 p2 pos : Pos} (ee : PE X e te) (el : PO X lo tl) : PE X (.Subscript e (.Slice lo none (some (.Constant (.int 2) kk p3)) p2) pos) (tSlS K te tl) := by
  subst hK
  constructor
  intro pins s σ H Q I want
  refine Subscript_ (thn (ee.run pins s σ H _ I want) fun v sa za => ?_)
  obtain ⟨x, Ha, Ia, rx, want⟩ := za
  refine wpAny_Slice (thn (el.run pins sa σ Ha _ Ia want) fun vl sb zb => ?_)
  obtain ⟨l, Hb, Ib, pl, want⟩ := zb
  rw [evalPart_none, evalPart_some]
  refine wpAny_pure ?_
  refine thn ((pe_int (X := X) (i := 2) (j := kk) (pos := p3)).run pins sb σ Hb (fun z Hz => z = .int 2 ∧ Hz = Hb) Ib ⟨rfl, rfl⟩) fun vs sc zc => ?_
  obtain ⟨z, Hc, Ic, rz, rfl, rfl⟩ := zc
  obtain ⟨tk, rfl⟩ := rz
  have Id : Inv X pins σ Hc { sc with heap := sc.heap.push { cls := .type "slice", data := .fields #[vl, .none, .int 2 tk] } } := Ic.kept (t' := sc.toks) fun b ob q => Heap.get?_push_of_some _ q
  obtain ⟨p, xs, j, rfl, hx, hj, h1, want⟩ := want
  cases rx
  obtain ⟨its, rv, ht, hz⟩ := Id.list hx
  have hlen := rv.length
  show wpAny (model X.prog X.w) X.A (subscriptTail e (.Slice lo none (some (.Constant (.int 2) kk p3)) p2) (.ref p) (.ref sc.heap.objs.size)) (EP X pins σ Q) X.xe { sc with heap := sc.heap.push { cls := .type "slice", data := .fields #[vl, .none, .int 2 tk] } }
  refine tail_any (ops := [.ref p, .ref sc.heap.objs.size]) ht.isList.typeIs slot_list_getitem.lookup ?_ (by with_unfolding_all rfl)
  refine wpAny_getItem_list_slice (st := some 2) ht.isList (Heap.IsSliceOf.new ..) pl .none (.int 2 tk) (by decide) ?_ (by rw [List.size_toArray] <;> omega)
  have b1 : (sliceBounds l none (some 2) its.length).1 = (j : Int) := by
    rcases hj with ⟨rfl, rfl⟩ | ⟨rfl, rfl⟩
    · rfl
    · show (if (2 : Int) > 0 then max 0 (min (if (1 : Int) < 0 then 1 + (its.length : Int) else 1) (its.length : Int)) else max (-1) (min (if (1 : Int) < 0 then 1 + (its.length : Int) else 1) ((its.length : Int) - 1))) = ((1 : Nat) : Int)
      rw [if_pos (by decide), if_neg (by decide)]
      omega
  have jl : j ≤ its.length := by rcases hj with ⟨_, rfl⟩ | ⟨_, rfl⟩ <;> omega
  have pk : slicePick its.toArray l none (some 2) = (ev2 (its.drop j)).toArray := by
    unfold slicePick
    rw [List.size_toArray, b1]
    show ((sliceRange (j : Int) (its.length : Int) 2).filterMap (its.toArray[·]?)).toArray = _
    rw [← pick2_from its j jl]
    congr 2
    funext k
    exact List.getElem?_toArray
  rw [pk]
  refine ⟨.ref _, _, Id.laid (t' := sc.toks) (o := .lst (ev2 (xs.drop j))) (fun b ob q => Heap.get?_push_of_some _ q) (Nat.le_refl _) ?_, rfl, want _ (Id.hok.fresh (Nat.le_refl _))⟩
  refine ⟨?_, ev2 (its.drop j), 0, ev2_vals (rv.drop j), Heap.get?_push_size _ rfl⟩
  rw [ev2_len, List.length_drop]
  omega
def rListOf (K : PySem.W.Frag) : List V → Hp → VK → Prop := fun xs H Q => ∃ p ys, xs = [.ref p] ∧ (SqL K H p ys ∨ SqT K H p ys) ∧ ∀ l, H l = none → Q (.ref l) (upd H l (.lst ys))
theorem k_listOf : CallR X (.type "list") (rListOf K) := by
  subst hK
  exact call_list_of
end
end Tl
/-! math.lcm; a walk over a list or a tuple, whichever it is -/
namespace Tl
open PySem PySem.Spec PyProof.Rows L2 RZ
def rLcm : List V → Hp → VK → Prop := fun vs H Q => ∃ a b : Nat, vs = [.int (a : Int), .int (b : Int)] ∧ a < 2 ^ 6000 ∧ b < 2 ^ 6000 ∧ Q (.int ((Nat.lcm a b : Nat) : Int)) H
section
variable {X : Cx}
theorem cr_lcm : CallR X (.builtin "math.lcm") rLcm := by
  intro pins s σ H vs us Q I r h
  obtain ⟨a, b, rfl, ha, hb, q⟩ := h
  obtain ⟨t, u, rfl⟩ := Vals.int2 r
  have e1 : (Nat.lcm 1 ((a : Int)).natAbs).lcm ((b : Int)).natAbs = Nat.lcm a b := by
    rw [PySem.W.mc_lcm_one, Int.natAbs_natCast, Int.natAbs_natCast]
  have e3 : ((1 : Nat)) ≤ 2 ^ 6000 := Nat.one_le_two_pow
  have e4 : ((1 : Nat)) < 2 ^ 6000 := Nat.one_lt_two_pow (by decide)
  have h1 : (max 1 ((a : Int)).natAbs).log2 ≤ 5999 := PySem.W.mg_log (by
    rw [Int.natAbs_natCast]
    show max 1 a < 2 ^ 6000
    generalize (2 : Nat) ^ 6000 = Z at ha e4
    omega)
  have h2 : (max ((a : Int)).natAbs ((b : Int)).natAbs).log2 ≤ 5999 := PySem.W.mg_log (by
    rw [Int.natAbs_natCast, Int.natAbs_natCast]
    show max a b < 2 ^ 6000
    generalize (2 : Nat) ^ 6000 = Z at ha hb
    omega)
  have h3 : Nat.lcm a b < 2 ^ 12000 := by
    refine Nat.lt_of_le_of_lt (PySem.W.mc_lcm_le a b) ?_
    rw [show (12000 : Nat) = 6000 + 6000 from rfl, Nat.pow_add]
    exact Nat.mul_lt_mul'' ha hb
  have hsz : ((((Nat.lcm 1 ((a : Int)).natAbs).lcm ((b : Int)).natAbs : Nat) : Int)).natAbs.log2 < bitsLine := by
    rw [e1, Int.natAbs_natCast]
    refine Nat.lt_of_le_of_lt (PySem.W.mg_log (k := 11999) h3) (by decide)
  refine call_function_meets PySem.W.MGF.kind_lcm PySem.W.MGF.plain_lcm PySem.W.MGF.entry_lcm (PySem.W.MGF.args_lcm _ _) (PySem.W.mg_run_lcm (a : Int) t (b : Int) u (by omega) (by omega) hsz).meets ?_
  rw [e1]
  exact ⟨.int _, H, I.tok _, ⟨_, rfl⟩, q⟩
end
theorem KT.updL {K : PySem.W.Frag} {H : Hp} {e : Addr} {xs ys : List V} (h : H e = some (.lst xs)) : KT K H (upd H e (.lst ys)) := fun a zs q => by
  rcases q with (q | ⟨o, q⟩) | q
  · exact .inl (.inl (by rw [upd_ne (ne_of q h (by intro z; cases z))]; exact q))
  · exact .inl (.inr ⟨o, by rw [upd_ne (ne_of q h (by intro z; cases z))]; exact q⟩)
  · exact .inr q
def iLT (K : PySem.W.Frag) (tl : TE) : TI := fun σ H R => tl σ H fun x H1 => ∃ a xs, x = .ref a ∧ (SqL K H1 a xs ∨ SqT K H1 a xs) ∧ ∀ (J : It) (G : Hp → Prop), Walk J xs.length G (YAt xs) → (∀ H', Same H1 H' → G H') → R J H1
theorem k_iLT {X : Cx} {K : PySem.W.Frag} (hK : X.K = K) {tg l : Expr} {tl : TE} (hl : PE X l tl) : PI X tg l (iLT K tl) := by
  subst hK
  refine ⟨fun pins s σ H R I h => ?_⟩
  refine thn (hl.run pins s σ H _ I h) fun v s1 ⟨x, H1, I1, r1, q1⟩ => ?_
  obtain ⟨a, xs, e, hq, q⟩ := q1
  subst e
  cases r1
  rcases hq with hq | hq
  · obtain ⟨its, rv, p, hz⟩ := I1.list hq
    refine wpAny_pyIter_list p.isList ?_
    refine ⟨s1.heap.objs.size, [s1.heap.objs.size], _, _, H1, rfl, I1.kept (t' := s1.toks) fun b o e => Heap.get?_push_of_some _ e, turn_list a _, ⟨_, Heap.get?_push_size _ rfl, rfl, rfl⟩, fun b hb => ?_, q _ _ walk_list fun H' s => s.seq hq⟩
    have e : b = s1.heap.objs.size := by simpa using hb
    subst e
    exact I1.fpOk (Nat.le_refl _) (I1.hok.fresh (Nat.le_refl _))
  · obtain ⟨its, rv, p, hz⟩ := I1.tuple hq
    refine wpAny_pyIter_tuple (show s1.heap.IsTuple a its.toArray from p) ?_
    refine ⟨s1.heap.objs.size, [s1.heap.objs.size], _, _, H1, rfl, I1.kept (t' := s1.toks) fun b o e => Heap.get?_push_of_some _ e, turn_tuple a _, ⟨_, Heap.get?_push_size _ rfl, rfl, rfl⟩, fun b hb => ?_, q _ _ walk_tup fun H' s => Same.kt s _ _ hq⟩
    have e : b = s1.heap.objs.size := by simpa using hb
    subst e
    exact I1.fpOk (Nat.le_refl _) (I1.hok.fresh (Nat.le_refl _))
/-- xs[i] of a list or a tuple, whichever it is -/
def rIxLT (K : PySem.W.Frag) : V → V → Hp → VK → Prop := fun x y H Q => ∃ (p : Addr) (xs : List V) (i : Int) (v : V), x = .ref p ∧ y = .int i ∧ (SqL K H p xs ∨ SqT K H p xs) ∧ atI xs i = some v ∧ Q v H
theorem k_ixLT {X : Cx} {K : PySem.W.Frag} (hK : X.K = K) : IxR X (rIxLT K) := by
  subst hK
  intro value slice pins s σ H x y v u Q I rx ry h hs
  obtain ⟨p, xs, j, z, e1, e2, hq, he, q⟩ := h
  rcases hq with hq | hq
  · exact ix_list value slice pins s σ H x y v u Q I rx ry ⟨p, xs, j, z, e1, e2, hq, he, q⟩ hs
  · exact ix_tup value slice pins s σ H x y v u Q I rx ry ⟨p, xs, j, z, e1, e2, hq, he, q⟩ hs
def iEnumLT (K : PySem.W.Frag) (ta : TA) : TI := fun σ H R => ta σ H fun vs H1 => ∃ a xs, vs = [.ref a] ∧ (SqL K H1 a xs ∨ SqT K H1 a xs) ∧ ∀ (J : It) (G : Hp → Prop), Walk J xs.length G (YPair (fun i => some (.int (i : Nat))) (fun i => xs[i]?)) → (∀ H', Same H1 H' → G H') → R J H1
theorem k_enumLT {X : Cx} {K : PySem.W.Frag} (hK : X.K = K) {e : Expr} {ta : TA} {p pos tpos : Pos} {elts : List Expr} {kk : Nat} (hg : Gl X "enumerate") (hm : X.mg "enumerate" = none) (ha : PA X [e] ta) (hs : starEach [e] X.env = [(false, eval e X.env)] := by rfl) :
    PI X (.Tuple elts kk tpos) (.Call (.Name "enumerate" p) [e] [] pos) (iEnumLT K ta) := by
  subst hK
  refine ⟨fun pins s σ H R I h => Call_ (ld_blt I hg hm boot_enumerate (PyProof.Rows.callWith_type1 (thn (ha.run pos pins s σ H _ I h) fun us s1 hq => ?_) hs rfl))⟩
  obtain ⟨vs, H1, I1, r1, a, xs, rfl, hT, q⟩ := hq
  rw [Vals.ref1 r1]
  rcases hT with hT | hT
  · obtain ⟨its, rv, p', hz⟩ := I1.list hT
    refine call_enumerate_list p'.isList fun h' he hit hsz hk => wpAny_pyIter_enum he ?_
    have I2 : Inv X pins σ H1 { s1 with heap := h' } := I1.kept (t' := s1.toks) hk
    refine ⟨s1.heap.objs.size + 1, [s1.heap.objs.size + 1, s1.heap.objs.size], _, _, H1, rfl, I2, turn_enum a (s1.heap.objs.size + 1) s1.heap.objs.size, ⟨⟨.none, he⟩, hit, Nat.succ_ne_self _⟩, fun b hb => ?_, q _ _ walk_enum fun H' s => s.seq hT⟩
    have e' : b = s1.heap.objs.size + 1 ∨ b = s1.heap.objs.size := by simpa using hb
    have hle : s1.heap.objs.size ≤ b := by
      rcases e' with z | z
      · rw [z]; exact Nat.le_add_right _ _
      · rw [z]; exact Nat.le_refl _
    exact I1.fpOk hle (I1.hok.fresh hle)
  · obtain ⟨its, rv, pt, hz⟩ := I1.tuple hT
    have hat : a < s1.heap.objs.size := by
      obtain ⟨o, ho, _⟩ := id pt
      exact Heap.lt_size ho
    refine enum_tup (show s1.heap.IsTuple a its.toArray from pt) fun h' he hit hk => wpAny_pyIter_enum he ?_
    have I2 : Inv X pins σ H1 { s1 with heap := h' } := I1.kept (t' := s1.toks) hk
    refine ⟨_, [s1.heap.objs.size + 1, s1.heap.objs.size], _, _, H1, rfl, I2, turn_enumT a (s1.heap.objs.size + 1) s1.heap.objs.size, ⟨⟨.none, he⟩, hit, Nat.succ_ne_self _, Nat.ne_of_gt (Nat.lt_succ_of_lt hat), Nat.ne_of_lt hat⟩, fun b hb => ?_, q _ _ walk_enumT fun H' s => Same.kt s _ _ hT⟩
    have hle : s1.heap.objs.size ≤ b := by
      rcases (show b = s1.heap.objs.size + 1 ∨ b = s1.heap.objs.size by simpa using hb) with z | z
      · rw [z]; exact Nat.le_succ _
      · rw [z]; exact Nat.le_refl _
    exact I1.fpOk hle (I1.hok.fresh hle)
/-! comprehensions whose items are told one by one -/
theorem lc_td {K : PySem.W.Frag} {J : It} {n : Nat} {G : Hp → Prop} {Y : Nat → Hp → V → Hp → Prop} (w : Walk J n G Y) {g : TG} {tt : TT} {te : TE} {vs : List Nat} {σ : L2.St} {H : Hp} {T : Addr} {Qd : Hp → Prop} (es : List PyData) (hl : es.length = n) (hn : n ≤ 3000) (hT : H T = none) (hG : ∀ H', Same H H' → G H')
    (hs : ∀ (i : Nat) (x : V) (e : PyData) (H2 H3 : Hp) (Qy : V → Hp → Prop) (N : Hp → Prop), es[i]? = some e → Same H H2 → Y i H2 x H3 → (∀ y H5, Same H2 H5 → Td K H5 y e → Qy y H5) → g x (wipe σ vs) H3 fun σ2 H4 => wipe σ2 vs = wipe σ vs ∧ tt σ2 H4 fun b H5 => if b = true then te σ2 H5 Qy else N H5)
    (hd : ∀ H2 ws, H2 T = some (.lst ws) → TdAll K H2 ws es → Same H H2 → Qd H2) :
    ∃ W : Nat → Nat → Hp → Prop, (∃ m, W 0 m (upd H T (.lst []))) ∧ ∀ i m H, W i m H →
      (J.stop i H ∧ Qd H) ∨ (J.go i H ∧ ∃ Nx : Hp → Prop, (∀ H', Nx H' → ∃ m', m' < m ∧ W (i + 1) m' H') ∧ ∀ x H', J.yld i H x H' → g x (wipe σ vs) H' fun σ2 H2 => wipe σ2 vs = wipe σ vs ∧ tt σ2 H2 fun b H3 =>
        if b = true then te σ2 H3 fun y H4 => ∃ acc, H4 T = some (.lst acc) ∧ acc.length < sizeLine ∧ Nx (upd H4 T (.lst (acc ++ [y]))) else Nx H3) := by
  refine lc_it w (fun i H2 => ∃ ws : List V, H2 T = some (.lst ws) ∧ TdAll K H2 ws (es.take i) ∧ Same H H2) ⟨[], upd_same, .nil, same_upd hT⟩ (fun i H2 _ h => hG _ h.choose_spec.2.2) ?_ ?_
  · rintro i x H2 H3 hi ⟨ws, h2, t2, s2⟩ y
    have he : es[i]? = some (es[i]'(by omega)) := List.getElem?_eq_getElem _
    refine hs i x _ H2 H3 _ _ he s2 y fun v H5 s5 tv => ?_
    have h5 := s5 _ _ h2
    have kT : KT K H5 (upd H5 T (.lst (ws ++ [v]))) := KT.updL h5
    refine ⟨ws, h5, ?_, ws ++ [v], upd_same, ?_, fun c o z => ?_⟩
    · rw [t2.len, List.length_take]
      have : (3000 : Nat) < sizeLine := by decide
      omega
    · rw [List.take_add_one, he]
      exact (t2.keep ((Same.kt s5).trans kT)).app (.cons (tv.keep kT) .nil)
    · rw [upd_ne (ne_of_none z hT)]
      exact s5 _ _ (s2 _ _ z)
  · rintro H2 ⟨ws, h2, t2, s2⟩
    rw [List.take_of_length_le (by omega)] at t2
    exact hd H2 ws h2 t2 s2
end Tl
namespace Tl
open PySem PySem.Spec PyProof.Rows L2 RZ
def topS (i : Nat) : Stmt := PySem.Challenge.pw_tellsless_k14_whole_passing_and_joined.main.body.getD i (.Pass ⟨0, 0, 0, 0⟩)
abbrev s_BadHouse_init : Stmt := inClass (topS 3) 0
theorem sc_BadHouse_init : FnScope ["self", "place"] ["self", "place"] (defScope s_BadHouse_init) := ⟨rfl, rfl, rfl, by decide +kernel, rfl, by decide +kernel, by decide +kernel⟩
abbrev s_is_integral : Stmt := topS 10
theorem sc_is_integral : FnScope ["thing"] ["thing"] (defScope s_is_integral) := ⟨rfl, rfl, rfl, by decide +kernel, rfl, by decide +kernel, by decide +kernel⟩
abbrev s_is_number : Stmt := topS 11
theorem sc_is_number : FnScope ["thing", "least", "most"] ["thing", "least", "most"] (defScope s_is_number) := ⟨rfl, rfl, rfl, by decide +kernel, rfl, by decide +kernel, by decide +kernel⟩
abbrev s_is_fraction : Stmt := topS 12
theorem sc_is_fraction : FnScope ["thing", "top", "bottom"] ["thing"] (defScope s_is_fraction) := ⟨rfl, rfl, rfl, by decide +kernel, rfl, by decide +kernel, by decide +kernel⟩
abbrev s_is_chance : Stmt := topS 13
theorem sc_is_chance : FnScope ["thing"] ["thing"] (defScope s_is_chance) := ⟨rfl, rfl, rfl, by decide +kernel, rfl, by decide +kernel, by decide +kernel⟩
abbrev s_is_share : Stmt := topS 14
theorem sc_is_share : FnScope ["thing"] ["thing"] (defScope s_is_share) := ⟨rfl, rfl, rfl, by decide +kernel, rfl, by decide +kernel, by decide +kernel⟩
abbrev s_are_shares : Stmt := topS 15
theorem sc_are_shares : FnScope ["things", "thing"] ["things"] (defScope s_are_shares) := ⟨rfl, rfl, rfl, by decide +kernel, rfl, by decide +kernel, by decide +kernel⟩
abbrev s_are_chances : Stmt := topS 16
theorem sc_are_chances : FnScope ["thing", "many", "chance"] ["thing", "many"] (defScope s_are_chances) := ⟨rfl, rfl, rfl, by decide +kernel, rfl, by decide +kernel, by decide +kernel⟩
abbrev s_are_nought : Stmt := topS 17
theorem sc_are_nought : FnScope ["weights", "weight"] ["weights"] (defScope s_are_nought) := ⟨rfl, rfl, rfl, by decide +kernel, rfl, by decide +kernel, by decide +kernel⟩
abbrev s_reduced : Stmt := topS 18
theorem sc_reduced : FnScope ["top", "bottom", "common"] ["top", "bottom"] (defScope s_reduced) := ⟨rfl, rfl, rfl, by decide +kernel, rfl, by decide +kernel, by decide +kernel⟩
abbrev s_multiplied : Stmt := topS 19
theorem sc_multiplied : FnScope ["first", "second"] ["first", "second"] (defScope s_multiplied) := ⟨rfl, rfl, rfl, by decide +kernel, rfl, by decide +kernel, by decide +kernel⟩
abbrev s_common_bottom : Stmt := topS 20
theorem sc_common_bottom : FnScope ["fractions", "bottom", "fraction"] ["fractions"] (defScope s_common_bottom) := ⟨rfl, rfl, rfl, by decide +kernel, rfl, by decide +kernel, by decide +kernel⟩
abbrev s_times_whole : Stmt := topS 21
theorem sc_times_whole : FnScope ["fraction", "whole"] ["fraction", "whole"] (defScope s_times_whole) := ⟨rfl, rfl, rfl, by decide +kernel, rfl, by decide +kernel, by decide +kernel⟩
abbrev s_total : Stmt := topS 22
theorem sc_total : FnScope ["fractions", "whole", "fraction"] ["fractions"] (defScope s_total) := ⟨rfl, rfl, rfl, by decide +kernel, rfl, by decide +kernel, by decide +kernel⟩
abbrev s_total_weights : Stmt := topS 23
theorem sc_total_weights : FnScope ["rows", "worlds", "weights", "world"] ["rows", "worlds"] (defScope s_total_weights) := ⟨rfl, rfl, rfl, by decide +kernel, rfl, by decide +kernel, by decide +kernel⟩
abbrev s_is_word : Stmt := topS 30
theorem sc_is_word : FnScope ["thing", "number"] ["thing"] (defScope s_is_word) := ⟨rfl, rfl, rfl, by decide +kernel, rfl, by decide +kernel, by decide +kernel⟩
abbrev s_is_answer : Stmt := topS 31
theorem sc_is_answer : FnScope ["thing", "worlds"] ["thing", "worlds"] (defScope s_is_answer) := ⟨rfl, rfl, rfl, by decide +kernel, rfl, by decide +kernel, by decide +kernel⟩
abbrev s_is_ascending : Stmt := topS 32
theorem sc_is_ascending : FnScope ["rows", "low", "high"] ["rows"] (defScope s_is_ascending) := ⟨rfl, rfl, rfl, by decide +kernel, rfl, by decide +kernel, by decide +kernel⟩
abbrev s_check_tree : Stmt := topS 33
theorem sc_check_tree : FnScope ["worlds", "tree"] ["worlds", "tree"] (defScope s_check_tree) := ⟨rfl, rfl, rfl, by decide +kernel, rfl, by decide +kernel, by decide +kernel⟩
abbrev s_check_node : Stmt := topS 34
theorem sc_check_node : FnScope ["node", "place", "ahead", "number", "question"] ["node", "place", "ahead"] (defScope s_check_node) := ⟨rfl, rfl, rfl, by decide +kernel, rfl, by decide +kernel, by decide +kernel⟩
abbrev s_check_question : Stmt := topS 35
theorem sc_check_question : FnScope ["question", "place", "ahead", "number", "answer"] ["question", "place", "ahead"] (defScope s_check_question) := ⟨rfl, rfl, rfl, by decide +kernel, rfl, by decide +kernel, by decide +kernel⟩
abbrev s_answers_in : Stmt := topS 36
theorem sc_answers_in : FnScope ["node", "many", "question", "answer"] ["node"] (defScope s_answers_in) := ⟨rfl, rfl, rfl, by decide +kernel, rfl, by decide +kernel, by decide +kernel⟩
abbrev s_rounds_in : Stmt := topS 37
theorem sc_rounds_in : FnScope ["node", "question", "answer"] ["node"] (defScope s_rounds_in) := ⟨rfl, rfl, rfl, by decide +kernel, rfl, by decide +kernel, by decide +kernel⟩
abbrev s_House_init : Stmt := inClass (topS 41) 0
theorem sc_House_init : FnScope ["self", "worlds", "tree"] ["self", "worlds", "tree"] (defScope s_House_init) := ⟨rfl, rfl, rfl, by decide +kernel, rfl, by decide +kernel, by decide +kernel⟩
abbrev s_House_eq : Stmt := inClass (topS 41) 1
theorem sc_House_eq : FnScope ["self", "other"] ["self", "other"] (defScope s_House_eq) := ⟨rfl, rfl, rfl, by decide +kernel, rfl, by decide +kernel, by decide +kernel⟩
abbrev s_made_house : Stmt := topS 42
theorem sc_made_house : FnScope ["worlds", "tree", "house"] ["worlds", "tree"] (defScope s_made_house) := ⟨rfl, rfl, rfl, by decide +kernel, rfl, by decide +kernel, by decide +kernel⟩
abbrev s_check_alike : Stmt := topS 43
theorem sc_check_alike : FnScope ["house", "other"] ["house", "other"] (defScope s_check_alike) := ⟨rfl, rfl, rfl, by decide +kernel, rfl, by decide +kernel, by decide +kernel⟩
abbrev s_is_wait : Stmt := topS 45
theorem sc_is_wait : FnScope ["thing", "waiting", "stand", "move", "question"] ["thing", "waiting", "stand"] (defScope s_is_wait) := ⟨rfl, rfl, rfl, by decide +kernel, rfl, by decide +kernel, by decide +kernel⟩
abbrev s_is_move : Stmt := topS 46
theorem sc_is_move : FnScope ["thing", "question", "stand", "word", "number", "behind", "move", "answer"] ["thing", "question", "stand"] (defScope s_is_move) := ⟨rfl, rfl, rfl, by decide +kernel, rfl, by decide +kernel, by decide +kernel⟩
abbrev s_is_plan : Stmt := topS 47
theorem sc_is_plan : FnScope ["house", "other", "thing"] ["house", "other", "thing"] (defScope s_is_plan) := ⟨rfl, rfl, rfl, by decide +kernel, rfl, by decide +kernel, by decide +kernel⟩
abbrev s_is_shared_plan : Stmt := topS 48
theorem sc_is_shared_plan : FnScope ["house", "other", "thing"] ["house", "other", "thing"] (defScope s_is_shared_plan) := ⟨rfl, rfl, rfl, by decide +kernel, rfl, by decide +kernel, by decide +kernel⟩
abbrev s_is_go_between : Stmt := topS 49
theorem sc_is_go_between : FnScope ["house", "other", "thing", "pair"] ["house", "other", "thing"] (defScope s_is_go_between) := ⟨rfl, rfl, rfl, by decide +kernel, rfl, by decide +kernel, by decide +kernel⟩
abbrev s_check_between : Stmt := topS 50
theorem sc_check_between : FnScope ["house", "other", "thing"] ["house", "other", "thing"] (defScope s_check_between) := ⟨rfl, rfl, rfl, by decide +kernel, rfl, by decide +kernel, by decide +kernel⟩
abbrev s_tellings : Stmt := topS 51
theorem sc_tellings : FnScope ["share", "weights", "stand", "move", "word", "number", "behind", "told", "answer", "inner"] ["share", "weights", "stand", "move"] (defScope s_tellings) := ⟨rfl, rfl, rfl, by decide +kernel, rfl, by decide +kernel, by decide +kernel⟩
abbrev s_tellers_of : Stmt := topS 52
theorem sc_tellers_of : FnScope ["question", "number", "holders", "tellers", "answer", "share", "weights", "stand", "wait", "told", "teller"] ["question", "number", "holders"] (defScope s_tellers_of) := ⟨rfl, rfl, rfl, by decide +kernel, rfl, by decide +kernel, by decide +kernel⟩
abbrev s_weight_of : Stmt := topS 53
theorem sc_weight_of : FnScope ["holders", "world", "whole", "parts", "_", "weights", "many", "share"] ["holders", "world", "whole"] (defScope s_weight_of) := ⟨rfl, rfl, rfl, by decide +kernel, rfl, by decide +kernel, by decide +kernel⟩
abbrev s_led_node : Stmt := topS 54
theorem sc_led_node : FnScope ["node", "worlds", "holders", "whole", "world", "answer", "tellers", "number", "question"] ["node", "worlds", "holders", "whole"] (defScope s_led_node) := ⟨rfl, rfl, rfl, by decide +kernel, rfl, by decide +kernel, by decide +kernel⟩
abbrev s_led_house : Stmt := topS 55
theorem sc_led_house : FnScope ["house", "other", "between", "whole", "share", "_", "ahead", "holders", "plan"] ["house", "other", "between"] (defScope s_led_house) := ⟨rfl, rfl, rfl, by decide +kernel, rfl, by decide +kernel, by decide +kernel⟩
abbrev s_led : Stmt := topS 56
theorem sc_led : FnScope ["house", "other", "between"] ["house", "other", "between"] (defScope s_led) := ⟨rfl, rfl, rfl, by decide +kernel, rfl, by decide +kernel, by decide +kernel⟩
abbrev s_is_between : Stmt := topS 57
theorem sc_is_between : FnScope ["house", "other", "thing"] ["house", "other", "thing"] (defScope s_is_between) := ⟨rfl, rfl, rfl, by decide +kernel, rfl, by decide +kernel, by decide +kernel⟩
abbrev s_passing_wait : Stmt := topS 58
theorem sc_passing_wait : FnScope ["node", "place", "answer", "number", "question"] ["node"] (defScope s_passing_wait) := ⟨rfl, rfl, rfl, by decide +kernel, rfl, by decide +kernel, by decide +kernel⟩
abbrev s_passing : Stmt := topS 59
theorem sc_passing : FnScope ["house"] ["house"] (defScope s_passing) := ⟨rfl, rfl, rfl, by decide +kernel, rfl, by decide +kernel, by decide +kernel⟩
abbrev s_joined_wait : Stmt := topS 61
theorem sc_joined_wait : FnScope ["first", "second", "move"] ["first", "second"] (defScope s_joined_wait) := ⟨rfl, rfl, rfl, by decide +kernel, rfl, by decide +kernel, by decide +kernel⟩
abbrev s_joined_move : Stmt := topS 62
theorem sc_joined_move : FnScope ["first", "move", "word", "number", "behind"] ["first", "move"] (defScope s_joined_move) := ⟨rfl, rfl, rfl, by decide +kernel, rfl, by decide +kernel, by decide +kernel⟩
abbrev s_answered_move : Stmt := topS 63
theorem sc_answered_move : FnScope ["move", "moves", "word", "number", "behind", "inner"] ["move", "moves"] (defScope s_answered_move) := ⟨rfl, rfl, rfl, by decide +kernel, rfl, by decide +kernel, by decide +kernel⟩
abbrev s_joined : Stmt := topS 64
theorem sc_joined : FnScope ["house", "other", "third", "first", "second", "share", "plan", "other_share", "other_plan"] ["house", "other", "third", "first", "second"] (defScope s_joined) := ⟨rfl, rfl, rfl, by decide +kernel, rfl, by decide +kernel, by decide +kernel⟩
abbrev s_law_bag : Stmt := topS 66
theorem sc_law_bag : FnScope ["script", "seed", "cell", "great", "always"] ["script"] (defScope s_law_bag) := ⟨rfl, rfl, rfl, by decide +kernel, rfl, by decide +kernel, by decide +kernel⟩
abbrev s_law_pick : Stmt := topS 67
theorem sc_law_pick : FnScope ["bag", "many", "great", "digit", "number"] ["bag", "many"] (defScope s_law_pick) := ⟨rfl, rfl, rfl, by decide +kernel, rfl, by decide +kernel, by decide +kernel⟩
abbrev s_law_some : Stmt := topS 68
theorem sc_law_some : FnScope ["bag", "things"] ["bag", "things"] (defScope s_law_some) := ⟨rfl, rfl, rfl, by decide +kernel, rfl, by decide +kernel, by decide +kernel⟩
abbrev s_law_common : Stmt := topS 69
theorem sc_law_common : FnScope ["one", "other"] ["one", "other"] (defScope s_law_common) := ⟨rfl, rfl, rfl, by decide +kernel, rfl, by decide +kernel, by decide +kernel⟩
abbrev s_law_low : Stmt := topS 70
theorem sc_law_low : FnScope ["top", "bottom", "common"] ["top", "bottom"] (defScope s_law_low) := ⟨rfl, rfl, rfl, by decide +kernel, rfl, by decide +kernel, by decide +kernel⟩
abbrev s_law_plus : Stmt := topS 71
theorem sc_law_plus : FnScope ["one", "other"] ["one", "other"] (defScope s_law_plus) := ⟨rfl, rfl, rfl, by decide +kernel, rfl, by decide +kernel, by decide +kernel⟩
abbrev s_law_times : Stmt := topS 72
theorem sc_law_times : FnScope ["one", "other"] ["one", "other"] (defScope s_law_times) := ⟨rfl, rfl, rfl, by decide +kernel, rfl, by decide +kernel, by decide +kernel⟩
abbrev s_law_total : Stmt := topS 73
theorem sc_law_total : FnScope ["some", "found", "one"] ["some"] (defScope s_law_total) := ⟨rfl, rfl, rfl, by decide +kernel, rfl, by decide +kernel, by decide +kernel⟩
abbrev s_law_shares : Stmt := topS 74
theorem sc_law_shares : FnScope ["bag", "many", "least", "parts", "k", "part"] ["bag", "many", "least"] (defScope s_law_shares) := ⟨rfl, rfl, rfl, by decide +kernel, rfl, by decide +kernel, by decide +kernel⟩
abbrev s_law_question : Stmt := topS 75
theorem sc_law_question : FnScope ["bag", "worlds", "ahead", "levels", "left", "many", "rows", "world", "found", "k", "word", "weights"] ["bag", "worlds", "ahead", "levels", "left"] (defScope s_law_question) := ⟨rfl, rfl, rfl, by decide +kernel, rfl, by decide +kernel, by decide +kernel⟩
abbrev s_law_node : Stmt := topS 76
theorem sc_law_node : FnScope ["bag", "worlds", "ahead", "levels", "left", "k"] ["bag", "worlds", "ahead", "levels", "left"] (defScope s_law_node) := ⟨rfl, rfl, rfl, by decide +kernel, rfl, by decide +kernel, by decide +kernel⟩
abbrev s_law_tree : Stmt := topS 77
theorem sc_law_tree : FnScope ["bag", "worlds", "levels", "answers", "ahead", "left", "some", "k"] ["bag", "worlds", "levels", "answers"] (defScope s_law_tree) := ⟨rfl, rfl, rfl, by decide +kernel, rfl, by decide +kernel, by decide +kernel⟩
abbrev s_law_is : Stmt := topS 78
theorem sc_law_is : FnScope ["found", "due"] ["found", "due"] (defScope s_law_is) := ⟨rfl, rfl, rfl, by decide +kernel, rfl, by decide +kernel, by decide +kernel⟩
abbrev s_law_wait : Stmt := topS 79
theorem sc_law_wait : FnScope ["bag", "here", "goal", "left", "question"] ["bag", "here", "goal", "left"] (defScope s_law_wait) := ⟨rfl, rfl, rfl, by decide +kernel, rfl, by decide +kernel, by decide +kernel⟩
abbrev s_law_move : Stmt := topS 80
theorem sc_law_move : FnScope ["bag", "here", "question", "left", "q", "word", "weights", "behind", "a"] ["bag", "here", "question", "left"] (defScope s_law_move) := ⟨rfl, rfl, rfl, by decide +kernel, rfl, by decide +kernel, by decide +kernel⟩
abbrev s_law_between : Stmt := topS 81
theorem sc_law_between : FnScope ["bag", "one", "other", "plans", "shares", "share"] ["bag", "one", "other", "plans"] (defScope s_law_between) := ⟨rfl, rfl, rfl, by decide +kernel, rfl, by decide +kernel, by decide +kernel⟩
abbrev s_law_is_int : Stmt := topS 82
theorem sc_law_is_int : FnScope ["thing", "least", "most"] ["thing", "least", "most"] (defScope s_law_is_int) := ⟨rfl, rfl, rfl, by decide +kernel, rfl, by decide +kernel, by decide +kernel⟩
abbrev s_law_is_fraction : Stmt := topS 83
theorem sc_law_is_fraction : FnScope ["thing", "part"] ["thing"] (defScope s_law_is_fraction) := ⟨rfl, rfl, rfl, by decide +kernel, rfl, by decide +kernel, by decide +kernel⟩
abbrev s_law_is_wait : Stmt := topS 84
theorem sc_law_is_wait : FnScope ["here", "goal", "thing", "k"] ["here", "goal", "thing"] (defScope s_law_is_wait) := ⟨rfl, rfl, rfl, by decide +kernel, rfl, by decide +kernel, by decide +kernel⟩
abbrev s_law_is_move : Stmt := topS 85
theorem sc_law_is_move : FnScope ["here", "question", "thing", "answers", "k"] ["here", "question", "thing"] (defScope s_law_is_move) := ⟨rfl, rfl, rfl, by decide +kernel, rfl, by decide +kernel, by decide +kernel⟩
abbrev s_law_is_between : Stmt := topS 86
theorem sc_law_is_between : FnScope ["one", "other", "thing", "item"] ["one", "other", "thing"] (defScope s_law_is_between) := ⟨rfl, rfl, rfl, by decide +kernel, rfl, by decide +kernel, by decide +kernel⟩
abbrev s_law_told : Stmt := topS 87
theorem sc_law_told : FnScope ["move", "worlds", "here", "weights", "path", "q", "found", "k", "word", "there", "behind", "told", "elder", "number", "later"] ["move", "worlds", "here", "weights", "path", "q", "found"] (defScope s_law_told) := ⟨rfl, rfl, rfl, by decide +kernel, rfl, by decide +kernel, by decide +kernel⟩
abbrev s_law_made_by : Stmt := topS 88
theorem sc_law_made_by : FnScope ["worlds", "tree", "plan", "found", "number", "move"] ["worlds", "tree", "plan"] (defScope s_law_made_by) := ⟨rfl, rfl, rfl, by decide +kernel, rfl, by decide +kernel, by decide +kernel⟩
abbrev s_law_led : Stmt := topS 89
theorem sc_law_led : FnScope ["worlds", "tree", "between", "found", "share", "plan", "path", "weights", "elder", "k"] ["worlds", "tree", "between"] (defScope s_law_led) := ⟨rfl, rfl, rfl, by decide +kernel, rfl, by decide +kernel, by decide +kernel⟩
abbrev s_law_shaped : Stmt := topS 90
theorem sc_law_shaped : FnScope ["node", "path", "worlds", "found", "some", "q", "question", "answers", "a", "word", "weights", "behind", "here"] ["node", "path", "worlds", "found"] (defScope s_law_shaped) := ⟨rfl, rfl, rfl, by decide +kernel, rfl, by decide +kernel, by decide +kernel⟩
abbrev s_law_two : Stmt := topS 91
theorem sc_law_two : FnScope ["bag", "levels", "answers", "worlds"] ["bag", "levels", "answers"] (defScope s_law_two) := ⟨rfl, rfl, rfl, by decide +kernel, rfl, by decide +kernel, by decide +kernel⟩
abbrev s_law : Stmt := topS 92
theorem sc_law : FnScope ["script", "bag", "worlds", "one", "other", "last", "house", "third", "own", "first", "middle", "second", "due", "whole", "some"] ["script"] (defScope s_law) := ⟨rfl, rfl, rfl, by decide +kernel, rfl, by decide +kernel, by decide +kernel⟩
end Tl
namespace Tl
open PySem PySem.Spec PyProof.Rows L2 RZ
/-- a def of the text as it stands behind the top -/
structure Dn (K : PySem.W.Frag) (mg : Str → Option Value) (x : Str) (st : Stmt) (ps : List Str) (f : Addr) (fd : FuncData) : Prop where
  F : Fun K x x st f fd
  b : Binds K fd ps []
  m : mg x = some (.ref f)
/-- the built-in names that the text uses -/
structure Blt (mg : Str → Option Value) : Prop where
  len : mg "len" = none
  int : mg "int" = none
  abs : mg "abs" = none
  sum : mg "sum" = none
  range : mg "range" = none
  repr : mg "repr" = none
  isinstance : mg "isinstance" = none
  any : mg "any" = none
  all : mg "all" = none
  tuple : mg "tuple" = none
  list : mg "list" = none
  zip : mg "zip" = none
  enumerate : mg "enumerate" = none
  max : mg "max" = none
  bool : mg "bool" = none
def spPick : Sp := fun vs H Q _ => ∃ (b g : Addr) (m : Int), vs = [.ref b, .int m] ∧ Bag H b g ∧ 0 < m ∧ m < 1000000 ∧
  ∀ (r : Int) (H' : Hp), 0 ≤ r → r < m → Bag H' b g → Frm b g H H' → Q (.int r) H'
theorem Bag.mk2 {H : Hp} {b g : Addr} {s c : Int} {al : V} {gs : List Int} (ne : b ≠ g) (hal : al = .non ∨ ∃ n, al = .int n) (h1 : H b = some (.lst [.int s, .int c, .ref g, al])) (h2 : H g = some (.lst (gs.map V.int))) (h3 : gs.length ≤ 63) : Bag H b g :=
  ⟨ne, ⟨s, c, al, h1, hal⟩, ⟨gs, h2, h3⟩⟩
section
variable {P : Program} {w : World} {K : PySem.W.Frag} {mg : Str → Option Value} {base : Heap}
theorem ok_law_pick {f : Addr} {fd : FuncData} (D : Dn K mg "_law_pick" s_law_pick ["bag", "many"] f fd) (B : Blt mg) : FnOk P w K mg base CX0 1 f fd ["bag", "many"] spPick := by
  refine D.F.ok sc_law_pick (fun vs H Q E h => ?_) (fun cdv A outer s H vs Q E hr h => ?_)
  · obtain ⟨b, g, m, rfl, _⟩ := h
    rfl
  obtain ⟨b, g, m, rfl, hB, hm0, hm1, q⟩ := h
  have nd := sc_law_pick.nd
  refine ⟨_, (pss_cons (ps_if (pt_cmpR op_notN (pe_ix (k_ixL (K := K) rfl) (pv 0) pe_int (fun _ _ => rfl)) pe_non (nomark _)) (pss_one (ps_ret (pe_op op_mod (pe_callTy call_int1 (by rfl) B.int (by decide +kernel) (pa_cons (pe_ix (k_ixL (K := K) rfl) (pv 0) pe_int (fun _ _ => rfl)) pa_nil)) (pv 1)))) pss_nil)
      (pss_cons (ps_asg (pe_op op_add (pe_ix (k_ixL (K := K) rfl) (pv 0) pe_int (fun _ _ => rfl)) pe_int) (pg_sub (pv 0) pe_int set_list))
      (pss_cons (ps_set (i := 2) nd rfl (.inl rfl) (pe_ix (k_ixL (K := K) rfl) (pv 0) pe_int (fun _ _ => rfl)))
      (pss_cons (ps_if (pt_cmpR op_gt (pe_callB (k_len (K := K) rfl) (by rfl) B.len PySem.boot_len (pa_cons (pv 2) pa_nil)) pe_int (nomark _)) (pss_cons (ps_set (i := 3) nd rfl (.inl rfl) (pe_op op_mod (pe_callTy call_int1 (by rfl) B.int (by decide +kernel) (pa_cons (pe_ix (k_ixL (K := K) rfl) (pv 2) pe_int (fun _ _ => rfl)) pa_nil)) (pv 1)))
      (pss_cons (ps_asg (pe_op op_fdivW (pe_callTy call_int1 (by rfl) B.int (by decide +kernel) (pa_cons (pe_ix (k_ixL (K := K) rfl) (pv 2) pe_int (fun _ _ => rfl)) pa_nil)) (pv 1)) (pg_sub (pv 2) pe_int set_list))
      (pss_cons (ps_if (pt_cmpR op_eq (pe_ix (k_ixL (K := K) rfl) (pv 2) pe_int (fun _ _ => rfl)) pe_int (nomark _)) (pss_one (ps_expr (pe_bm PySem.F.plainAttrs_list PySem.F.slot_list_pop PySem.F.type_list_pop mt_popAt (pv 2) (pa_cons pe_int pa_nil)))) pss_nil)
      (pss_one (ps_ret (pv 3)))))) pss_nil)
      (pss_cons (ps_set (i := 4) nd rfl (.inl rfl) (pe_op op_mod (pe_callTy call_int1 (by rfl) B.int (by decide +kernel) (pa_cons (pe_op op_mul (pe_op op_add (pe_ix (k_ixL (K := K) rfl) (pv 0) pe_int (fun _ _ => rfl)) (pe_op op_mul pe_int (pe_ix (k_ixL (K := K) rfl) (pv 0) pe_int (fun _ _ => rfl)))) pe_int) pa_nil)) pe_int))
      (pss_cons (ps_set (i := 4) nd rfl (.inl rfl) (pe_op op_mod (pe_callTy call_int1 (by rfl) B.int (by decide +kernel) (pa_cons (pe_op op_mul (pv 4) (pe_op op_add (pe_op op_fdivW (pv 4) pe_int) pe_int)) pa_nil)) pe_int))
      (pss_cons (ps_set (i := 4) nd rfl (.inl rfl) (pe_op op_mod (pe_callTy call_int1 (by rfl) B.int (by decide +kernel) (pa_cons (pe_op op_mul (pv 4) (pe_op op_add (pe_op op_fdivW (pv 4) pe_int) pe_int)) pa_nil)) pe_int))
      (pss_one (ps_ret (pe_op op_mod (pe_callTy call_int1 (by rfl) B.int (by decide +kernel) (pa_cons (pe_op op_fdivW (pv 4) pe_int) pa_nil)) (pv 1))))))))))), ?_⟩
  obtain ⟨s0, c0, al, hb, hal⟩ := hB.hb
  obtain ⟨gs, hg, hgl⟩ := hB.hg
  have hne := hB.ne
  refine ⟨_, rfl, b, _, 3, _, rfl, rfl, SqL.of hb, at_of (j := 3) rfl rfl, rfl, _, rfl, ?_⟩
  refine ite2 (fun c => ?_) (fun c => ?_)
  · -- always
    have c' : al ≠ .non := by simpa using c
    obtain ⟨n, rfl⟩ : ∃ n, al = .int n := by
      rcases hal with h | h
      · exact absurd h c'
      · exact h
    refine ⟨_, rfl, b, _, 3, _, rfl, rfl, SqL.of hb, at_of (j := 3) rfl rfl, .inl ⟨_, rfl, _, rfl, _, _, rfl, rfl, hm0, ?_⟩⟩
    exact q _ H (Int.emod_nonneg _ (by omega)) (Int.emod_lt_of_pos _ hm0) hB (Frm.refl _ _ _)
  -- bag[1] = bag[1] + 1
  refine ⟨_, rfl, b, _, 1, _, rfl, rfl, SqL.of hb, at_of (j := 1) rfl rfl, _, _, rfl, rfl, _, rfl, b, _, 1, 1, rfl, rfl, hb, rfl, ?_⟩
  have hb1 : (upd H b (.lst ([V.int s0, V.int c0, V.ref g, al].set 1 (V.int (c0 + 1))))) b = some (.lst [V.int s0, V.int (c0 + 1), V.ref g, al]) := upd_same
  have hg1 : (upd H b (.lst ([V.int s0, V.int c0, V.ref g, al].set 1 (V.int (c0 + 1))))) g = some (.lst (gs.map V.int)) := by
    rw [upd_ne hne.symm]
    exact hg
  generalize hH1 : upd H b (.lst ([V.int s0, V.int c0, V.ref g, al].set 1 (V.int (c0 + 1)))) = H1 at hb1 hg1
  have f1 : Frm b g H H1 := by
    rw [← hH1]
    exact Frm.updB
  clear hH1
  -- great = bag[2]
  refine ⟨_, rfl, b, _, 2, _, rfl, rfl, SqL.of hb1, at_of (j := 2) rfl rfl, ?_⟩
  refine ⟨_, rfl, g, _, rfl, .inl (SqL.of hg1), _, _, rfl, rfl, _, rfl, ?_⟩
  refine ite2 (fun c => ?_) (fun c => ?_)
  · -- a great one
    cases gs with
    | nil => simp at c
    | cons z zs =>
      have e0 : atI ((z :: zs).map V.int) 0 = some (V.int z) := at_of (j := 0) rfl rfl
      refine ⟨_, rfl, g, _, 0, _, rfl, rfl, SqL.of hg1, e0, .inl ⟨_, rfl, _, rfl, _, _, rfl, rfl, hm0, ?_⟩⟩
      have hm2 : m.natAbs < 2 ^ 20 := by omega
      refine ⟨_, rfl, g, _, 0, _, rfl, rfl, SqL.of hg1, e0, .inl ⟨_, rfl, _, rfl, _, _, rfl, rfl, wide_div hm0 hm2 (by decide) (by decide), _, rfl, g, _, 0, 0, rfl, rfl, hg1, by simp [ixN], ?_⟩⟩
      have hg2 : (upd H1 g (.lst (((z :: zs).map V.int).set 0 (V.int (z / m))))) g = some (.lst (((z / m) :: zs).map V.int)) := upd_same
      have hb2 : (upd H1 g (.lst (((z :: zs).map V.int).set 0 (V.int (z / m))))) b = some (.lst [V.int s0, V.int (c0 + 1), V.ref g, al]) := by
        rw [upd_ne hne]
        exact hb1
      generalize hH2 : upd H1 g (.lst (((z :: zs).map V.int).set 0 (V.int (z / m)))) = H2 at hg2 hb2
      have f2 : Frm b g H H2 := by
        rw [← hH2]
        exact f1.trans Frm.updG
      clear hH2
      have e1 : atI (((z / m) :: zs).map V.int) 0 = some (V.int (z / m)) := at_of (j := 0) rfl rfl
      refine ⟨_, rfl, g, _, 0, _, rfl, rfl, SqL.of hg2, e1, rfl, _, rfl, ?_⟩
      refine ite2 (fun c => ?_) (fun c => ?_)
      · refine ⟨_, rfl, .inl ⟨rfl, _, SqL.of hg2⟩, g, _, 0, 0, _, rfl, rfl, hg2, by decide, by decide, by simp [seqIndex?], rfl, ?_⟩
        have hg3 : (upd H2 g (.lst ((((z / m) :: zs).map V.int).eraseIdx 0))) g = some (.lst (zs.map V.int)) := upd_same
        refine ⟨_, rfl, q _ _ (Int.emod_nonneg _ (by omega)) (Int.emod_lt_of_pos _ hm0) (.mk2 hne hal ((upd_ne hne).trans hb2) hg3 (by simp at hgl; omega)) (f2.trans Frm.updG)⟩
      · exact ⟨_, rfl, q _ H2 (Int.emod_nonneg _ (by omega)) (Int.emod_lt_of_pos _ hm0) (.mk2 hne hal hb2 hg2 (by simpa using hgl)) f2⟩
  · have mod0 : ∀ i j : Int, 0 < j → 0 ≤ i % j ∧ i % j < j := fun i j h => ⟨Int.emod_nonneg _ (by omega), Int.emod_lt_of_pos _ h⟩
    refine ⟨_, rfl, b, _, 0, _, rfl, rfl, SqL.of hb1, at_of (j := 0) rfl rfl, _, rfl, b, _, 1, _, rfl, rfl, SqL.of hb1, at_of (j := 1) rfl rfl, _, _, rfl, rfl, .inl ⟨by decide, by decide⟩, _, _, rfl, rfl, _, _, rfl, rfl, .inr ⟨by decide, by decide⟩, .inl ⟨_, rfl, _, _, rfl, rfl, (by show (0 : Int) < 2147483647; decide), ?_⟩⟩
    obtain ⟨l1, u1⟩ := mod0 ((s0 + 7919 * (c0 + 1)) * 48271) 2147483647 (by decide)
    generalize (s0 + 7919 * (c0 + 1)) * 48271 % 2147483647 = n1 at l1 u1 ⊢
    refine ⟨_, rfl, _, rfl, _, _, rfl, rfl, wide_div (b := 40) (by decide) (by decide) (by decide) (by decide), _, _, rfl, rfl, _, _, rfl, rfl, .inl ⟨by omega, by omega⟩, .inl ⟨_, rfl, _, _, rfl, rfl, (by show (0 : Int) < 2147483647; decide), ?_⟩⟩
    obtain ⟨l2, u2⟩ := mod0 (n1 * (n1 / 1009 + 69621)) 2147483647 (by decide)
    generalize n1 * (n1 / 1009 + 69621) % 2147483647 = n2 at l2 u2 ⊢
    refine ⟨_, rfl, _, rfl, _, _, rfl, rfl, wide_div (b := 40) (by decide) (by decide) (by decide) (by decide), _, _, rfl, rfl, _, _, rfl, rfl, .inl ⟨by omega, by omega⟩, .inl ⟨_, rfl, _, _, rfl, rfl, (by show (0 : Int) < 2147483399; decide), ?_⟩⟩
    generalize n2 * (n2 / 2003 + 40692) % 2147483399 = n3
    refine ⟨_, rfl, _, _, rfl, rfl, wide_div (b := 40) (by decide) (by decide) (by decide) (by decide), .inl ⟨_, rfl, _, rfl, _, _, rfl, rfl, hm0, ?_⟩⟩
    exact q _ H1 (mod0 _ _ hm0).1 (mod0 _ _ hm0).2 (.mk2 hne hal hb1 hg1 hgl) f1
end
end Tl
namespace Tl
open PySem PySem.Spec PyProof.Rows L2 RZ
theorem int_at {ns : List Int} {i : Nat} {y : V} (h : (ns.map V.int)[i]? = some y) : ∃ z, ns[i]? = some z ∧ y = .int z := by
  rw [List.getElem?_map] at h
  cases e : ns[i]? with
  | none =>
    rw [e] at h
    cases h
  | some z =>
    rw [e] at h
    exact ⟨z, rfl, (Option.some.inj h).symm⟩
theorem cut_ints (ns : List Int) (lo hi : Option Int) : ∃ ms : List Int, cutV (ns.map V.int) lo hi = ms.map V.int ∧ ms.length ≤ ns.length := by
  unfold cutV
  refine ⟨(ns.drop (HT.sIx (ns.map V.int).length 0 lo)).take (HT.sIx (ns.map V.int).length (ns.map V.int).length hi - HT.sIx (ns.map V.int).length 0 lo), by rw [List.map_take, List.map_drop], ?_⟩
  rw [List.length_take, List.length_drop]
  omega
def spBag (K : PySem.W.Frag) : Sp := fun vs H Q _ => ∃ (a : Addr) (ns : List Int), vs = [.ref a] ∧ SqL K H a (ns.map V.int) ∧ ns.length ≤ 63 ∧
  ∀ (b g : Addr) (H' : Hp), Same H H' → Bag H' b g → H b = none → H g = none → Q (.ref b) H'
theorem small63 {n : Nat} (h : n ≤ 63) : n < sizeLine := small1000 (by omega)
section
variable {P : Program} {w : World} {K : PySem.W.Frag} {mg : Str → Option Value} {base : Heap}
theorem ok_law_bag {f : Addr} {fd : FuncData} (D : Dn K mg "_law_bag" s_law_bag ["script"] f fd) (B : Blt mg) : FnOk P w K mg base CX0 1 f fd ["script"] (spBag K) := by
  refine D.F.ok sc_law_bag (fun vs H Q E h => ?_) (fun cdv A outer s H vs Q E hr h => ?_)
  · obtain ⟨a, ns, rfl, _⟩ := h
    rfl
  obtain ⟨a, ns, rfl, hS, hn, q⟩ := h
  have nd := sc_law_bag.nd
  refine ⟨_, (pss_cons (ps_set (i := 1) nd rfl (.inl rfl) (pe_op op_add pe_int (pe_callB (k_len (K := K) rfl) (by rfl) B.len PySem.boot_len (pa_cons (pv 0) pa_nil))))
      (pss_cons (ps_for PassesOwn.never rfl (k_iL (K := K) rfl (pe_slice (k_slL (K := K) rfl) (pv 0) po_none (po_some pe_int))) (pg_name (i := 2) nd rfl (.inl rfl)) (pss_one (ps_set (i := 1) nd rfl (.inl rfl) (pe_op op_mod (pe_callTy call_int1 (by rfl) B.int (by decide +kernel) (pa_cons (pe_op op_add (pe_op op_add (pe_op op_mul (pv 1) pe_int) (pe_op op_mod (pe_callTy call_int1 (by rfl) B.int (by decide +kernel) (pa_cons (pv 2) pa_nil)) pe_int)) pe_int) pa_nil)) pe_int))))
      (pss_cons (ps_setLc (i := 3) (own := [("cell", 2)]) rfl nd rfl rfl (sw_true rfl rfl rfl (by decide +kernel)) (k_iL (K := K) rfl (pe_slice (k_slL (K := K) rfl) (pv 0) po_none (po_some pe_int))) (blkOk_by (own := [("cell", 2)]) (by kernel_rfl)) (fun _ _ _ _ _ => (pg_name (i := 2) nd rfl (.inl rfl))) (fun _ _ _ _ _ => pts_one (pt_cmpR op_ge (pe_callB call_abs (by rfl) B.abs (by decide +kernel) (pa_cons (pe_callTy call_int1 (by rfl) B.int (by decide +kernel) (pa_cons (pv 2) pa_nil)) pa_nil)) (pe_op op_pow pe_int pe_int) (nomark _))) (fun _ _ _ _ _ => (pe_callB call_abs (by rfl) B.abs (by decide +kernel) (pa_cons (pe_callTy call_int1 (by rfl) B.int (by decide +kernel) (pa_cons (pv 2) pa_nil)) pa_nil))))
      (pss_cons (ps_set (i := 4) nd rfl (.inl rfl) pe_non)
      (pss_cons (ps_if (PW.pt (pw_and (pt_cmpR op_lt (pe_callB (k_len (K := K) rfl) (by rfl) B.len PySem.boot_len (pa_cons (pv 0) pa_nil)) pe_int (nomark _)) (pw_and1 (pt_cmpR op_eq (pe_callB (k_len (K := K) rfl) (by rfl) B.len PySem.boot_len (pa_cons (pv 3) pa_nil)) pe_int (nomark _))))) (pss_one (ps_set (i := 4) nd rfl (.inl rfl) (pe_callB call_abs (by rfl) B.abs (by decide +kernel) (pa_cons (pe_callB (k_sum (K := K) rfl rfl) (by rfl) B.sum (by decide +kernel) (pa_cons (pe_lc (own := [("cell", 2)]) rfl nd (k_iL (K := K) rfl (pv 0)) (blkOk_by (own := [("cell", 2)]) (by kernel_rfl)) (fun _ _ _ _ _ => (pg_name (i := 2) nd rfl (.inl rfl))) (fun _ _ _ _ _ => pts_nil) (fun _ _ _ _ _ => (pe_callTy call_int1 (by rfl) B.int (by decide +kernel) (pa_cons (pv 2) pa_nil)))) pa_nil)) pa_nil)))) pss_nil)
      (pss_one (ps_ret (pe_lst (pa_cons (pv 1) (pa_cons pe_int (pa_cons (pv 3) (pa_cons (pv 4) pa_nil)))))))))))), ?_⟩
  obtain ⟨ms, em, hm⟩ := cut_ints ns none (some 63)
  -- seed = 29 + len(script)
  refine ⟨_, rfl, a, _, rfl, .inl hS, _, _, rfl, rfl, ?_⟩
  -- for cell in script[:63]
  refine ⟨_, rfl, _, rfl, a, _, rfl, hS, fun p hp => ?_⟩
  rw [em]
  have s1 : Same H (upd H p (.lst (ms.map V.int))) := same_upd hp
  refine ⟨p, rfl, ⟨_, SqL.of upd_same⟩, for_list (K := K) (a := p) (xs := ms.map V.int) (fun i σ H2 => ∃ (z : Int) (v : Option V), σ = [some (.ref a), some (.int z), v, none, none] ∧ H2 = upd H p (.lst (ms.map V.int))) ⟨_, none, rfl, rfl⟩ (fun i σ H2 _ h => ?_) ?_ ?_⟩
  · obtain ⟨_, _, _, rfl⟩ := h
    exact SqL.of upd_same
  · rintro i y σ H2 hi ⟨z, v, rfl, rfl⟩
    obtain ⟨n, _, rfl⟩ := int_at hi
    refine ⟨_, rfl, _, _, rfl, rfl, .inr ⟨by decide, by decide⟩, _, rfl, .inl ⟨_, rfl, _, _, rfl, rfl, (by show (0 : Int) < 1000003; decide), _, _, rfl, rfl, _, _, rfl, rfl, .inl ⟨_, rfl, _, _, rfl, rfl, (by show (0 : Int) < 2147483647; decide), ?_⟩⟩⟩
    exact ⟨_, _, rfl, rfl⟩
  rintro σ H2 ⟨z, v, rfl, rfl⟩
  -- great = [..]
  refine ⟨_, rfl, _, rfl, a, _, rfl, s1.seq hS, fun p2 hp2 => ?_⟩
  rw [em]
  have s2 : Same (upd H p (.lst (ms.map V.int))) (upd (upd H p (.lst (ms.map V.int))) p2 (.lst (ms.map V.int))) := same_upd hp2
  generalize hH2 : upd (upd H p (.lst (ms.map V.int))) p2 (.lst (ms.map V.int)) = H2 at s2
  have hp2' : H2 p2 = some (.lst (ms.map V.int)) := by
    rw [← hH2]
    exact upd_same
  have s12 : Same H H2 := s1.trans s2
  clear hH2 s2 s1 hp
  refine ⟨p2, rfl, ⟨_, SqL.of hp2'⟩, fun g hg => ?_⟩
  have sg : Same H2 (upd H2 g (.lst [])) := same_upd hg
  refine lc_list (K := K) (a := p2) (xs := ms.map V.int) (fun i H3 => ∃ gs : List Int, gs.length ≤ i ∧ H3 g = some (.lst (gs.map V.int)) ∧ Same H2 H3) ⟨[], Nat.le_refl _, upd_same, sg⟩ (fun i H3 _ h => ?_) ?_ ?_
  · obtain ⟨_, _, _, h⟩ := h
    exact h.seq (SqL.of hp2')
  · rintro i y H3 hi ⟨gs, hl, h3, s3⟩
    obtain ⟨n, hn', rfl⟩ := int_at hi
    have hi2 : i < ms.length := (List.getElem?_eq_some_iff.mp hn').1
    refine ⟨rfl, ?_⟩
    refine ⟨_, rfl, .inl ⟨_, rfl, _, rfl, _, _, rfl, rfl, ⟨by decide, by decide, by decide⟩, _, _, rfl, rfl, _, rfl, ?_⟩⟩
    refine ite2 (fun c => ?_) (fun c => ?_)
    · refine ⟨_, rfl, .inl ⟨_, rfl, _, rfl, _, h3, by rw [List.length_map]; exact small63 (by omega), ?_⟩⟩
      refine ⟨gs ++ [_], by rw [List.length_append]; exact Nat.add_le_add_right hl 1, by rw [List.map_append]; exact upd_same, fun c o e => ?_⟩
      rw [upd_ne (ne_of_none e hg)]
      exact s3 _ _ e
    · exact ⟨gs, Nat.le_succ_of_le hl, h3, s3⟩
  rintro H3 ⟨gs, hl, h3, s3⟩
  rw [List.length_map] at hl
  have s13 := s12.trans s3
  -- always
  have fin : ∀ (H4 : Hp) (al : V), Same H3 H4 → (al = .non ∨ ∃ n, al = .int n) → (∀ b, H4 b = none → Q (.ref b) (upd H4 b (.lst [.int z, .int 1, .ref g, al]))) := by
    intro H4 al s4 hal b hb
    have e4 := s4 _ _ h3
    have hbg : b ≠ g := fun e => by
      rw [e, e4] at hb
      cases hb
    have hn1 : H b = none := (s13.trans s4).free hb
    exact q b g _ ((s13.trans s4).trans (same_upd hb)) (.mk2 hbg hal upd_same ((upd_ne hbg.symm).trans e4) (by omega)) hn1 (s12.free hg)
  refine ⟨_, rfl, a, _, rfl, .inl (s13.seq hS), _, _, rfl, rfl, _, rfl, ?_⟩
  refine ite2 (fun c => ?_) (fun c => ?_)
  · refine ⟨_, rfl, g, _, rfl, .inl (SqL.of h3), rfl, _, rfl, ?_⟩
    refine ite2 (fun c => ?_) (fun c => ?_)
    · -- sum([int(cell) for cell in script])
      refine ⟨_, rfl, a, rfl, ⟨_, s13.seq hS⟩, fun l hl2 => ?_⟩
      refine lc_list (K := K) (a := a) (xs := ns.map V.int) (fun i H4 => H4 l = some (.lst ((ns.take i).map V.int)) ∧ Same H3 H4) ⟨upd_same, same_upd hl2⟩ (fun i H4 _ h => h.2.seq (s13.seq hS)) ?_ ?_
      · rintro i y H4 hi ⟨h4, s4⟩
        obtain ⟨n, hn', rfl⟩ := int_at hi
        have hi2 : i < ns.length := (List.getElem?_eq_some_iff.mp hn').1
        refine ⟨rfl, ?_⟩
        refine iteT (B := H4 l = some (.lst ((ns.take (i + 1)).map V.int)) ∧ Same H3 H4) ?_
        refine ⟨_, rfl, .inl ⟨_, rfl, _, h4, ?_, ?_, fun c o e => ?_⟩⟩
        · rw [List.length_map, List.length_take]
          exact small63 (by omega)
        · rw [upd_same, List.take_add_one, hn', List.map_append]
          rfl
        · rw [upd_ne (ne_of_none e hl2)]
          exact s4 _ _ e
      · rintro H4 ⟨h4, s4⟩
        refine ⟨l, _, rfl, SqL.of h4, _, rfl, ?_⟩
        refine ⟨_, rfl, _, rfl, _, rfl, (by show 4 ≤ sizeLine; decide), fun b hb => ?_⟩
        exact fin H4 _ s4 (.inr ⟨_, rfl⟩) b hb
    · exact ⟨_, rfl, _, rfl, _, rfl, (by show 4 ≤ sizeLine; decide), fun b hb => fin H3 _ (Same.refl _) (.inl rfl) b hb⟩
  · exact iteF ⟨_, rfl, _, rfl, _, rfl, (by show 4 ≤ sizeLine; decide), fun b hb => fin H3 _ (Same.refl _) (.inl rfl) b hb⟩
end
end Tl
namespace Tl
open PySem PySem.Spec PyProof.Rows L2 RZ
/-! ### fractions -/
def rD (q : Rat) : PyData := .tuple [.int q.num, .int (q.den : Int)]
theorem mkRat_parts (t : Int) (b : Nat) (h : 0 < b) : (mkRat t b).num = t / (Nat.gcd t.natAbs b : Nat) ∧ ((mkRat t b).den : Int) = (b : Int) / (Nat.gcd t.natAbs b : Nat) := by
  have hb : b ≠ 0 := by omega
  rw [mkRat, dif_neg hb, Rat.normalize_eq]
  exact ⟨rfl, rfl⟩
theorem mkRat_den_le (t : Int) (b : Nat) (h : 0 < b) : (mkRat t b).den ≤ b := by
  rw [Rat.den_mkRat, if_neg (by omega)]
  exact Nat.div_le_self _ _
theorem rat_mk (q : Rat) : mkRat q.num q.den = q := Rat.mkRat_self q
theorem td_rD {K : PySem.W.Frag} {H : Hp} {p : Addr} {t : Int} {b : Nat} (h : 0 < b) (hp : H p = some (.tup [.int (t / (Nat.gcd t.natAbs b : Nat)), .int ((b : Int) / (Nat.gcd t.natAbs b : Nat))])) : Td K H (.ref p) (rD (mkRat t b)) := by
  obtain ⟨e1, e2⟩ := mkRat_parts t b h
  unfold rD
  rw [e1, e2]
  exact .tup (.inl (.inl hp)) (.cons (.int _) (.cons (.int _) .nil))
theorem Td.rE {K : PySem.W.Frag} {H : Hp} {v : V} {q : Rat} (h : Td K H v (rD q)) : ∃ a, v = .ref a ∧ SqT K H a [.int q.num, .int (q.den : Int)] := by
  obtain ⟨a, xs, rfl, hs, ht⟩ := h.tupE
  cases ht with
  | cons h1 t =>
    cases t with
    | cons h2 t =>
      cases t
      cases h1
      cases h2
      exact ⟨a, rfl, hs⟩
def spCommon : Sp := fun vs H Q _ => ∃ a b : Int, vs = [.int a, .int b] ∧ 0 ≤ a ∧ 0 ≤ b ∧ Q (.int ((Nat.gcd a.toNat b.toNat : Nat) : Int)) H
def spLow (K : PySem.W.Frag) : Sp := fun vs H Q _ => ∃ (t : Int) (b : Nat), vs = [.int t, .int (b : Int)] ∧ 0 < b ∧ b < 2 ^ 4000 ∧ ∀ v H', Same H H' → Td K H' v (rD (mkRat t b)) → Q v H'
def spTimes (K : PySem.W.Frag) : Sp := fun vs H Q _ => ∃ (x y : V) (p q : Rat), vs = [x, y] ∧ Td K H x (rD p) ∧ Td K H y (rD q) ∧ p.den < 2 ^ 2000 ∧ q.den < 2 ^ 2000 ∧ p.num.natAbs < 2 ^ 2000 ∧ q.num.natAbs < 2 ^ 2000 ∧ ∀ v H', Same H H' → Td K H' v (rD (p * q)) → Q v H'
theorem gcd_step {a b : Int} (ha : 0 ≤ a) (hb : 0 < b) : Nat.gcd b.toNat (a % b).toNat = Nat.gcd a.toNat b.toNat := by
  rw [Int.toNat_emod ha (by omega), Nat.gcd_comm a.toNat b.toNat, Nat.gcd_rec b.toNat a.toNat, Nat.gcd_comm]
section
variable {P : Program} {w : World} {K : PySem.W.Frag} {mg : Str → Option Value} {base : Heap}
theorem ok_law_common {f : Addr} {fd : FuncData} (D : Dn K mg "_law_common" s_law_common ["one", "other"] f fd) (B : Blt mg) : FnOk P w K mg base CX0 1 f fd ["one", "other"] spCommon := by
  refine D.F.ok sc_law_common (fun vs H Q E h => ?_) (fun cdv A outer s H vs Q E hr h => ?_)
  · obtain ⟨a, b, rfl, _⟩ := h
    rfl
  obtain ⟨a, b, rfl, ha, hb, q⟩ := h
  have nd := sc_law_common.nd
  refine ⟨_, (pss_cons (ps_while PassesOwn.never (pt_cmpR op_ne (pv 1) pe_int (nomark _)) (pss_one (ps_par (i := 0) (j := 1) rfl nd rfl rfl (by decide) rfl rfl (pa_cons (pv 1) (pa_cons (pe_op op_mod (pv 0) (pv 1)) pa_nil)) (by rfl))))
      (pss_one (ps_ret (pv 0)))), ?_⟩
  refine while_by (fun σ H2 => H2 = H ∧ ∃ x y : Int, σ = [some (.int x), some (.int y)] ∧ 0 ≤ x ∧ 0 ≤ y ∧ Nat.gcd x.toNat y.toNat = Nat.gcd a.toNat b.toNat) (fun σ _ => match σ with | [_, some (.int y)] => y.toNat | _ => 0) ⟨rfl, a, b, rfl, ha, hb, rfl⟩ ?_ ?_
  · rintro σ H2 ⟨rfl, x, y, rfl, hx, hy, e⟩
    refine ⟨_, rfl, rfl, _, rfl, ?_⟩
    refine ite2 (fun c => ?_) (fun c => ?_)
    · have hy0 : y ≠ 0 := by
        intro z
        rw [z] at c
        simp at c
      have hy1 : 0 < y := by omega
      refine ⟨_, rfl, _, rfl, _, rfl, _, _, rfl, rfl, hy1, _, _, rfl, ?_⟩
      refine ⟨⟨rfl, y, x % y, rfl, hy, Int.emod_nonneg _ hy0, (gcd_step hx hy1).trans e⟩, ?_⟩
      have l := Int.emod_lt_of_pos x hy1
      have l0 := Int.emod_nonneg x hy0
      show (x % y).toNat < y.toNat
      omega
    · have hy0 : y = 0 := by
        by_cases z : y = 0
        · exact z
        · exact absurd (by simp [z]) c
      subst hy0
      refine ⟨_, rfl, ?_⟩
      have e3 : x.toNat.gcd (Int.toNat 0) = x.toNat := Nat.gcd_zero_right _
      have e4 : ((x.toNat : Nat) : Int) = x := by omega
      rw [← e, e3, e4] at q
      exact q
  · rintro σ H2 Q1 Q2 h ⟨x, hx, h1, k, hk, h2⟩
    exact ⟨x, hx, h1, k, hk, h _ _ h2⟩
theorem ok_law_low {f f1 : Addr} {fd fd1 : FuncData} (D : Dn K mg "_law_low" s_law_low ["top", "bottom"] f fd) (B : Blt mg) (D_law_common : Dn K mg "_law_common" s_law_common ["one", "other"] f1 fd1) : FnOk P w K mg base CX0 2 f fd ["top", "bottom"] (spLow K) := by
  have G_law_common : FnOk P w K mg base CX0 1 f1 fd1 ["one", "other"] spCommon := ok_law_common D_law_common B
  refine D.F.ok sc_law_low (fun vs H Q E h => ?_) (fun cdv A outer s H vs Q E hr h => ?_)
  · obtain ⟨a, b, rfl, _⟩ := h
    rfl
  obtain ⟨t, b, rfl, hb, hz, q⟩ := h
  have nd := sc_law_low.nd
  refine ⟨_, (pss_cons (ps_set (i := 2) nd rfl (.inl rfl) (pe_call G_law_common (hr.mono (by omega)) (by rfl) D_law_common.m D_law_common.F.kp D_law_common.b .nil pass0 (pa_cons (pe_callB call_abs (by rfl) B.abs (by decide +kernel) (pa_cons (pv 0) pa_nil)) (pa_cons (pv 1) pa_nil))))
      (pss_one (ps_ret (pe_tup (pa_cons (pe_op op_fdivW (pv 0) (pv 2)) (pa_cons (pe_op op_fdivW (pv 1) (pv 2)) pa_nil)))))), ?_⟩
  refine ⟨_, rfl, _, rfl, _, rfl, _, _, rfl, ?_, by omega, ?_⟩
  · split <;> omega
  have e1 : (if t < 0 then -t else t).toNat = t.natAbs := by split <;> omega
  have e2 : (b : Int).toNat = b := Int.toNat_natCast b
  rw [e1, e2]
  have hg0 : 0 < Nat.gcd t.natAbs b := Nat.gcd_pos_of_pos_right _ hb
  have hg1 : Nat.gcd t.natAbs b ≤ b := Nat.gcd_le_right _ hb
  have hg2 : ((Nat.gcd t.natAbs b : Nat) : Int).natAbs < 2 ^ 4000 := by
    rw [Int.natAbs_natCast]
    omega
  have dv : ∀ i : Int, CDivW i ((Nat.gcd t.natAbs b : Nat) : Int) := fun i => wide_div (b := 4000) (by omega) hg2 (by decide) (by decide)
  refine ⟨_, rfl, _, rfl, _, _, rfl, rfl, dv _, _, rfl, _, rfl, _, _, rfl, rfl, dv _, (by show 2 ≤ sizeLine; decide), fun p hp => ?_⟩
  exact q _ _ (same_upd hp) (td_rD hb upd_same)
theorem ok_law_times {f f1 f2 : Addr} {fd fd1 fd2 : FuncData} (D : Dn K mg "_law_times" s_law_times ["one", "other"] f fd) (B : Blt mg) (D_law_low : Dn K mg "_law_low" s_law_low ["top", "bottom"] f1 fd1) (D_law_common : Dn K mg "_law_common" s_law_common ["one", "other"] f2 fd2) : FnOk P w K mg base CX0 3 f fd ["one", "other"] (spTimes K) := by
  have G_law_low : FnOk P w K mg base CX0 2 f1 fd1 ["top", "bottom"] (spLow K) := ok_law_low D_law_low B D_law_common
  refine D.F.ok sc_law_times (fun vs H Q E h => ?_) (fun cdv A outer s H vs Q E hr h => ?_)
  · obtain ⟨x, y, p, q, rfl, _⟩ := h
    rfl
  obtain ⟨x, y, p, q, rfl, hx, hy, z1, z2, z3, z4, k⟩ := h
  have nd := sc_law_times.nd
  refine ⟨_, (pss_one (ps_ret (pe_call G_law_low (hr.mono (by omega)) (by rfl) D_law_low.m D_law_low.F.kp D_law_low.b .nil pass0 (pa_cons (pe_op op_mulW (pe_ix (k_ixT (K := K) rfl) (pv 0) pe_int (fun _ _ => rfl)) (pe_ix (k_ixT (K := K) rfl) (pv 1) pe_int (fun _ _ => rfl))) (pa_cons (pe_op op_mulW (pe_ix (k_ixT (K := K) rfl) (pv 0) pe_int (fun _ _ => rfl)) (pe_ix (k_ixT (K := K) rfl) (pv 1) pe_int (fun _ _ => rfl))) pa_nil))))), ?_⟩
  obtain ⟨a, rfl, ha⟩ := hx.rE
  obtain ⟨b, rfl, hb⟩ := hy.rE
  have i0 : atI [V.int p.num, .int (p.den : Int)] 0 = some (.int p.num) := at_of (j := 0) rfl rfl
  have i1 : atI [V.int p.num, .int (p.den : Int)] 1 = some (.int (p.den : Int)) := at_of (j := 1) rfl rfl
  have j0 : atI [V.int q.num, .int (q.den : Int)] 0 = some (.int q.num) := at_of (j := 0) rfl rfl
  have j1 : atI [V.int q.num, .int (q.den : Int)] 1 = some (.int (q.den : Int)) := at_of (j := 1) rfl rfl
  have hp0 : 0 < p.den := Nat.pos_of_ne_zero p.den_nz
  have hq0 : 0 < q.den := Nat.pos_of_ne_zero q.den_nz
  have c1 : CMulW p.num q.num := wide_mul z3 z4 (by decide) (by decide) (by decide)
  have c2 : CMulW (p.den : Int) (q.den : Int) := wide_mul (a := 2000) (b := 2000) (by rw [Int.natAbs_natCast]; exact z1) (by rw [Int.natAbs_natCast]; exact z2) (by decide) (by decide) (by decide)
  refine ⟨_, rfl, a, _, 0, _, rfl, rfl, ha, i0, _, rfl, b, _, 0, _, rfl, rfl, hb, j0, _, _, rfl, rfl, c1, _, rfl, a, _, 1, _, rfl, rfl, ha, i1, _, rfl, b, _, 1, _, rfl, rfl, hb, j1, _, _, rfl, rfl, c2, ?_⟩
  refine ⟨p.num * q.num, p.den * q.den, by rw [Int.natCast_mul]; rfl, Nat.mul_pos hp0 hq0, ?_, fun v H' s' hv => k v H' s' ?_⟩
  · rw [show (4000 : Nat) = 2000 + 2000 from rfl, Nat.pow_add]
    exact Nat.mul_lt_mul'' z1 z2
  · rw [← Rat.mkRat_mul_mkRat, rat_mk, rat_mk] at hv
    exact hv
end
end Tl
namespace Tl
open PySem PySem.Spec PyProof.Rows L2 RZ
theorem Frm.updN {b g p : Addr} {H H' : Hp} {o : HO} (f : Frm b g H H') (h : H p = none) : Frm b g H (upd H' p o) := fun a x e h1 h2 => by
  rw [upd_ne (ne_of_none e h)]
  exact f a x e h1 h2
theorem Bag.updN {b g p : Addr} {H : Hp} {o : HO} (B : Bag H b g) (h1 : p ≠ b) (h2 : p ≠ g) : Bag (upd H p o) b g := by
  obtain ⟨ne, ⟨s, c, al, h, r⟩, ⟨gs, h', r'⟩⟩ := B
  exact ⟨ne, ⟨s, c, al, by rw [upd_ne h1.symm]; exact h, r⟩, ⟨gs, by rw [upd_ne h2.symm]; exact h', r'⟩⟩
def nI (ps : List Nat) : List Int := ps.map fun (p : Nat) => (p : Int)
theorem nI_sum : ∀ ps : List Nat, (nI ps).sum = ((ps.sum : Nat) : Int)
  | [] => rfl
  | p :: r => by
    show ((p : Int)) + (nI r).sum = (((p + r.sum : Nat)) : Int)
    rw [nI_sum r]
    omega
/-- shares of a whole by small parts -/
def IsShares (m : Nat) (rs : List Rat) : Prop := ∃ ps : List Nat, ps.length = m ∧ 0 < ps.sum ∧ ps.sum ≤ 5 * m + 1 ∧ rs = ps.map fun (p : Nat) => mkRat (p : Int) ps.sum
theorem sum_le5 : ∀ ps : List Nat, (∀ p ∈ ps, p ≤ 4) → ps.sum ≤ 4 * ps.length
  | [], _ => Nat.le_refl _
  | p :: r, h => by
    have h1 := h p (List.mem_cons_self ..)
    have h2 := sum_le5 r fun x hx => h x (List.mem_cons_of_mem _ hx)
    show p + r.sum ≤ 4 * (r.length + 1)
    omega
theorem sum_bump : ∀ (ps : List Nat) (j : Nat) (v : Nat), ps[j]? = some v → (ps.set j (v + 1)).sum = ps.sum + 1
  | [], _, _, h => by simp at h
  | p :: r, 0, v, h => by
    have e : p = v := by simpa using h
    subst e
    show (p + 1) + r.sum = (p + r.sum) + 1
    omega
  | p :: r, j + 1, v, h => by
    have ih := sum_bump r j v (by simpa using h)
    show p + (r.set j (v + 1)).sum = (p + r.sum) + 1
    omega
def spShares (K : PySem.W.Frag) : Sp := fun vs H Q _ => ∃ (b g : Addr) (m : Nat) (l : Int), vs = [.ref b, .int (m : Int), .int l] ∧ Bag H b g ∧ 1 ≤ m ∧ m ≤ 12 ∧ 0 ≤ l ∧ l ≤ 1 ∧
  ∀ (r : Addr) (rs : List Rat) (us : List V) (H' : Hp), IsShares m rs → H' r = some (.lst us) → TdAll K H' us (rs.map rD) → H r = none → Bag H' b g → Frm b g H H' → Q (.ref r) H'
section
variable {P : Program} {w : World} {K : PySem.W.Frag} {mg : Str → Option Value} {base : Heap}
theorem ok_law_shares {f f1 f2 f3 : Addr} {fd fd1 fd2 fd3 : FuncData} (D : Dn K mg "_law_shares" s_law_shares ["bag", "many", "least"] f fd) (B : Blt mg) (D_law_low : Dn K mg "_law_low" s_law_low ["top", "bottom"] f1 fd1) (D_law_common : Dn K mg "_law_common" s_law_common ["one", "other"] f2 fd2)
    (D_law_pick : Dn K mg "_law_pick" s_law_pick ["bag", "many"] f3 fd3) : FnOk P w K mg base CX0 3 f fd ["bag", "many", "least"] (spShares K) := by
  have G_law_low : FnOk P w K mg base CX0 2 f1 fd1 ["top", "bottom"] (spLow K) := ok_law_low D_law_low B D_law_common
  have G_law_pick : FnOk P w K mg base CX0 1 f3 fd3 ["bag", "many"] spPick := ok_law_pick D_law_pick B
  refine D.F.ok sc_law_shares (fun vs H Q E h => ?_) (fun cdv A outer s H vs Q E hr h => ?_)
  · obtain ⟨b, g, m, l, rfl, _⟩ := h
    rfl
  obtain ⟨b, g, m, l, rfl, hB, hm1, hm2, hl0, hl1, q⟩ := h
  have nd := sc_law_shares.nd
  refine ⟨_, (pss_cons (ps_set (i := 3) nd rfl (.inr rfl) (pe_lc (own := [("k", 4)]) rfl nd (pi_range1 (by rfl) B.range (pa_cons (pv 1) pa_nil)) (blkOk_by (own := [("k", 4)]) (by kernel_rfl)) (fun _ _ _ _ _ => (pg_name (i := 4) nd rfl (.inl rfl))) (fun _ _ _ _ _ => pts_nil) (fun _ _ _ _ _ => (pe_op op_add (pv 2) (pe_call G_law_pick (hr.mono (by omega)) (by rfl) D_law_pick.m D_law_pick.F.kp D_law_pick.b .nil pass0 (pa_cons (pv 0) (pa_cons pe_int pa_nil)))))))
      (pss_cons (ps_augS (pv 3) (pe_call G_law_pick (hr.mono (by omega)) (by rfl) D_law_pick.m D_law_pick.F.kp D_law_pick.b .nil pass0 (pa_cons (pv 0) (pa_cons (pv 1) pa_nil))) (k_getL (K := K) rfl) pe_int ip_add set_list)
      (pss_one (ps_ret (pe_lc (own := [("part", 5)]) rfl nd (k_iL (K := K) rfl (pv 3)) (blkOk_by (own := [("part", 5)]) (by kernel_rfl)) (fun _ _ _ _ _ => (pg_name (i := 5) nd rfl (.inl rfl))) (fun _ _ _ _ _ => pts_nil) (fun _ _ _ _ _ => (pe_call G_law_low (hr.mono (by omega)) (by rfl) D_law_low.m D_law_low.F.kp D_law_low.b .nil pass0 (pa_cons (pv 5) (pa_cons (pe_callB (k_sum (K := K) rfl rfl) (by rfl) B.sum (by decide +kernel) (pa_cons (pv 3) pa_nil)) pa_nil))))))))), ?_⟩
  -- parts = [least + _law_pick(bag, 4) for k in range(many)]
  refine ⟨_, rfl, _, rfl, by omega, by omega, fun d hd => ?_⟩
  obtain ⟨db, dg⟩ := hB.neNew hd
  refine lc_range (lo := 0) (n := m) (fun i H3 => ∃ ps : List Nat, ps.length = i ∧ (∀ p ∈ ps, p ≤ 4) ∧ H3 d = some (.lst ((nI ps).map V.int)) ∧ Bag H3 b g ∧ Frm b g H H3) ⟨[], rfl, fun _ h => absurd h List.not_mem_nil, upd_same, hB.updN db dg, (Frm.refl b g H).updN hd⟩ ?_ ?_
  · rintro i H3 hi ⟨ps, hp1, hp2, h3, B3, F3⟩
    refine ⟨rfl, ?_⟩
    refine iteT (B := ∃ ps : List Nat, ps.length = i + 1 ∧ (∀ p ∈ ps, p ≤ 4) ∧ H3 d = some (.lst ((nI ps).map V.int)) ∧ Bag H3 b g ∧ Frm b g H H3) ?_
    refine ⟨_, rfl, _, rfl, b, g, 4, rfl, B3, by decide, by decide, fun r H4 r0 r1 B4 F4 => ⟨_, _, rfl, rfl, ?_⟩⟩
    have h4 := F4 d _ h3 db dg
    refine ⟨_, h4, by rw [List.length_map, nI, List.length_map]; exact small1000 (by omega), ps ++ [(l + r).toNat], by rw [List.length_append, hp1]; rfl, ?_, ?_, B4.updN db dg, (F3.trans F4).updN hd⟩
    · intro p hp
      rcases List.mem_append.mp hp with hp | hp
      · exact hp2 p hp
      · rw [List.mem_singleton.mp hp]
        omega
    · rw [upd_same, nI, nI, List.map_append, List.map_append]
      show some (HO.lst (_ ++ [V.int (l + r)])) = some (HO.lst (_ ++ [V.int (((l + r).toNat : Nat) : Int)]))
      rw [show (((l + r).toNat : Nat) : Int) = l + r by omega]
  rintro H3 ⟨ps, hp1, hp2, h3, B3, F3⟩
  -- parts[_law_pick(bag, many)] += 1
  refine ⟨_, rfl, _, rfl, _, rfl, b, g, (m : Int), rfl, B3, by omega, by omega, fun r H4 r0 r1 B4 F4 => ?_⟩
  have h4 := F4 d _ h3 db dg
  obtain ⟨j, ej⟩ : ∃ j : Nat, r = (j : Int) := ⟨r.toNat, by omega⟩
  have hj : j < ps.length := by omega
  have gj : ps[j]? = some ps[j] := List.getElem?_eq_getElem hj
  have gI : ((nI ps).map V.int)[j]? = some (.int ((ps[j] : Nat) : Int)) := by
    rw [List.getElem?_map, nI, List.getElem?_map, gj]
    rfl
  refine ⟨d, _, j, _, rfl, by rw [ej], SqL.of h4, gI, _, _, rfl, rfl, d, _, r, j, rfl, rfl, h4, ?_, ?_⟩
  · rw [List.length_map, nI, List.length_map]
    unfold ixN
    rw [if_pos r0, if_pos (by omega)]
    exact congrArg some (by omega)
  have h5 : (upd H4 d (.lst (((nI ps).map V.int).set j (.int (((ps[j] : Nat) : Int) + 1))))) d = some (.lst ((nI (ps.set j (ps[j] + 1))).map V.int)) := by
    rw [upd_same, nI, nI, List.map_set, List.map_set]
    rfl
  have B5 : Bag (upd H4 d (.lst (((nI ps).map V.int).set j (.int (((ps[j] : Nat) : Int) + 1))))) b g := B4.updN db dg
  have F5 : Frm b g H (upd H4 d (.lst (((nI ps).map V.int).set j (.int (((ps[j] : Nat) : Int) + 1))))) := (F3.trans F4).updN hd
  generalize upd H4 d (.lst (((nI ps).map V.int).set j (.int (((ps[j] : Nat) : Int) + 1)))) = H5 at h5 B5 F5
  have hsum := sum_bump ps j _ gj
  have hle := sum_le5 ps hp2
  have hlen : (ps.set j (ps[j] + 1)).length = m := by rw [List.length_set]; exact hp1
  generalize ps.set j (ps[j] + 1) = us at h5 hsum hlen
  -- return [_law_low(part, sum(parts)) for part in parts]
  have hs0 : 0 < us.sum := by omega
  have hs1 : us.sum ≤ 5 * m + 1 := by omega
  refine ⟨_, rfl, d, rfl, ⟨_, SqL.of h5⟩, fun e he => ?_⟩
  obtain ⟨eb, eg⟩ := B5.neNew he
  have heH : H e = none := by
    cases z : H e with
    | none => rfl
    | some o =>
      rw [F5 e o z eb eg] at he
      cases he
  have hl5 : ((nI us).map V.int).length = m := by rw [List.length_map, nI, List.length_map, hlen]
  refine lc_list (K := K) (a := d) (xs := (nI us).map V.int) (fun i H6 => ∃ ws : List V, H6 e = some (.lst ws) ∧ TdAll K H6 ws ((us.take i).map fun (p : Nat) => rD (mkRat (p : Int) us.sum)) ∧ Same H5 H6) ⟨[], upd_same, .nil, same_upd he⟩ (fun i H6 _ h => by obtain ⟨_, _, _, s6⟩ := h; exact s6.seq (SqL.of h5)) ?_ ?_
  · rintro i y H6 hi ⟨ws, h6, t6, s6⟩
    obtain ⟨z, hz, rfl⟩ := int_at hi
    obtain ⟨p, hp, rfl⟩ : ∃ p : Nat, us[i]? = some p ∧ z = (p : Int) := by
      rw [nI, List.getElem?_map] at hz
      cases q2 : us[i]? with
      | none =>
        rw [q2] at hz
        cases hz
      | some p =>
        rw [q2] at hz
        exact ⟨p, rfl, (Option.some.inj hz).symm⟩
    have hi2 : i < us.length := (List.getElem?_eq_some_iff.mp hp).1
    refine ⟨rfl, ?_⟩
    refine iteT (B := ∃ ws : List V, H6 e = some (.lst ws) ∧ TdAll K H6 ws ((us.take (i + 1)).map fun (p : Nat) => rD (mkRat (p : Int) us.sum)) ∧ Same H5 H6) ?_
    refine ⟨_, rfl, _, rfl, d, nI us, rfl, SqL.of (s6 _ _ h5), (p : Int), us.sum, by rw [nI_sum]; rfl, hs0, ?_, fun v H7 s7 hv => ?_⟩
    · exact Nat.lt_of_le_of_lt (Nat.le_trans hs1 (show 5 * m + 1 ≤ 2 ^ 10 by omega)) (Nat.pow_lt_pow_right (by decide) (by decide))
    · have h7 := s7 _ _ h6
      have kt7 : KT K H7 (upd H7 e (.lst (ws ++ [v]))) := KT.updL h7
      have kt : KT K H6 (upd H7 e (.lst (ws ++ [v]))) := (Same.kt s7).trans kt7
      refine ⟨ws, h7, ?_, ws ++ [v], upd_same, ?_, fun a o q => ?_⟩
      · rw [t6.len, List.length_map, List.length_take]
        exact small1000 (by omega)
      · rw [List.take_add_one, hp, List.map_append]
        exact (t6.keep kt).app (.cons (hv.keep kt7) .nil)
      · rw [upd_ne (ne_of_none q he)]
        exact s7 _ _ (s6 _ _ q)
  · rintro H6 ⟨ws, h6, t6, s6⟩
    rw [hl5, ← hlen, List.take_length] at t6
    have t7 : TdAll K H6 ws ((us.map fun (p : Nat) => mkRat (p : Int) us.sum).map rD) := by
      rw [List.map_map]
      exact t6
    exact q e _ ws H6 ⟨us, hlen, hs0, hs1, rfl⟩ h6 t7 heH (B5.keep s6) (F5.trans (Frm.of s6))
end
end Tl
/-! trees -/
namespace Tl
open PySem PySem.Spec PyProof.Rows L2 RZ
/-- nodes of at most n rounds: questions of answers (word, weights, node) -/
def Nd : Nat → Type
  | 0 => Unit
  | n + 1 => List (List (List Int × List Rat × Nd n))
abbrev An (n : Nat) : Type := List Int × List Rat × Nd n
abbrev Qn (n : Nat) : Type := List (An n)
def wdD (w : List Int) : PyData := .tuple (w.map .int)
def wsD (ws : List Rat) : PyData := .tuple (ws.map rD)
def ndD : (n : Nat) → Nd n → PyData
  | 0, _ => .tuple []
  | n + 1, qs => .tuple ((show List (Qn n) from qs).map fun q => .tuple (q.map fun a => .tuple [wdD a.1, wsD a.2.1, ndD n a.2.2]))
def anD (n : Nat) (a : An n) : PyData := .tuple [wdD a.1, wsD a.2.1, ndD n a.2.2]
def qnD (n : Nat) (q : Qn n) : PyData := .tuple (q.map (anD n))
theorem ndD_succ (n : Nat) (qs : List (Qn n)) : ndD (n + 1) qs = .tuple (qs.map (qnD n)) := rfl
/-- how many answers -/
def cnt : (n : Nat) → Nd n → Nat
  | 0, _ => 0
  | n + 1, qs => ((show List (Qn n) from qs).map fun q => (q.map fun a => 1 + cnt n a.2.2).sum).sum
def cntQ (n : Nat) (q : Qn n) : Nat := (q.map fun a => 1 + cnt n a.2.2).sum
theorem cnt_succ (n : Nat) (qs : List (Qn n)) : cnt (n + 1) qs = (qs.map (cntQ n)).sum := rfl
def emptyNd : (n : Nat) → Nd n
  | 0 => ()
  | _ + 1 => ([] : List _)
theorem ndD_empty (n : Nat) : ndD n (emptyNd n) = .tuple [] := by cases n <;> rfl
theorem cnt_empty (n : Nat) : cnt n (emptyNd n) = 0 := by cases n <;> rfl
/-! sums of fractions from the left -/
def fsum (l : List Rat) : Rat := l.foldl (· + ·) 0
theorem foldl_add (l : List Rat) : ∀ a : Rat, l.foldl (· + ·) a = a + fsum l := by
  induction l with
  | nil =>
    intro a
    exact (Rat.add_zero a).symm
  | cons x r ih =>
    intro a
    unfold fsum
    rw [List.foldl_cons, List.foldl_cons, ih, ih (0 + x), Rat.zero_add, Rat.add_assoc]
theorem fsum_nil : fsum [] = 0 := rfl
theorem fsum_cons (x : Rat) (r : List Rat) : fsum (x :: r) = x + fsum r := by
  unfold fsum
  rw [List.foldl_cons, foldl_add, Rat.zero_add]
  rfl
theorem fsum_snoc (l : List Rat) (x : Rat) : fsum (l ++ [x]) = fsum l + x := by
  unfold fsum
  rw [List.foldl_append]
  rfl
theorem fsum_mul (a : Rat) : ∀ l : List Rat, fsum (l.map fun x => a * x) = a * fsum l
  | [] => by
    rw [List.map_nil, fsum_nil, Rat.mul_zero]
  | x :: r => by
    rw [List.map_cons, fsum_cons, fsum_cons, fsum_mul a r, Rat.mul_add]
theorem mk_add (p q : Int) (s : Nat) (hs : 0 < s) : mkRat p s + mkRat q s = mkRat (p + q) s := by
  have h : s ≠ 0 := by omega
  rw [Rat.mkRat_add_mkRat _ _ h h, ← Int.add_mul, Rat.mkRat_mul_right h]
theorem fsum_mk (s : Nat) (hs : 0 < s) : ∀ ps : List Nat, fsum (ps.map fun (p : Nat) => mkRat (p : Int) s) = mkRat ((ps.sum : Nat) : Int) s
  | [] => by
    show (0 : Rat) = mkRat 0 s
    rw [Rat.zero_mkRat]
  | p :: r => by
    rw [List.map_cons, fsum_cons, fsum_mk s hs r, mk_add _ _ _ hs]
    congr 1
theorem mk_same (s : Nat) (hs : 0 < s) : mkRat (s : Int) s = 1 := by
  have h : s ≠ 0 := by omega
  have e := Rat.mkRat_mul_right (n := 1) (d := 1) h
  rw [Int.one_mul, Nat.one_mul] at e
  rw [e]
  rfl
theorem mk_nonneg (p s : Nat) (hs : 0 < s) : 0 ≤ mkRat (p : Int) s := by
  refine Rat.num_nonneg.mp ?_
  rw [(mkRat_parts (p : Int) s hs).1]
  exact Int.ediv_nonneg (by omega) (by omega)
theorem mk_le_one (p s : Nat) (hs : 0 < s) (h : p ≤ s) : mkRat (p : Int) s ≤ 1 := by
  refine (Rat.le_iff _ _).mpr ?_
  obtain ⟨e1, e2⟩ := mkRat_parts (p : Int) s hs
  rw [e2, e1]
  show _ / _ * 1 ≤ 1 * (_ / _)
  rw [Int.mul_one, Int.one_mul]
  exact Int.ediv_le_ediv (by have := Nat.gcd_pos_of_pos_right (p : Int).natAbs hs; omega) (by omega)
/-- all numbers up to 61 divide it -/
def LL : Nat := 591133442051411133755680800
theorem ll_dvd : ∀ s : Nat, 0 < s → s ≤ 61 → s ∣ LL := fun s h1 h2 => by
  have h : ∀ s : Fin 62, 0 < s.val → s.val ∣ LL := by decide +kernel
  exact h ⟨s, by omega⟩ h1
theorem ll_pos (e : Nat) : 0 < LL ^ e := Nat.pow_pos (by decide)
theorem ll_mono {e f : Nat} (h : e ≤ f) : LL ^ e ∣ LL ^ f := Nat.pow_dvd_pow LL h
theorem ll_le {e : Nat} : LL ^ e ≤ 2 ^ (89 * e) := by
  rw [Nat.pow_mul]
  exact Nat.pow_le_pow_left (by decide) e
theorem ll_small {e k : Nat} (h : 89 * e ≤ k) : LL ^ e ≤ 2 ^ k := Nat.le_trans ll_le (Nat.pow_le_pow_right (by decide) h)
/-- from NOUGHT to ONE, the bottom divides the e-th power -/
def Ch (e : Nat) (r : Rat) : Prop := 0 ≤ r ∧ r ≤ 1 ∧ r.den ∣ LL ^ e
theorem Ch.den {e : Nat} {r : Rat} (h : Ch e r) : r.den ≤ LL ^ e := Nat.le_of_dvd (ll_pos e) h.2.2
theorem Ch.num {e : Nat} {r : Rat} (h : Ch e r) : r.num.natAbs ≤ LL ^ e := by
  have d3 := h.den
  obtain ⟨h0, h1, h2⟩ := h
  have a := (Rat.le_iff r 1).mp h1
  have b := Rat.num_nonneg.mpr h0
  have c : (1 : Rat).num = 1 := rfl
  have d : (1 : Rat).den = 1 := rfl
  rw [c, d] at a
  omega
theorem Ch.mono {e f : Nat} {r : Rat} (h : Ch e r) (l : e ≤ f) : Ch f r := ⟨h.1, h.2.1, Nat.dvd_trans h.2.2 (ll_mono l)⟩
theorem mk_den_dvd {t : Int} {b : Nat} (h : 0 < b) : (mkRat t b).den ∣ b := by
  rw [Rat.den_mkRat, if_neg (by omega)]
  exact Nat.div_dvd_of_dvd (Nat.gcd_dvd_left _ _)
theorem mul_den_dvd (a b : Rat) : (a * b).den ∣ a.den * b.den := by
  have e : a * b = mkRat (a.num * b.num) (a.den * b.den) := by
    rw [← Rat.mkRat_mul_mkRat, rat_mk, rat_mk]
  rw [e]
  exact mk_den_dvd (Nat.mul_pos (Nat.pos_of_ne_zero a.den_nz) (Nat.pos_of_ne_zero b.den_nz))
theorem Ch.mul {e p s : Nat} {a : Rat} (h : Ch e a) (hs : 0 < s) (h21 : s ≤ 61) (hp : p ≤ s) : Ch (e + 1) (a * mkRat (p : Int) s) := by
  obtain ⟨h0, h1, h2⟩ := h
  have m0 := mk_nonneg p s hs
  have m1 := mk_le_one p s hs hp
  refine ⟨Rat.mul_nonneg h0 m0, ?_, Nat.dvd_trans (mul_den_dvd _ _) ?_⟩
  · have z := Rat.mul_le_mul_of_nonneg_left m1 h0
    rw [Rat.mul_one] at z
    exact Rat.le_trans z h1
  · rw [Nat.pow_succ]
    exact Nat.mul_dvd_mul h2 (Nat.dvd_trans (mk_den_dvd hs) (ll_dvd s hs h21))
theorem ch_zero {e : Nat} : Ch e 0 := ⟨by decide, by decide, Nat.one_dvd _⟩
theorem ch_one {e : Nat} : Ch e 1 := ⟨by decide, by decide, Nat.one_dvd _⟩
theorem ch_share {p s : Nat} (hs : 0 < s) (h21 : s ≤ 61) (hp : p ≤ s) : Ch 1 (mkRat (p : Int) s) := by
  have z := ch_one.mul (e := 0) hs h21 hp
  rw [Rat.one_mul] at z
  exact z
/-! ### right trees -/
def col {n : Nat} (q : Qn n) (j : Nat) : List Rat := q.map fun a => a.2.1.getD j 0
def WordOk (w : List Int) : Prop := w.length ≤ 8 ∧ ∀ x ∈ w, 0 ≤ x ∧ x ≤ 99
/-- one question right but for what is behind -/
structure QnOk (W : Nat) {n : Nat} (ahead : List Rat) (q : Qn n) : Prop where
  one : 1 ≤ q.length
  most : q.length ≤ 12
  words : ∀ a ∈ q, WordOk a.1
  asc : ∀ i (x y : An n), q[i]? = some x → q[i + 1]? = some y → HT.lexLt x.1 y.1 = true
  wide : ∀ a ∈ q, a.2.1.length = W
  chs : ∀ a ∈ q, ∀ r ∈ a.2.1, Ch 6 r
  whole : ∀ j, j < W → fsum (col q j) = ahead.getD j 0
def NdOk (W : Nat) : (n : Nat) → List Rat → Nd n → Prop
  | 0, _, _ => True
  | n + 1, ahead, qs => (show List (Qn n) from qs).length ≤ 5 ∧ ∀ q ∈ (show List (Qn n) from qs), QnOk W ahead q ∧ ∀ a ∈ q, NdOk W n a.2.1 a.2.2
theorem ndOk_empty (W n : Nat) (ws : List Rat) : NdOk W n ws (emptyNd n) := by
  cases n with
  | zero => trivial
  | succ n => exact ⟨Nat.zero_le _, fun q h => absurd h List.not_mem_nil⟩
end Tl
namespace Tl
open PySem PySem.Spec PyProof.Rows L2 RZ
/-- all but the lists at b, g, l stays -/
def Frl (b g l : Addr) (H H' : Hp) : Prop := ∀ a o, H a = some o → a ≠ b → a ≠ g → a ≠ l → H' a = some o
theorem Frl.refl (b g l : Addr) (H : Hp) : Frl b g l H H := fun _ _ h _ _ _ => h
theorem Frl.trans {b g l : Addr} {H1 H2 H3 : Hp} (x : Frl b g l H1 H2) (y : Frl b g l H2 H3) : Frl b g l H1 H3 := fun a o h h1 h2 h3 => y a o (x a o h h1 h2 h3) h1 h2 h3
theorem Frl.of {b g l : Addr} {H H' : Hp} (h : Same H H') : Frl b g l H H' := fun a o q _ _ _ => h a o q
theorem Frl.ofF {b g l : Addr} {H H' : Hp} (h : Frm b g H H') : Frl b g l H H' := fun a o q h1 h2 _ => h a o q h1 h2
theorem Frl.updL {b g l : Addr} {H : Hp} {o : HO} : Frl b g l H (upd H l o) := fun a x h _ _ h3 => by rw [upd_ne h3]; exact h
theorem Frl.updN {b g l p : Addr} {H H' : Hp} {o : HO} (f : Frl b g l H H') (h : H p = none) : Frl b g l H (upd H' p o) := fun a x e h1 h2 h3 => by
  rw [upd_ne (ne_of_none e h)]
  exact f a x e h1 h2 h3
/-- the bag and the list that tells how many answers are left -/
structure BagL (H : Hp) (b g l : Addr) (L : Int) : Prop where
  B : Bag H b g
  hl : H l = some (.lst [.int L])
  lb : l ≠ b
  lg : l ≠ g
theorem BagL.kt {K : PySem.W.Frag} {b g l : Addr} {L : Int} {H H' : Hp} (B : BagL H b g l L) (f : Frl b g l H H') : KT K H H' := fun a xs q => by
  have ne : ∀ {o : HO}, H a = some o → (∀ xs, o ≠ .lst xs) → a ≠ b ∧ a ≠ g ∧ a ≠ l := fun {o} e z => by
    obtain ⟨h1, h2⟩ := B.B.other e z
    exact ⟨h1, h2, fun y => by rw [y, B.hl] at e; exact z _ (Option.some.inj e).symm⟩
  rcases q with (q | ⟨o, q⟩) | q
  · obtain ⟨h1, h2, h3⟩ := ne q (fun xs z => by cases z)
    exact .inl (.inl (f _ _ q h1 h2 h3))
  · obtain ⟨h1, h2, h3⟩ := ne q (fun xs z => by cases z)
    exact .inl (.inr ⟨o, f _ _ q h1 h2 h3⟩)
  · exact .inr q
theorem BagL.keep {b g l : Addr} {L : Int} {H H' : Hp} (B : BagL H b g l L) (s : Same H H') : BagL H' b g l L := ⟨B.B.keep s, s _ _ B.hl, B.lb, B.lg⟩
theorem BagL.neNew {b g l p : Addr} {L : Int} {H : Hp} (B : BagL H b g l L) (h : H p = none) : p ≠ b ∧ p ≠ g ∧ p ≠ l := by
  obtain ⟨h1, h2⟩ := B.B.neNew h
  exact ⟨h1, h2, fun e => by rw [e, B.hl] at h; cases h⟩
theorem BagL.bag {b g l : Addr} {L : Int} {H H' : Hp} (B : BagL H b g l L) (B' : Bag H' b g) (f : Frm b g H H') : BagL H' b g l L := ⟨B', f _ _ B.hl B.lb B.lg, B.lb, B.lg⟩
theorem BagL.updN {b g l p : Addr} {L : Int} {H : Hp} {o : HO} (B : BagL H b g l L) (h1 : p ≠ b) (h2 : p ≠ g) (h3 : p ≠ l) : BagL (upd H p o) b g l L :=
  ⟨B.B.updN h1 h2, by rw [upd_ne h3.symm]; exact B.hl, B.lb, B.lg⟩
theorem BagL.updL {b g l : Addr} {L M : Int} {H : Hp} (B : BagL H b g l L) : BagL (upd H l (.lst [.int M])) b g l M :=
  ⟨B.B.updN B.lb B.lg, upd_same, B.lb, B.lg⟩
theorem Frl.none {b g l p : Addr} {H H' : Hp} (f : Frl b g l H H') (h : H' p = Option.none) (h1 : p ≠ b) (h2 : p ≠ g) (h3 : p ≠ l) : H p = Option.none := by
  cases e : H p with
  | none => rfl
  | some o =>
    rw [f p o e h1 h2 h3] at h
    cases h
def spSome : Sp := fun vs H Q _ => ∃ (b g t : Addr) (xs : List V), vs = [.ref b, .ref t] ∧ Bag H b g ∧ H t = some (.lst xs) ∧ t ≠ b ∧ t ≠ g ∧ 0 < xs.length ∧ xs.length ≤ 1000 ∧
  ∀ (i : Nat) (x : V) (H' : Hp), xs[i]? = some x → Bag H' b g → Frm b g H H' → Q x H'
section
variable {P : Program} {w : World} {K : PySem.W.Frag} {mg : Str → Option Value} {base : Heap}
theorem ok_law_some {f f3 : Addr} {fd fd3 : FuncData} (D : Dn K mg "_law_some" s_law_some ["bag", "things"] f fd) (B : Blt mg) (D_law_pick : Dn K mg "_law_pick" s_law_pick ["bag", "many"] f3 fd3) : FnOk P w K mg base CX0 2 f fd ["bag", "things"] spSome := by
  have G_law_pick : FnOk P w K mg base CX0 1 f3 fd3 ["bag", "many"] spPick := ok_law_pick D_law_pick B
  refine D.F.ok sc_law_some (fun vs H Q E h => ?_) (fun cdv A outer s H vs Q E hr h => ?_)
  · obtain ⟨b, g, t, xs, rfl, _⟩ := h
    rfl
  obtain ⟨b, g, t, xs, rfl, hB, ht, tb, tg, h1, h2, q⟩ := h
  have nd := sc_law_some.nd
  refine ⟨_, (pss_one (ps_ret (pe_ix (k_ixL (K := K) rfl) (pv 1) (pe_call G_law_pick (hr.mono (by omega)) (by rfl) D_law_pick.m D_law_pick.F.kp D_law_pick.b .nil pass0 (pa_cons (pv 0) (pa_cons (pe_callB (k_len (K := K) rfl) (by rfl) B.len PySem.boot_len (pa_cons (pv 1) pa_nil)) pa_nil))) (fun _ _ => rfl)))), ?_⟩
  refine ⟨_, rfl, _, rfl, _, rfl, t, _, rfl, .inl (SqL.of ht), b, g, _, rfl, hB, by omega, by omega, fun r H' r0 r1 B' F' => ?_⟩
  obtain ⟨j, ej⟩ : ∃ j : Nat, r = (j : Int) := ⟨r.toNat, by omega⟩
  have hj : j < xs.length := by omega
  have gj : xs[j]? = some xs[j] := List.getElem?_eq_getElem hj
  exact ⟨t, xs, r, xs[j], rfl, rfl, SqL.of (F' _ _ ht tb tg), at_of (j := j) ej gj, q j _ H' gj B' F'⟩
end
/-! ### questions and nodes that the law draws -/
/-- sharper weights -/
def Sharp {n : Nat} (q : Qn n) : Prop := ∀ a ∈ q, ∀ r ∈ a.2.1, Ch 3 r
def QnG (W : Nat) {n : Nat} (ahead : List Rat) (q : Qn n) : Prop := QnOk W ahead q ∧ Sharp q
def NdG (W : Nat) : (n : Nat) → List Rat → Nd n → Prop
  | 0, _, _ => True
  | n + 1, ahead, qs => (show List (Qn n) from qs).length ≤ 5 ∧ ∀ q ∈ (show List (Qn n) from qs), QnG W ahead q ∧ ∀ a ∈ q, NdG W n a.2.1 a.2.2
theorem ndG_empty (W n : Nat) (ws : List Rat) : NdG W n ws (emptyNd n) := by
  cases n with
  | zero => trivial
  | succ n => exact ⟨Nat.zero_le _, fun q h => absurd h List.not_mem_nil⟩
theorem NdG.ok : ∀ {W n : Nat} {ahead : List Rat} {t : Nd n}, NdG W n ahead t → NdOk W n ahead t
  | _, 0, _, _, _ => trivial
  | _, _ + 1, _, _, h => ⟨h.1, fun q hq => ⟨(h.2 q hq).1.1, fun a ha => NdG.ok ((h.2 q hq).2 a ha)⟩⟩
def Few {n : Nat} (q : Qn n) : Prop := q.length ≤ 3 ∧ Sharp q
/-- right nodes of questions of at most three answers -/
def NdF (W : Nat) : (n : Nat) → List Rat → Nd n → Prop
  | 0, _, _ => True
  | n + 1, ahead, qs => (show List (Qn n) from qs).length ≤ 5 ∧ ∀ q ∈ (show List (Qn n) from qs), (QnOk W ahead q ∧ Few q) ∧ ∀ a ∈ q, NdF W n a.2.1 a.2.2
theorem ndF_empty (W n : Nat) (ws : List Rat) : NdF W n ws (emptyNd n) := by
  cases n with
  | zero => trivial
  | succ n => exact ⟨Nat.zero_le _, fun q h => absurd h List.not_mem_nil⟩
theorem NdF.ok : ∀ {W n : Nat} {ahead : List Rat} {t : Nd n}, NdF W n ahead t → NdOk W n ahead t
  | _, 0, _, _, _ => trivial
  | _, _ + 1, _, _, h => ⟨h.1, fun q hq => ⟨(h.2 q hq).1.1, fun a ha => NdF.ok ((h.2 q hq).2 a ha)⟩⟩
theorem NdF.g : ∀ {W n : Nat} {ahead : List Rat} {t : Nd n}, NdF W n ahead t → NdG W n ahead t
  | _, 0, _, _, _ => trivial
  | _, _ + 1, _, _, h => ⟨h.1, fun q hq => ⟨⟨(h.2 q hq).1.1, (h.2 q hq).1.2.2⟩, fun a ha => NdF.g ((h.2 q hq).2 a ha)⟩⟩
def lowL (n : Nat) : Int := -(3 * (n : Int) + 2)
def spQ (K : PySem.W.Frag) : Nat → Sp
  | 0 => fun _ _ _ _ => False
  | n + 1 => fun vs H Q _ => ∃ (b g l : Addr) (W e : Nat) (av : V) (ahead : List Rat) (L : Int), vs = [.ref b, .int (W : Int), av, .int ((n + 1 : Nat) : Int), .ref l] ∧ BagL H b g l L ∧ Td K H av (wsD ahead) ∧
      ahead.length = W ∧ (∀ r ∈ ahead, Ch e r) ∧ e + (n + 1) ≤ 3 ∧ 1 ≤ W ∧ W ≤ 5 ∧
      ∀ (v : V) (q : Qn n) (L' : Int) (H' : Hp), Td K H' v (qnD n q) → (QnOk W ahead q ∧ Few q) → (∀ a ∈ q, NdF W n a.2.1 a.2.2) → ((cntQ n q : Nat) : Int) + L' = L → (L - 3 ≤ L' ∨ lowL n ≤ L') → BagL H' b g l L' → Frl b g l H H' → Q v H'
def spN (K : PySem.W.Frag) (n : Nat) : Sp := fun vs H Q _ => ∃ (b g l : Addr) (W e : Nat) (av : V) (ahead : List Rat) (L : Int), vs = [.ref b, .int (W : Int), av, .int (n : Int), .ref l] ∧ BagL H b g l L ∧ Td K H av (wsD ahead) ∧
      ahead.length = W ∧ (∀ r ∈ ahead, Ch e r) ∧ e + n ≤ 3 ∧ 1 ≤ W ∧ W ≤ 5 ∧
      ∀ (v : V) (t : Nd n) (L' : Int) (H' : Hp), Td K H' v (ndD n t) → NdF W n ahead t → ((cnt n t : Nat) : Int) + L' = L → (L ≤ L' ∨ lowL n ≤ L') → BagL H' b g l L' → Frl b g l H H' → Q v H'
/-- lists of fractions, told by their places, away from Z -/
def RowsAt (K : PySem.W.Frag) (b g l : Addr) (Z : Addr → Prop) (H : Hp) (R : Addr) (ds : List (List Rat)) : Prop := R ≠ b ∧ R ≠ g ∧ R ≠ l ∧ ¬ Z R ∧ ∃ rs : List Addr, H R = some (.lst (rs.map V.ref)) ∧ rs.length = ds.length ∧
  ∀ (i : Nat) (r : Addr) (d : List Rat), rs[i]? = some r → ds[i]? = some d → (r ≠ R ∧ ¬ Z r) ∧ r ≠ b ∧ r ≠ g ∧ r ≠ l ∧ ∃ us, H r = some (.lst us) ∧ TdAll K H us (d.map rD)
theorem RowsAt.keep {K : PySem.W.Frag} {b g l R : Addr} {Z : Addr → Prop} {H H' : Hp} {ds : List (List Rat)} (h : RowsAt K b g l Z H R ds) (k : KT K H H') (f : Frl b g l H H') : RowsAt K b g l Z H' R ds := by
  obtain ⟨n1, n2, n3, n4, rs, h1, h2, h3⟩ := h
  refine ⟨n1, n2, n3, n4, rs, f _ _ h1 n1 n2 n3, h2, fun i r d e1 e2 => ?_⟩
  obtain ⟨m0, m1, m2, m3, us, u1, u2⟩ := h3 i r d e1 e2
  exact ⟨m0, m1, m2, m3, us, f _ _ u1 m1 m2 m3, u2.keep k⟩
theorem RowsAt.avoid {K : PySem.W.Frag} {b g l R φ : Addr} {Z : Addr → Prop} {H : Hp} {ds : List (List Rat)} (h : RowsAt K b g l Z H R ds) (n : H φ = none) : RowsAt K b g l (fun x => x = φ) H R ds := by
  obtain ⟨n1, n2, n3, _, rs, h1, h2, h3⟩ := h
  refine ⟨n1, n2, n3, ne_of_none h1 n, rs, h1, h2, fun i r d e1 e2 => ?_⟩
  obtain ⟨m0, m1, m2, m3, us, u1, u2⟩ := h3 i r d e1 e2
  exact ⟨⟨m0.1, ne_of_none u1 n⟩, m1, m2, m3, us, u1, u2⟩
end Tl
namespace Tl
open PySem PySem.Spec PyProof.Rows L2 RZ
def cntB (n : Nat) (q : Qn n) : Nat := (q.map fun a => cnt n a.2.2).sum
theorem cntQ_eq (n : Nat) : ∀ q : Qn n, cntQ n q = q.length + cntB n q
  | [] => rfl
  | a :: r => by
    have ih := cntQ_eq n r
    show (1 + cnt n a.2.2) + cntQ n r = (r.length + 1) + (cnt n a.2.2 + cntB n r)
    omega
theorem cntB_snoc (n : Nat) (q : Qn n) (a : An n) : cntB n (q ++ [a]) = cntB n q + cnt n a.2.2 := by
  unfold cntB
  rw [List.map_append, List.sum_append]
  rfl
/-- the weights of the i-th answer -/
def wk (W : Nat) (ahead : List Rat) (ds : List (List Rat)) (i : Nat) : List Rat := (List.range W).map fun j => ahead.getD j 0 * (ds.getD j []).getD i 0
/-- a drawn answer in its place -/
structure AnIs (W n : Nat) (ahead : List Rat) (ds : List (List Rat)) (i : Nat) (a : An n) : Prop where
  w : ∃ r : List Int, a.1 = 11 * (i : Int) :: r ∧ r.length ≤ 7 ∧ ∀ x ∈ r, 0 ≤ x ∧ x ≤ 99
  ws : a.2.1 = wk W ahead ds i
  ok : NdF W n a.2.1 a.2.2
theorem getD_of {α : Type} {l : List α} {i : Nat} {x d : α} (h : l[i]? = some x) : l.getD i d = x := by
  rw [List.getD_eq_getElem?_getD, h]
  rfl
theorem wk_at {W : Nat} {ahead : List Rat} {ds : List (List Rat)} {i j : Nat} (hj : j < W) : (wk W ahead ds i).getD j 0 = ahead.getD j 0 * (ds.getD j []).getD i 0 := by
  refine getD_of ?_
  unfold wk
  rw [List.getElem?_map, List.getElem?_range hj]
  rfl
theorem mem_getD0 {l : List Rat} {P : Rat → Prop} (h : ∀ r ∈ l, P r) {j : Nat} (hj : j < l.length) : P (l.getD j 0) := by
  rw [getD_of (List.getElem?_eq_getElem hj)]
  exact h _ (List.getElem_mem hj)
theorem share_at {m i : Nat} {rs : List Rat} (h : IsShares m rs) (hi : i < m) : ∃ p s : Nat, 0 < s ∧ s ≤ 5 * m + 1 ∧ p ≤ s ∧ rs.getD i 0 = mkRat (p : Int) s := by
  obtain ⟨ps, h1, h2, h3, rfl⟩ := h
  have hi2 : i < ps.length := by omega
  refine ⟨ps[i], ps.sum, h2, h3, ?_, getD_of (by rw [List.getElem?_map, List.getElem?_eq_getElem hi2]; rfl)⟩
  have : ∀ (l : List Nat) (x : Nat), x ∈ l → x ≤ l.sum := fun l => by
    induction l with
    | nil =>
      intro x h
      exact absurd h List.not_mem_nil
    | cons y r ih =>
      intro x h
      rcases List.mem_cons.mp h with rfl | h
      · show x ≤ x + r.sum
        omega
      · have := ih x h
        show x ≤ y + r.sum
        omega
  exact this ps _ (List.getElem_mem hi2)
theorem shares_col {m : Nat} {rs : List Rat} (h : IsShares m rs) (a : Rat) : fsum (rs.map fun x => a * x) = a := by
  obtain ⟨ps, h1, h2, h3, rfl⟩ := h
  rw [fsum_mul, fsum_mk _ h2, mk_same _ h2, Rat.mul_one]
/-- a drawn question is right -/
theorem drawn_ok {W n m e : Nat} {ahead : List Rat} {ds : List (List Rat)} {q : Qn n} (hm1 : 1 ≤ m) (hm : m ≤ 3) (hq : q.length = m) (hd : ds.length = W) (ha : ahead.length = W) (hS : ∀ d ∈ ds, IsShares m d) (hA : ∀ r ∈ ahead, Ch e r) (he : e + 1 ≤ 6)
    (h : ∀ i a, q[i]? = some a → AnIs W n ahead ds i a) : QnOk W ahead q ∧ (∀ a ∈ q, ∀ r ∈ a.2.1, Ch (e + 1) r) := by
  have dj : ∀ j, j < W → IsShares m (ds.getD j []) := fun j hj => by
    have hj2 : j < ds.length := by omega
    rw [getD_of (List.getElem?_eq_getElem hj2)]
    exact hS _ (List.getElem_mem hj2)
  have aj : ∀ j, j < W → Ch e (ahead.getD j 0) := fun j hj => mem_getD0 hA (by omega)
  have chw : ∀ a ∈ q, ∀ r ∈ a.2.1, Ch (e + 1) r := by
    intro a hm' r hr
    obtain ⟨i, hi, rfl⟩ := List.getElem_of_mem hm'
    have A := h i _ (List.getElem?_eq_getElem hi)
    rw [A.ws] at hr
    unfold wk at hr
    obtain ⟨j, hj, rfl⟩ := List.mem_map.mp hr
    have hj := List.mem_range.mp hj
    obtain ⟨p, s, s0, s1, ps, e1⟩ := share_at (dj j hj) (show i < m by omega)
    rw [e1]
    exact (aj j hj).mul s0 (by omega) ps
  have colj : ∀ j, j < W → col q j = (ds.getD j []).map fun x => ahead.getD j 0 * x := by
    intro j hj
    have lj : (ds.getD j []).length = m := by
      obtain ⟨ps, h1, _, _, e1⟩ := dj j hj
      rw [e1, List.length_map, h1]
    refine List.ext_getElem? fun i => ?_
    unfold col
    rw [List.getElem?_map, List.getElem?_map]
    by_cases hi : i < m
    · have g1 : q[i]? = some q[i] := List.getElem?_eq_getElem (by omega)
      have g2 : (ds.getD j [])[i]? = some (ds.getD j [])[i] := List.getElem?_eq_getElem (by omega)
      rw [g1, g2]
      have e3 : (q[i]).2.1 = wk W ahead ds i := (h i _ g1).ws
      show some ((q[i]).2.1.getD j 0) = some (ahead.getD j 0 * (ds.getD j [])[i])
      rw [e3, wk_at hj, getD_of g2]
    · rw [List.getElem?_eq_none (by omega), List.getElem?_eq_none (by omega)]
      rfl
  refine ⟨⟨by omega, by omega, ?_, ?_, ?_, ?_, ?_⟩, chw⟩
  · intro a hm'
    obtain ⟨i, hi, rfl⟩ := List.getElem_of_mem hm'
    obtain ⟨r, e1, e2, e3⟩ := (h i _ (List.getElem?_eq_getElem hi)).w
    rw [e1]
    refine ⟨by rw [List.length_cons]; omega, fun x hx => ?_⟩
    rcases List.mem_cons.mp hx with rfl | hx
    · omega
    · exact e3 x hx
  · intro i x y hx hy
    obtain ⟨r, e1, _⟩ := (h i _ hx).w
    obtain ⟨r2, e2, _⟩ := (h (i + 1) _ hy).w
    rw [e1, e2]
    show (if 11 * (i : Int) = 11 * ((i + 1 : Nat) : Int) then HT.lexLt r r2 else decide (11 * (i : Int) < 11 * ((i + 1 : Nat) : Int))) = true
    rw [if_neg (by omega)]
    exact decide_eq_true (by omega)
  · intro a hm'
    obtain ⟨i, hi, rfl⟩ := List.getElem_of_mem hm'
    rw [(h i _ (List.getElem?_eq_getElem hi)).ws]
    unfold wk
    rw [List.length_map, List.length_range]
  · exact fun a h1 r h2 => (chw a h1 r h2).mono he
  · intro j hj
    rw [colj j hj]
    exact shares_col (dj j hj) _
end Tl
namespace Tl
open PySem PySem.Spec PyProof.Rows L2 RZ
theorem cmul_small {i j : Int} (h1 : i.natAbs < 1024) (h2 : j.natAbs < 1024) : CMulW i j := wide_mul (a := 10) (b := 10) h1 h2 (by decide) (by decide) (by decide)
theorem pow_lt2000 {e : Nat} (h : e ≤ 14) : LL ^ e < 2 ^ 2000 := Nat.lt_of_le_of_lt (ll_small (k := 1500) (by omega)) (Nat.pow_lt_pow_right (by decide) (by decide))
/-- the five words that the law picks from -/
def five (k : Int) : List (List Int) := [[k], [7 * k, 3], [9 * k + 1, 0, 99], List.replicate 7 (90 + k), []]
theorem five_ok {k : Int} (h0 : 0 ≤ k) (h2 : k ≤ 2) : ∀ r ∈ five k, r.length ≤ 7 ∧ ∀ x ∈ r, 0 ≤ x ∧ x ≤ 99 := by
  intro r hr
  unfold five at hr
  simp only [List.mem_cons, List.not_mem_nil, or_false] at hr
  rcases hr with rfl | rfl | rfl | rfl | rfl
  · exact ⟨by simp, fun x hx => by simp at hx; omega⟩
  · exact ⟨by simp, fun x hx => by simp at hx; omega⟩
  · exact ⟨by simp, fun x hx => by simp at hx; omega⟩
  · exact ⟨by simp, fun x hx => by rw [List.mem_replicate] at hx; omega⟩
  · exact ⟨by simp, fun x hx => absurd hx List.not_mem_nil⟩
section
variable {P : Program} {w : World} {K : PySem.W.Frag} {mg : Str → Option Value} {base : Heap}
theorem ok_law_question {m : Nat} {f f1 f2 f3 f4 f5 f6 f7 : Addr} {fd fd1 fd2 fd3 fd4 fd5 fd6 fd7 : FuncData} (D : Dn K mg "_law_question" s_law_question ["bag", "worlds", "ahead", "levels", "left"] f fd) (B : Blt mg) (D_law_low : Dn K mg "_law_low" s_law_low ["top", "bottom"] f1 fd1) (D_law_common : Dn K mg "_law_common" s_law_common ["one", "other"] f2 fd2)
    (D_law_pick : Dn K mg "_law_pick" s_law_pick ["bag", "many"] f3 fd3) (D_law_shares : Dn K mg "_law_shares" s_law_shares ["bag", "many", "least"] f4 fd4) (D_law_some : Dn K mg "_law_some" s_law_some ["bag", "things"] f5 fd5) (D_law_times : Dn K mg "_law_times" s_law_times ["one", "other"] f6 fd6)
    (D_law_node : Dn K mg "_law_node" s_law_node ["bag", "worlds", "ahead", "levels", "left"] f7 fd7) (G_law_node : FnOk P w K mg base CX0 (6 + 2 * m) f7 fd7 ["bag", "worlds", "ahead", "levels", "left"] (spN K m)) :
    FnOk P w K mg base CX0 (7 + 2 * m) f fd ["bag", "worlds", "ahead", "levels", "left"] (spQ K (m + 1)) := by
  have G_law_pick : FnOk P w K mg base CX0 1 f3 fd3 ["bag", "many"] spPick := ok_law_pick D_law_pick B
  have G_law_shares : FnOk P w K mg base CX0 3 f4 fd4 ["bag", "many", "least"] (spShares K) := ok_law_shares D_law_shares B D_law_low D_law_common D_law_pick
  have G_law_some : FnOk P w K mg base CX0 2 f5 fd5 ["bag", "things"] spSome := ok_law_some D_law_some B D_law_pick
  have G_law_times : FnOk P w K mg base CX0 3 f6 fd6 ["one", "other"] (spTimes K) := ok_law_times D_law_times B D_law_low D_law_common
  rw [show 7 + 2 * m = (6 + 2 * m) + 1 by omega]
  refine D.F.ok sc_law_question (fun vs H Q E h => ?_) (fun cdv A outer s H vs Q E hr h => ?_)
  · obtain ⟨b, g, l, W, e, av, ahead, L, rfl, _⟩ := h
    rfl
  obtain ⟨b, g, l, W, e, av, ahead, L, rfl, hB, hav, hla, hch, hel, hW1, hW5, q⟩ := h
  have nd := sc_law_question.nd
  refine ⟨_, (pss_cons (ps_set (i := 5) nd rfl (.inr rfl) (pe_op op_add pe_int (pe_call G_law_pick (hr.mono (by omega)) (by rfl) D_law_pick.m D_law_pick.F.kp D_law_pick.b .nil pass0 (pa_cons (pv 0) (pa_cons pe_int pa_nil)))))
      (pss_cons (ps_augS (pv 4) pe_int (k_getL (K := K) rfl) (pv 5) ip_sub set_list)
      (pss_cons (ps_set (i := 6) nd rfl (.inr rfl) (pe_lc (own := [("world", 7)]) rfl nd (pi_range1 (by rfl) B.range (pa_cons (pv 1) pa_nil)) (blkOk_by (own := [("world", 7)]) (by kernel_rfl)) (fun _ _ _ _ _ => (pg_name (i := 7) nd rfl (.inl rfl))) (fun _ _ _ _ _ => pts_nil) (fun _ _ _ _ _ => (pe_call G_law_shares (hr.mono (by omega)) (by rfl) D_law_shares.m D_law_shares.F.kp D_law_shares.b .nil pass0 (pa_cons (pv 0) (pa_cons (pv 5) (pa_cons (pe_call G_law_pick (hr.mono (by omega)) (by rfl) D_law_pick.m D_law_pick.F.kp D_law_pick.b .nil pass0 (pa_cons (pv 0) (pa_cons pe_int pa_nil))) pa_nil)))))))
      (pss_cons (ps_set (i := 8) nd rfl (.inl rfl) (pe_lst pa_nil))
      (pss_cons (ps_for PassesOwn.never rfl (pi_range1 (by rfl) B.range (pa_cons (pv 5) pa_nil)) (pg_name (i := 9) nd rfl (.inr rfl)) (pss_cons (ps_set (i := 10) nd rfl (.inl rfl) (pe_call G_law_some (hr.mono (by omega)) (by rfl) D_law_some.m D_law_some.F.kp D_law_some.b .nil pass0 (pa_cons (pv 0) (pa_cons (pe_lst (pa_cons (pe_tup (pa_cons (pv 9) pa_nil)) (pa_cons (pe_tup (pa_cons (pe_op op_mulW pe_int (pv 9)) (pa_cons pe_int pa_nil))) (pa_cons (pe_tup (pa_cons (pe_op op_add (pe_op op_mulW pe_int (pv 9)) pe_int) (pa_cons pe_int (pa_cons pe_int pa_nil)))) (pa_cons (pe_op (k_rep (K := K) rfl) (pe_tup (pa_cons (pe_op op_add pe_int (pv 9)) pa_nil)) pe_int) (pa_cons (pe_tup pa_nil) pa_nil)))))) pa_nil))))
      (pss_cons (ps_set (i := 11) nd rfl (.inl rfl) (pe_callTy (k_tupOf (K := K) rfl) (by rfl) B.tuple (by decide +kernel) (pa_cons (pe_lc (own := [("world", 7)]) rfl nd (pi_range1 (by rfl) B.range (pa_cons (pv 1) pa_nil)) (blkOk_by (own := [("world", 7)]) (by kernel_rfl)) (fun _ _ _ _ _ => (pg_name (i := 7) nd rfl (.inl rfl))) (fun _ _ _ _ _ => pts_nil) (fun _ _ _ _ _ => (pe_call G_law_times (hr.mono (by omega)) (by rfl) D_law_times.m D_law_times.F.kp D_law_times.b .nil pass0 (pa_cons (pe_ix (k_ixT (K := K) rfl) (pv 2) (pv 7) (fun _ _ => rfl)) (pa_cons (pe_ix (k_ixL (K := K) rfl) (pe_ix (k_ixL (K := K) rfl) (pv 6) (pv 7) (fun _ _ => rfl)) (pv 9) (fun _ _ => rfl)) pa_nil))))) pa_nil)))
      (pss_one (ps_expr (pe_bm PySem.F.plainAttrs_list PySem.F.slot_list_append PySem.F.type_list_append mt_append (pv 8) (pa_cons (pe_tup (pa_cons (pe_op (k_cat (K := K) rfl) (pe_tup (pa_cons (pe_op op_mulW pe_int (pv 9)) pa_nil)) (pv 10)) (pa_cons (pv 11) (pa_cons (pe_call G_law_node (hr.mono (by omega)) (by rfl) D_law_node.m D_law_node.F.kp D_law_node.b .nil pass0 (pa_cons (pv 0) (pa_cons (pv 1) (pa_cons (pv 11) (pa_cons (pe_op op_sub (pv 3) pe_int) (pa_cons (pv 4) pa_nil)))))) pa_nil)))) pa_nil)))))))
      (pss_one (ps_ret (pe_callTy (k_tupOf (K := K) rfl) (by rfl) B.tuple (by decide +kernel) (pa_cons (pv 8) pa_nil))))))))), ?_⟩
  -- many = 1 + _law_pick(bag, 3)
  refine ⟨_, rfl, b, g, 3, rfl, hB.B, by decide, by decide, fun r H1 r0 r1 B1 F1 => ⟨_, _, rfl, rfl, ?_⟩⟩
  obtain ⟨mm, em⟩ : ∃ mm : Nat, 1 + r = (mm : Int) := ⟨(1 + r).toNat, by omega⟩
  have mm1 : 1 ≤ mm := by omega
  have mm3 : mm ≤ 3 := by omega
  show gName 5 (V.int (1 + r)) _ _ _
  rw [em]
  have B1 := hB.bag B1 F1
  have F1 : Frl b g l H H1 := .ofF F1
  have hav1 := hav.keep (hB.kt F1)
  -- left[0] -= many
  refine ⟨_, rfl, l, _, 0, _, rfl, rfl, SqL.of B1.hl, rfl, _, rfl, _, _, rfl, rfl, l, _, 0, 0, rfl, rfl, B1.hl, rfl, ?_⟩
  have B2 : BagL (upd H1 l (.lst ([V.int L].set 0 (.int (L - (mm : Int)))))) b g l (L - (mm : Int)) := B1.updL
  have F2 : Frl b g l H1 (upd H1 l (.lst ([V.int L].set 0 (.int (L - (mm : Int)))))) := Frl.updL
  generalize upd H1 l (.lst ([V.int L].set 0 (.int (L - (mm : Int))))) = H2 at B2 F2
  have hav2 := hav1.keep (B1.kt F2)
  have F02 := F1.trans F2
  clear F1 F2 B1 hav1
  -- rows
  refine ⟨_, rfl, _, rfl, by omega, by omega, fun R hR => ?_⟩
  obtain ⟨Rb, Rg, Rl⟩ := B2.neNew hR
  refine lc_range (lo := 0) (n := W) (fun i H3 => ∃ ds : List (List Rat), ds.length = i ∧ RowsAt K b g l (fun _ => False) H3 R ds ∧ (∀ d ∈ ds, IsShares mm d) ∧ BagL H3 b g l (L - (mm : Int)) ∧ Frl b g l H2 H3)
    ⟨[], rfl, ⟨Rb, Rg, Rl, (fun z => z), [], upd_same, rfl, fun i r d e1 _ => by simp at e1⟩, fun d h => absurd h List.not_mem_nil, B2.updN Rb Rg Rl, (Frl.refl b g l H2).updN hR⟩ ?_ ?_
  · rintro i H3 hi ⟨ds, hd, hRows, hS, B3, F3⟩
    refine ⟨rfl, ?_⟩
    refine iteT (B := ∃ ds : List (List Rat), ds.length = i + 1 ∧ RowsAt K b g l (fun _ => False) H3 R ds ∧ (∀ d ∈ ds, IsShares mm d) ∧ BagL H3 b g l (L - (mm : Int)) ∧ Frl b g l H2 H3) ?_
    refine ⟨_, rfl, _, rfl, _, rfl, b, g, 2, rfl, B3.B, by decide, by decide, fun r H4 r0 r1 B4 F4 => ?_⟩
    refine ⟨b, g, mm, r, rfl, B4, mm1, by omega, r0, by omega, fun ρ d us H5 hI h5 t5 fr B5 F5 => ?_⟩
    have B4 := B3.bag B4 F4
    have F4 : Frl b g l H3 H4 := .ofF F4
    have k4 := B3.kt (K := K) F4
    have nρ4 := B4.neNew fr
    have B5 := B4.bag B5 F5
    have F5 : Frl b g l H4 H5 := .ofF F5
    have k5 := k4.trans (B4.kt F5)
    have F35 := F4.trans F5
    obtain ⟨_, _, _, _, rs, h1, h2, h3⟩ := hRows.keep k5 F35
    have ρR : ρ ≠ R := fun z => by
      rw [z] at fr
      obtain ⟨_, _, _, _, rs', h1', _⟩ := hRows.keep k4 F4
      rw [h1'] at fr
      cases fr
    have kR : KT K H5 (upd H5 R (.lst (rs.map V.ref ++ [V.ref ρ]))) := KT.updL h1
    refine ⟨_, h1, by rw [List.length_map]; exact small1000 (by omega), ds ++ [d], by rw [List.length_append, hd]; rfl, ⟨Rb, Rg, Rl, (fun z => z), rs ++ [ρ], by rw [upd_same, List.map_append]; rfl, by rw [List.length_append, List.length_append, h2]; rfl, ?_⟩, ?_, B5.updN Rb Rg Rl, (F3.trans F35).updN hR⟩
    · intro j ρ' d' e1 e2
      by_cases hj : j < rs.length
      · rw [List.getElem?_append_left hj] at e1
        rw [List.getElem?_append_left (by omega)] at e2
        obtain ⟨nR, m1, m2, m3, us', u1, u2⟩ := h3 j ρ' d' e1 e2
        exact ⟨nR, m1, m2, m3, us', by rw [upd_ne nR.1]; exact u1, u2.keep kR⟩
      · have ej : j = rs.length := by
          have := (List.getElem?_eq_some_iff.mp e1).1
          rw [List.length_append] at this
          simp at this
          omega
        subst ej
        rw [List.getElem?_append_right (Nat.le_refl _), Nat.sub_self] at e1
        rw [h2, List.getElem?_append_right (Nat.le_refl _), Nat.sub_self] at e2
        cases e1
        cases e2
        exact ⟨⟨ρR, fun z => z⟩, nρ4.1, nρ4.2.1, nρ4.2.2, us, by rw [upd_ne ρR]; exact h5, t5.keep kR⟩
    · intro d' hd'
      rcases List.mem_append.mp hd' with h | h
      · exact hS d' h
      · rw [List.mem_singleton.mp h]
        exact hI
  rintro H3 ⟨ds, hd, hRows, hS, B3, F3⟩
  have hav3 := hav2.keep (B2.kt F3)
  have F03 := F02.trans F3
  clear F3 F02 hav2 B2
  -- found = []
  refine ⟨Nat.zero_le _, fun φ hφ => ?_⟩
  obtain ⟨φb, φg, φl⟩ := B3.neNew hφ
  have sφ : Same H3 (upd H3 φ (.lst [])) := same_upd hφ
  have hφ0 : H φ = none := F03.none hφ φb φg φl
  -- for k in range(many)
  refine ⟨_, rfl, _, rfl, by omega, by omega, for_range (lo := 0) (n := mm) (fun i σ H4 => ∃ (qs : Qn m) (us : List V) (L4 : Int) (o7 o9 o10 o11 : Option V),
      σ = [some (.ref b), some (.int (W : Int)), some av, some (.int ((m + 1 : Nat) : Int)), some (.ref l), some (.int (mm : Int)), some (.ref R), o7, some (.ref φ), o9, o10, o11] ∧ qs.length = i ∧ H4 φ = some (.lst us) ∧ TdAll K H4 us (qs.map (anD m)) ∧
      (∀ j a, qs[j]? = some a → AnIs W m ahead ds j a) ∧ ((cntB m qs : Nat) : Int) + L4 = L - (mm : Int) ∧ (L - (mm : Int) ≤ L4 ∨ lowL m ≤ L4) ∧ RowsAt K b g l (fun x => x = φ) H4 R ds ∧ R ≠ φ ∧ Td K H4 av (wsD ahead) ∧ BagL H4 b g l L4 ∧ Frl b g l H H4)
    ⟨[], [], L - (mm : Int), none, none, none, none, rfl, rfl, upd_same, .nil, fun j a h => by simp at h, by show ((0 : Nat) : Int) + _ = _; omega, .inl (Int.le_refl _), (hRows.avoid hφ).keep (Same.kt sφ) (.of sφ), ?_, hav3.keep (Same.kt sφ), B3.updN φb φg φl, F03.updN hφ0⟩ ?_ ?_⟩
  · intro z
    obtain ⟨_, _, _, _, rs, h1, _⟩ := hRows
    rw [z, hφ] at h1
    cases h1
  · clear sφ hRows B3 F03 hφ hav3
    rintro i σ H4 hi ⟨qs, us, L4, o7, o9, o10, o11, rfl, hq, h4, t4, hA, hc, hlow, hRows, hRφ, hav4, B4, F4⟩
    have hk : (0 : Int) + (i : Int) = (i : Int) := by omega
    show gName 9 (.int (0 + (i : Int))) _ _ _
    rw [hk]
    -- the five words
    refine ⟨_, rfl, _, rfl, (by show 1 ≤ sizeLine; decide), fun p1 n1 => ?_⟩
    refine ⟨_, rfl, _, _, rfl, rfl, cmul_small (by decide) (by omega), (by show 2 ≤ sizeLine; decide), fun p2 n2 => ?_⟩
    refine ⟨_, rfl, _, _, rfl, rfl, cmul_small (by decide) (by omega), _, _, rfl, rfl, (by show 3 ≤ sizeLine; decide), fun p3 n3 => ?_⟩
    refine ⟨_, rfl, _, _, rfl, rfl, (by show 1 ≤ sizeLine; decide), fun p4 n4 => ?_⟩
    have s4 : Same H4 (upd (upd (upd (upd H4 p1 (.tup [.int (i : Int)])) p2 (.tup [.int (7 * (i : Int)), .int 3])) p3 (.tup [.int (9 * (i : Int) + 1), .int 0, .int 99])) p4 (.tup [.int (90 + (i : Int))])) :=
      (((same_upd n1).trans (same_upd n2)).trans (same_upd n3)).trans (same_upd n4)
    refine ⟨p4, 7, _, rfl, rfl, .inl (.inl upd_same), by simp, by decide, by decide, by simp, fun p5 H5 s5 t5 => ?_⟩
    refine ⟨Nat.zero_le _, fun p6 n6 => ?_⟩
    refine ⟨(by show 5 ≤ sizeLine; decide), fun t nt => ?_⟩
    have t1 : SqT K (upd (upd H5 p6 (.tup [])) t (.lst [.ref p1, .ref p2, .ref p3, .ref p5, .ref p6])) p1 [.int (i : Int)] := Same.kt (same_upd nt) _ _ (Same.kt (same_upd n6) _ _ (Same.kt s5 _ _ (Same.kt (same_upd n4) _ _ (Same.kt (same_upd n3) _ _ (Same.kt (same_upd n2) _ _ (.inl (.inl upd_same)))))))
    have t2 : SqT K (upd (upd H5 p6 (.tup [])) t (.lst [.ref p1, .ref p2, .ref p3, .ref p5, .ref p6])) p2 [.int (7 * (i : Int)), .int 3] := Same.kt (same_upd nt) _ _ (Same.kt (same_upd n6) _ _ (Same.kt s5 _ _ (Same.kt (same_upd n4) _ _ (Same.kt (same_upd n3) _ _ (.inl (.inl upd_same))))))
    have t3 : SqT K (upd (upd H5 p6 (.tup [])) t (.lst [.ref p1, .ref p2, .ref p3, .ref p5, .ref p6])) p3 [.int (9 * (i : Int) + 1), .int 0, .int 99] := Same.kt (same_upd nt) _ _ (Same.kt (same_upd n6) _ _ (Same.kt s5 _ _ (Same.kt (same_upd n4) _ _ (.inl (.inl upd_same)))))
    have t5' : SqT K (upd (upd H5 p6 (.tup [])) t (.lst [.ref p1, .ref p2, .ref p3, .ref p5, .ref p6])) p5 _ := Same.kt (same_upd nt) _ _ (Same.kt (same_upd n6) _ _ t5)
    have t6 : SqT K (upd (upd H5 p6 (.tup [])) t (.lst [.ref p1, .ref p2, .ref p3, .ref p5, .ref p6])) p6 [] := Same.kt (same_upd nt) _ _ (.inl (.inl upd_same))
    have s6 : Same H4 (upd (upd H5 p6 (.tup [])) t (.lst [.ref p1, .ref p2, .ref p3, .ref p5, .ref p6])) := ((s4.trans s5).trans (same_upd n6)).trans (same_upd nt)
    have ht : (upd (upd H5 p6 (.tup [])) t (.lst [.ref p1, .ref p2, .ref p3, .ref p5, .ref p6])) t = some (.lst [.ref p1, .ref p2, .ref p3, .ref p5, .ref p6]) := upd_same
    have nt4 : H4 t = none := ((s4.trans s5).trans (same_upd n6)).free nt
    generalize upd (upd H5 p6 (.tup [])) t (.lst [.ref p1, .ref p2, .ref p3, .ref p5, .ref p6]) = H6 at t1 t2 t3 t5' t6 s6 ht ⊢
    have tw : TdAll K H6 [.ref p1, .ref p2, .ref p3, .ref p5, .ref p6] ((five (i : Int)).map wdD) := by
      refine .cons (.tup t1 (tdAll_ints [(i : Int)])) (.cons (.tup t2 (tdAll_ints [7 * (i : Int), 3])) (.cons (.tup t3 (tdAll_ints [9 * (i : Int) + 1, 0, 99])) (.cons (.tup t5' ?_) (.cons (.tup t6 .nil) .nil))))
      have e : (List.replicate (Int.toNat 7) [V.int (90 + (i : Int))]).flatten = (List.replicate 7 (90 + (i : Int))).map V.int := rfl
      rw [e]
      exact tdAll_ints _
    clear t1 t2 t3 t5' t6 t5 n6 n4 n3 n2 n1 nt s5 s4
    obtain ⟨tb, tg, tl⟩ := B4.neNew nt4
    have B6 := B4.keep s6
    refine ⟨b, g, t, _, rfl, B6.B, ht, tb, tg, by simp, by simp, fun jj x H7 hx B7 F7 => ?_⟩
    obtain ⟨dx, hdx, tx⟩ := tw.getV hx
    obtain ⟨wd, hwd, rfl⟩ : ∃ wd, (five (i : Int))[jj]? = some wd ∧ dx = wdD wd := by
      rw [List.getElem?_map] at hdx
      cases e : (five (i : Int))[jj]? with
      | none =>
        rw [e] at hdx
        cases hdx
      | some wd =>
        rw [e] at hdx
        exact ⟨wd, rfl, (Option.some.inj hdx).symm⟩
    have hwok := five_ok (k := (i : Int)) (by omega) (by omega) wd (List.mem_of_getElem? hwd)
    have B7 := B6.bag B7 F7
    have F7 : Frl b g l H6 H7 := .ofF F7
    have F67 : Frl b g l H4 H7 := (Frl.of s6).trans F7
    have k67 : KT K H4 H7 := (Same.kt s6).trans (B6.kt F7)
    have tx7 := tx.keep (B6.kt F7)
    have hR7 := hRows.keep k67 F67
    have t7 := t4.keep k67
    have h7 := F67 φ _ h4 φb φg φl
    have hav7 := hav4.keep k67
    have F07 := F4.trans F67
    clear hRows t4 h4 hav4 F4 F67 k67 F7 tx tw hx hdx B6 ht s6 nt4 B4
    -- weights
    refine ⟨_, rfl, _, rfl, by omega, by omega, fun wd' nw => ?_⟩
    obtain ⟨wb, wg, wl⟩ := B7.neNew nw
    obtain ⟨aA, aX, rfl, aS, aT⟩ := hav7.tupE
    refine lc_range (lo := 0) (n := W) (fun j H8 => ∃ vs : List V, H8 wd' = some (.lst vs) ∧ TdAll K H8 vs (((wk W ahead ds i).take j).map rD) ∧ Same H7 H8) ⟨[], upd_same, .nil, same_upd nw⟩ ?_ ?_
    · rintro j H8 hj ⟨vs, h8, t8, s8⟩
      refine ⟨rfl, ?_⟩
      refine iteT (B := ∃ vs : List V, H8 wd' = some (.lst vs) ∧ TdAll K H8 vs (((wk W ahead ds i).take (j + 1)).map rD) ∧ Same H7 H8) ?_
      have aj : ahead[j]? = some ahead[j] := List.getElem?_eq_getElem (by omega)
      obtain ⟨va, ea, ta⟩ := aT.get (i := j) (d := rD ahead[j]) (by rw [List.getElem?_map, aj]; rfl)
      obtain ⟨_, _, _, _, rs, h1, h2, h3⟩ := hR7.keep (Same.kt s8) (.of s8)
      have rj : rs[j]? = some rs[j] := List.getElem?_eq_getElem (by omega)
      have dj : ds[j]? = some ds[j] := List.getElem?_eq_getElem (by omega)
      obtain ⟨_, _, _, _, us', u1, u2⟩ := h3 j _ _ rj dj
      obtain ⟨ps, c1, c2, c3, c4⟩ := hS _ (List.getElem_mem (show j < ds.length by omega))
      have lj : ds[j].length = mm := by rw [c4, List.length_map, c1]
      have di : ds[j][i]? = some (ds[j][i]'(by omega)) := List.getElem?_eq_getElem _
      obtain ⟨vb, eb, tb'⟩ := u2.get (i := i) (d := rD (ds[j][i]'(by omega))) (by rw [List.getElem?_map, di]; rfl)
      have hj0 : (0 : Int) + (j : Int) = ((j : Nat) : Int) := by omega
      have ca := hch _ (List.getElem_mem (show j < ahead.length by omega))
      obtain ⟨pp, ss, q1, q2, q3, q4⟩ := share_at (hS _ (List.getElem_mem (show j < ds.length by omega))) hi
      have eqi : ds[j][i]'(by omega) = mkRat (pp : Int) ss := by rw [← q4]; exact (getD_of di).symm
      have cb : Ch 1 (ds[j][i]'(by omega)) := by
        rw [eqi]
        exact ch_share q1 (by omega) q3
      have z1 : LL ^ e < 2 ^ 2000 := pow_lt2000 (by omega)
      have z2 : LL ^ 1 < 2 ^ 2000 := pow_lt2000 (by decide)
      refine ⟨_, rfl, _, rfl, aA, aX, _, va, rfl, by rw [hj0], Same.kt s8 _ _ aS, atI_nat ea, ?_⟩
      refine ⟨_, rfl, _, rfl, R, _, _, _, rfl, by rw [hj0], SqL.of h1, atI_nat (by rw [List.getElem?_map, rj]; rfl), _, rfl, rs[j], us', (i : Int), vb, rfl, rfl, SqL.of u1, atI_nat eb, ?_⟩
      refine ⟨va, vb, _, _, rfl, ta.keep (Same.kt s8), tb', Nat.lt_of_le_of_lt ca.den z1, Nat.lt_of_le_of_lt cb.den z2, Nat.lt_of_le_of_lt ca.num z1, Nat.lt_of_le_of_lt cb.num z2, fun v H9 s9 tv => ?_⟩
      have h9 := s9 _ _ h8
      have kw : KT K H9 (upd H9 wd' (.lst (vs ++ [v]))) := KT.updL h9
      refine ⟨vs, h9, ?_, vs ++ [v], upd_same, ?_, fun a o z => ?_⟩
      · rw [t8.len, List.length_map, List.length_take]
        exact small1000 (by omega)
      · have ewk : (wk W ahead ds i)[j]? = some (ahead[j] * (ds[j][i]'(by omega))) := by
          unfold wk
          rw [List.getElem?_map, List.getElem?_range hj]
          show some (ahead.getD j 0 * (ds.getD j []).getD i 0) = some (ahead[j] * (ds[j][i]'(by omega)))
          rw [getD_of aj, getD_of dj, getD_of di]
        rw [List.take_add_one, ewk, List.map_append]
        exact (t8.keep ((Same.kt s9).trans kw)).app (.cons (tv.keep kw) .nil)
      · rw [upd_ne (ne_of_none z nw)]
        exact s9 _ _ (s8 _ _ z)
    · rintro H8 ⟨vs, h8, t8, s8⟩
      have lw : (wk W ahead ds i).length = W := by
        unfold wk
        rw [List.length_map, List.length_range]
      rw [List.take_of_length_le (by omega)] at t8
      refine ⟨wd', vs, rfl, SqL.of h8, fun wt H9 s9 q9 => ?_⟩
      have s79 := s8.trans s9
      have twt : Td K H9 (.ref wt) (wsD (wk W ahead ds i)) := .tup q9 (t8.keep (Same.kt s9))
      -- found.append(..)
      have h9 := s79 _ _ h7
      refine ⟨_, rfl, .inl ⟨rfl, _, SqL.of h9⟩, _, rfl, _, _, rfl, rfl, cmul_small (by decide) (by omega), (by show 1 ≤ sizeLine; decide), fun p1 n1 => ?_⟩
      obtain ⟨xa, xs, rfl, xS, xT⟩ := tx7.tupE
      have xe := tdAll_intsE xT
      subst xe
      refine ⟨_, rfl, p1, xa, _, _, rfl, rfl, .inl (.inl upd_same), Same.kt (same_upd n1) _ _ (Same.kt s79 _ _ xS), ?_, fun pw H10 s10 q10 => ?_⟩
      · rw [List.length_map]
        have := hwok.1
        exact Nat.le_of_lt (small1000 (by simp; omega))
      have s910 : Same H9 H10 := (same_upd n1).trans s10
      have s710 := s79.trans s910
      have B10 := B7.keep s710
      have hlev : (((m + 1 : Nat) : Int)) - 1 = (m : Int) := by omega
      refine ⟨_, rfl, _, rfl, _, rfl, _, rfl, _, rfl, _, _, rfl, rfl, _, rfl, ?_⟩
      have hdr : ∀ (a : An m), NdF W m a.2.1 a.2.2 → a.1 = 11 * (i : Int) :: wd → a.2.1 = wk W ahead ds i → ∀ j a', (qs ++ [a])[j]? = some a' → AnIs W m ahead ds j a' := by
        intro a o1 o2 o3 j a' ea
        by_cases hj : j < qs.length
        · rw [List.getElem?_append_left hj] at ea
          exact hA j a' ea
        · have ej : j = qs.length := by
            have := (List.getElem?_eq_some_iff.mp ea).1
            rw [List.length_append] at this
            simp at this
            omega
          subst ej
          rw [List.getElem?_append_right (Nat.le_refl _), Nat.sub_self] at ea
          cases ea
          exact ⟨⟨wd, by rw [o2, hq], hwok.1, hwok.2⟩, by rw [o3, hq], o1⟩
      have chk : ∀ r ∈ wk W ahead ds i, Ch (e + 1) r := by
        intro r hr
        unfold wk at hr
        obtain ⟨j, hj, rfl⟩ := List.mem_map.mp hr
        have hj := List.mem_range.mp hj
        have hj2 : j < ds.length := by omega
        rw [getD_of (List.getElem?_eq_getElem hj2)]
        obtain ⟨p, s, s0, s1, ps, e1⟩ := share_at (hS _ (List.getElem_mem hj2)) hi
        rw [e1]
        exact (mem_getD0 hch (by omega)).mul s0 (by omega) ps
      refine ⟨b, g, l, W, e + 1, .ref wt, wk W ahead ds i, L4, congrArg (fun z => [V.ref b, V.int (W : Int), V.ref wt, V.int z, V.ref l]) hlev, B10, twt.keep (Same.kt s910), lw, chk, by omega, hW1, hW5, fun v tn L5 H11 tv nok hcnt hlow5 B11 F11 => ?_⟩
      refine ⟨(by show 3 ≤ sizeLine; decide), fun pa na => ?_⟩
      have F911 : Frl b g l H7 H11 := (Frl.of s710).trans F11
      have k711 : KT K H7 H11 := (Same.kt s710).trans (B10.kt F11)
      have h11 := F911 φ _ h7 φb φg φl
      have naφ : φ ≠ pa := ne_of_none h11 na
      have h12 : (upd H11 pa (.tup [.ref pw, .ref wt, v])) φ = some (.lst us) := by
        rw [upd_ne naφ]
        exact h11
      have s12 : Same H11 (upd H11 pa (.tup [.ref pw, .ref wt, v])) := same_upd na
      refine ⟨φ, us, _, rfl, rfl, h12, ?_, ?_⟩
      · rw [t7.len, List.length_map]
        exact small1000 (by omega)
      have kf : KT K (upd H11 pa (.tup [.ref pw, .ref wt, v])) (upd (upd H11 pa (.tup [.ref pw, .ref wt, v])) φ (.lst (us ++ [.ref pa]))) := KT.updL h12
      have kall : KT K H7 (upd (upd H11 pa (.tup [.ref pw, .ref wt, v])) φ (.lst (us ++ [.ref pa]))) := (k711.trans (Same.kt s12)).trans kf
      have k1011 : KT K H10 (upd (upd H11 pa (.tup [.ref pw, .ref wt, v])) φ (.lst (us ++ [.ref pa]))) := ((B10.kt F11).trans (Same.kt s12)).trans kf
      have tan : Td K (upd (upd H11 pa (.tup [.ref pw, .ref wt, v])) φ (.lst (us ++ [.ref pa]))) (.ref pa) (anD m (11 * (i : Int) :: wd, wk W ahead ds i, tn)) := by
        refine .tup (kf _ _ (.inl (.inl upd_same))) (.cons ?_ (.cons ?_ (.cons (tv.keep ((Same.kt s12).trans kf)) .nil)))
        · exact .tup (k1011 _ _ q10) (tdAll_ints (11 * (i : Int) :: wd))
        · exact twt.keep ((Same.kt s910).trans k1011)
      have F712 : Frl b g l H7 (upd H11 pa (.tup [.ref pw, .ref wt, v])) := F911.trans (.of s12)
      have R12 := hR7.keep (k711.trans (Same.kt s12)) F712
      refine ⟨qs ++ [(11 * (i : Int) :: wd, wk W ahead ds i, tn)], us ++ [.ref pa], L5, _, _, _, _, rfl, by rw [List.length_append, hq]; rfl, upd_same, ?_, hdr _ nok rfl rfl, ?_, ?_, ?_, hRφ, hav7.keep kall, ?_, ?_⟩
      · rw [List.map_append]
        exact (t7.keep kall).app (.cons tan .nil)
      · rw [cntB_snoc]
        show ((cntB m qs + cnt m tn : Nat) : Int) + L5 = _
        omega
      · rcases hlow with hl | hl <;> rcases hlow5 with hl5 | hl5 <;> omega
      · obtain ⟨_, _, _, _, rs, h1, h2, h3⟩ := R12
        refine ⟨Rb, Rg, Rl, hRφ, rs, by rw [upd_ne hRφ]; exact h1, h2, fun j r d e1 e2 => ?_⟩
        obtain ⟨m0, m1, m2, m3, us', u1, u2⟩ := h3 j r d e1 e2
        exact ⟨m0, m1, m2, m3, us', by rw [upd_ne m0.2]; exact u1, u2.keep kf⟩
      · exact (B11.keep s12).updN φb φg φl
      · exact (F07.trans F712).updN hφ0
  · rintro σ H4 ⟨qs, us, L4, o7, o9, o10, o11, rfl, hq, h4, t4, hA, hc, hlow, hRows, hRφ, hav4, B4, F4⟩
    refine ⟨_, rfl, φ, us, rfl, SqL.of h4, fun v H5 s5 q5 => ?_⟩
    obtain ⟨ok1, ok2⟩ := drawn_ok mm1 mm3 hq hd hla hS hch (by omega) hA
    refine q (.ref v) qs L4 H5 (.tup q5 (t4.keep (Same.kt s5))) ⟨ok1, by omega, fun a ha r hr => (ok2 a ha r hr).mono (by omega)⟩ ?_ ?_ ?_ (B4.keep s5) (F4.trans (.of s5))
    · intro a ha
      obtain ⟨j, hj, rfl⟩ := List.getElem_of_mem ha
      exact (hA j _ (List.getElem?_eq_getElem hj)).ok
    · rw [cntQ_eq]
      omega
    · rcases hlow with hl | hl
      · exact .inl (by omega)
      · exact .inr hl
end
end Tl
namespace Tl
open PySem PySem.Spec PyProof.Rows L2 RZ
theorem cnt_snoc (n : Nat) (qs : List (Qn n)) (q : Qn n) : cnt (n + 1) (qs ++ [q] : List (Qn n)) = cnt (n + 1) qs + cntQ n q := by
  rw [cnt_succ, cnt_succ, List.map_append, List.sum_append]
  rfl
section
variable {P : Program} {w : World} {K : PySem.W.Frag} {mg : Str → Option Value} {base : Heap}
theorem ok_law_node {n : Nat} {f f1 f2 : Addr} {fd fd1 fd2 : FuncData} (D : Dn K mg "_law_node" s_law_node ["bag", "worlds", "ahead", "levels", "left"] f fd) (B : Blt mg) (D_law_pick : Dn K mg "_law_pick" s_law_pick ["bag", "many"] f1 fd1)
    (D_law_question : Dn K mg "_law_question" s_law_question ["bag", "worlds", "ahead", "levels", "left"] f2 fd2) (G_law_question : FnOk P w K mg base CX0 (5 + 2 * n) f2 fd2 ["bag", "worlds", "ahead", "levels", "left"] (spQ K n)) :
    FnOk P w K mg base CX0 (6 + 2 * n) f fd ["bag", "worlds", "ahead", "levels", "left"] (spN K n) := by
  have G_law_pick : FnOk P w K mg base CX0 1 f1 fd1 ["bag", "many"] spPick := ok_law_pick D_law_pick B
  rw [show 6 + 2 * n = (5 + 2 * n) + 1 by omega]
  refine D.F.ok sc_law_node (fun vs H Q E h => ?_) (fun cdv A outer s H vs Q E hr h => ?_)
  · obtain ⟨b, g, l, W, e, av, ahead, L, rfl, _⟩ := h
    rfl
  obtain ⟨b, g, l, W, e, av, ahead, L, rfl, hB, hav, hla, hch, hel, hW1, hW5, q⟩ := h
  have nd := sc_law_node.nd
  refine ⟨_, (pss_cons (ps_if (PW.pt (pw_or (pt_cmpR op_eq (pv 3) pe_int (nomark _)) (pw_or1 (pt_cmpR op_le (pe_ix (k_ixL (K := K) rfl) (pv 4) pe_int (fun _ _ => rfl)) pe_int (nomark _))))) (pss_one (ps_ret (pe_tup pa_nil))) pss_nil)
      (pss_one (ps_ret (pe_callTy (k_tupOf (K := K) rfl) (by rfl) B.tuple (by decide +kernel) (pa_cons (pe_lc (own := [("k", 5)]) rfl nd (pi_range1 (by rfl) B.range (pa_cons (pe_call G_law_pick (hr.mono (by omega)) (by rfl) D_law_pick.m D_law_pick.F.kp D_law_pick.b .nil pass0 (pa_cons (pv 0) (pa_cons pe_int pa_nil))) pa_nil)) (blkOk_by (own := [("k", 5)]) (by kernel_rfl)) (fun _ _ _ _ _ => (pg_name (i := 5) nd rfl (.inl rfl))) (fun _ _ _ _ _ => pts_nil) (fun _ _ _ _ _ => (pe_call G_law_question (hr.mono (by omega)) (by rfl) D_law_question.m D_law_question.F.kp D_law_question.b .nil pass0 (pa_cons (pv 0) (pa_cons (pv 1) (pa_cons (pv 2) (pa_cons (pv 3) (pa_cons (pv 4) pa_nil)))))))) pa_nil))))), ?_⟩
  have none_ : ∀ p, H p = none → Q (.ref p) (upd H p (.tup [])) := fun p np => by
    refine q (.ref p) (emptyNd n) L _ ?_ (ndF_empty _ _ _) (by rw [cnt_empty]; omega) (.inl (Int.le_refl _)) (hB.keep (same_upd np)) (.of (same_upd np))
    rw [ndD_empty]
    exact .tup (.inl (.inl upd_same)) .nil
  refine ⟨_, rfl, rfl, _, rfl, ?_⟩
  refine ite2 (fun c => ?_) (fun c => ?_)
  · exact iteT ⟨Nat.zero_le _, none_⟩
  refine ⟨_, rfl, l, _, 0, _, rfl, rfl, SqL.of hB.hl, at_of (j := 0) rfl rfl, _, _, rfl, rfl, _, rfl, ?_⟩
  refine ite2 (fun c2 => ?_) (fun c2 => ?_)
  · exact ⟨Nat.zero_le _, none_⟩
  have hL : 0 < L := by
    have : ¬ L ≤ 0 := by simpa using c2
    omega
  cases n with
  | zero => exact absurd rfl c
  | succ n =>
    refine ⟨_, rfl, b, g, 3, rfl, hB.B, by decide, by decide, fun r H1 r0 r1 B1 F1 => ⟨_, rfl, by omega, by omega, fun T hT => ?_⟩⟩
    have B1 := hB.bag B1 F1
    have F1 : Frl b g l H H1 := .ofF F1
    have hav1 := hav.keep (hB.kt F1)
    obtain ⟨Tb, Tg, Tl'⟩ := B1.neNew hT
    obtain ⟨mm, em⟩ : ∃ mm : Nat, r = (mm : Int) := ⟨r.toNat, by omega⟩
    have emm : r.toNat = mm := by omega
    rw [emm]
    have T0 : H T = none := F1.none hT Tb Tg Tl'
    refine lc_range (lo := 0) (n := mm) (fun i H2 => ∃ (us : List V) (qs : List (Qn n)) (L2 : Int), qs.length = i ∧ H2 T = some (.lst us) ∧ TdAll K H2 us (qs.map (qnD n)) ∧ (∀ q ∈ qs, (QnOk W ahead q ∧ Few q) ∧ ∀ a ∈ q, NdF W n a.2.1 a.2.2) ∧ ((cnt (n + 1) qs : Nat) : Int) + L2 = L ∧
        (L2 = L ∨ lowL (n + 1) + 3 * ((2 : Int) - i) ≤ L2) ∧ Td K H2 av (wsD ahead) ∧ BagL H2 b g l L2 ∧ Frl b g l H H2)
      ⟨[], [], L, rfl, upd_same, .nil, fun q h => absurd h List.not_mem_nil, by show ((0 : Nat) : Int) + L = L; omega, .inl rfl, hav1.keep (Same.kt (same_upd hT)), B1.updN Tb Tg Tl', F1.updN T0⟩ ?_ ?_
    · rintro i H2 hi ⟨us, qs, L2, hq, h2, t2, ok2, c2, low2, av2, B2, F2⟩
      refine ⟨rfl, ?_⟩
      refine iteT (B := ∃ (us : List V) (qs : List (Qn n)) (L2 : Int), qs.length = i + 1 ∧ H2 T = some (.lst us) ∧ TdAll K H2 us (qs.map (qnD n)) ∧ (∀ q ∈ qs, (QnOk W ahead q ∧ Few q) ∧ ∀ a ∈ q, NdF W n a.2.1 a.2.2) ∧ ((cnt (n + 1) qs : Nat) : Int) + L2 = L ∧
        (L2 = L ∨ lowL (n + 1) + 3 * ((2 : Int) - ((i + 1 : Nat) : Int)) ≤ L2) ∧ Td K H2 av (wsD ahead) ∧ BagL H2 b g l L2 ∧ Frl b g l H H2) ?_
      refine ⟨_, rfl, _, rfl, _, rfl, _, rfl, _, rfl, ?_⟩
      refine ⟨b, g, l, W, e, av, ahead, L2, rfl, B2, av2, hla, hch, hel, hW1, hW5, fun v qn L3 H3 tv ok3 nok3 c3 low3 B3 F3 => ?_⟩
      have k3 := B2.kt (K := K) F3
      have h3 := F3 T _ h2 Tb Tg Tl'
      have kT : KT K H3 (upd H3 T (.lst (us ++ [v]))) := KT.updL h3
      refine ⟨us, h3, ?_, us ++ [v], qs ++ [qn], L3, by rw [List.length_append, hq]; rfl, upd_same, ?_, ?_, ?_, ?_, av2.keep (k3.trans kT), B3.updN Tb Tg Tl', (F2.trans F3).updN T0⟩
      · rw [t2.len, List.length_map]
        exact small1000 (by omega)
      · rw [List.map_append]
        exact (t2.keep (k3.trans kT)).app (.cons (tv.keep kT) .nil)
      · intro q' hq'
        rcases List.mem_append.mp hq' with h | h
        · exact ok2 q' h
        · rw [List.mem_singleton.mp h]
          exact ⟨ok3, nok3⟩
      · rw [cnt_snoc]
        omega
      · have e1 : lowL (n + 1) = lowL n - 3 := by
          unfold lowL
          omega
        have e2 : lowL n = -(3 * (n : Int) + 2) := rfl
        refine .inr ?_
        rcases low2 with l2 | l2 <;> rcases low3 with l3 | l3 <;> omega
    · rintro H2 ⟨us, qs, L2, hq, h2, t2, ok2, c2, low2, av2, B2, F2⟩
      refine ⟨T, us, rfl, SqL.of h2, fun v H3 s3 q3 => ?_⟩
      refine q (.ref v) qs L2 H3 (.tup q3 (t2.keep (Same.kt s3))) ⟨by show qs.length ≤ 5; omega, ok2⟩ c2 ?_ (B2.keep s3) (F2.trans (.of s3))
      rcases low2 with l2 | l2
      · exact .inl (by omega)
      · exact .inr (by omega)
/-- both, by the number of levels -/
theorem ok_law_qn {f f1 f2 f3 f4 f5 f6 f7 : Addr} {fd fd1 fd2 fd3 fd4 fd5 fd6 fd7 : FuncData} (D_law_question : Dn K mg "_law_question" s_law_question ["bag", "worlds", "ahead", "levels", "left"] f fd) (B : Blt mg) (D_law_low : Dn K mg "_law_low" s_law_low ["top", "bottom"] f1 fd1) (D_law_common : Dn K mg "_law_common" s_law_common ["one", "other"] f2 fd2)
    (D_law_pick : Dn K mg "_law_pick" s_law_pick ["bag", "many"] f3 fd3) (D_law_shares : Dn K mg "_law_shares" s_law_shares ["bag", "many", "least"] f4 fd4) (D_law_some : Dn K mg "_law_some" s_law_some ["bag", "things"] f5 fd5) (D_law_times : Dn K mg "_law_times" s_law_times ["one", "other"] f6 fd6)
    (D_law_node : Dn K mg "_law_node" s_law_node ["bag", "worlds", "ahead", "levels", "left"] f7 fd7) :
    ∀ n : Nat, FnOk P w K mg base CX0 (5 + 2 * n) f fd ["bag", "worlds", "ahead", "levels", "left"] (spQ K n) ∧ FnOk P w K mg base CX0 (6 + 2 * n) f7 fd7 ["bag", "worlds", "ahead", "levels", "left"] (spN K n)
  | 0 => by
    have h0 : FnOk P w K mg base CX0 (5 + 2 * 0) f fd ["bag", "worlds", "ahead", "levels", "left"] (spQ K 0) := ⟨fun vs H Q E h => h.elim, fun A outer s H args us vs Q E _ _ _ _ h => h.elim⟩
    exact ⟨h0, ok_law_node D_law_node B D_law_pick D_law_question h0⟩
  | n + 1 => by
    have ih := ok_law_qn D_law_question B D_law_low D_law_common D_law_pick D_law_shares D_law_some D_law_times D_law_node n
    have h1 : FnOk P w K mg base CX0 (5 + 2 * (n + 1)) f fd ["bag", "worlds", "ahead", "levels", "left"] (spQ K (n + 1)) := by
      have := ok_law_question D_law_question B D_law_low D_law_common D_law_pick D_law_shares D_law_some D_law_times D_law_node ih.2
      rw [show 5 + 2 * (n + 1) = 7 + 2 * n by omega]
      exact this
    exact ⟨h1, ok_law_node D_law_node B D_law_pick D_law_question h1⟩
end
end Tl
namespace Tl
open PySem PySem.Spec PyProof.Rows L2 RZ
def ones (W : Nat) : List Rat := List.replicate W 1
theorem ones_ch {W e : Nat} : ∀ r ∈ ones W, Ch e r := fun r hr => by
  rw [(List.mem_replicate.mp hr).2]
  exact ch_one
theorem rD_one : rD 1 = .tuple [.int 1, .int 1] := rfl
theorem rD_zero : rD 0 = .tuple [.int 0, .int 1] := rfl
theorem tdAll_rep {K : PySem.W.Frag} {H : Hp} {v : V} {d : PyData} (h : Td K H v d) : ∀ n : Nat, TdAll K H (List.replicate n v) (List.replicate n d)
  | 0 => .nil
  | n + 1 => by
    rw [List.replicate_succ, List.replicate_succ]
    exact .cons h (tdAll_rep h n)
theorem flat_rep {α : Type} (v : α) : ∀ n : Nat, (List.replicate n [v]).flatten = List.replicate n v
  | 0 => rfl
  | n + 1 => by
    rw [List.replicate_succ, List.flatten_cons, flat_rep v n, List.replicate_succ]
    rfl
theorem ones_td {K : PySem.W.Frag} {H : Hp} {p q : Addr} {W : Nat} (hq : Td K H (.ref q) (rD 1)) (hp : SqT K H p (List.replicate (W : Int).toNat [V.ref q]).flatten) : Td K H (.ref p) (wsD (ones W)) := by
  rw [flat_rep, Int.toNat_natCast] at hp
  refine .tup hp ?_
  unfold ones
  rw [List.map_replicate]
  exact tdAll_rep hq W
/-- a drawn tree -/
def spTree (K : PySem.W.Frag) (n : Nat) : Sp := fun vs H Q _ => ∃ (b g : Addr) (W : Nat) (A : Nat), vs = [.ref b, .int (W : Int), .int ((n + 1 : Nat) : Int), .int (A : Int)] ∧ Bag H b g ∧ n + 1 ≤ 3 ∧ 1 ≤ W ∧ W ≤ 5 ∧
  ∀ (v : V) (t : Nd (n + 1)) (H' : Hp), Td K H' v (ndD (n + 1) t) → NdF W (n + 1) (ones W) t → cnt (n + 1) t ≤ A + 3 * n + 8 → Bag H' b g → Frm b g H H' → Q v H'
section
variable {P : Program} {w : World} {K : PySem.W.Frag} {mg : Str → Option Value} {base : Heap}
theorem ok_law_tree {n : Nat} {f f1 f2 : Addr} {fd fd1 fd2 : FuncData} (D : Dn K mg "_law_tree" s_law_tree ["bag", "worlds", "levels", "answers"] f fd) (B : Blt mg) (D_law_pick : Dn K mg "_law_pick" s_law_pick ["bag", "many"] f1 fd1)
    (D_law_question : Dn K mg "_law_question" s_law_question ["bag", "worlds", "ahead", "levels", "left"] f2 fd2) (G_law_question : FnOk P w K mg base CX0 (5 + 2 * (n + 1)) f2 fd2 ["bag", "worlds", "ahead", "levels", "left"] (spQ K (n + 1))) :
    FnOk P w K mg base CX0 (6 + 2 * (n + 1)) f fd ["bag", "worlds", "levels", "answers"] (spTree K n) := by
  have G_law_pick : FnOk P w K mg base CX0 1 f1 fd1 ["bag", "many"] spPick := ok_law_pick D_law_pick B
  rw [show 6 + 2 * (n + 1) = (5 + 2 * (n + 1)) + 1 by omega]
  refine D.F.ok sc_law_tree (fun vs H Q E h => ?_) (fun cdv A outer s H vs Q E hr h => ?_)
  · obtain ⟨b, g, W, A, rfl, _⟩ := h
    rfl
  obtain ⟨b, g, W, A, rfl, hB, hn, hW1, hW5, q⟩ := h
  have nd := sc_law_tree.nd
  refine ⟨_, (pss_cons (ps_asg (pe_tup (pa_cons (pe_op (k_rep (K := K) rfl) (pe_tup (pa_cons (pe_tup (pa_cons pe_int (pa_cons pe_int pa_nil))) pa_nil)) (pv 1)) (pa_cons (pe_lst (pa_cons (pv 3) pa_nil)) pa_nil))) (k_tup (K := K) (n := 2) rfl rfl (pgs_cons (pg_name (i := 4) nd rfl (.inr rfl)) (pgs_cons (pg_name (i := 5) nd rfl (.inr rfl)) pgs_nil))))
      (pss_cons (ps_setLc (i := 6) (own := [("k", 7)]) rfl nd rfl rfl (sw_true rfl rfl rfl (by decide +kernel)) (pi_range1 (by rfl) B.range (pa_cons (pe_op op_add pe_int (pe_call G_law_pick (hr.mono (by omega)) (by rfl) D_law_pick.m D_law_pick.F.kp D_law_pick.b .nil pass0 (pa_cons (pv 0) (pa_cons pe_int pa_nil)))) pa_nil)) (blkOk_by (own := [("k", 7)]) (by kernel_rfl)) (fun _ _ _ _ _ => (pg_name (i := 7) nd rfl (.inl rfl))) (fun _ _ _ _ _ => pts_nil) (fun _ _ _ _ _ => (pe_call G_law_question (hr.mono (by omega)) (by rfl) D_law_question.m D_law_question.F.kp D_law_question.b .nil pass0 (pa_cons (pv 0) (pa_cons (pv 1) (pa_cons (pv 4) (pa_cons (pv 2) (pa_cons (pv 5) pa_nil))))))))
      (pss_one (ps_ret (pe_callTy (k_tupOf (K := K) rfl) (by rfl) B.tuple (by decide +kernel) (pa_cons (pv 6) pa_nil)))))), ?_⟩
  refine ⟨(by show 2 ≤ sizeLine; decide), fun p1 n1 => ⟨(by show 1 ≤ sizeLine; decide), fun p2 n2 => ?_⟩⟩
  have s2 : Same H (upd (upd H p1 (.tup [.int 1, .int 1])) p2 (.tup [.ref p1])) := (same_upd n1).trans (same_upd n2)
  refine ⟨_, rfl, p2, (W : Int), _, rfl, rfl, .inl (.inl upd_same), by simp, by omega, by omega, by simp, fun pa H3 s3 q3 => ?_⟩
  refine ⟨_, rfl, (by show 1 ≤ sizeLine; decide), fun l nl => ?_⟩
  refine ⟨(by show 2 ≤ sizeLine; decide), fun pt npt => ?_⟩
  have hl : (upd (upd H3 l (.lst [.int (A : Int)])) pt (.tup [.ref pa, .ref l])) l = some (.lst [.int (A : Int)]) := by
    rw [upd_ne (ne_of_none (H := upd H3 l (.lst [.int (A : Int)])) upd_same npt)]
    exact upd_same
  have s35 : Same H3 (upd (upd H3 l (.lst [.int (A : Int)])) pt (.tup [.ref pa, .ref l])) := (same_upd nl).trans (same_upd npt)
  have s5 := (s2.trans s3).trans s35
  have t1 : Td K (upd (upd H3 l (.lst [.int (A : Int)])) pt (.tup [.ref pa, .ref l])) (.ref p1) (rD 1) := by
    rw [rD_one]
    exact .tup (Same.kt s35 _ _ (Same.kt s3 _ _ (Same.kt (same_upd n2) _ _ (.inl (.inl upd_same))))) (tdAll_ints [1, 1])
  have ta : Td K (upd (upd H3 l (.lst [.int (A : Int)])) pt (.tup [.ref pa, .ref l])) (.ref pa) (wsD (ones W)) := ones_td t1 (Same.kt s35 _ _ q3)
  have nl0 : H l = none := (s2.trans s3).free nl
  obtain ⟨lb, lg⟩ := hB.neNew nl0
  refine ⟨pt, [.ref pa, .ref l], rfl, .inl (.inl upd_same), rfl, _, _, rfl, _, _, rfl, rfl, ?_⟩
  generalize upd (upd H3 l (.lst [.int (A : Int)])) pt (.tup [.ref pa, .ref l]) = H5 at hl s5 ta
  have B5 : BagL H5 b g l (A : Int) := ⟨hB.keep s5, hl, lb, lg⟩
  clear t1
  -- some
  refine ⟨_, rfl, b, g, 2, rfl, B5.B, by decide, by decide, fun r H6 r0 r1 B6 F6 => ⟨_, _, rfl, rfl, _, rfl, by omega, by omega, fun T hT => ?_⟩⟩
  have B6 := B5.bag B6 F6
  have F6 : Frl b g l H5 H6 := .ofF F6
  have ta6 := ta.keep (B5.kt F6)
  obtain ⟨Tb, Tg, Tl'⟩ := B6.neNew hT
  obtain ⟨mm, em⟩ : ∃ mm : Nat, (1 + r).toNat = mm := ⟨_, rfl⟩
  rw [em]
  have F06 : Frl b g l H H6 := (Frl.of s5).trans F6
  have T0 : H T = none := F06.none hT Tb Tg Tl'
  refine lc_range (lo := 0) (n := mm) (fun i H2 => ∃ (us : List V) (qs : List (Qn n)) (L2 : Int), qs.length = i ∧ H2 T = some (.lst us) ∧ TdAll K H2 us (qs.map (qnD n)) ∧ (∀ q ∈ qs, (QnOk W (ones W) q ∧ Few q) ∧ ∀ a ∈ q, NdF W n a.2.1 a.2.2) ∧ ((cnt (n + 1) qs : Nat) : Int) + L2 = (A : Int) ∧
      ((A : Int) - 3 * i ≤ L2 ∨ lowL n - 3 * i ≤ L2) ∧ Td K H2 (.ref pa) (wsD (ones W)) ∧ BagL H2 b g l L2 ∧ Frl b g l H H2)
    ⟨[], [], (A : Int), rfl, upd_same, .nil, fun q h => absurd h List.not_mem_nil, by show ((0 : Nat) : Int) + (A : Int) = A; omega, .inl (by omega), ta6.keep (Same.kt (same_upd hT)), B6.updN Tb Tg Tl', F06.updN T0⟩ ?_ ?_
  · rintro i H2 hi ⟨us, qs, L2, hq, h2, t2, ok2, c2, low2, av2, B2, F2⟩
    refine ⟨rfl, ?_⟩
    refine iteT (B := ∃ (us : List V) (qs : List (Qn n)) (L2 : Int), qs.length = i + 1 ∧ H2 T = some (.lst us) ∧ TdAll K H2 us (qs.map (qnD n)) ∧ (∀ q ∈ qs, (QnOk W (ones W) q ∧ Few q) ∧ ∀ a ∈ q, NdF W n a.2.1 a.2.2) ∧ ((cnt (n + 1) qs : Nat) : Int) + L2 = (A : Int) ∧
      ((A : Int) - 3 * ((i + 1 : Nat) : Int) ≤ L2 ∨ lowL n - 3 * ((i + 1 : Nat) : Int) ≤ L2) ∧ Td K H2 (.ref pa) (wsD (ones W)) ∧ BagL H2 b g l L2 ∧ Frl b g l H H2) ?_
    refine ⟨_, rfl, _, rfl, _, rfl, _, rfl, _, rfl, ?_⟩
    refine ⟨b, g, l, W, 0, .ref pa, ones W, L2, rfl, B2, av2, by unfold ones; rw [List.length_replicate], ones_ch, by omega, hW1, hW5, fun v qn L3 H3 tv ok3 nok3 c3 low3 B3 F3 => ?_⟩
    have k3 := B2.kt (K := K) F3
    have h3 := F3 T _ h2 Tb Tg Tl'
    have kT : KT K H3 (upd H3 T (.lst (us ++ [v]))) := KT.updL h3
    refine ⟨us, h3, ?_, us ++ [v], qs ++ [qn], L3, by rw [List.length_append, hq]; rfl, upd_same, ?_, ?_, ?_, ?_, av2.keep (k3.trans kT), B3.updN Tb Tg Tl', (F2.trans F3).updN T0⟩
    · rw [t2.len, List.length_map]
      exact small1000 (by omega)
    · rw [List.map_append]
      exact (t2.keep (k3.trans kT)).app (.cons (tv.keep kT) .nil)
    · intro q' hq'
      rcases List.mem_append.mp hq' with h | h
      · exact ok2 q' h
      · rw [List.mem_singleton.mp h]
        exact ⟨ok3, nok3⟩
    · rw [cnt_snoc]
      omega
    · rcases low2 with l2 | l2 <;> rcases low3 with l3 | l3 <;> omega
  · rintro H2 ⟨us, qs, L2, hq, h2, t2, ok2, c2, low2, av2, B2, F2⟩
    refine ⟨_, rfl, T, us, rfl, SqL.of h2, fun v H3 s3 q3 => ?_⟩
    refine q (.ref v) qs H3 (.tup q3 (t2.keep (Same.kt s3))) ⟨by show qs.length ≤ 5; omega, ok2⟩ ?_ ((B2.keep s3).B) ?_
    · have e2 : lowL n = -(3 * (n : Int) + 2) := rfl
      rcases low2 with l2 | l2 <;> omega
    · intro a o ha h1 h2'
      exact (F2.trans (.of s3)) a o ha h1 h2' (fun z => by rw [z, nl0] at ha; cases ha)
end
end Tl
namespace Tl
open PySem PySem.Spec PyProof.Rows L2 RZ
/-- the module's constants -/
structure Cst (K : PySem.W.Frag) (mg : Str → Option Value) (aN aO : Addr) (t1 t2 t3 t4 t5 t6 t7 : Tok) : Prop where
  gcd : mg "gcd" = some (.builtin "math.gcd")
  lcm : mg "lcm" = some (.builtin "math.lcm")
  NOUGHT : mg "NOUGHT" = some (.ref aN)
  ONE : mg "ONE" = some (.ref aO)
  tN : ∀ H, SqT K H aN [.int 0, .int 1]
  tO : ∀ H, SqT K H aO [.int 1, .int 1]
  MOST_QUESTIONS : mg "MOST_QUESTIONS" = some (.int 5 t1)
  MOST_WORDS : mg "MOST_WORDS" = some (.int 12 t2)
  MOST_NUMBERS : mg "MOST_NUMBERS" = some (.int 8 t3)
  MOST_ON_A_WAY : mg "MOST_ON_A_WAY" = some (.int 8 t4)
  MOST_PASSED : mg "MOST_PASSED" = some (.int 1500 t5)
  MOST_ROUNDS : mg "MOST_ROUNDS" = some (.int 12 t6)
  MOST_ANSWERS : mg "MOST_ANSWERS" = some (.int 3000 t7)
theorem tyx_tup {K : PySem.W.Frag} {H : Hp} {a : Addr} {xs : List V} (h : SqT K H a xs) : TyX K H (.ref a) (.type "tuple") := by
  rcases h with (h | ⟨o, h⟩) | ⟨o, its, n, h, c, _⟩
  · exact .base (.tup h)
  · exact .fTuple h
  · exact .kTuple h c
def spIntegral : Sp := fun vs H Q _ => ∃ i : Int, vs = [.int i] ∧ Q (.bl true) H
def spNumber : Sp := fun vs H Q _ => ∃ i lo hi : Int, vs = [.int i, .int lo, .int hi] ∧ Q (.bl (decide (lo ≤ i) && decide (i ≤ hi))) H
def spFraction (K : PySem.W.Frag) : Sp := fun vs H Q _ => ∃ (v : V) (q : Rat), vs = [v] ∧ Td K H v (rD q) ∧ Q (.bl true) H
def spChance (K : PySem.W.Frag) : Sp := fun vs H Q _ => ∃ (v : V) (q : Rat), vs = [v] ∧ Td K H v (rD q) ∧ 0 ≤ q ∧ q ≤ 1 ∧ Q (.bl true) H
def spReduced (K : PySem.W.Frag) : Sp := fun vs H Q _ => ∃ (t : Int) (b : Nat), vs = [.int t, .int (b : Int)] ∧ 0 < b ∧ b < 2 ^ 4000 ∧ ∀ v H', Same H H' → Td K H' v (rD (mkRat t b)) → Q v H'
/-- small enough to be reckoned with -/
def Sm (q : Rat) : Prop := q.den < 2 ^ 1500 ∧ q.num.natAbs < 2 ^ 1500
theorem ll_lt1500 {e : Nat} (h : e ≤ 16) : LL ^ e < 2 ^ 1500 := Nat.lt_of_le_of_lt (ll_small (k := 1450) (by omega)) (Nat.pow_lt_pow_right (by decide) (by decide))
theorem Ch.sm {e : Nat} {q : Rat} (h : Ch e q) (he : e ≤ 16) : Sm q := ⟨Nat.lt_of_le_of_lt h.den (ll_lt1500 he), Nat.lt_of_le_of_lt h.num (ll_lt1500 he)⟩
def spAdded (K : PySem.W.Frag) : Sp := fun vs H Q _ => ∃ (x y : V) (p q : Rat), vs = [x, y] ∧ Td K H x (rD p) ∧ Td K H y (rD q) ∧ Sm p ∧ Sm q ∧ ∀ v H', Same H H' → Td K H' v (rD (p + q)) → Q v H'
theorem mapAt {α β : Type} {l : List α} {f : α → β} {i : Nat} {y : β} (h : (l.map f)[i]? = some y) : ∃ x, l[i]? = some x ∧ y = f x := by
  rw [List.getElem?_map] at h
  cases e : l[i]? with
  | none =>
    rw [e] at h
    cases h
  | some x =>
    rw [e] at h
    exact ⟨x, rfl, (Option.some.inj h).symm⟩
/-! fractions with one bottom -/
def fr (D : Nat) (n : Int) : Rat := mkRat n D
theorem fr_add {D : Nat} (hD : 0 < D) (m n : Int) : fr D m + fr D n = fr D (m + n) := mk_add m n D hD
theorem fsum_fr {D : Nat} (hD : 0 < D) : ∀ ns : List Int, fsum (ns.map (fr D)) = fr D ns.sum
  | [] => by
    show (0 : Rat) = mkRat 0 D
    rw [Rat.zero_mkRat]
  | n :: r => by
    rw [List.map_cons, fsum_cons, fsum_fr hD r, fr_add hD]
    rfl
def abssum (ns : List Int) : Nat := (ns.map Int.natAbs).sum
theorem abssum_cons (n : Int) (r : List Int) : abssum (n :: r) = n.natAbs + abssum r := rfl
theorem abssum_mem {ns : List Int} {n : Int} (h : n ∈ ns) : n.natAbs ≤ abssum ns := by
  induction ns with
  | nil => exact absurd h List.not_mem_nil
  | cons x r ih =>
    rw [abssum_cons]
    rcases List.mem_cons.mp h with rfl | h
    · omega
    · have := ih h
      omega
theorem fr_sm {D : Nat} (hD : 0 < D) (h : D < 2 ^ 1500) {n : Int} (hn : n.natAbs < 2 ^ 1500) : Sm (fr D n) := by
  refine ⟨Nat.lt_of_le_of_lt (mkRat_den_le n D hD) h, Nat.lt_of_le_of_lt ?_ hn⟩
  show (mkRat n D).num.natAbs ≤ _
  rw [(mkRat_parts n D hD).1]
  exact Int.natAbs_ediv_le_natAbs _ _
/-- the sums of pairs -/
def prs : List Int → List Int
  | a :: b :: r => (a + b) :: prs r
  | _ => []
theorem prs_len : ∀ ns : List Int, (prs ns).length = ns.length / 2
  | [] => by
    show 0 = 0 / 2
    decide
  | [a] => by
    show 0 = 1 / 2
    decide
  | a :: b :: r => by
    show (prs r).length + 1 = (r.length + 1 + 1) / 2
    rw [prs_len r]
    omega
theorem prs_at : ∀ (ns : List Int) (i : Nat) (x y : Int), ns[2 * i]? = some x → ns[2 * i + 1]? = some y → (prs ns)[i]? = some (x + y)
  | [], i, x, y, h, _ => by simp at h
  | [a], i, x, y, _, h => by simp at h
  | a :: b :: r, 0, x, y, h1, h2 => by
    cases h1
    cases h2
    rfl
  | a :: b :: r, i + 1, x, y, h1, h2 => by
    rw [show 2 * (i + 1) = 2 * i + 1 + 1 by omega] at h1 h2
    exact prs_at r i x y (by simpa using h1) (by simpa using h2)
def pw (ns : List Int) : List Int := prs ns ++ ns.drop (2 * (prs ns).length)
theorem pw_cons (a b : Int) (r : List Int) : pw (a :: b :: r) = (a + b) :: pw r := rfl
theorem pw_sum : ∀ ns : List Int, (pw ns).sum = ns.sum
  | [] => rfl
  | [a] => rfl
  | a :: b :: r => by
    rw [pw_cons]
    show (a + b) + (pw r).sum = a + (b + r.sum)
    rw [pw_sum r]
    omega
theorem pw_abs : ∀ ns : List Int, abssum (pw ns) ≤ abssum ns
  | [] => Nat.le_refl _
  | [a] => Nat.le_refl _
  | a :: b :: r => by
    rw [pw_cons, abssum_cons, abssum_cons, abssum_cons]
    have := pw_abs r
    omega
theorem pw_len (ns : List Int) : (pw ns).length = ns.length - (prs ns).length := by
  unfold pw
  have := prs_len ns
  rw [List.length_append, List.length_drop]
  omega
def frN (D : Nat) (r : Rat) : Int := r.num * ((D / r.den : Nat) : Int)
theorem fr_frN {D : Nat} (hD : 0 < D) {r : Rat} (h : r.den ∣ D) : fr D (frN D r) = r := by
  obtain ⟨k, e⟩ := h
  have d0 : 0 < r.den := Nat.pos_of_ne_zero r.den_nz
  have k0 : k ≠ 0 := fun z => by
    rw [z, Nat.mul_zero] at e
    omega
  have ek : D / r.den = k := by rw [e]; exact Nat.mul_div_cancel_left k d0
  unfold fr frN
  rw [ek]
  show mkRat (r.num * (k : Int)) D = r
  rw [e, Rat.mkRat_mul_right k0]
  exact rat_mk r
theorem frs_frN {D : Nat} (hD : 0 < D) : ∀ {rs : List Rat}, (∀ r ∈ rs, r.den ∣ D) → (rs.map (frN D)).map (fr D) = rs
  | [], _ => rfl
  | r :: rs, h => by
    rw [List.map_cons, List.map_cons, fr_frN hD (h r (List.mem_cons_self ..)), frs_frN hD fun x hx => h x (List.mem_cons_of_mem _ hx)]
theorem frN_abs {D : Nat} {r : Rat} (h : r.den ∣ D) (h0 : 0 ≤ r) (h1 : r ≤ 1) : (frN D r).natAbs ≤ D := by
  have a := (Rat.le_iff r 1).mp h1
  have b := Rat.num_nonneg.mpr h0
  have c : (1 : Rat).num = 1 := rfl
  have d : (1 : Rat).den = 1 := rfl
  rw [c, d] at a
  have n1 : r.num.natAbs ≤ r.den := by omega
  unfold frN
  rw [Int.natAbs_mul, Int.natAbs_natCast]
  have := Nat.mul_le_mul_right (D / r.den) n1
  rw [Nat.mul_div_cancel' h] at this
  exact this
theorem frNs_abs {D : Nat} : ∀ {rs : List Rat}, (∀ r ∈ rs, r.den ∣ D ∧ 0 ≤ r ∧ r ≤ 1) → abssum (rs.map (frN D)) ≤ rs.length * D
  | [], _ => by
    rw [List.length_nil, Nat.zero_mul]
    exact Nat.le_refl 0
  | r :: rs, h => by
    rw [List.map_cons, abssum_cons, List.length_cons, Nat.add_mul, Nat.one_mul]
    obtain ⟨a, b, c⟩ := h r (List.mem_cons_self ..)
    have := frN_abs a b c
    have := frNs_abs fun x hx => h x (List.mem_cons_of_mem _ hx)
    omega
theorem TdAll.drop {K : PySem.W.Frag} {H : Hp} : ∀ {us : List V} {ds : List PyData} (k : Nat), TdAll K H us ds → TdAll K H (us.drop k) (ds.drop k)
  | _, _, 0, h => h
  | _, _, _ + 1, .nil => .nil
  | _, _, k + 1, .cons _ t => TdAll.drop k t
theorem cut_drop {xs : List V} {k : Nat} (h : k ≤ xs.length) : cutV xs (some (k : Int)) none = xs.drop k := by
  unfold cutV
  rw [HT.sIx_nat, HT.sIx_none, Nat.min_eq_left h]
  exact List.take_of_length_le (by rw [List.length_drop]; omega)
theorem rat0_td {K : PySem.W.Frag} {H : Hp} {a : Addr} (h : SqT K H a [.int 0, .int 1]) : Td K H (.ref a) (rD 0) := by
  have e : rD 0 = .tuple [.int 0, .int 1] := rfl
  rw [e]
  exact .tup h (tdAll_ints [0, 1])
def spTotal (K : PySem.W.Frag) : Sp := fun vs H Q _ => ∃ (r : Addr) (us : List V) (D : Nat) (ns : List Int), vs = [.ref r] ∧ (SqL K H r us ∨ SqT K H r us) ∧ TdAll K H us ((ns.map (fr D)).map rD) ∧ 0 < D ∧ D < 2 ^ 1500 ∧ abssum ns < 2 ^ 1500 ∧ ns.length ≤ 1000 ∧
  ∀ v H', Same H H' → Td K H' v (rD (fsum (ns.map (fr D)))) → Q v H'
def tot (W : Nat) (rows : List (List Rat)) : List Rat := (List.range W).map fun j => fsum (rows.map fun r => r.getD j 0)
def spTotW (K : PySem.W.Frag) : Sp := fun vs H Q _ => ∃ (r : Addr) (us : List V) (W : Nat) (rows : List (List Rat)), vs = [.ref r, .int (W : Int)] ∧ SqL K H r us ∧ TdAll K H us (rows.map wsD) ∧ 1 ≤ W ∧ W ≤ 5 ∧ rows.length ≤ 900 ∧ (∀ x ∈ rows, x.length = W) ∧
  (∀ j, j < W → ∃ D : Nat, 0 < D ∧ D < 2 ^ 1500 ∧ (∀ x ∈ rows, (x.getD j 0).den ∣ D) ∧ abssum ((rows.map fun x => x.getD j 0).map (frN D)) < 2 ^ 1500) ∧ ∀ v H', Same H H' → Td K H' v (wsD (tot W rows)) → Q v H'
def spChances (K : PySem.W.Frag) : Sp := fun vs H Q _ => ∃ (v : V) (ws : List Rat), vs = [v, .int ((ws.length : Nat) : Int)] ∧ Td K H v (wsD ws) ∧ ws.length ≤ 100 ∧ (∀ r ∈ ws, 0 ≤ r ∧ r ≤ 1) ∧ ∀ H', Same H H' → Q (.bl true) H'
theorem tot_len (W : Nat) (rows : List (List Rat)) : (tot W rows).length = W := by
  unfold tot
  rw [List.length_map, List.length_range]
/-! the least common bottom -/
def lcmL (rs : List Rat) : Nat := rs.foldl (fun b r => Nat.lcm b r.den) 1
theorem lcmL_snoc (rs : List Rat) (r : Rat) : lcmL (rs ++ [r]) = Nat.lcm (lcmL rs) r.den := by
  unfold lcmL
  rw [List.foldl_append]
  rfl
theorem foldlcm : ∀ (rs : List Rat) (b : Nat), b ∣ rs.foldl (fun b r => Nat.lcm b r.den) b ∧ (∀ r ∈ rs, r.den ∣ rs.foldl (fun b r => Nat.lcm b r.den) b) ∧ (∀ D, b ∣ D → (∀ r ∈ rs, r.den ∣ D) → rs.foldl (fun b r => Nat.lcm b r.den) b ∣ D)
  | [], b => ⟨Nat.dvd_refl _, fun r h => absurd h List.not_mem_nil, fun D h _ => h⟩
  | x :: rs, b => by
    obtain ⟨h1, h2, h3⟩ := foldlcm rs (Nat.lcm b x.den)
    rw [List.foldl_cons]
    refine ⟨Nat.dvd_trans (Nat.dvd_lcm_left b x.den) h1, fun r hr => ?_, fun D hb hr => h3 D (Nat.lcm_dvd hb (hr x (List.mem_cons_self ..))) fun r h => hr r (List.mem_cons_of_mem _ h)⟩
    rcases List.mem_cons.mp hr with rfl | hr
    · exact Nat.dvd_trans (Nat.dvd_lcm_right b r.den) h1
    · exact h2 r hr
theorem lcmL_mem {rs : List Rat} {r : Rat} (h : r ∈ rs) : r.den ∣ lcmL rs := (foldlcm rs 1).2.1 r h
theorem lcmL_dvd {rs : List Rat} {D : Nat} (h : ∀ r ∈ rs, r.den ∣ D) : lcmL rs ∣ D := (foldlcm rs 1).2.2 D (Nat.one_dvd _) h
theorem lcmL_pos {rs : List Rat} {D : Nat} (hD : 0 < D) (h : ∀ r ∈ rs, r.den ∣ D) : 0 < lcmL rs := Nat.pos_of_dvd_of_pos (lcmL_dvd h) hD
theorem fr_den {D : Nat} (hD : 0 < D) (n : Int) : (fr D n).den ∣ D := by
  unfold fr
  rw [Rat.den_mkRat, if_neg (by omega)]
  exact Nat.div_dvd_of_dvd (Nat.gcd_dvd_left _ _)
theorem fr_num_le {D : Nat} (hD : 0 < D) (n : Int) : (fr D n).num.natAbs ≤ n.natAbs := by
  show (mkRat n D).num.natAbs ≤ _
  rw [(mkRat_parts n D hD).1]
  exact Int.natAbs_ediv_le_natAbs _ _
theorem fsum_lcm {rs : List Rat} {D : Nat} (hD : 0 < D) (h : ∀ r ∈ rs, r.den ∣ D) : mkRat (rs.map (frN (lcmL rs))).sum (lcmL rs) = fsum rs := by
  have e := frs_frN (lcmL_pos hD h) (rs := rs) fun r hr => lcmL_mem hr
  have s := fsum_fr (lcmL_pos hD h) (rs.map (frN (lcmL rs)))
  rw [e] at s
  exact s.symm
def spCB (K : PySem.W.Frag) : Sp := fun vs H Q _ => ∃ (r : Addr) (us : List V) (D : Nat) (rs : List Rat), vs = [.ref r] ∧ (SqL K H r us ∨ SqT K H r us) ∧ TdAll K H us (rs.map rD) ∧ 0 < D ∧ D < 2 ^ 1500 ∧ (∀ x ∈ rs, x.den ∣ D) ∧ Q (.int ((lcmL rs : Nat) : Int)) H
def spTW (K : PySem.W.Frag) : Sp := fun vs H Q _ => ∃ (v : V) (r : Rat) (m : Nat), vs = [v, .int (m : Int)] ∧ Td K H v (rD r) ∧ m < 2 ^ 1500 ∧ r.num.natAbs < 2 ^ 1500 ∧ r.den < 2 ^ 1500 ∧ Q (.int (frN m r)) H
def DTot (K : PySem.W.Frag) (mg : Str → Option Value) (f : Addr) (fd : FuncData) : Prop := Dn K mg "common_bottom" s_common_bottom ["fractions"] f fd ∧ ∃ f2 fd2, Dn K mg "times_whole" s_times_whole ["fraction", "whole"] f2 fd2
section
variable {P : Program} {w : World} {K : PySem.W.Frag} {mg : Str → Option Value} {base : Heap} {aN aO : Addr} {t1 t2 t3 t4 t5 t6 t7 : Tok}
theorem ok_is_integral {f : Addr} {fd : FuncData} (D : Dn K mg "is_integral" s_is_integral ["thing"] f fd) (B : Blt mg) : FnOk P w K mg base CX0 1 f fd ["thing"] spIntegral := by
  refine D.F.ok sc_is_integral (fun vs H Q E h => ?_) (fun cdv A outer s H vs Q E hr h => ?_)
  · obtain ⟨i, rfl, _⟩ := h
    rfl
  obtain ⟨i, rfl, q⟩ := h
  have nd := sc_is_integral.nd
  refine ⟨_, (pss_one (ps_ret (pe_and (pe_callB (k_isi (K := K) rfl) (by rfl) B.isinstance (by decide +kernel) (pa_cons (pv 0) (pa_cons (pe_bltn (v := .ty "int") (u := .type "int") (by rfl) B.int (by decide +kernel) rfl) pa_nil))) (pe_one (pe_not (pe_callB (k_isi (K := K) rfl) (by rfl) B.isinstance (by decide +kernel) (pa_cons (pv 0) (pa_cons (pe_bltn (v := .ty "bool") (u := .type "bool") (by rfl) B.bool (by decide +kernel) rfl) pa_nil)))))))), ?_⟩
  refine ⟨_, rfl, _, _, _, _, true, rfl, .ty "int", .base (.int i), kit_ty (by decide +kernel), _, rfl, ?_⟩
  refine iteT ⟨_, rfl, _, _, _, _, false, rfl, .ty "bool", .base (.int i), kit_ty (by decide +kernel), _, rfl, q⟩
theorem ok_is_number {f f1 : Addr} {fd fd1 : FuncData} (D : Dn K mg "is_number" s_is_number ["thing", "least", "most"] f fd) (B : Blt mg) (D_is_integral : Dn K mg "is_integral" s_is_integral ["thing"] f1 fd1) : FnOk P w K mg base CX0 2 f fd ["thing", "least", "most"] spNumber := by
  have G_is_integral : FnOk P w K mg base CX0 1 f1 fd1 ["thing"] spIntegral := ok_is_integral D_is_integral B
  refine D.F.ok sc_is_number (fun vs H Q E h => ?_) (fun cdv A outer s H vs Q E hr h => ?_)
  · obtain ⟨i, lo, hi, rfl, _⟩ := h
    rfl
  obtain ⟨i, lo, hi, rfl, q⟩ := h
  have nd := sc_is_number.nd
  refine ⟨_, (pss_one (ps_ret (pe_and (pe_call G_is_integral (hr.mono (by omega)) (by rfl) D_is_integral.m D_is_integral.F.kp D_is_integral.b .nil pass0 (pa_cons (pv 0) pa_nil)) (pe_one (pe_chain op_le op_le (pv 1) (pv 0) (pv 2)))))), ?_⟩
  refine ⟨_, rfl, i, rfl, _, rfl, iteT ⟨_, rfl, _, rfl, _, _, rfl, rfl, _, rfl, ?_⟩⟩
  refine ite2 (fun c => ?_) (fun c => ?_)
  · have e : (decide (lo ≤ i) && decide (i ≤ hi)) = decide (i ≤ hi) := by rw [c, Bool.true_and]
    rw [e] at q
    exact ⟨_, rfl, _, _, rfl, rfl, q⟩
  · have c : decide (lo ≤ i) = false := Bool.eq_false_iff.mpr c
    rw [c, Bool.false_and] at q
    exact q
theorem ok_is_fraction {f f1 : Addr} {fd fd1 : FuncData} (D : Dn K mg "is_fraction" s_is_fraction ["thing"] f fd) (B : Blt mg) (C : Cst K mg aN aO t1 t2 t3 t4 t5 t6 t7) (D_is_integral : Dn K mg "is_integral" s_is_integral ["thing"] f1 fd1) : FnOk P w K mg base CX0 2 f fd ["thing"] (spFraction K) := by
  have G_is_integral : FnOk P w K mg base CX0 1 f1 fd1 ["thing"] spIntegral := ok_is_integral D_is_integral B
  refine D.F.ok sc_is_fraction (fun vs H Q E h => ?_) (fun cdv A outer s H vs Q E hr h => ?_)
  · obtain ⟨v, r, rfl, _⟩ := h
    rfl
  obtain ⟨v, r, rfl, hv, q⟩ := h
  have nd := sc_is_fraction.nd
  refine ⟨_, (pss_cons (ps_if (PW.pt (pw_or (pt_not (pt_val (pe_callB (k_isi (K := K) rfl) (by rfl) B.isinstance (by decide +kernel) (pa_cons (pv 0) (pa_cons (pe_bltn (v := .ty "tuple") (u := .type "tuple") (by rfl) B.tuple (by decide +kernel) rfl) pa_nil))))) (pw_or1 (pt_cmpR op_ne (pe_callB (k_len (K := K) rfl) (by rfl) B.len PySem.boot_len (pa_cons (pv 0) pa_nil)) pe_int (nomark _))))) (pss_one (ps_ret pe_bl)) pss_nil)
      (pss_cons (ps_asg (pv 0) (k_tup (K := K) (n := 2) rfl rfl (pgs_cons (pg_name (i := 1) nd rfl (.inl rfl)) (pgs_cons (pg_name (i := 2) nd rfl (.inl rfl)) pgs_nil))))
      (pss_one (ps_ret (pe_and (pe_call G_is_integral (hr.mono (by omega)) (by rfl) D_is_integral.m D_is_integral.F.kp D_is_integral.b .nil pass0 (pa_cons (pv 1) pa_nil)) (pe_and (pe_call G_is_integral (hr.mono (by omega)) (by rfl) D_is_integral.m D_is_integral.F.kp D_is_integral.b .nil pass0 (pa_cons (pv 2) pa_nil)) (pe_and (pe_cmpR op_ge (pv 2) pe_int (nomark _)) (pe_one (pe_cmpR op_eq (pe_callBfun cr_gcd (by rfl) C.gcd (pa_cons (pv 1) (pa_cons (pv 2) pa_nil))) pe_int (nomark _)))))))))), ?_⟩
  obtain ⟨a, rfl, hs⟩ := hv.rE
  refine ⟨_, rfl, _, _, _, _, true, rfl, .ty "tuple", tyx_tup hs, kit_ty (by decide +kernel), _, rfl, iteF ?_⟩
  refine ⟨_, rfl, a, _, rfl, .inr hs, rfl, _, rfl, iteF ?_⟩
  refine ⟨_, rfl, a, _, rfl, hs, rfl, _, _, rfl, _, _, rfl, rfl, ?_⟩
  have hd : 0 < r.den := Nat.pos_of_ne_zero r.den_nz
  have hd1 : decide ((r.den : Int) ≥ 1) = true := decide_eq_true (by omega)
  refine ⟨_, rfl, _, rfl, _, rfl, iteT ⟨_, rfl, _, rfl, _, rfl, iteT ⟨_, rfl, _, _, rfl, rfl, _, rfl, ?_⟩⟩⟩
  rw [hd1]
  refine iteT ⟨_, rfl, _, rfl, _, _, rfl, rfl, ?_⟩
  have hg : Nat.gcd r.num.natAbs ((r.den : Int)).natAbs = 1 := by
    rw [Int.natAbs_natCast]
    exact r.reduced
  show Q (.bl (decide (V.int ((Nat.gcd r.num.natAbs ((r.den : Int)).natAbs : Nat) : Int) = V.int 1))) H
  rw [hg]
  exact q
theorem rat_bound {q : Rat} (h0 : 0 ≤ q) (h1 : q ≤ 1) : 0 ≤ q.num ∧ q.num ≤ (q.den : Int) := by
  have a := (Rat.le_iff q 1).mp h1
  have b := Rat.num_nonneg.mpr h0
  have c : (1 : Rat).num = 1 := rfl
  have d : (1 : Rat).den = 1 := rfl
  rw [c, d] at a
  omega
theorem ok_is_chance {f f1 f2 : Addr} {fd fd1 fd2 : FuncData} (D : Dn K mg "is_chance" s_is_chance ["thing"] f fd) (B : Blt mg) (C : Cst K mg aN aO t1 t2 t3 t4 t5 t6 t7) (D_is_integral : Dn K mg "is_integral" s_is_integral ["thing"] f1 fd1) (D_is_fraction : Dn K mg "is_fraction" s_is_fraction ["thing"] f2 fd2) : FnOk P w K mg base CX0 3 f fd ["thing"] (spChance K) := by
  have G_is_fraction : FnOk P w K mg base CX0 2 f2 fd2 ["thing"] (spFraction K) := ok_is_fraction D_is_fraction B C D_is_integral
  refine D.F.ok sc_is_chance (fun vs H Q E h => ?_) (fun cdv A outer s H vs Q E hr h => ?_)
  · obtain ⟨v, r, rfl, _⟩ := h
    rfl
  obtain ⟨v, r, rfl, hv, h0, h1, q⟩ := h
  have nd := sc_is_chance.nd
  refine ⟨_, (pss_one (ps_ret (pe_and (pe_call G_is_fraction (hr.mono (by omega)) (by rfl) D_is_fraction.m D_is_fraction.F.kp D_is_fraction.b .nil pass0 (pa_cons (pv 0) pa_nil)) (pe_one (pe_chain op_le op_le pe_int (pe_ix (k_ixT (K := K) rfl) (pv 0) pe_int (fun _ _ => rfl)) (pe_ix (k_ixT (K := K) rfl) (pv 0) pe_int (fun _ _ => rfl))))))), ?_⟩
  obtain ⟨a, rfl, hs⟩ := id hv.rE
  obtain ⟨b0, b1⟩ := rat_bound h0 h1
  refine ⟨_, rfl, _, r, rfl, hv, _, rfl, iteT ⟨_, rfl, a, _, 0, _, rfl, rfl, hs, at_of (j := 0) rfl rfl, _, _, rfl, rfl, _, rfl, ?_⟩⟩
  rw [decide_eq_true b0]
  refine iteT ⟨_, rfl, a, _, 1, _, rfl, rfl, hs, at_of (j := 1) rfl rfl, _, _, rfl, rfl, ?_⟩
  show Q (.bl (decide (r.num ≤ (r.den : Int)))) H
  rw [decide_eq_true b1]
  exact q
theorem ok_reduced {f : Addr} {fd : FuncData} (D : Dn K mg "reduced" s_reduced ["top", "bottom"] f fd) (B : Blt mg) (C : Cst K mg aN aO t1 t2 t3 t4 t5 t6 t7) : FnOk P w K mg base CX0 1 f fd ["top", "bottom"] (spReduced K) := by
  refine D.F.ok sc_reduced (fun vs H Q E h => ?_) (fun cdv A outer s H vs Q E hr h => ?_)
  · obtain ⟨a, b, rfl, _⟩ := h
    rfl
  obtain ⟨t, b, rfl, hb, hz, q⟩ := h
  have nd := sc_reduced.nd
  refine ⟨_, (pss_cons (ps_set (i := 2) nd rfl (.inl rfl) (pe_callBfun cr_gcd (by rfl) C.gcd (pa_cons (pv 0) (pa_cons (pv 1) pa_nil))))
      (pss_one (ps_ret (pe_tup (pa_cons (pe_op op_fdivW (pv 0) (pv 2)) (pa_cons (pe_op op_fdivW (pv 1) (pv 2)) pa_nil)))))), ?_⟩
  refine ⟨_, rfl, _, rfl, _, _, rfl, ?_⟩
  rw [Int.natAbs_natCast]
  have hg0 : 0 < Nat.gcd t.natAbs b := Nat.gcd_pos_of_pos_right _ hb
  have hg1 : Nat.gcd t.natAbs b ≤ b := Nat.gcd_le_right _ hb
  have hg2 : ((Nat.gcd t.natAbs b : Nat) : Int).natAbs < 2 ^ 4000 := by
    rw [Int.natAbs_natCast]
    omega
  have dv : ∀ i : Int, CDivW i ((Nat.gcd t.natAbs b : Nat) : Int) := fun i => wide_div (b := 4000) (by omega) hg2 (by decide) (by decide)
  refine ⟨_, rfl, _, rfl, _, _, rfl, rfl, dv _, _, rfl, _, rfl, _, _, rfl, rfl, dv _, (by show 2 ≤ sizeLine; decide), fun p hp => ?_⟩
  exact q _ _ (same_upd hp) (td_rD hb upd_same)
theorem ok_common_bottom {f : Addr} {fd : FuncData} (D : Dn K mg "common_bottom" s_common_bottom ["fractions"] f fd) (B : Blt mg) (C : Cst K mg aN aO t1 t2 t3 t4 t5 t6 t7) : FnOk P w K mg base CX0 1 f fd ["fractions"] (spCB K) := by
  refine D.F.ok sc_common_bottom (fun vs H Q E h => ?_) (fun cdv A outer s H vs Q E hr h => ?_)
  · obtain ⟨r, us, D, rs, rfl, _⟩ := h
    rfl
  obtain ⟨r, us, d, rs, rfl, hS, tS, d0, d1, hdv, q⟩ := h
  have nd := sc_common_bottom.nd
  refine ⟨_, (pss_cons (ps_set (i := 1) nd rfl (.inl rfl) pe_int)
      (pss_cons (ps_for PassesOwn.never rfl (k_iLT (K := K) rfl (pv 0)) (pg_name (i := 2) nd rfl (.inl rfl)) (pss_one (ps_set (i := 1) nd rfl (.inl rfl) (pe_callBfun cr_lcm (by rfl) C.lcm (pa_cons (pv 1) (pa_cons (pe_ix (k_ixT (K := K) rfl) (pv 2) pe_int (fun _ _ => rfl)) pa_nil))))))
      (pss_one (ps_ret (pv 1))))), ?_⟩
  have lu : us.length = rs.length := by rw [tS.len, List.length_map]
  refine ⟨_, rfl, r, us, rfl, hS, fun J G w1 hG => for_it w1 (fun i σ H2 => H2 = H ∧ ∃ o2 : Option V, σ = [some (.ref r), some (.int ((lcmL (rs.take i) : Nat) : Int)), o2]) ⟨rfl, none, rfl⟩ (fun i σ H2 _ h => by rw [h.1]; exact hG _ (Same.refl _)) ?_ ?_⟩
  · rintro i x σ H0 H2 hi ⟨rfl, o2, rfl⟩ ⟨rfl, e1⟩
    obtain ⟨dx, ex, tx⟩ := tS.getV e1
    obtain ⟨x', er, rfl⟩ := mapAt ex
    obtain ⟨a, rfl, ha⟩ := tx.rE
    have l1 : lcmL (rs.take i) ∣ d := lcmL_dvd fun z hz => hdv z (List.mem_of_mem_take hz)
    have l2 := hdv x' (List.mem_of_getElem? er)
    have z : ∀ {m : Nat}, m ∣ d → m < 2 ^ 6000 := fun {m} h => Nat.lt_of_le_of_lt (Nat.le_of_dvd d0 h) (Nat.lt_trans d1 (Nat.pow_lt_pow_right (by decide) (by decide)))
    refine ⟨_, rfl, _, rfl, a, _, 1, _, rfl, rfl, ha, at_of (j := 1) rfl rfl, _, _, rfl, z l1, z l2, rfl, some (.ref a), ?_⟩
    rw [List.take_add_one, er]
    show [some (V.ref r), some (.int ((Nat.lcm (lcmL (rs.take i)) x'.den : Nat) : Int)), some (V.ref a)] = [some (V.ref r), some (.int ((lcmL (rs.take i ++ [x']) : Nat) : Int)), _]
    rw [lcmL_snoc]
  · rintro σ H2 ⟨rfl, o2, rfl⟩
    rw [lu, List.take_length]
    exact ⟨_, rfl, q⟩
theorem ok_times_whole {f : Addr} {fd : FuncData} (D : Dn K mg "times_whole" s_times_whole ["fraction", "whole"] f fd) (B : Blt mg) (C : Cst K mg aN aO t1 t2 t3 t4 t5 t6 t7) : FnOk P w K mg base CX0 1 f fd ["fraction", "whole"] (spTW K) := by
  refine D.F.ok sc_times_whole (fun vs H Q E h => ?_) (fun cdv A outer s H vs Q E hr h => ?_)
  · obtain ⟨v, r, m, rfl, _⟩ := h
    rfl
  obtain ⟨v, r, m, rfl, tv, m0, n0, b0, q⟩ := h
  have nd := sc_times_whole.nd
  refine ⟨_, (pss_one (ps_ret (pe_op op_mulW (pe_ix (k_ixT (K := K) rfl) (pv 0) pe_int (fun _ _ => rfl)) (pe_op op_fdivW (pv 1) (pe_ix (k_ixT (K := K) rfl) (pv 0) pe_int (fun _ _ => rfl)))))), ?_⟩
  obtain ⟨a, rfl, ha⟩ := tv.rE
  have hd : 0 < r.den := Nat.pos_of_ne_zero r.den_nz
  have q0 : ((m : Int) / (r.den : Int)) = ((m / r.den : Nat) : Int) := (Int.natCast_ediv _ _).symm
  have q1 : m / r.den < 2 ^ 1500 := Nat.lt_of_le_of_lt (Nat.div_le_self _ _) m0
  refine ⟨_, rfl, a, _, 0, _, rfl, rfl, ha, at_of (j := 0) rfl rfl, _, rfl, _, rfl, a, _, 1, _, rfl, rfl, ha, at_of (j := 1) rfl rfl, _, _, rfl, rfl, wide_div (b := 1500) (by omega) (by rw [Int.natAbs_natCast]; exact b0) (by decide) (by decide), _, _, rfl, rfl, ?_, ?_⟩
  · rw [q0]
    exact wide_mul n0 (by rw [Int.natAbs_natCast]; exact q1) (by decide) (by decide) (by decide)
  · show Q (.int (r.num * ((m : Int) / (r.den : Int)))) H
    rw [q0]
    exact q
theorem ok_total {f f1 f2 : Addr} {fd fd1 fd2 : FuncData} (D : Dn K mg "total" s_total ["fractions"] f fd) (B : Blt mg) (C : Cst K mg aN aO t1 t2 t3 t4 t5 t6 t7) (D_reduced : Dn K mg "reduced" s_reduced ["top", "bottom"] f1 fd1) (D_added : DTot K mg f2 fd2) : FnOk P w K mg base CX0 3 f fd ["fractions"] (spTotal K) := by
  obtain ⟨D_common_bottom, f3, fd3, D_times_whole⟩ := D_added
  have G_reduced : FnOk P w K mg base CX0 1 f1 fd1 ["top", "bottom"] (spReduced K) := ok_reduced D_reduced B C
  have G_common_bottom : FnOk P w K mg base CX0 1 f2 fd2 ["fractions"] (spCB K) := ok_common_bottom D_common_bottom B C
  have G_times_whole : FnOk P w K mg base CX0 1 f3 fd3 ["fraction", "whole"] (spTW K) := ok_times_whole D_times_whole B C
  refine D.F.ok sc_total (fun vs H Q E h => ?_) (fun cdv A outer s H vs Q E hr h => ?_)
  · obtain ⟨r, us, d, ns, rfl, _⟩ := h
    rfl
  obtain ⟨r, us, d, ns, rfl, hS, tS, hd0, hd1, hb, hl, k⟩ := h
  have nd := sc_total.nd
  refine ⟨_, (pss_cons (ps_set (i := 1) nd rfl (.inr rfl) (pe_call G_common_bottom (hr.mono (by omega)) (by rfl) D_common_bottom.m D_common_bottom.F.kp D_common_bottom.b .nil pass0 (pa_cons (pv 0) pa_nil)))
      (pss_one (ps_ret (pe_call G_reduced (hr.mono (by omega)) (by rfl) D_reduced.m D_reduced.F.kp D_reduced.b .nil pass0 (pa_cons (pe_callB (k_sum (K := K) rfl rfl) (by rfl) B.sum (by decide +kernel) (pa_cons (pe_lc (own := [("fraction", 2)]) rfl nd (k_iLT (K := K) rfl (pv 0)) (blkOk_by (own := [("fraction", 2)]) (by kernel_rfl)) (fun _ _ _ _ _ => (pg_name (i := 2) nd rfl (.inl rfl))) (fun _ _ _ _ _ => pts_nil) (fun _ _ _ _ _ => (pe_call G_times_whole (hr.mono (by omega)) (by rfl) D_times_whole.m D_times_whole.F.kp D_times_whole.b .nil pass0 (pa_cons (pv 2) (pa_cons (pv 1) pa_nil))))) pa_nil)) (pa_cons (pv 1) pa_nil)))))), ?_⟩
  have hdv : ∀ x ∈ ns.map (fr d), x.den ∣ d := fun x hx => by
    obtain ⟨n, _, rfl⟩ := List.mem_map.mp hx
    exact fr_den hd0 n
  have hnum : ∀ x ∈ ns.map (fr d), x.num.natAbs < 2 ^ 1500 := fun x hx => by
    obtain ⟨n, hn, rfl⟩ := List.mem_map.mp hx
    exact Nat.lt_of_le_of_lt (Nat.le_trans (fr_num_le hd0 n) (abssum_mem hn)) hb
  have lu : us.length = ns.length := by rw [tS.len, List.length_map, List.length_map]
  have lr : (ns.map (fr d)).length = ns.length := List.length_map ..
  have esum := fsum_lcm hd0 hdv
  have lpos := lcmL_pos hd0 hdv
  have lle := Nat.le_of_dvd hd0 (lcmL_dvd hdv)
  generalize ns.map (fr d) = rs at tS hdv hnum k esum lpos lle lr
  refine ⟨_, rfl, r, us, d, rs, rfl, hS, tS, hd0, hd1, hdv, ?_⟩
  refine ⟨_, rfl, r, us, rfl, hS, fun J G w1 hG T hT => lc_it w1 (fun i H2 => H2 T = some (.lst (((rs.map (frN (lcmL rs))).take i).map V.int)) ∧ Same H H2) ⟨upd_same, same_upd hT⟩ (fun i H2 _ h => hG H2 h.2) ?_ ?_⟩
  · rintro i x H0 H2 hi ⟨h2, s2⟩ ⟨rfl, e1⟩
    obtain ⟨dx, ex, tx⟩ := tS.getV e1
    obtain ⟨x', er, rfl⟩ := mapAt ex
    have m1 := List.mem_of_getElem? er
    refine ⟨rfl, ?_⟩
    refine iteT (B := H2 T = some (.lst (((rs.map (frN (lcmL rs))).take (i + 1)).map V.int)) ∧ Same H H2) ?_
    refine ⟨_, rfl, _, rfl, x, x', lcmL rs, rfl, tx.keep (Same.kt s2), Nat.lt_of_le_of_lt lle hd1, hnum _ m1, Nat.lt_of_le_of_lt (Nat.le_of_dvd hd0 (hdv _ m1)) hd1, _, h2, ?_, ?_, fun c o y => ?_⟩
    · rw [List.length_map, List.length_take]
      exact small1000 (by omega)
    · rw [upd_same, List.take_add_one, List.getElem?_map, er, List.map_append]
      rfl
    · rw [upd_ne (ne_of_none y hT)]
      exact s2 _ _ y
  · rintro H2 ⟨h2, s2⟩
    rw [lu, ← lr] at h2
    rw [List.take_of_length_le (by rw [List.length_map]; exact Nat.le_refl _)] at h2
    refine ⟨T, _, rfl, SqL.of h2, _, rfl, _, lcmL rs, rfl, lpos, Nat.lt_of_le_of_lt lle (Nat.lt_trans hd1 (Nat.pow_lt_pow_right (by decide) (by decide))), fun v H3 s3 tv => ?_⟩
    rw [esum] at tv
    exact k v H3 (s2.trans s3) tv
theorem ok_total_weights {f f1 f2 f3 : Addr} {fd fd1 fd2 fd3 : FuncData} (D : Dn K mg "total_weights" s_total_weights ["rows", "worlds"] f fd) (B : Blt mg) (C : Cst K mg aN aO t1 t2 t3 t4 t5 t6 t7) (D_reduced : Dn K mg "reduced" s_reduced ["top", "bottom"] f1 fd1) (D_added : DTot K mg f2 fd2)
    (D_total : Dn K mg "total" s_total ["fractions"] f3 fd3) : FnOk P w K mg base CX0 4 f fd ["rows", "worlds"] (spTotW K) := by
  have G_total : FnOk P w K mg base CX0 3 f3 fd3 ["fractions"] (spTotal K) := ok_total D_total B C D_reduced D_added
  refine D.F.ok sc_total_weights (fun vs H Q E h => ?_) (fun cdv A outer s H vs Q E hr h => ?_)
  · obtain ⟨x, y, p, q, rfl, _⟩ := h
    rfl
  obtain ⟨r, us, W, rows, rfl, hS, tS, hW1, hW5, hlr, hrow, hcol, k⟩ := h
  have nd := sc_total_weights.nd
  refine ⟨_, (pss_one (ps_ret (pe_callTy (k_tupOf (K := K) rfl) (by rfl) B.tuple (by decide +kernel) (pa_cons (pe_lc (own := [("world", 3)]) rfl nd (pi_range1 (by rfl) B.range (pa_cons (pv 1) pa_nil)) (blkOk_by (own := [("world", 3)]) (by kernel_rfl)) (fun _ _ _ _ _ => (pg_name (i := 3) nd rfl (.inr rfl))) (fun _ _ _ _ _ => pts_nil) (fun _ _ _ _ _ => (pe_call G_total (hr.mono (by omega)) (by rfl) D_total.m D_total.F.kp D_total.b .nil pass0 (pa_cons (pe_lc (own := [("weights", 2)]) rfl nd (k_iL (K := K) rfl (pv 0)) (blkOk_by (own := [("weights", 2)]) (by kernel_rfl)) (fun _ _ _ _ _ => (pg_name (i := 2) nd rfl (.inl rfl))) (fun _ _ _ _ _ => pts_nil) (fun _ _ _ _ _ => (pe_ix (k_ixT (K := K) rfl) (pv 2) (pv 3) (fun _ _ => rfl)))) pa_nil)))) pa_nil)))), ?_⟩
  have lu : us.length = rows.length := by rw [tS.len, List.length_map]
  refine ⟨_, rfl, _, rfl, by omega, by omega, fun T hT => ?_⟩
  refine lc_range (lo := 0) (n := W) (fun i H2 => ∃ vs : List V, H2 T = some (.lst vs) ∧ TdAll K H2 vs (((tot W rows).take i).map rD) ∧ Same H H2) ⟨[], upd_same, .nil, same_upd hT⟩ ?_ ?_
  · rintro i H2 hi ⟨vs, h2, t2, s2⟩
    refine ⟨rfl, ?_⟩
    refine iteT (B := ∃ vs : List V, H2 T = some (.lst vs) ∧ TdAll K H2 vs (((tot W rows).take (i + 1)).map rD) ∧ Same H H2) ?_
    obtain ⟨d, d0, d1, hdv, hab⟩ := hcol i hi
    refine ⟨_, rfl, r, rfl, ⟨_, s2.seq hS⟩, fun T2 hT2 => ?_⟩
    refine lc_list (K := K) (a := r) (xs := us) (fun j H3 => ∃ ws : List V, H3 T2 = some (.lst ws) ∧ TdAll K H3 ws (((rows.take j).map fun x => x.getD i 0).map rD) ∧ Same H2 H3) ⟨[], upd_same, .nil, same_upd hT2⟩ (fun j H3 _ h => ?_) ?_ ?_
    · obtain ⟨_, _, _, s3⟩ := h
      exact s3.seq (s2.seq hS)
    · rintro j y H3 hj ⟨ws, h3, t3, s3⟩
      obtain ⟨dy, ey, ty⟩ := tS.getV hj
      obtain ⟨x, hx, rfl⟩ := mapAt ey
      have lx := hrow x (List.mem_of_getElem? hx)
      have ty3 := ty.keep (Same.kt (s2.trans s3))
      obtain ⟨b, zs, rfl, hb, tz⟩ := ty3.tupE
      have gx : x[i]? = some (x.getD i 0) := by
        rw [List.getD_eq_getElem?_getD, List.getElem?_eq_getElem (show i < x.length by omega)]
        rfl
      obtain ⟨z, ez, tz1⟩ := tz.get (i := i) (d := rD (x.getD i 0)) (by rw [List.getElem?_map, gx]; rfl)
      have kT : KT K H3 (upd H3 T2 (.lst (ws ++ [z]))) := KT.updL h3
      refine ⟨rfl, ?_⟩
      refine iteT (B := ∃ ws : List V, H3 T2 = some (.lst ws) ∧ TdAll K H3 ws (((rows.take (j + 1)).map fun x => x.getD i 0).map rD) ∧ Same H2 H3) ?_
      refine ⟨_, rfl, _, rfl, b, zs, (0 + (i : Int)), z, rfl, rfl, hb, at_of (j := i) (by omega) ez, ws, h3, ?_, ws ++ [z], upd_same, ?_, fun c o w => ?_⟩
      · rw [t3.len, List.length_map, List.length_map, List.length_take]
        exact small1000 (by omega)
      · rw [List.take_add_one, hx, List.map_append, List.map_append]
        exact (t3.keep kT).app (.cons (tz1.keep kT) .nil)
      · rw [upd_ne (ne_of_none w hT2)]
        exact s3 _ _ w
    · rintro H3 ⟨ws, h3, t3, s3⟩
      rw [lu, List.take_length] at t3
      have er : ((rows.map fun x => x.getD i 0).map (frN d)).map (fr d) = rows.map fun x => x.getD i 0 := frs_frN d0 fun q hq => by
        obtain ⟨x, hx, rfl⟩ := List.mem_map.mp hq
        exact hdv x hx
      refine ⟨T2, ws, d, (rows.map fun x => x.getD i 0).map (frN d), rfl, .inl (SqL.of h3), by rw [er]; exact t3, d0, d1, hab, by rw [List.length_map, List.length_map]; omega, fun v H4 s4 tv => ?_⟩
      rw [er] at tv
      have s34 := s3.trans s4
      have h4 := s34 _ _ h2
      have kT : KT K H4 (upd H4 T (.lst (vs ++ [v]))) := KT.updL h4
      refine ⟨vs, h4, ?_, vs ++ [v], upd_same, ?_, fun c o w => ?_⟩
      · rw [t2.len, List.length_map, List.length_take]
        exact small1000 (by omega)
      · have et : (tot W rows)[i]? = some (fsum (rows.map fun x => x.getD i 0)) := by
          unfold tot
          rw [List.getElem?_map, List.getElem?_range hi]
          rfl
        rw [List.take_add_one, et, List.map_append]
        exact (t2.keep ((Same.kt s34).trans kT)).app (.cons (tv.keep kT) .nil)
      · rw [upd_ne (ne_of_none w hT)]
        exact s34 _ _ (s2 _ _ w)
  · rintro H2 ⟨vs, h2, t2, s2⟩
    rw [show (tot W rows).take W = tot W rows from List.take_of_length_le (by rw [tot_len]; omega)] at t2
    refine ⟨T, vs, rfl, SqL.of h2, fun l H3 s3 q3 => k (.ref l) H3 (s2.trans s3) (.tup q3 (t2.keep (Same.kt s3)))⟩
theorem ok_are_chances {f f2 f4 f5 : Addr} {fd fd2 fd4 fd5 : FuncData} (D : Dn K mg "are_chances" s_are_chances ["thing", "many"] f fd) (B : Blt mg) (C : Cst K mg aN aO t1 t2 t3 t4 t5 t6 t7) (D_is_integral : Dn K mg "is_integral" s_is_integral ["thing"] f2 fd2) (D_is_fraction : Dn K mg "is_fraction" s_is_fraction ["thing"] f4 fd4) (D_is_chance : Dn K mg "is_chance" s_is_chance ["thing"] f5 fd5) : FnOk P w K mg base CX0 4 f fd ["thing", "many"] (spChances K) := by
  have G_is_chance : FnOk P w K mg base CX0 3 f5 fd5 ["thing"] (spChance K) := ok_is_chance D_is_chance B C D_is_integral D_is_fraction
  refine D.F.ok sc_are_chances (fun vs H Q E h => ?_) (fun cdv A outer s H vs Q E hr h => ?_)
  · obtain ⟨v, ws, rfl, _⟩ := h
    rfl
  obtain ⟨v, ws, rfl, hv, hl, hch, q⟩ := h
  have nd := sc_are_chances.nd
  refine ⟨_, (pss_cons (ps_if (PW.pt (pw_or (pt_not (pt_val (pe_callB (k_isi (K := K) rfl) (by rfl) B.isinstance (by decide +kernel) (pa_cons (pv 0) (pa_cons (pe_bltn (v := .ty "tuple") (u := .type "tuple") (by rfl) B.tuple (by decide +kernel) rfl) pa_nil))))) (pw_or1 (pt_cmpR op_ne (pe_callB (k_len (K := K) rfl) (by rfl) B.len PySem.boot_len (pa_cons (pv 0) pa_nil)) (pv 1) (nomark _))))) (pss_one (ps_ret pe_bl)) pss_nil)
      (pss_one (ps_ret (pe_callB (k_all (K := K) rfl rfl) (by rfl) B.all (by decide +kernel) (pa_cons (pe_lc (own := [("chance", 2)]) rfl nd (k_iT (K := K) rfl (pv 0)) (blkOk_by (own := [("chance", 2)]) (by kernel_rfl)) (fun _ _ _ _ _ => (pg_name (i := 2) nd rfl (.inl rfl))) (fun _ _ _ _ _ => pts_nil) (fun _ _ _ _ _ => (pe_call G_is_chance (hr.mono (by omega)) (by rfl) D_is_chance.m D_is_chance.F.kp D_is_chance.b .nil pass0 (pa_cons (pv 2) pa_nil)))) pa_nil))))), ?_⟩
  obtain ⟨b, ys, rfl, hb, tb⟩ := hv.tupE
  have ly : ys.length = ws.length := by rw [tb.len, List.length_map]
  refine ⟨_, rfl, _, _, _, _, true, rfl, .ty "tuple", tyx_tup hb, kit_ty (by decide +kernel), _, rfl, iteF ?_⟩
  refine ⟨_, rfl, b, _, rfl, .inr hb, _, rfl, rfl, _, rfl, ?_⟩
  rw [ly, decide_eq_true rfl]
  refine iteF ?_
  refine ⟨_, rfl, b, rfl, ⟨_, hb⟩, fun T hT => ?_⟩
  refine lc_it (walk_tup (K := K) (a := b) (xs := ys)) (fun i H2 => H2 T = some (.lst ((List.replicate i true).map V.bl)) ∧ Same H H2) ⟨upd_same, same_upd hT⟩ (fun i H2 _ h => Same.kt h.2 _ _ hb) ?_ ?_
  · rintro i x H0 H2 hi ⟨h2, s2⟩ ⟨rfl, e1⟩
    obtain ⟨dx, ex, tx⟩ := tb.getV e1
    obtain ⟨r, er, rfl⟩ := mapAt ex
    obtain ⟨r0, r1⟩ := hch r (List.mem_of_getElem? er)
    refine ⟨rfl, ?_⟩
    refine iteT (B := H2 T = some (.lst ((List.replicate (i + 1) true).map V.bl)) ∧ Same H H2) ?_
    refine ⟨_, rfl, x, r, rfl, tx.keep (Same.kt s2), r0, r1, _, h2, ?_, ?_, fun c o y => ?_⟩
    · rw [List.length_map, List.length_replicate]
      exact small1000 (by omega)
    · rw [upd_same, List.replicate_succ', List.map_append]
      rfl
    · rw [upd_ne (ne_of_none y hT)]
      exact s2 _ _ y
  · rintro H2 ⟨h2, s2⟩
    refine ⟨T, _, rfl, SqL.of h2, ?_⟩
    have e : ∀ n : Nat, (List.replicate n true).all id = true := fun n => by
      induction n with
      | zero => rfl
      | succ n ih =>
        rw [List.replicate_succ]
        exact ih
    rw [e]
    exact q H2 s2
end
end Tl
namespace Tl
open PySem PySem.Spec PyProof.Rows L2 RZ
/-- data that may be compared -/
structure Good (k : Nat) (d : PyData) : Prop where
  lay : d.canLay0 = true
  deep : d.depth ≤ k
  dict : d.hasDict = false
theorem Good.mono {k k' : Nat} {d : PyData} (h : Good k d) (l : k ≤ k') : Good k' d := ⟨h.lay, Nat.le_trans h.deep l, h.dict⟩
theorem good_int (k : Nat) (i : Int) : Good k (.int i) := ⟨rfl, Nat.zero_le _, rfl⟩
theorem good_all {k : Nat} : ∀ {xs : List PyData}, (∀ x ∈ xs, Good k x) → PyData.canLayAll0 xs = true ∧ PyData.depthAll xs ≤ k ∧ PyData.hasDictAll xs = false
  | [], _ => ⟨rfl, Nat.zero_le _, rfl⟩
  | x :: xs, h => by
    obtain ⟨h1, h2, h3⟩ := h x (List.mem_cons_self ..)
    obtain ⟨a1, a2, a3⟩ := good_all fun y hy => h y (List.mem_cons_of_mem _ hy)
    refine ⟨?_, ?_, ?_⟩
    · show (PyData.canLay0 x && PyData.canLayAll0 xs) = true
      rw [h1, a1]
      rfl
    · show max (PyData.depth x) (PyData.depthAll xs) ≤ k
      omega
    · show (PyData.hasDict x || PyData.hasDictAll xs) = false
      rw [h3, a3]
      rfl
theorem good_tup {k : Nat} {xs : List PyData} (h : ∀ x ∈ xs, Good k x) : Good (k + 1) (.tuple xs) := by
  obtain ⟨a1, a2, a3⟩ := good_all h
  exact ⟨a1, Nat.succ_le_succ a2, a3⟩
theorem good_ints (ns : List Int) : Good 1 (.tuple (ns.map PyData.int)) := good_tup fun x hx => by
  obtain ⟨i, _, rfl⟩ := List.mem_map.mp hx
  exact good_int 0 i
theorem good_rD (q : Rat) : Good 1 (rD q) := good_ints [q.num, (q.den : Int)]
theorem good_wdD (w : List Int) : Good 1 (wdD w) := good_ints w
theorem good_wsD (ws : List Rat) : Good 2 (wsD ws) := good_tup fun x hx => by
  obtain ⟨q, _, rfl⟩ := List.mem_map.mp hx
  exact good_rD q
theorem good_ndD : ∀ (n : Nat) (t : Nd n), Good (3 * n + 2) (ndD n t)
  | 0, _ => (good_tup (k := 0) (xs := []) fun x hx => absurd hx List.not_mem_nil).mono (by decide)
  | n + 1, qs => by
    rw [show 3 * (n + 1) + 2 = ((3 * n + 2 + 1) + 1) + 1 by omega]
    refine good_tup fun x hx => ?_
    obtain ⟨q, _, rfl⟩ := List.mem_map.mp hx
    refine good_tup fun y hy => ?_
    obtain ⟨a, _, rfl⟩ := List.mem_map.mp hy
    refine good_tup fun z hz => ?_
    simp only [List.mem_cons, List.not_mem_nil, or_false] at hz
    rcases hz with rfl | rfl | rfl
    · exact (good_wdD _).mono (by omega)
    · exact (good_wsD _).mono (by omega)
    · exact good_ndD n _
theorem Good.shaped {k : Nat} {d : PyData} (h : Good k d) (l : k ≤ 64) : SeqAt.shaped d = true := by
  show (d.canLay0 && decide (d.depth ≤ 64)) = true
  rw [h.lay, decide_eq_true (Nat.le_trans h.deep l)]
  rfl
theorem Good.refl {k : Nat} {d : PyData} (h : Good k d) : PyData.eqv d d = true := SeqAt.eqv_refl d h.lay
theorem eqv_rD (p q : Rat) : PyData.eqv (rD p) (rD q) = decide (p = q) := by
  show ((p.num == q.num) && (((p.den : Int) == (q.den : Int)) && true)) = decide (p = q)
  rw [Bool.and_true]
  by_cases h : p = q
  · subst h
    rw [beq_self_eq_true, beq_self_eq_true, decide_eq_true rfl]
    rfl
  · rw [decide_eq_false h]
    by_cases h1 : p.num = q.num
    · have h2 : (p.den : Int) ≠ (q.den : Int) := fun e => h (Rat.ext h1 (by omega))
      rw [beq_eq_false_iff_ne.mpr h2, Bool.and_false]
    · rw [beq_eq_false_iff_ne.mpr h1, Bool.false_and]
end Tl
namespace Tl
open PySem PySem.Spec PyProof.Rows L2 RZ
def isZ (ws : List Rat) : Bool := ws.all fun q => decide (q = 0)
def spNought (K : PySem.W.Frag) : Sp := fun vs H Q _ => ∃ (v : V) (ws : List Rat), vs = [v] ∧ Td K H v (wsD ws) ∧ ws.length ≤ 100 ∧ ∀ H', Same H H' → Q (.bl (isZ ws)) H'
def spWord (K : PySem.W.Frag) : Sp := fun vs H Q _ => ∃ (v : V) (r : List Int), vs = [v] ∧ Td K H v (wdD r) ∧ WordOk r ∧ ∀ H', Same H H' → Q (.bl true) H'
def spAnswer (K : PySem.W.Frag) (n : Nat) : Sp := fun vs H Q _ => ∃ (v : V) (a : An n), vs = [v, .int ((a.2.1.length : Nat) : Int)] ∧ Td K H v (anD n a) ∧ WordOk a.1 ∧ a.2.1.length ≤ 100 ∧ (∀ r ∈ a.2.1, 0 ≤ r ∧ r ≤ 1) ∧ ∀ H', Same H H' → Q (.bl true) H'
def spAsc (K : PySem.W.Frag) : Sp := fun vs H Q _ => ∃ (r : Addr) (us : List V) (ws : List (List Int)), vs = [.ref r] ∧ SqL K H r us ∧ TdAll K H us (ws.map wdD) ∧ ws.length ≤ 900 ∧ (∀ i x y, ws[i]? = some x → ws[i + 1]? = some y → HT.lexLt x y = true) ∧ ∀ H', Same H H' → Q (.bl true) H'
theorem map_at {α β : Type} {l : List α} {f : α → β} {i : Nat} {y : β} (h : (l.map f)[i]? = some y) : ∃ x, l[i]? = some x ∧ y = f x := by
  rw [List.getElem?_map] at h
  cases e : l[i]? with
  | none =>
    rw [e] at h
    cases h
  | some x =>
    rw [e] at h
    exact ⟨x, rfl, (Option.some.inj h).symm⟩
theorem all_rep : ∀ n : Nat, (List.replicate n true).all id = true
  | 0 => rfl
  | n + 1 => by
    rw [List.replicate_succ]
    exact all_rep n
theorem rep_snoc {α : Type} (x : α) (n : Nat) : List.replicate n x ++ [x] = List.replicate (n + 1) x := List.replicate_succ'.symm
section
variable {P : Program} {w : World} {K : PySem.W.Frag} {mg : Str → Option Value} {base : Heap} {aN aO : Addr} {t1 t2 t3 t4 t5 t6 t7 : Tok}
theorem ok_are_nought {f : Addr} {fd : FuncData} (D : Dn K mg "are_nought" s_are_nought ["weights"] f fd) (B : Blt mg) (C : Cst K mg aN aO t1 t2 t3 t4 t5 t6 t7) : FnOk P w K mg base CX0 1 f fd ["weights"] (spNought K) := by
  refine D.F.ok sc_are_nought (fun vs H Q E h => ?_) (fun cdv A outer s H vs Q E hr h => ?_)
  · obtain ⟨v, ws, rfl, _⟩ := h
    rfl
  obtain ⟨v, ws, rfl, hv, hl, q⟩ := h
  have nd := sc_are_nought.nd
  refine ⟨_, (pss_one (ps_ret (pe_callB (k_all (K := K) rfl rfl) (by rfl) B.all (by decide +kernel) (pa_cons (pe_lc (own := [("weight", 1)]) rfl nd (k_iT (K := K) rfl (pv 0)) (blkOk_by (own := [("weight", 1)]) (by kernel_rfl)) (fun _ _ _ _ _ => (pg_name (i := 1) nd rfl (.inl rfl))) (fun _ _ _ _ _ => pts_nil) (fun _ _ _ _ _ => (pe_cmpR (k_eqD (K := K) rfl hr.units) (pv 1) (pe_glob (v := .ref _) rfl C.NOUGHT rfl) (nomark _)))) pa_nil)))), ?_⟩
  obtain ⟨a, xs, rfl, ha, ta⟩ := hv.tupE
  have lx : xs.length = ws.length := by rw [ta.len, List.length_map]
  refine ⟨_, rfl, a, rfl, ⟨_, ha⟩, fun T hT => ?_⟩
  refine lc_it (walk_tup (K := K) (a := a) (xs := xs)) (fun i H2 => H2 T = some (.lst (((ws.take i).map fun q => decide (q = 0)).map V.bl)) ∧ Same H H2) ⟨upd_same, same_upd hT⟩ (fun i H2 _ h => Same.kt h.2 _ _ ha) ?_ ?_
  · rintro i x H0 H2 hi ⟨h2, s2⟩ ⟨rfl, e1⟩
    obtain ⟨dx, ex, tx⟩ := ta.getV e1
    obtain ⟨r, er, rfl⟩ := map_at ex
    have tz : Td K H2 (.ref aN) (rD 0) := by
      rw [rD_zero]
      exact .tup (C.tN _) (tdAll_ints [0, 1])
    refine ⟨rfl, ?_⟩
    refine iteT (B := H2 T = some (.lst (((ws.take (i + 1)).map fun q => decide (q = 0)).map V.bl)) ∧ Same H H2) ?_
    refine ⟨_, rfl, rD r, rD 0, (tx.keep (Same.kt s2)).dp, tz.dp, (good_rD r).shaped (by decide), (good_rD 0).shaped (by decide), _, h2, ?_, ?_, fun c o z => ?_⟩
    · rw [List.length_map, List.length_map, List.length_take]
      exact small1000 (by omega)
    · rw [upd_same, eqv_rD, List.take_add_one, er, List.map_append, List.map_append]
      rfl
    · rw [upd_ne (ne_of_none z hT)]
      exact s2 _ _ z
  · rintro H2 ⟨h2, s2⟩
    rw [lx, List.take_length] at h2
    refine ⟨T, _, rfl, SqL.of h2, ?_⟩
    have e : ((ws.map fun q => decide (q = 0)).all id) = isZ ws := by
      unfold isZ
      rw [List.all_map]
      rfl
    rw [e]
    exact q H2 s2
theorem ok_is_word {f f1 f2 : Addr} {fd fd1 fd2 : FuncData} (D : Dn K mg "is_word" s_is_word ["thing"] f fd) (B : Blt mg) (C : Cst K mg aN aO t1 t2 t3 t4 t5 t6 t7) (D_is_number : Dn K mg "is_number" s_is_number ["thing", "least", "most"] f1 fd1) (D_is_integral : Dn K mg "is_integral" s_is_integral ["thing"] f2 fd2) : FnOk P w K mg base CX0 3 f fd ["thing"] (spWord K) := by
  have G_is_number : FnOk P w K mg base CX0 2 f1 fd1 ["thing", "least", "most"] spNumber := ok_is_number D_is_number B D_is_integral
  refine D.F.ok sc_is_word (fun vs H Q E h => ?_) (fun cdv A outer s H vs Q E hr h => ?_)
  · obtain ⟨v, ws, rfl, _⟩ := h
    rfl
  obtain ⟨v, ws, rfl, hv, hok, q⟩ := h
  have nd := sc_is_word.nd
  refine ⟨_, (pss_cons (ps_if (PW.pt (pw_or (pt_not (pt_val (pe_callB (k_isi (K := K) rfl) (by rfl) B.isinstance (by decide +kernel) (pa_cons (pv 0) (pa_cons (pe_bltn (v := .ty "tuple") (u := .type "tuple") (by rfl) B.tuple (by decide +kernel) rfl) pa_nil))))) (pw_or1 (pt_cmpR op_gt (pe_callB (k_len (K := K) rfl) (by rfl) B.len PySem.boot_len (pa_cons (pv 0) pa_nil)) (pe_glob (v := .int _) rfl C.MOST_NUMBERS ⟨_, rfl⟩) (nomark _))))) (pss_one (ps_ret pe_bl)) pss_nil)
      (pss_one (ps_ret (pe_callB (k_all (K := K) rfl rfl) (by rfl) B.all (by decide +kernel) (pa_cons (pe_lc (own := [("number", 1)]) rfl nd (k_iT (K := K) rfl (pv 0)) (blkOk_by (own := [("number", 1)]) (by kernel_rfl)) (fun _ _ _ _ _ => (pg_name (i := 1) nd rfl (.inl rfl))) (fun _ _ _ _ _ => pts_nil) (fun _ _ _ _ _ => (pe_call G_is_number (hr.mono (by omega)) (by rfl) D_is_number.m D_is_number.F.kp D_is_number.b .nil pass0 (pa_cons (pv 1) (pa_cons pe_int (pa_cons pe_int pa_nil)))))) pa_nil))))), ?_⟩
  obtain ⟨a, xs, rfl, ha, ta⟩ := hv.tupE
  have ex := tdAll_intsE ta
  subst ex
  have l8 := hok.1
  refine ⟨_, rfl, _, _, _, _, true, rfl, .ty "tuple", tyx_tup ha, kit_ty (by decide +kernel), _, rfl, iteF ?_⟩
  refine ⟨_, rfl, a, _, rfl, .inr ha, _, _, rfl, rfl, _, rfl, ?_⟩
  rw [List.length_map, decide_eq_false (show ¬ (8 : Int) < ((ws.length : Nat) : Int) by omega)]
  refine iteF ?_
  refine ⟨_, rfl, a, rfl, ⟨_, ha⟩, fun T hT => ?_⟩
  refine lc_it (walk_tup (K := K) (a := a) (xs := ws.map V.int)) (fun i H2 => H2 T = some (.lst ((List.replicate i true).map V.bl)) ∧ Same H H2) ⟨upd_same, same_upd hT⟩ (fun i H2 _ h => Same.kt h.2 _ _ ha) ?_ ?_
  · rintro i x H0 H2 hi ⟨h2, s2⟩ ⟨rfl, e1⟩
    obtain ⟨z, ez, rfl⟩ := int_at e1
    obtain ⟨z0, z1⟩ := hok.2 z (List.mem_of_getElem? ez)
    rw [List.length_map] at hi
    refine ⟨rfl, ?_⟩
    refine iteT (B := H2 T = some (.lst ((List.replicate (i + 1) true).map V.bl)) ∧ Same H H2) ?_
    refine ⟨_, rfl, z, 0, 99, rfl, _, h2, ?_, ?_, fun c o y => ?_⟩
    · rw [List.length_map, List.length_replicate]
      exact small1000 (by omega)
    · rw [upd_same, decide_eq_true z0, decide_eq_true z1, ← rep_snoc, List.map_append]
      rfl
    · rw [upd_ne (ne_of_none y hT)]
      exact s2 _ _ y
  · rintro H2 ⟨h2, s2⟩
    refine ⟨T, _, rfl, SqL.of h2, ?_⟩
    rw [all_rep]
    exact q H2 s2
theorem ok_is_answer {n : Nat} {f f1 f2 f3 f4 f5 f6 : Addr} {fd fd1 fd2 fd3 fd4 fd5 fd6 : FuncData} (D : Dn K mg "is_answer" s_is_answer ["thing", "worlds"] f fd) (B : Blt mg) (C : Cst K mg aN aO t1 t2 t3 t4 t5 t6 t7) (D_is_number : Dn K mg "is_number" s_is_number ["thing", "least", "most"] f1 fd1) (D_is_integral : Dn K mg "is_integral" s_is_integral ["thing"] f2 fd2)
    (D_is_word : Dn K mg "is_word" s_is_word ["thing"] f3 fd3) (D_is_fraction : Dn K mg "is_fraction" s_is_fraction ["thing"] f4 fd4) (D_is_chance : Dn K mg "is_chance" s_is_chance ["thing"] f5 fd5) (D_are_chances : Dn K mg "are_chances" s_are_chances ["thing", "many"] f6 fd6) : FnOk P w K mg base CX0 5 f fd ["thing", "worlds"] (spAnswer K n) := by
  have G_is_word : FnOk P w K mg base CX0 3 f3 fd3 ["thing"] (spWord K) := ok_is_word D_is_word B C D_is_number D_is_integral
  have G_are_chances : FnOk P w K mg base CX0 4 f6 fd6 ["thing", "many"] (spChances K) := ok_are_chances D_are_chances B C D_is_integral D_is_fraction D_is_chance
  refine D.F.ok sc_is_answer (fun vs H Q E h => ?_) (fun cdv A outer s H vs Q E hr h => ?_)
  · obtain ⟨v, ws, rfl, _⟩ := h
    rfl
  obtain ⟨v, an, rfl, hv, hok, hl, hch, q⟩ := h
  have nd := sc_is_answer.nd
  refine ⟨_, (pss_cons (ps_if (PW.pt (pw_or (pt_not (pt_val (pe_callB (k_isi (K := K) rfl) (by rfl) B.isinstance (by decide +kernel) (pa_cons (pv 0) (pa_cons (pe_bltn (v := .ty "tuple") (u := .type "tuple") (by rfl) B.tuple (by decide +kernel) rfl) pa_nil))))) (pw_or (pt_cmpR op_ne (pe_callB (k_len (K := K) rfl) (by rfl) B.len PySem.boot_len (pa_cons (pv 0) pa_nil)) pe_int (nomark _)) (pw_or1 (pt_not (pt_val (pe_call G_is_word (hr.mono (by omega)) (by rfl) D_is_word.m D_is_word.F.kp D_is_word.b .nil pass0 (pa_cons (pe_ix (k_ixT (K := K) rfl) (pv 0) pe_int (fun _ _ => rfl)) pa_nil)))))))) (pss_one (ps_ret pe_bl)) pss_nil)
      (pss_one (ps_ret (pe_call G_are_chances (hr.mono (by omega)) (by rfl) D_are_chances.m D_are_chances.F.kp D_are_chances.b .nil pass0 (pa_cons (pe_ix (k_ixT (K := K) rfl) (pv 0) pe_int (fun _ _ => rfl)) (pa_cons (pv 1) pa_nil)))))), ?_⟩
  obtain ⟨a, xs, rfl, ha, ta⟩ := id hv.tupE
  obtain ⟨vw, ew, tw⟩ := ta.get (i := 0) rfl
  obtain ⟨vs, es, ts⟩ := ta.get (i := 1) rfl
  have l3 : xs.length = 3 := ta.len
  refine ⟨_, rfl, _, _, _, _, true, rfl, .ty "tuple", tyx_tup ha, kit_ty (by decide +kernel), _, rfl, iteF ?_⟩
  refine ⟨_, rfl, a, _, rfl, .inr ha, rfl, _, rfl, ?_⟩
  rw [l3]
  refine iteF ?_
  refine ⟨_, rfl, a, _, 0, vw, rfl, rfl, ha, at_of (j := 0) rfl ew, vw, an.1, rfl, tw, hok, fun H1 s1 => ⟨_, rfl, iteF ?_⟩⟩
  have ha1 := Same.kt s1 _ _ ha
  exact ⟨_, rfl, a, _, 1, vs, rfl, rfl, ha1, at_of (j := 1) rfl es, _, rfl, vs, an.2.1, rfl, ts.keep (Same.kt s1), hl, hch, fun H2 s2 => q H2 (s1.trans s2)⟩
theorem ok_is_ascending {f : Addr} {fd : FuncData} (D : Dn K mg "is_ascending" s_is_ascending ["rows"] f fd) (B : Blt mg) : FnOk P w K mg base CX0 1 f fd ["rows"] (spAsc K) := by
  refine D.F.ok sc_is_ascending (fun vs H Q E h => ?_) (fun cdv A outer s H vs Q E hr h => ?_)
  · obtain ⟨v, ws, x, rfl, _⟩ := h
    rfl
  obtain ⟨r, us, ws, rfl, hS, tS, hl, hasc, q⟩ := h
  have nd := sc_is_ascending.nd
  refine ⟨_, (pss_one (ps_ret (pe_callB (k_all (K := K) rfl rfl) (by rfl) B.all (by decide +kernel) (pa_cons (pe_lc (own := [("low", 1), ("high", 2)]) rfl nd (k_zip (K := K) rfl (by rfl) B.zip (pa_cons (pv 0) (pa_cons (pe_slice (k_slL (K := K) rfl) (pv 0) (po_some pe_int) po_none) pa_nil))) (blkOk_by (own := [("low", 1), ("high", 2)]) (by kernel_rfl)) (fun _ _ _ _ _ => (k_tup (K := K) (n := 2) rfl rfl (pgs_cons (pg_name (i := 1) nd rfl (.inl rfl)) (pgs_cons (pg_name (i := 2) nd rfl (.inl rfl)) pgs_nil)))) (fun _ _ _ _ _ => pts_nil) (fun _ _ _ _ _ => (pe_cmpR (k_ltT (K := K) rfl hr.units0) (pv 1) (pv 2) (nomark _)))) pa_nil)))), ?_⟩
  have lu : us.length = ws.length := by rw [tS.len, List.length_map]
  refine ⟨_, rfl, _, rfl, _, rfl, r, us, rfl, hS, fun p hp => ?_⟩
  have s1 : Same H (upd H p (.lst (cutV us (some 1) none))) := same_upd hp
  have ec : cutV us (some 1) none = us.drop 1 := by
    unfold cutV
    rw [show HT.sIx us.length 0 (some 1) = min 1 us.length from HT.sIx_nat us.length 0 1, HT.sIx_none]
    cases us with
    | nil => rfl
    | cons x rr =>
      rw [show min 1 (x :: rr).length = 1 by rw [List.length_cons]; omega]
      exact List.take_of_length_le (by simp)
  rw [ec] at s1 ⊢
  refine ⟨r, p, us, us.drop 1, rfl, .inl ⟨s1.seq hS, SqL.of upd_same, fun T hT => ?_⟩⟩
  generalize hH1 : upd H p (.lst (us.drop 1)) = H1 at s1 hT ⊢
  have hp1 : H1 p = some (.lst (us.drop 1)) := by
    rw [← hH1]
    exact upd_same
  refine lc_it (walk_zip (K := K) (a := r) (b := p) (xs := us) (ys := us.drop 1) (n := min us.length (us.drop 1).length) rfl) (fun i H2 => H2 T = some (.lst ((List.replicate i true).map V.bl)) ∧ Same H1 H2) ⟨upd_same, same_upd hT⟩ (fun i H2 _ h => ⟨h.2.seq (s1.seq hS), h.2.seq (SqL.of hp1)⟩) ?_ ?_
  · rintro i x H2 H3 hi ⟨h2, s2⟩ ⟨T2, x', y', rfl, n2, rfl, e1, e2⟩
    replace e2 : (us.drop 1)[i]? = some y' := e2
    rw [List.getElem?_drop, Nat.add_comm 1 i] at e2
    obtain ⟨dx, ex, tx⟩ := tS.getV e1
    obtain ⟨dy, ey, ty⟩ := tS.getV e2
    obtain ⟨wx, gx, rfl⟩ := map_at ex
    obtain ⟨wy, gy, rfl⟩ := map_at ey
    have s3 : Same H2 (upd H2 T2 (.tup [x', y'])) := same_upd n2
    have k3 : KT K H (upd H2 T2 (.tup [x', y'])) := Same.kt ((s1.trans s2).trans s3)
    obtain ⟨ax, xs, rfl, hx, sx⟩ := (tx.keep k3).tupE
    obtain ⟨ay, ys, rfl, hy, sy⟩ := (ty.keep k3).tupE
    have e3 := tdAll_intsE sx
    have e4 := tdAll_intsE sy
    subst e3
    subst e4
    refine ⟨T2, _, rfl, .inl (.inl upd_same), rfl, _, _, rfl, _, _, rfl, rfl, rfl, ?_⟩
    refine iteT (B := (upd H2 T2 (.tup [V.ref ax, V.ref ay])) T = some (.lst ((List.replicate (i + 1) true).map V.bl)) ∧ Same H1 (upd H2 T2 (.tup [V.ref ax, V.ref ay]))) ?_
    have h3 := s3 _ _ h2
    refine ⟨_, rfl, _, rfl, ax, ay, wx, wy, rfl, rfl, hx, hy, _, h3, ?_, ?_, fun c o y => ?_⟩
    · rw [List.length_map, List.length_replicate]
      exact small1000 (by omega)
    · rw [upd_same, hasc i wx wy gx gy, ← rep_snoc, List.map_append]
      rfl
    · rw [upd_ne (ne_of_none y hT)]
      exact s3 _ _ (s2 _ _ y)
  · rintro H2 ⟨h2, s2⟩
    refine ⟨T, _, rfl, SqL.of h2, ?_⟩
    rw [all_rep]
    exact q H2 (s1.trans s2)
end
end Tl
namespace Tl
open PySem PySem.Spec PyProof.Rows L2 RZ
/-- a node judged: d answers ahead of it -/
def spCkN (K : PySem.W.Frag) (n : Nat) : Sp := fun vs H Q _ => ∃ (W d : Nat) (v av : V) (pl : Addr) (ps : List V) (ahead : List Rat) (t : Nd n), vs = [v, .ref pl, av] ∧ Td K H v (ndD n t) ∧ Td K H av (wsD ahead) ∧ SqT K H pl ps ∧ ps.length = 2 * d ∧ d + n ≤ 8 ∧
  1 ≤ W ∧ W ≤ 5 ∧ ahead.length = W ∧ NdOk W n ahead t ∧ ∀ H', Same H H' → Q .non H'
def spCkQ (K : PySem.W.Frag) : Nat → Sp
  | 0 => fun _ _ _ _ => False
  | n + 1 => fun vs H Q _ => ∃ (W d : Nat) (v av : V) (pl : Addr) (ps : List V) (ahead : List Rat) (q : Qn n), vs = [v, .ref pl, av] ∧ Td K H v (qnD n q) ∧ Td K H av (wsD ahead) ∧ SqT K H pl ps ∧ ps.length = 2 * d + 1 ∧ d + (n + 1) ≤ 8 ∧
      1 ≤ W ∧ W ≤ 5 ∧ ahead.length = W ∧ QnOk W ahead q ∧ (∀ a ∈ q, NdOk W n a.2.1 a.2.2) ∧ ∀ H', Same H H' → Q .non H'
theorem small25 {n : Nat} (h : n ≤ 25) : n ≤ sizeLine := Nat.le_of_lt (small1000 (by omega))
theorem tot_whole {W n : Nat} {ahead : List Rat} {q : Qn n} (ha : ahead.length = W) (h : QnOk W ahead q) : tot W (q.map fun a => a.2.1) = ahead := by
  refine List.ext_getElem? fun j => ?_
  unfold tot
  rw [List.getElem?_map]
  by_cases hj : j < W
  · rw [List.getElem?_range hj, List.getElem?_eq_getElem (show j < ahead.length by omega)]
    show some (fsum ((q.map fun a => a.2.1).map fun r => r.getD j 0)) = some _
    have e : ((q.map fun a => a.2.1).map fun r => r.getD j 0) = col q j := by
      unfold col
      rw [List.map_map]
      rfl
    rw [e, h.whole j hj, getD_of (List.getElem?_eq_getElem (show j < ahead.length by omega))]
  · rw [List.getElem?_eq_none (by rw [List.length_range]; omega), List.getElem?_eq_none (by omega)]
    rfl
theorem tot_cols {W n : Nat} {ahead : List Rat} {q : Qn n} (h : QnOk W ahead q) (j : Nat) (hj : j < W) : ∃ D : Nat, 0 < D ∧ D < 2 ^ 1500 ∧ (∀ x ∈ q.map (fun a => a.2.1), (x.getD j 0).den ∣ D) ∧ abssum (((q.map fun a => a.2.1).map fun x => x.getD j 0).map (frN D)) < 2 ^ 1500 := by
  have z2 : 12 * LL ^ 6 < 2 ^ 1500 := by
    have := @ll_small 6 800 (by decide)
    have z3 : 12 * 2 ^ 800 < 2 ^ 1500 := by
      rw [show (1500 : Nat) = 700 + 800 from rfl, Nat.pow_add]
      exact Nat.mul_lt_mul_of_pos_right (by decide) (Nat.two_pow_pos 800)
    exact Nat.lt_of_le_of_lt (Nat.mul_le_mul_left 12 this) z3
  have d2 : ∀ r ∈ col q j, r.den ∣ LL ^ 6 ∧ 0 ≤ r ∧ r ≤ 1 := fun r hr => by
    unfold col at hr
    obtain ⟨a, ha, rfl⟩ := List.mem_map.mp hr
    have hw := h.wide a ha
    have hm := h.chs a ha (a.2.1.getD j 0) (by rw [getD_of (List.getElem?_eq_getElem (show j < a.2.1.length by omega))]; exact List.getElem_mem _)
    exact ⟨hm.2.2, hm.1, hm.2.1⟩
  have e : ((q.map fun a => a.2.1).map fun x => x.getD j 0) = col q j := by
    unfold col
    rw [List.map_map]
    rfl
  refine ⟨LL ^ 6, ll_pos 6, ll_lt1500 (by decide), fun x hx => ?_, ?_⟩
  · obtain ⟨a, ha, rfl⟩ := List.mem_map.mp hx
    exact (d2 _ (List.mem_map.mpr ⟨a, ha, rfl⟩)).1
  · rw [e]
    exact Nat.lt_of_le_of_lt (frNs_abs d2) (Nat.lt_of_le_of_lt (Nat.mul_le_mul_right _ (show (col q j).length ≤ 12 by unfold col; rw [List.length_map]; exact h.most)) z2)
section
variable {P : Program} {w : World} {K : PySem.W.Frag} {mg : Str → Option Value} {base : Heap} {aN aO : Addr} {t1 t2 t3 t4 t5 t6 t7 : Tok}
theorem ok_check_node {n : Nat} {f f1 : Addr} {fd fd1 : FuncData} (D : Dn K mg "check_node" s_check_node ["node", "place", "ahead"] f fd) (B : Blt mg) (C : Cst K mg aN aO t1 t2 t3 t4 t5 t6 t7) (D_check_question : Dn K mg "check_question" s_check_question ["question", "place", "ahead"] f1 fd1)
    (G_check_question : FnOk P w K mg base CX0 (5 + 2 * n) f1 fd1 ["question", "place", "ahead"] (spCkQ K n)) : FnOk P w K mg base CX0 (6 + 2 * n) f fd ["node", "place", "ahead"] (spCkN K n) := by
  rw [show 6 + 2 * n = (5 + 2 * n) + 1 by omega]
  refine D.F.ok sc_check_node (fun vs H Q E h => ?_) (fun cdv A outer s H vs Q E hr h => ?_)
  · obtain ⟨W, d, v, av, pl, ps, ahead, t, rfl, _⟩ := h
    rfl
  obtain ⟨W, d, v, av, pl, ps, ahead, t, rfl, hv, hav, hpl, lp, hd, hW1, hW5, hla, hok, q⟩ := h
  have nd := sc_check_node.nd
  refine ⟨_, (pss_cons (ps_if (PW.pt (pw_or (pt_not (pt_val (pe_callB (k_isi (K := K) rfl) (by rfl) B.isinstance (by decide +kernel) (pa_cons (pv 0) (pa_cons (pe_bltn (v := .ty "tuple") (u := .type "tuple") (by rfl) B.tuple (by decide +kernel) rfl) pa_nil))))) (pw_or1 (pt_cmpR op_gt (pe_callB (k_len (K := K) rfl) (by rfl) B.len PySem.boot_len (pa_cons (pv 0) pa_nil)) (pe_glob (v := .int _) rfl C.MOST_QUESTIONS ⟨_, rfl⟩) (nomark _))))) (pss_one ps_never) pss_nil)
      (pss_cons (ps_if (PW.pt (pw_and (pt_cmpR op_gt (pe_callB (k_len (K := K) rfl) (by rfl) B.len PySem.boot_len (pa_cons (pv 0) pa_nil)) pe_int (nomark _)) (pw_and1 (pt_cmpR op_ge (pe_callB (k_len (K := K) rfl) (by rfl) B.len PySem.boot_len (pa_cons (pv 1) pa_nil)) (pe_op op_mulW pe_int (pe_glob (v := .int _) rfl C.MOST_ON_A_WAY ⟨_, rfl⟩)) (nomark _))))) (pss_one ps_never) pss_nil)
      (pss_one (ps_for PassesOwn.never rfl (k_enum (K := K) rfl (by rfl) B.enumerate (pa_cons (pv 0) pa_nil)) (k_tup (K := K) (n := 2) rfl rfl (pgs_cons (pg_name (i := 3) nd rfl (.inl rfl)) (pgs_cons (pg_name (i := 4) nd rfl (.inl rfl)) pgs_nil))) (pss_one (ps_expr (pe_call G_check_question (hr.mono (by omega)) (by rfl) D_check_question.m D_check_question.F.kp D_check_question.b .nil pass0 (pa_cons (pv 4) (pa_cons (pe_op (k_cat (K := K) rfl) (pv 1) (pe_tup (pa_cons (pv 3) pa_nil))) (pa_cons (pv 2) pa_nil)))))))))), ?_⟩
  obtain ⟨ds, eds, l5, l0⟩ : ∃ ds, ndD n t = .tuple ds ∧ ds.length ≤ 5 ∧ (n = 0 → ds.length = 0) := by
    cases n with
    | zero => exact ⟨[], rfl, by decide, fun _ => rfl⟩
    | succ n => exact ⟨_, rfl, by rw [List.length_map]; exact hok.1, fun h => by cases h⟩
  have hv2 := hv
  rw [eds] at hv2
  obtain ⟨a, xs, rfl, ha, ta⟩ := hv2.tupE
  have lx := ta.len
  refine ⟨_, rfl, _, _, _, _, true, rfl, .ty "tuple", tyx_tup ha, kit_ty (by decide +kernel), _, rfl, iteF ?_⟩
  refine ⟨_, rfl, a, _, rfl, .inr ha, _, _, rfl, rfl, _, rfl, ?_⟩
  rw [decide_eq_false (show ¬ (5 : Int) < ((xs.length : Nat) : Int) by omega)]
  refine iteF ?_
  refine ⟨_, rfl, a, _, rfl, .inr ha, _, _, rfl, rfl, _, rfl, ?_⟩
  have rest : tFor (iEnumT K (tCons (tVar 0) tNil)) (gTup K 2 (gCons (gName 3) (gCons (gName 4) gNil))) (tDrop (tCall (spCkQ K n) [] E0 (tCons (tVar 4) (tCons (tOp (rCatP K) (tVar 1) (tTup (tCons (tVar 3) tNil))) (tCons (tVar 2) tNil))))) { nx := fun _ H' => Q .non H', rt := Q } [some (.ref a), some (.ref pl), some av, none, none] H := by
    refine ⟨_, rfl, a, xs, rfl, ha, for_it (walk_enumT (K := K) (a := a) (xs := xs)) (fun i σ H2 => ∃ o3 o4 : Option V, σ = [some (.ref a), some (.ref pl), some av, o3, o4] ∧ Same H H2) ⟨none, none, rfl, Same.refl _⟩ (fun i σ H2 _ h => ?_) ?_ ?_⟩
    · obtain ⟨_, _, _, s2⟩ := h
      exact Same.kt s2 _ _ ha
    · rintro i x σ H2 H3 hi ⟨o3, o4, rfl, s2⟩ ⟨T, x1, x2, rfl, nT, rfl, e1, e2⟩
      cases n with
      | zero =>
        have := l0 rfl
        omega
      | succ n =>
        cases eds
        have s3 : Same H2 (upd H2 T (.tup [x1, x2])) := same_upd nT
        cases e1
        obtain ⟨dx, ex, tx⟩ := ta.getV e2
        obtain ⟨qn, eq, rfl⟩ := map_at ex
        obtain ⟨qok, nok⟩ := hok.2 qn (List.mem_of_getElem? eq)
        refine ⟨T, _, rfl, .inl (.inl upd_same), rfl, _, _, rfl, _, _, rfl, rfl, ?_⟩
        refine ⟨_, rfl, _, rfl, _, rfl, (by show 1 ≤ sizeLine; decide), fun p np => ?_⟩
        have s4 : Same (upd H2 T (.tup [.int (i : Int), x2])) (upd (upd H2 T (.tup [.int (i : Int), x2])) p (.tup [.int (i : Int)])) := same_upd np
        have s24 := (s2.trans s3).trans s4
        refine ⟨pl, p, ps, _, rfl, rfl, Same.kt s24 _ _ hpl, .inl (.inl upd_same), by rw [lp]; exact small25 (by simp; omega), fun p2 H5 s5 q5 => ?_⟩
        have s25 := s24.trans s5
        refine ⟨_, rfl, W, d, x2, av, p2, _, ahead, qn, rfl, tx.keep (Same.kt s25), hav.keep (Same.kt s25), q5, by rw [List.length_append, lp]; rfl, by omega, hW1, hW5, hla, qok, nok, fun H6 s6 => ?_⟩
        exact ⟨_, _, rfl, s25.trans s6⟩
    · rintro σ H2 ⟨o3, o4, rfl, s2⟩
      exact q H2 s2
  refine ite2 (fun c => ?_) (fun c => ?_)
  · refine ⟨_, rfl, pl, _, rfl, .inr hpl, _, _, rfl, rfl, cmul_small (by decide) (by decide), _, _, rfl, rfl, _, rfl, ?_⟩
    have c0 : 0 < xs.length := by
      have := of_decide_eq_true c
      omega
    have n0 : n ≠ 0 := fun e => by
      have := l0 e
      omega
    rw [decide_eq_false (show ¬ ((ps.length : Nat) : Int) ≥ 2 * 8 by omega)]
    refine iteF ?_
    exact rest
  · refine iteF ?_
    exact rest
end
end Tl
namespace Tl
open PySem PySem.Spec PyProof.Rows L2 RZ
section
variable {P : Program} {w : World} {K : PySem.W.Frag} {mg : Str → Option Value} {base : Heap} {aN aO : Addr} {t1 t2 t3 t4 t5 t6 t7 : Tok}
theorem ok_check_question {n : Nat} {f f1 f2 f3 f4 : Addr} {fd fd1 fd2 fd3 fd4 : FuncData} (D : Dn K mg "check_question" s_check_question ["question", "place", "ahead"] f fd) (B : Blt mg) (C : Cst K mg aN aO t1 t2 t3 t4 t5 t6 t7) (D_check_node : Dn K mg "check_node" s_check_node ["node", "place", "ahead"] f1 fd1)
    (G_check_node : FnOk P w K mg base CX0 (6 + 2 * n) f1 fd1 ["node", "place", "ahead"] (spCkN K n)) (D_is_answer : Dn K mg "is_answer" s_is_answer ["thing", "worlds"] f2 fd2) (G_is_answer : FnOk P w K mg base CX0 5 f2 fd2 ["thing", "worlds"] (spAnswer K n))
    (D_is_ascending : Dn K mg "is_ascending" s_is_ascending ["rows"] f3 fd3) (G_is_ascending : FnOk P w K mg base CX0 1 f3 fd3 ["rows"] (spAsc K)) (D_total_weights : Dn K mg "total_weights" s_total_weights ["rows", "worlds"] f4 fd4) (G_total_weights : FnOk P w K mg base CX0 4 f4 fd4 ["rows", "worlds"] (spTotW K)) :
    FnOk P w K mg base CX0 (7 + 2 * n) f fd ["question", "place", "ahead"] (spCkQ K (n + 1)) := by
  rw [show 7 + 2 * n = (6 + 2 * n) + 1 by omega]
  refine D.F.ok sc_check_question (fun vs H Q E h => ?_) (fun cdv A outer s H vs Q E hr h => ?_)
  · obtain ⟨W, d, v, av, pl, ps, ahead, t, rfl, _⟩ := h
    rfl
  obtain ⟨W, d, v, av, pl, ps, ahead, qn, rfl, hv, hav, hpl, lp, hd, hW1, hW5, hla, qok, nok, q⟩ := h
  have nd := sc_check_question.nd
  refine ⟨_, (pss_cons (ps_if (PW.pt (pw_or (pt_not (pt_val (pe_callB (k_isi (K := K) rfl) (by rfl) B.isinstance (by decide +kernel) (pa_cons (pv 0) (pa_cons (pe_bltn (v := .ty "tuple") (u := .type "tuple") (by rfl) B.tuple (by decide +kernel) rfl) pa_nil))))) (pw_or1 (pt_not (pt_chain op_le op_le pe_int (pe_callB (k_len (K := K) rfl) (by rfl) B.len PySem.boot_len (pa_cons (pv 0) pa_nil)) (pe_glob (v := .int _) rfl C.MOST_WORDS ⟨_, rfl⟩)))))) (pss_one ps_never) pss_nil)
      (pss_cons (ps_for PassesOwn.never rfl (k_enum (K := K) rfl (by rfl) B.enumerate (pa_cons (pv 0) pa_nil)) (k_tup (K := K) (n := 2) rfl rfl (pgs_cons (pg_name (i := 3) nd rfl (.inl rfl)) (pgs_cons (pg_name (i := 4) nd rfl (.inl rfl)) pgs_nil))) (pss_one (ps_if (pt_not (pt_val (pe_call G_is_answer (hr.mono (by omega)) (by rfl) D_is_answer.m D_is_answer.F.kp D_is_answer.b .nil pass0 (pa_cons (pv 4) (pa_cons (pe_callB (k_len (K := K) rfl) (by rfl) B.len PySem.boot_len (pa_cons (pv 2) pa_nil)) pa_nil))))) (pss_one ps_never) pss_nil)))
      (pss_cons (ps_if (pt_not (pt_val (pe_call G_is_ascending (hr.mono (by omega)) (by rfl) D_is_ascending.m D_is_ascending.F.kp D_is_ascending.b .nil pass0 (pa_cons (pe_lc (own := [("answer", 4)]) rfl nd (k_iT (K := K) rfl (pv 0)) (blkOk_by (own := [("answer", 4)]) (by kernel_rfl)) (fun _ _ _ _ _ => (pg_name (i := 4) nd rfl (.inl rfl))) (fun _ _ _ _ _ => pts_nil) (fun _ _ _ _ _ => (pe_ix (k_ixT (K := K) rfl) (pv 4) pe_int (fun _ _ => rfl)))) pa_nil)))) (pss_one ps_never) pss_nil)
      (pss_cons (ps_if (pt_cmpR (k_neD (K := K) rfl hr.units) (pe_call G_total_weights (hr.mono (by omega)) (by rfl) D_total_weights.m D_total_weights.F.kp D_total_weights.b .nil pass0 (pa_cons (pe_lc (own := [("answer", 4)]) rfl nd (k_iT (K := K) rfl (pv 0)) (blkOk_by (own := [("answer", 4)]) (by kernel_rfl)) (fun _ _ _ _ _ => (pg_name (i := 4) nd rfl (.inl rfl))) (fun _ _ _ _ _ => pts_nil) (fun _ _ _ _ _ => (pe_ix (k_ixT (K := K) rfl) (pv 4) pe_int (fun _ _ => rfl)))) (pa_cons (pe_callB (k_len (K := K) rfl) (by rfl) B.len PySem.boot_len (pa_cons (pv 2) pa_nil)) pa_nil))) (pv 2) (nomark _)) (pss_one ps_never) pss_nil)
      (pss_one (ps_for PassesOwn.never rfl (k_enum (K := K) rfl (by rfl) B.enumerate (pa_cons (pv 0) pa_nil)) (k_tup (K := K) (n := 2) rfl rfl (pgs_cons (pg_name (i := 3) nd rfl (.inl rfl)) (pgs_cons (pg_name (i := 4) nd rfl (.inl rfl)) pgs_nil))) (pss_one (ps_expr (pe_call G_check_node (hr.mono (by omega)) (by rfl) D_check_node.m D_check_node.F.kp D_check_node.b .nil pass0 (pa_cons (pe_ix (k_ixT (K := K) rfl) (pv 4) pe_int (fun _ _ => rfl)) (pa_cons (pe_op (k_cat (K := K) rfl) (pv 1) (pe_tup (pa_cons (pv 3) pa_nil))) (pa_cons (pe_ix (k_ixT (K := K) rfl) (pv 4) pe_int (fun _ _ => rfl)) pa_nil)))))))))))), ?_⟩
  obtain ⟨a, xs, rfl, ha, ta⟩ := id hv.tupE
  obtain ⟨aa, axs, rfl, haa, taa⟩ := id hav.tupE
  have lx : xs.length = qn.length := by rw [ta.len, List.length_map]
  have la : axs.length = W := by rw [taa.len, List.length_map, hla]
  have o1 := qok.one
  have o12 := qok.most
  -- the answers at their places
  have at_ : ∀ {i : Nat} {x : V} {H2 : Hp}, xs[i]? = some x → Same H H2 → ∃ an, qn[i]? = some an ∧ an ∈ qn ∧ Td K H2 x (anD n an) ∧ ∃ p vw vs vt, x = .ref p ∧ SqT K H2 p [vw, vs, vt] ∧ Td K H2 vw (wdD an.1) ∧ Td K H2 vs (wsD an.2.1) ∧ Td K H2 vt (ndD n an.2.2) := by
    intro i x H2 e s2
    obtain ⟨dx, ex, tx⟩ := ta.getV e
    obtain ⟨an, ea, rfl⟩ := map_at ex
    have tx2 := tx.keep (Same.kt s2)
    obtain ⟨p, ys, rfl, hp, tp⟩ := id tx2.tupE
    cases tp with
    | cons h1 tp => cases tp with
      | cons h2 tp => cases tp with
        | cons h3 tp =>
          cases tp
          exact ⟨an, ea, List.mem_of_getElem? ea, tx2, p, _, _, _, rfl, hp, h1, h2, h3⟩
  refine ⟨_, rfl, _, _, _, _, true, rfl, .ty "tuple", tyx_tup ha, kit_ty (by decide +kernel), _, rfl, iteF ?_⟩
  refine ⟨_, rfl, a, _, rfl, .inr ha, _, _, rfl, rfl, _, rfl, ?_⟩
  rw [decide_eq_true (show (1 : Int) ≤ ((xs.length : Nat) : Int) by omega)]
  refine iteT ⟨_, _, rfl, rfl, _, rfl, ?_⟩
  rw [decide_eq_true (show ((xs.length : Nat) : Int) ≤ 12 by omega)]
  refine iteF ?_
  -- each answer
  refine ⟨_, rfl, a, xs, rfl, ha, for_it (walk_enumT (K := K) (a := a) (xs := xs)) (fun i σ H2 => ∃ o3 o4 : Option V, σ = [some (.ref a), some (.ref pl), some (.ref aa), o3, o4] ∧ Same H H2) ⟨none, none, rfl, Same.refl _⟩ (fun i σ H2 _ h => ?_) ?_ ?_⟩
  · obtain ⟨_, _, _, s2⟩ := h
    exact Same.kt s2 _ _ ha
  · rintro i x σ H2 H3 hi ⟨o3, o4, rfl, s2⟩ ⟨T, x1, x2, rfl, nT, rfl, e1, e2⟩
    have s3 : Same H2 (upd H2 T (.tup [x1, x2])) := same_upd nT
    have s23 := s2.trans s3
    obtain ⟨an, ea, ma, tan, _⟩ := at_ e2 s23
    refine ⟨T, _, rfl, .inl (.inl upd_same), rfl, _, _, rfl, _, _, rfl, rfl, ?_⟩
    refine ⟨_, rfl, _, rfl, aa, _, rfl, .inr (Same.kt s23 _ _ haa), x2, an, ?_, tan, qok.words _ ma, ?_, fun r hr => ?_, fun H4 s4 => ⟨_, rfl, iteF ⟨_, _, rfl, s23.trans s4⟩⟩⟩
    · rw [la, qok.wide _ ma]
      rfl
    · rw [qok.wide _ ma]
      omega
    · have := qok.chs _ ma r hr
      exact ⟨this.1, this.2.1⟩
  rintro σ H2 ⟨o3, o4, rfl, s2⟩
  -- ascending
  have ha2 := Same.kt s2 _ _ ha
  refine ⟨_, rfl, a, rfl, ⟨_, ha2⟩, fun T hT => ?_⟩
  refine lc_it (walk_tup (K := K) (a := a) (xs := xs)) (fun i H3 => ∃ us : List V, H3 T = some (.lst us) ∧ TdAll K H3 us ((qn.take i).map fun an => wdD an.1) ∧ Same H2 H3) ⟨[], upd_same, .nil, same_upd hT⟩ (fun i H3 _ h => ?_) ?_ ?_
  · obtain ⟨_, _, _, s3⟩ := h
    exact Same.kt s3 _ _ ha2
  · rintro i x H0 H3 hi ⟨us, h3, t3, s3⟩ ⟨rfl, e1⟩
    obtain ⟨an, ea, ma, tan, p, vw, vs, vt, rfl, hp, h1, h2, h4⟩ := at_ e1 (s2.trans s3)
    have kT : KT K H3 (upd H3 T (.lst (us ++ [vw]))) := KT.updL h3
    refine ⟨rfl, ?_⟩
    refine iteT (B := ∃ us : List V, H3 T = some (.lst us) ∧ TdAll K H3 us ((qn.take (i + 1)).map fun an => wdD an.1) ∧ Same H2 H3) ?_
    refine ⟨_, rfl, p, _, 0, vw, rfl, rfl, hp, at_of (j := 0) rfl rfl, us, h3, ?_, us ++ [vw], upd_same, ?_, fun c o y => ?_⟩
    · rw [t3.len, List.length_map, List.length_take]
      exact small1000 (by omega)
    · rw [List.take_add_one, ea, List.map_append]
      exact (t3.keep kT).app (.cons (h1.keep kT) .nil)
    · rw [upd_ne (ne_of_none y hT)]
      exact s3 _ _ y
  rintro H3 ⟨us, h3, t3, s3⟩
  rw [lx, List.take_length] at t3
  have s03 := s2.trans s3
  refine ⟨T, us, qn.map (fun an => an.1), rfl, SqL.of h3, by rw [List.map_map]; exact t3, by rw [List.length_map]; omega, ?_, fun H4 s4 => ⟨_, rfl, iteF ?_⟩⟩
  · intro i x y hx hy
    obtain ⟨ax, gx, rfl⟩ := map_at hx
    obtain ⟨ay, gy, rfl⟩ := map_at hy
    exact qok.asc i ax ay gx gy
  have s04 := s03.trans s4
  clear t3 h3 s3
  -- the weights
  have ha4 := Same.kt s04 _ _ ha
  refine ⟨_, rfl, a, rfl, ⟨_, ha4⟩, fun T2 hT2 => ?_⟩
  refine lc_it (walk_tup (K := K) (a := a) (xs := xs)) (fun i H3 => ∃ us : List V, H3 T2 = some (.lst us) ∧ TdAll K H3 us ((qn.take i).map fun an => wsD an.2.1) ∧ Same H4 H3) ⟨[], upd_same, .nil, same_upd hT2⟩ (fun i H3 _ h => ?_) ?_ ?_
  · obtain ⟨_, _, _, s3⟩ := h
    exact Same.kt s3 _ _ ha4
  · rintro i x H0 H5 hi ⟨us, h3, t3, s3⟩ ⟨rfl, e1⟩
    obtain ⟨an, ea, ma, tan, p, vw, vs, vt, rfl, hp, h1, h2, h4⟩ := at_ e1 (s04.trans s3)
    have kT : KT K H5 (upd H5 T2 (.lst (us ++ [vs]))) := KT.updL h3
    refine ⟨rfl, ?_⟩
    refine iteT (B := ∃ us : List V, H5 T2 = some (.lst us) ∧ TdAll K H5 us ((qn.take (i + 1)).map fun an => wsD an.2.1) ∧ Same H4 H5) ?_
    refine ⟨_, rfl, p, _, 1, vs, rfl, rfl, hp, at_of (j := 1) rfl rfl, us, h3, ?_, us ++ [vs], upd_same, ?_, fun c o y => ?_⟩
    · rw [t3.len, List.length_map, List.length_take]
      exact small1000 (by omega)
    · rw [List.take_add_one, ea, List.map_append]
      exact (t3.keep kT).app (.cons (h2.keep kT) .nil)
    · rw [upd_ne (ne_of_none y hT2)]
      exact s3 _ _ y
  rintro H5 ⟨us5, h5, t5, s5⟩
  rw [lx, List.take_length] at t5
  have s05 := s04.trans s5
  refine ⟨_, rfl, aa, _, rfl, .inr (Same.kt s05 _ _ haa), ?_⟩
  refine ⟨T2, us5, W, qn.map (fun an => an.2.1), by rw [la]; rfl, SqL.of h5, by rw [List.map_map]; exact t5, hW1, hW5, by rw [List.length_map]; omega, fun x hx => ?_, tot_cols qok, fun v6 H6 s6 t6 => ?_⟩
  · obtain ⟨an, ma, rfl⟩ := List.mem_map.mp hx
    exact qok.wide _ ma
  rw [tot_whole hla qok] at t6
  have s06 := s05.trans s6
  have g2 := good_wsD ahead
  refine ⟨_, rfl, wsD ahead, wsD ahead, t6.dp, (hav.keep (Same.kt s06)).dp, g2.shaped (by decide), g2.shaped (by decide), _, rfl, ?_⟩
  rw [g2.refl]
  refine iteF ?_
  clear t6 t5 h5 s5 s6 ha4 ha2 s4 s03 s2
  -- the nodes behind
  have ha6 := Same.kt s06 _ _ ha
  refine ⟨_, rfl, a, xs, rfl, ha6, for_it (walk_enumT (K := K) (a := a) (xs := xs)) (fun i σ H2 => ∃ o3 o4 : Option V, σ = [some (.ref a), some (.ref pl), some (.ref aa), o3, o4] ∧ Same H H2) ⟨_, _, rfl, s06⟩ (fun i σ H2 _ h => ?_) ?_ ?_⟩
  · obtain ⟨_, _, _, s2⟩ := h
    exact Same.kt s2 _ _ ha
  · rintro i x σ H2 H3 hi ⟨o3, o4, rfl, s2⟩ ⟨T, x1, x2, rfl, nT, rfl, e1, e2⟩
    have s3 : Same H2 (upd H2 T (.tup [x1, x2])) := same_upd nT
    cases e1
    have s23 := s2.trans s3
    obtain ⟨an, ea, ma, tan, p, vw, vs, vt, rfl, hp, h1, h2, h4⟩ := at_ e2 s23
    refine ⟨T, _, rfl, .inl (.inl upd_same), rfl, _, _, rfl, _, _, rfl, rfl, ?_⟩
    refine ⟨_, rfl, p, _, 2, vt, rfl, rfl, hp, at_of (j := 2) rfl rfl, ?_⟩
    refine ⟨_, rfl, _, rfl, (by show 1 ≤ sizeLine; decide), fun p3 np => ?_⟩
    have s4 : Same (upd H2 T (.tup [.int (i : Int), .ref p])) (upd (upd H2 T (.tup [.int (i : Int), .ref p])) p3 (.tup [.int (i : Int)])) := same_upd np
    have s24 := s23.trans s4
    refine ⟨pl, p3, ps, _, rfl, rfl, Same.kt s24 _ _ hpl, .inl (.inl upd_same), by rw [lp]; exact small25 (by simp; omega), fun p2 H5 s5 q5 => ?_⟩
    have s25 := s24.trans s5
    have k35 : KT K (upd H2 T (.tup [.int (i : Int), .ref p])) H5 := Same.kt (s4.trans s5)
    refine ⟨_, rfl, p, _, 1, vs, rfl, rfl, k35 _ _ hp, at_of (j := 1) rfl rfl, ?_⟩
    refine ⟨W, d + 1, vt, vs, p2, _, an.2.1, an.2.2, rfl, h4.keep k35, h2.keep k35, q5, by rw [List.length_append, lp]; show 2 * d + 1 + 1 = 2 * (d + 1); omega, by omega, hW1, hW5, qok.wide _ ma, nok _ ma, fun H6 s6 => ?_⟩
    exact ⟨_, _, rfl, s25.trans s6⟩
  · rintro σ H2 ⟨o3, o4, rfl, s2⟩
    exact q H2 s2
end
end Tl
namespace Tl
open PySem PySem.Spec PyProof.Rows L2 RZ
/-- a comprehension over two walks -/
theorem lc2_it {J : It} {n : Nat} {G : Hp → Prop} {Y : Nat → Hp → V → Hp → Prop} (w1 : Walk J n G Y) {wi1 : TI} {g g1 : TG} {tt tt1 : TT} {te : TE} {vs vs1 : List Nat} {σ : L2.St} {H1 : Hp} {D : Addr} {Qd : Hp → Prop} (Pv : Nat → Hp → Prop) (h0 : Pv 0 (upd H1 D (.lst []))) (hG : ∀ i H, i ≤ n → Pv i H → G H)
    (hs : ∀ i x H H', i < n → Pv i H → Y i H x H' → g x (wipe σ vs) H' fun σ2 H2 => wipe σ2 vs = wipe σ vs ∧ tt σ2 H2 fun b H3 => if b = true then wi1 σ2 H3 fun J1 H4 => ∃ (k : Nat) (G1 : Hp → Prop) (Y1 : Nat → Hp → V → Hp → Prop) (Pw : Nat → Hp → Prop), Walk J1 k G1 Y1 ∧ Pw 0 H4 ∧ (∀ j H, j ≤ k → Pw j H → G1 H) ∧ (∀ H, Pw k H → Pv (i + 1) H) ∧
        ∀ j y H H', j < k → Pw j H → Y1 j H y H' → g1 y (wipe σ2 vs1) H' fun σ3 H5 => wipe σ3 vs1 = wipe σ2 vs1 ∧ tt1 σ3 H5 fun b H6 => if b = true then te σ3 H6 fun z H7 => ∃ acc, H7 D = some (.lst acc) ∧ acc.length < sizeLine ∧ Pw (j + 1) (upd H7 D (.lst (acc ++ [z]))) else Pw (j + 1) H6 else Pv (i + 1) H3) (hd : ∀ H, Pv n H → Qd H)
    (mg1 : ∀ x σ H Q Q', (∀ σ' H', Q σ' H' → Q' σ' H') → g x σ H Q → g x σ H Q') (mt : ∀ σ H Q Q', (∀ b H', Q b H' → Q' b H') → tt σ H Q → tt σ H Q') (mw : ∀ σ H (Q Q' : It → Hp → Prop), (∀ J H', Q J H' → Q' J H') → wi1 σ H Q → wi1 σ H Q') :
    ∃ W : Nat → Nat → Hp → Prop, (∃ m, W 0 m (upd H1 D (.lst []))) ∧ ∀ i m H, W i m H →
      (J.stop i H ∧ Qd H) ∨ (J.go i H ∧ ∃ Nx : Hp → Prop, (∀ H', Nx H' → ∃ m', m' < m ∧ W (i + 1) m' H') ∧ ∀ x H', J.yld i H x H' → g x (wipe σ vs) H' fun σ2 H2 => wipe σ2 vs = wipe σ vs ∧ tt σ2 H2 fun b H3 =>
        if b = true then wi1 σ2 H3 fun J1 H4 => ∃ W1 : Nat → Nat → Hp → Prop, (∃ m, W1 0 m H4) ∧ ∀ j k H, W1 j k H →
          (J1.stop j H ∧ Nx H) ∨ (J1.go j H ∧ ∃ Nx1 : Hp → Prop, (∀ H', Nx1 H' → ∃ k', k' < k ∧ W1 (j + 1) k' H') ∧ ∀ x H', J1.yld j H x H' → g1 x (wipe σ2 vs1) H' fun σ3 H5 => wipe σ3 vs1 = wipe σ2 vs1 ∧ tt1 σ3 H5 fun b H6 =>
            if b = true then te σ3 H6 fun y H7 => ∃ acc, H7 D = some (.lst acc) ∧ acc.length < sizeLine ∧ Nx1 (upd H7 D (.lst (acc ++ [y]))) else Nx1 H6)
        else Nx H3) := by
  refine ⟨fun i m H => m = n - i ∧ i ≤ n ∧ Pv i H, ⟨n, by simp, Nat.zero_le _, h0⟩, ?_⟩
  rintro i m H ⟨rfl, hi, p⟩
  have q := hG i H hi p
  by_cases hlt : i < n
  · refine .inr ⟨w1.goes i H hlt q, Pv (i + 1), fun H' p' => ⟨n - (i + 1), by omega, rfl, hlt, p'⟩, fun x H' y => ?_⟩
    refine mg1 _ _ _ _ _ (fun σ2 H2 h => ⟨h.1, mt _ _ _ _ (fun b H3 h => ?_) h.2⟩) (hs i x H H' hlt p (w1.yields i H x H' hlt q y))
    cases b with
    | false => exact h
    | true =>
      refine mw _ _ _ _ (fun J1 H4 h => ?_) h
      obtain ⟨k, G1, Y1, Pw, v1, p0, pG, pe, ps⟩ := h
      refine ⟨fun j l H => l = k - j ∧ j ≤ k ∧ Pw j H, ⟨k, by simp, Nat.zero_le _, p0⟩, ?_⟩
      rintro j l H ⟨rfl, hj, pp⟩
      have q2 := pG j H hj pp
      by_cases hl2 : j < k
      · exact .inr ⟨v1.goes j H hl2 q2, Pw (j + 1), fun H' p' => ⟨k - (j + 1), by omega, rfl, hl2, p'⟩, fun x H' y => ps j x H H' hl2 pp (v1.yields j H x H' hl2 q2 y)⟩
      · obtain rfl : j = k := by omega
        exact .inl ⟨v1.stops H q2, pe H pp⟩
  · obtain rfl : i = n := by omega
    exact .inl ⟨w1.stops H q, hd H p⟩
def spCnt (K : PySem.W.Frag) (n : Nat) : Sp := fun vs H Q _ => ∃ (v : V) (t : Nd n), vs = [v] ∧ Td K H v (ndD n t) ∧ Q (.int ((cnt n t : Nat) : Int)) H
def spRnd (K : PySem.W.Frag) (n : Nat) : Sp := fun vs H Q _ => ∃ (v : V) (t : Nd n), vs = [v] ∧ Td K H v (ndD n t) ∧ cnt n t ≤ 10000 ∧ ∀ (r : Int) (H' : Hp), 0 ≤ r → r ≤ n → Same H H' → Q (.int r) H'
/-- the questions of a node at their places -/
theorem td_qs {K : PySem.W.Frag} {H : Hp} {n : Nat} {t : Nd n} {v : V} (h : Td K H v (ndD n t)) : ∃ (a : Addr) (xs : List V) (ds : List PyData), v = .ref a ∧ SqT K H a xs ∧ ndD n t = .tuple ds ∧ TdAll K H xs ds ∧ (n = 0 → xs = []) := by
  cases n with
  | zero =>
    obtain ⟨a, xs, e, hs, ht⟩ := Td.tupE (ds := []) h
    refine ⟨a, xs, [], e, hs, rfl, ht, fun _ => ?_⟩
    cases ht
    rfl
  | succ n =>
    obtain ⟨a, xs, e, hs, ht⟩ := Td.tupE h
    exact ⟨a, xs, _, e, hs, rfl, ht, fun z => by cases z⟩
theorem cntQ_take (n : Nat) (q : Qn n) (i : Nat) (an : An n) (h : q[i]? = some an) : cntQ n (q.take (i + 1)) = cntQ n (q.take i) + (1 + cnt n an.2.2) := by
  unfold cntQ
  rw [List.take_add_one, h, List.map_append, List.sum_append]
  rfl
theorem cnt_take (n : Nat) (qs : List (Qn n)) (i : Nat) (q : Qn n) (h : qs[i]? = some q) : cnt (n + 1) (qs.take (i + 1) : List (Qn n)) = cnt (n + 1) (qs.take i : List (Qn n)) + cntQ n q := by
  rw [List.take_add_one, h]
  exact cnt_snoc n _ q
section
variable {P : Program} {w : World} {K : PySem.W.Frag} {mg : Str → Option Value} {base : Heap} {aN aO : Addr} {t1 t2 t3 t4 t5 t6 t7 : Tok}
theorem ok_answers_in {f : Addr} {fd : FuncData} (D : Dn K mg "answers_in" s_answers_in ["node"] f fd) (B : Blt mg) : ∀ n : Nat, FnOk P w K mg base CX0 (1 + n) f fd ["node"] (spCnt K n) := by
  intro n
  have G_answers_in : n = 0 ∨ ∃ m, n = m + 1 ∧ FnOk P w K mg base CX0 n f fd ["node"] (spCnt K m) := by
    cases n with
    | zero => exact .inl rfl
    | succ m =>
      have := ok_answers_in D B m
      rw [show 1 + m = m + 1 by omega] at this
      exact .inr ⟨m, rfl, this⟩
  obtain ⟨sp0, G_answers_in, hsp⟩ : ∃ sp0, FnOk P w K mg base CX0 n f fd ["node"] sp0 ∧ (∀ m, n = m + 1 → sp0 = spCnt K m) := by
    rcases G_answers_in with h | ⟨m, h, G⟩
    · exact ⟨fun _ _ _ _ => False, ⟨fun vs H Q E h => h.elim, fun A outer s H args us vs Q E _ _ _ _ h => h.elim⟩, fun m e => by omega⟩
    · exact ⟨_, G, fun m' e => by rw [show m' = m by omega]⟩
  rw [show 1 + n = n + 1 by omega]
  refine D.F.ok sc_answers_in (fun vs H Q E h => ?_) (fun cdv A outer s H vs Q E hr h => ?_)
  · obtain ⟨v, t, rfl, _⟩ := h
    rfl
  obtain ⟨v, t, rfl, hv, q⟩ := h
  have nd := sc_answers_in.nd
  have D_answers_in := D
  refine ⟨_, (pss_cons (ps_set (i := 1) nd rfl (.inl rfl) pe_int)
      (pss_cons (ps_for PassesOwn.never rfl (k_iT (K := K) rfl (pv 0)) (pg_name (i := 2) nd rfl (.inl rfl)) (pss_one (ps_for PassesOwn.never rfl (k_iT (K := K) rfl (pv 2)) (pg_name (i := 3) nd rfl (.inl rfl)) (pss_one (ps_aug (i := 1) nd rfl (.inl rfl) (pe_op op_add pe_int (pe_call G_answers_in (hr.mono (by omega)) (by rfl) D_answers_in.m D_answers_in.F.kp D_answers_in.b .nil pass0 (pa_cons (pe_ix (k_ixT (K := K) rfl) (pv 3) pe_int (fun _ _ => rfl)) pa_nil))) ip_add)))))
      (pss_one (ps_ret (pv 1))))), ?_⟩
  obtain ⟨a, xs, ds, rfl, ha, ed, ta, l0⟩ := td_qs hv
  cases n with
  | zero =>
    have := l0 rfl
    subst this
    refine ⟨_, rfl, a, rfl, ⟨_, ha⟩, for_it (walk_tup (K := K) (a := a) (xs := [])) (fun i σ H2 => H2 = H ∧ σ = [some (.ref a), some (.int 0), none, none]) ⟨rfl, rfl⟩ (fun i σ H2 _ h => by rw [h.1]; exact ha) ?_ ?_⟩
    · rintro i x σ H2 H3 hi
      exact absurd hi (Nat.not_lt_zero _)
    · rintro σ H2 ⟨rfl, rfl⟩
      exact ⟨_, rfl, q⟩
  | succ n =>
    cases ed
    have hsp := hsp n rfl
    subst hsp
    have lx : xs.length = (show List (Qn n) from t).length := by rw [ta.len, List.length_map]
    refine ⟨_, rfl, a, rfl, ⟨_, ha⟩, for_it (walk_tup (K := K) (a := a) (xs := xs)) (fun i σ H2 => H2 = H ∧ ∃ o2 o3 : Option V, σ = [some (.ref a), some (.int ((cnt (n + 1) ((show List (Qn n) from t).take i : List (Qn n)) : Nat) : Int)), o2, o3]) ⟨rfl, none, none, rfl⟩ (fun i σ H2 _ h => by rw [h.1]; exact ha) ?_ ?_⟩
    · rintro i x σ H0 H2 hi ⟨rfl, o2, o3, rfl⟩ ⟨e0, e1⟩
      subst e0
      obtain ⟨dx, ex, tx⟩ := ta.getV e1
      obtain ⟨qn, eq, rfl⟩ := map_at ex
      obtain ⟨b, ys, rfl, hb, tb⟩ := id tx.tupE
      have ly : ys.length = qn.length := by rw [tb.len, List.length_map]
      refine ⟨_, rfl, b, rfl, ⟨_, hb⟩, for_it (walk_tup (K := K) (a := b) (xs := ys)) (fun j σ H3 => H3 = H2 ∧ ∃ o3 : Option V, σ = [some (.ref a), some (.int ((cnt (n + 1) ((show List (Qn n) from t).take i : List (Qn n)) + cntQ n (qn.take j) : Nat) : Int)), some (.ref b), o3]) ⟨rfl, _, rfl⟩ (fun j σ H3 _ h => by rw [h.1]; exact hb) ?_ ?_⟩
      · rintro j y σ H0 H3 hj ⟨rfl, o3, rfl⟩ ⟨e0, e2⟩
        subst e0
        obtain ⟨dy, ey, ty⟩ := tb.getV e2
        obtain ⟨an, ea, rfl⟩ := map_at ey
        obtain ⟨p, zs, rfl, hp, tp⟩ := id ty.tupE
        obtain ⟨vt, et, tt⟩ := tp.get (i := 2) rfl
        refine ⟨_, rfl, _, rfl, p, zs, 2, vt, rfl, rfl, hp, at_of (j := 2) rfl et, vt, an.2.2, rfl, tt, _, _, rfl, rfl, _, _, rfl, rfl, ?_⟩
        refine ⟨rfl, some (.ref p), ?_⟩
        rw [cntQ_take n qn j an ea]
        show [some (V.ref a), some (V.int (_ + (1 + ((cnt n an.2.2 : Nat) : Int)))), _, _] = _
        have e9 : (((cnt (n + 1) ((show List (Qn n) from t).take i : List (Qn n)) + cntQ n (qn.take j) : Nat) : Int)) + (1 + ((cnt n an.2.2 : Nat) : Int)) = ((cnt (n + 1) ((show List (Qn n) from t).take i : List (Qn n)) + (cntQ n (qn.take j) + (1 + cnt n an.2.2)) : Nat) : Int) := by omega
        rw [e9]
      · rintro σ H3 ⟨rfl, o3, rfl⟩
        refine ⟨rfl, some (.ref b), o3, ?_⟩
        rw [ly, List.take_length, cnt_take n _ i qn eq]
    · rintro σ H2 ⟨rfl, o2, o3, rfl⟩
      rw [lx, List.take_length]
      exact ⟨_, rfl, q⟩
end
end Tl
namespace Tl
open PySem PySem.Spec PyProof.Rows L2 RZ
theorem max_le {n : Int} : ∀ (l : List Int) (x : Int), 0 ≤ x → x ≤ n → (∀ y ∈ l, 0 ≤ y ∧ y ≤ n) → 0 ≤ l.foldl max x ∧ l.foldl max x ≤ n
  | [], x, h0, h1, _ => ⟨h0, h1⟩
  | y :: r, x, h0, h1, h => by
    obtain ⟨y0, y1⟩ := h y (List.mem_cons_self ..)
    exact max_le r (max x y) (by omega) (by omega) fun z hz => h z (List.mem_cons_of_mem _ hz)
theorem top_le {n : Int} (hn : 0 ≤ n) (l : List Int) (h : ∀ y ∈ l, 0 ≤ y ∧ y ≤ n) : 0 ≤ topOf 0 l ∧ topOf 0 l ≤ n := by
  cases l with
  | nil => exact ⟨Int.le_refl _, hn⟩
  | cons x r =>
    obtain ⟨x0, x1⟩ := h x (List.mem_cons_self ..)
    exact max_le r x x0 x1 fun z hz => h z (List.mem_cons_of_mem _ hz)
theorem cntQ_len (n : Nat) (q : Qn n) : q.length ≤ cntQ n q := by
  rw [cntQ_eq]
  omega
theorem cnt_le_of_mem {n : Nat} {q : Qn n} : ∀ {qs : List (Qn n)}, q ∈ qs → cntQ n q ≤ cnt (n + 1) qs
  | [], h => absurd h List.not_mem_nil
  | x :: r, h => by
    rw [cnt_succ, List.map_cons, List.sum_cons]
    rcases List.mem_cons.mp h with rfl | h
    · omega
    · have := cnt_le_of_mem h
      rw [cnt_succ] at this
      omega
theorem cnt_le_ans {n : Nat} {an : An n} : ∀ {q : Qn n}, an ∈ q → cnt n an.2.2 ≤ cntQ n q
  | [], h => absurd h List.not_mem_nil
  | x :: r, h => by
    unfold cntQ
    rw [List.map_cons, List.sum_cons]
    rcases List.mem_cons.mp h with rfl | h
    · omega
    · have := cnt_le_ans h
      unfold cntQ at this
      omega
theorem cnt_take_le {n : Nat} (qs : List (Qn n)) (i : Nat) : cnt (n + 1) (qs.take i : List (Qn n)) ≤ cnt (n + 1) qs := by
  have e : cnt (n + 1) (qs.take i ++ qs.drop i : List (Qn n)) = cnt (n + 1) (qs.take i : List (Qn n)) + cnt (n + 1) (qs.drop i : List (Qn n)) := by
    rw [cnt_succ, cnt_succ, cnt_succ, List.map_append, List.sum_append]
  rw [List.take_append_drop] at e
  omega
section
variable {P : Program} {w : World} {K : PySem.W.Frag} {mg : Str → Option Value} {base : Heap} {aN aO : Addr} {t1 t2 t3 t4 t5 t6 t7 : Tok}
theorem ok_rounds_in {f : Addr} {fd : FuncData} (D : Dn K mg "rounds_in" s_rounds_in ["node"] f fd) (B : Blt mg) : ∀ n : Nat, FnOk P w K mg base CX0 (1 + n) f fd ["node"] (spRnd K n) := by
  intro n
  obtain ⟨sp0, G_rounds_in, hsp⟩ : ∃ sp0, FnOk P w K mg base CX0 n f fd ["node"] sp0 ∧ (∀ m, n = m + 1 → sp0 = spRnd K m) := by
    cases n with
    | zero => exact ⟨fun _ _ _ _ => False, ⟨fun vs H Q E h => h.elim, fun A outer s H args us vs Q E _ _ _ _ h => h.elim⟩, fun m e => by omega⟩
    | succ m =>
      have G := ok_rounds_in D B m
      rw [show 1 + m = m + 1 by omega] at G
      exact ⟨_, G, fun m' e => by rw [show m' = m by omega]⟩
  rw [show 1 + n = n + 1 by omega]
  refine D.F.ok sc_rounds_in (fun vs H Q E h => ?_) (fun cdv A outer s H vs Q E hr h => ?_)
  · obtain ⟨v, t, rfl, _⟩ := h
    rfl
  obtain ⟨v, t, rfl, hv, hc, q⟩ := h
  have nd := sc_rounds_in.nd
  have D_rounds_in := D
  refine ⟨_, (pss_one (ps_ret (pe_callBK (k_maxDf (K := K) rfl rfl hr.units) (by rfl) B.max (by decide +kernel) (pa_cons (pe_lc2 (own := [("question", 1), ("answer", 2)]) (vs1 := [2]) rfl nd (k_iT (K := K) rfl (pv 0)) (blkOk_by (own := [("question", 1), ("answer", 2)]) (by kernel_rfl)) (by decide) (fun _ _ _ _ _ => (pg_name (i := 1) nd rfl (.inl rfl))) (fun _ _ _ _ _ => pts_nil) (fun _ _ _ _ _ => (k_iT (K := K) rfl (pv 1))) (fun _ _ _ _ _ => (pg_name (i := 2) nd rfl (.inl rfl))) (fun _ _ _ _ _ => pts_nil) (fun _ _ _ _ _ => (pe_op op_add pe_int (pe_call G_rounds_in (hr.mono (by omega)) (by rfl) D_rounds_in.m D_rounds_in.F.kp D_rounds_in.b .nil pass0 (pa_cons (pe_ix (k_ixT (K := K) rfl) (pv 2) pe_int (fun _ _ => rfl)) pa_nil))))) pa_nil) (pk_cons pe_int pk_nil)))), ?_⟩
  obtain ⟨a, xs, ds, rfl, ha, ed, ta, l0⟩ := td_qs hv
  refine ⟨_, rfl, a, rfl, ⟨_, ha⟩, fun T hT => ?_⟩
  refine lc2_it (walk_tup (K := K) (a := a) (xs := xs)) (fun i H2 => ∃ ns : List Int, H2 T = some (.lst (ns.map V.int)) ∧ (∀ y ∈ ns, 0 ≤ y ∧ y ≤ (n : Int)) ∧ (∀ m, n = m + 1 → ∃ qs : List (Qn m), HEq t qs ∧ ns.length ≤ cnt (m + 1) (qs.take i : List (Qn m))) ∧ Same H H2) ⟨[], upd_same, fun y h => absurd h List.not_mem_nil, fun m e => by subst e; exact ⟨t, HEq.rfl, Nat.zero_le _⟩, same_upd hT⟩ (fun i H2 _ h => ?_) ?_ ?_ ?_ ?_ ?_
  · obtain ⟨_, _, _, _, s2⟩ := h
    exact Same.kt s2 _ _ ha
  · rintro i x H0 H2 hi ⟨ns, h2, b2, l2, s2⟩ ⟨rfl, e1⟩
    cases n with
    | zero =>
      have := l0 rfl
      subst this
      exact absurd hi (Nat.not_lt_zero _)
    | succ n =>
      have hsp := hsp n rfl
      subst hsp
      obtain ⟨qs', hq', l2⟩ := l2 n rfl
      obtain ⟨qs0, hq0⟩ : ∃ qs0 : List (Qn n), (qs0 : Nd (n + 1)) = t := ⟨t, rfl⟩
      subst hq0
      cases ed
      have hq2 := eq_of_heq hq'
      subst hq2
      obtain ⟨dx, ex, tx⟩ := ta.getV e1
      obtain ⟨qn, eq0, rfl⟩ := map_at ex
      have eq : qs0[i]? = some qn := eq0
      obtain ⟨b, ys, rfl, hb, tb⟩ := id tx.tupE
      have ly : ys.length = qn.length := by rw [tb.len, List.length_map]
      refine ⟨rfl, ?_⟩
      refine iteT (B := ∃ ns : List Int, H2 T = some (.lst (ns.map V.int)) ∧ (∀ y ∈ ns, 0 ≤ y ∧ y ≤ ((n + 1 : Nat) : Int)) ∧ (∀ m, n + 1 = m + 1 → ∃ qs : List (Qn m), HEq qs0 qs ∧ ns.length ≤ cnt (m + 1) (qs.take (i + 1) : List (Qn m))) ∧ Same H H2) ?_
      refine ⟨_, rfl, b, rfl, ⟨_, Same.kt s2 _ _ hb⟩, ?_⟩
      refine ⟨_, _, _, fun j H3 => ∃ ns : List Int, H3 T = some (.lst (ns.map V.int)) ∧ (∀ y ∈ ns, 0 ≤ y ∧ y ≤ ((n + 1 : Nat) : Int)) ∧ ns.length ≤ cnt (n + 1) (qs0.take i : List (Qn n)) + j ∧ Same H H3, walk_tup (K := K) (a := b) (xs := ys), ⟨ns, h2, b2, l2, s2⟩, fun j H3 _ h => ?_, ?_, ?_⟩
      · obtain ⟨_, _, _, _, s3⟩ := h
        exact Same.kt s3 _ _ hb
      · rintro H3 ⟨ns3, h3, b3, l3, s3⟩
        refine ⟨ns3, h3, b3, fun m e => ?_, s3⟩
        cases e
        refine ⟨qs0, HEq.rfl, ?_⟩
        rw [cnt_take n qs0 i qn eq]
        have := cntQ_len n qn
        omega
      · rintro j y H0 H3 hj ⟨ns3, h3, b3, l3, s3⟩ ⟨rfl, e2⟩
        obtain ⟨dy, ey, ty⟩ := tb.getV e2
        obtain ⟨an, ea, rfl⟩ := map_at ey
        obtain ⟨p, zs, rfl, hp, tp⟩ := id ty.tupE
        obtain ⟨vt, et, tt⟩ := tp.get (i := 2) rfl
        refine ⟨rfl, ?_⟩
        refine iteT (B := ∃ ns : List Int, H3 T = some (.lst (ns.map V.int)) ∧ (∀ y ∈ ns, 0 ≤ y ∧ y ≤ ((n + 1 : Nat) : Int)) ∧ ns.length ≤ cnt (n + 1) (qs0.take i : List (Qn n)) + (j + 1) ∧ Same H H3) ?_
        have hc2 : cnt n an.2.2 ≤ 10000 := Nat.le_trans (Nat.le_trans (cnt_le_ans (List.mem_of_getElem? ea)) (cnt_le_of_mem (List.mem_of_getElem? eq))) hc
        refine ⟨_, rfl, p, zs, 2, vt, rfl, rfl, Same.kt s3 _ _ hp, at_of (j := 2) rfl et, vt, an.2.2, rfl, tt.keep (Same.kt s3), hc2, fun r H4 r0 r1 s4 => ⟨_, _, rfl, rfl, ?_⟩⟩
        refine ⟨_, s4 _ _ h3, ?_, ns3 ++ [1 + r], ?_, ?_, ?_, fun c o z => ?_⟩
        · rw [List.length_map]
          have := cnt_take_le qs0 i
          have hjl : j < 13000 := by
            have e5 := cntQ_len n qn
            have e6 : cntQ n qn ≤ cnt (n + 1) qs0 := cnt_le_of_mem (List.mem_of_getElem? eq)
            rw [ly] at hj
            exact Nat.lt_of_lt_of_le hj (by omega)
          show ns3.length < sizeLine
          rw [sizeLine_eq]
          omega
        · rw [upd_same, List.map_append]
          rfl
        · intro z hz
          rcases List.mem_append.mp hz with h | h
          · exact b3 z h
          · rw [List.mem_singleton.mp h]
            omega
        · rw [List.length_append]
          show ns3.length + 1 ≤ _
          omega
        · rw [upd_ne (ne_of_none z hT)]
          exact s4 _ _ (s3 _ _ z)
  · rintro H2 ⟨ns, h2, b2, l2, s2⟩
    obtain ⟨m0, m1⟩ := top_le (n := (n : Int)) (by omega) ns b2
    exact ⟨T, ns, 0, rfl, rfl, SqL.of h2, q _ H2 m0 m1 s2⟩
  · intro x σ H Q Q' h z
    exact h _ _ z
  · intro σ H Q Q' h z
    exact h _ _ z
  · rintro σ H Q Q' h ⟨x, hx, a', e', z1, z2⟩
    exact ⟨x, hx, a', e', z1, h _ _ z2⟩
end
end Tl
namespace Tl
open PySem PySem.Spec PyProof.Rows L2 RZ
/-- a method as it stands behind the top -/
structure Dm (K : PySem.W.Frag) (x q : Str) (st : Stmt) (ps : List Str) (f : Addr) (fd : FuncData) : Prop where
  F : Fun K x q st f fd
  b : Binds K fd ps []
/-- the class House -/
structure Hcl (K : PySem.W.Frag) (mg : Str → Option Value) (C fi fe : Addr) : Prop where
  cl : Cls K C
  nw : NoAttr K C "worlds"
  nt : NoAttr K C "tree"
  mkH : Mk K C fi
  eq : PySem.W.findIn K (.ref C) "__eq__" = some (some (.ref fe))
  eqf : PySem.W.isFn K (.ref fe) = true
  gHouse : mg "House" = some (.ref C)
  ha : PySem.W.findIn K (.ref C) "__class__" = some (some (.builtin "object.__class__"))
  hn : PySem.W.specialIn K (.builtin "object.__class__") "__get__" = some (some (.builtin "getset_descriptor.__get__"))
  htk : PySem.W.takesIn K (.builtin "object.__class__") = some true
  hm : PySem.W.mroIn K C (.type "object") = some true
def hf (W : Nat) (v : V) : List (Str × V) := putF "tree" v (putF "worlds" (.int (W : Int)) [])
theorem wt : ¬ (("worlds" : Str) = "tree") := by decide +kernel
theorem hf_eq (W : Nat) (v : V) : hf W v = ([("worlds", .int (W : Int)), ("tree", v)] : List (Str × V)) := by
  show (if ("worlds" : Str) = "tree" then [(("worlds" : Str), v)] else (("worlds" : Str), V.int (W : Int)) :: putF "tree" v []) = ([("worlds", V.int (W : Int)), ("tree", v)] : List (Str × V))
  rw [if_neg wt]
  all_goals rfl
theorem hf_w (W : Nat) (v : V) : (hf W v).lookup ("worlds" : Str) = some (.int (W : Int)) := by
  unfold hf
  rw [lookup_putF, if_neg wt, lookup_putF, if_pos rfl]
theorem hf_t (W : Nat) (v : V) : (hf W v).lookup ("tree" : Str) = some v := by
  unfold hf
  rw [lookup_putF, if_pos rfl]
theorem hf_putw (W : Nat) (v : V) (W' : Nat) : putF "worlds" (.int (W' : Int)) (hf W v) = hf W' v := by
  rw [hf_eq, hf_eq]
  show (if ("worlds" : Str) = "worlds" then (("worlds" : Str), V.int (W' : Int)) :: [(("tree" : Str), v)] else _) = _
  rw [if_pos rfl]
theorem hf_putt (W : Nat) (v v' : V) : putF "tree" v' (hf W v) = hf W v' := by
  rw [hf_eq, hf_eq]
  show (if ("worlds" : Str) = "tree" then _ else (("worlds" : Str), V.int (W : Int)) :: (if ("tree" : Str) = "tree" then [(("tree" : Str), v')] else _)) = _
  rw [if_neg wt, if_pos rfl]
/-- a house of W worlds stands at p, its tree is v -/
def HouseAt (C : Addr) (H : Hp) (p : Addr) (W : Nat) (v : V) : Prop := ∃ dx, H p = some (.ins C dx (hf W v))
theorem HouseAt.keep {C p : Addr} {H H' : Hp} {W : Nat} {v : V} (h : HouseAt C H p W v) (s : Same H H') : HouseAt C H' p W v := let ⟨dx, e⟩ := h; ⟨dx, s _ _ e⟩
/-- the tree of a right house -/
structure TreeOk (K : PySem.W.Frag) (H : Hp) (W n : Nat) (v : V) (t : Nd n) : Prop where
  td : Td K H v (ndD n t)
  ok : NdOk W n (ones W) t
  few : cnt n t ≤ 1500
  deep : n ≤ 8
  w1 : 1 ≤ W
  w5 : W ≤ 5
def spCkT (K : PySem.W.Frag) (n : Nat) : Sp := fun vs H Q _ => ∃ (W : Nat) (v : V) (t : Nd n), vs = [.int (W : Int), v] ∧ TreeOk K H W n v t ∧ ∀ H', Same H H' → Q .non H'
def spInit (K : PySem.W.Frag) (C : Addr) (n : Nat) : Sp := fun vs H Q _ => ∃ (p dx : Addr) (W : Nat) (v : V) (t : Nd n), vs = [.ref p, .int (W : Int), v] ∧ H p = some (.ins C dx []) ∧ TreeOk K H W n v t ∧ ∀ H', H' p = some (.ins C dx (hf W v)) → (∀ b o, H b = some o → b ≠ p → H' b = some o) → Q .non H'
def spMade (K : PySem.W.Frag) (C : Addr) (n : Nat) : Sp := fun vs H Q _ => ∃ (W : Nat) (v : V) (t : Nd n), vs = [.int (W : Int), v] ∧ Td K H v (ndD n t) ∧ n ≤ 12 ∧ cnt n t ≤ 3000 ∧ ∀ p H', Same H H' → HouseAt C H' p W v → Q (.ref p) H'
/-- two houses of equal worlds and trees -/
def HEq2 (K : PySem.W.Frag) (C : Addr) : Addr → Addr → Hp → Prop := fun a b H => ∃ (W : Nat) (v v' : V) (d : PyData) (k : Nat), HouseAt C H a W v ∧ HouseAt C H b W v' ∧ Td K H v d ∧ Td K H v' d ∧ Good k d ∧ k ≤ 64
section
variable {P : Program} {w : World} {K : PySem.W.Frag} {mg : Str → Option Value} {base : Heap} {aN aO : Addr} {t1 t2 t3 t4 t5 t6 t7 : Tok}
/-- both judges, by the rounds -/
theorem ok_checks {f1 f2 f3 f4 f5 f6 f7 f8 f9 g1 g2 g3 : Addr} {fd1 fd2 fd3 fd4 fd5 fd6 fd7 fd8 fd9 gd1 gd2 gd3 : FuncData} (B : Blt mg) (C : Cst K mg aN aO t1 t2 t3 t4 t5 t6 t7) (D_check_node : Dn K mg "check_node" s_check_node ["node", "place", "ahead"] f1 fd1) (D_check_question : Dn K mg "check_question" s_check_question ["question", "place", "ahead"] f2 fd2)
    (D_is_answer : Dn K mg "is_answer" s_is_answer ["thing", "worlds"] f3 fd3) (D_is_ascending : Dn K mg "is_ascending" s_is_ascending ["rows"] f4 fd4) (D_total_weights : Dn K mg "total_weights" s_total_weights ["rows", "worlds"] f5 fd5)
    (D_is_number : Dn K mg "is_number" s_is_number ["thing", "least", "most"] f6 fd6) (D_is_integral : Dn K mg "is_integral" s_is_integral ["thing"] f7 fd7) (D_is_word : Dn K mg "is_word" s_is_word ["thing"] f8 fd8) (D_is_fraction : Dn K mg "is_fraction" s_is_fraction ["thing"] f9 fd9) (D_is_chance : Dn K mg "is_chance" s_is_chance ["thing"] g1 gd1)
    (D_reduced : Dn K mg "reduced" s_reduced ["top", "bottom"] g2 gd2) (D_added : DTot K mg g3 gd3) {h1 h2 : Addr} {hd1 hd2 : FuncData} (D_total : Dn K mg "total" s_total ["fractions"] h1 hd1) (D_are_chances : Dn K mg "are_chances" s_are_chances ["thing", "many"] h2 hd2) :
    ∀ n : Nat, FnOk P w K mg base CX0 (5 + 2 * n) f2 fd2 ["question", "place", "ahead"] (spCkQ K n) ∧ FnOk P w K mg base CX0 (6 + 2 * n) f1 fd1 ["node", "place", "ahead"] (spCkN K n)
  | 0 => by
    have h0 : FnOk P w K mg base CX0 (5 + 2 * 0) f2 fd2 ["question", "place", "ahead"] (spCkQ K 0) := ⟨fun vs H Q E h => h.elim, fun A outer s H args us vs Q E _ _ _ _ h => h.elim⟩
    exact ⟨h0, ok_check_node D_check_node B C D_check_question h0⟩
  | n + 1 => by
    have ih := ok_checks B C D_check_node D_check_question D_is_answer D_is_ascending D_total_weights D_is_number D_is_integral D_is_word D_is_fraction D_is_chance D_reduced D_added D_total D_are_chances n
    have h1 : FnOk P w K mg base CX0 (5 + 2 * (n + 1)) f2 fd2 ["question", "place", "ahead"] (spCkQ K (n + 1)) := by
      have := ok_check_question D_check_question B C D_check_node ih.2 D_is_answer (ok_is_answer D_is_answer B C D_is_number D_is_integral D_is_word D_is_fraction D_is_chance D_are_chances) D_is_ascending (ok_is_ascending D_is_ascending B) D_total_weights (ok_total_weights D_total_weights B C D_reduced D_added D_total)
      rw [show 5 + 2 * (n + 1) = 7 + 2 * n by omega]
      exact this
    exact ⟨h1, ok_check_node D_check_node B C D_check_question h1⟩
theorem ok_check_tree {n : Nat} {f f1 f2 : Addr} {fd fd1 fd2 : FuncData} (D : Dn K mg "check_tree" s_check_tree ["worlds", "tree"] f fd) (B : Blt mg) (C : Cst K mg aN aO t1 t2 t3 t4 t5 t6 t7) (D_check_node : Dn K mg "check_node" s_check_node ["node", "place", "ahead"] f1 fd1) (G_check_node : FnOk P w K mg base CX0 (6 + 2 * n) f1 fd1 ["node", "place", "ahead"] (spCkN K n))
    (D_answers_in : Dn K mg "answers_in" s_answers_in ["node"] f2 fd2) : FnOk P w K mg base CX0 (7 + 2 * n) f fd ["worlds", "tree"] (spCkT K n) := by
  have G_answers_in : FnOk P w K mg base CX0 (1 + n) f2 fd2 ["node"] (spCnt K n) := ok_answers_in D_answers_in B n
  rw [show 7 + 2 * n = (6 + 2 * n) + 1 by omega]
  refine D.F.ok sc_check_tree (fun vs H Q E h => ?_) (fun cdv A outer s H vs Q E hr h => ?_)
  · obtain ⟨W, v, t, rfl, _⟩ := h
    rfl
  obtain ⟨W, v, t, rfl, T, q⟩ := h
  have nd := sc_check_tree.nd
  refine ⟨_, (pss_cons (ps_expr (pe_call G_check_node (hr.mono (by omega)) (by rfl) D_check_node.m D_check_node.F.kp D_check_node.b .nil pass0 (pa_cons (pv 1) (pa_cons (pe_tup pa_nil) (pa_cons (pe_op (k_rep (K := K) rfl) (pe_tup (pa_cons (pe_glob (v := .ref _) rfl C.ONE rfl) pa_nil)) (pv 0)) pa_nil)))))
      (pss_one (ps_if (pt_cmpR op_gt (pe_call G_answers_in (hr.mono (by omega)) (by rfl) D_answers_in.m D_answers_in.F.kp D_answers_in.b .nil pass0 (pa_cons (pv 1) pa_nil)) (pe_glob (v := .int _) rfl C.MOST_PASSED ⟨_, rfl⟩) (nomark _)) (pss_one ps_never) pss_nil))), ?_⟩
  have w1 := T.w1
  have w5 := T.w5
  refine ⟨_, rfl, Nat.zero_le _, fun p1 n1 => ⟨(by show 1 ≤ sizeLine; decide), fun p2 n2 => ?_⟩⟩
  have s2 : Same H (upd (upd H p1 (.tup [])) p2 (.tup [.ref aO])) := (same_upd n1).trans (same_upd n2)
  refine ⟨_, rfl, p2, (W : Int), _, rfl, rfl, .inl (.inl upd_same), by simp, by omega, by omega, by simp, fun pa H3 s3 q3 => ?_⟩
  have s03 := s2.trans s3
  have tO : Td K H3 (.ref aO) (rD 1) := by
    rw [rD_one]
    exact .tup (C.tO _) (tdAll_ints [1, 1])
  refine ⟨W, 0, v, .ref pa, p1, [], ones W, t, rfl, T.td.keep (Same.kt s03), ones_td tO q3, Same.kt (((same_upd n2)).trans s3) _ _ (.inl (.inl upd_same)), rfl, by have := T.deep; omega, w1, w5, by unfold ones; rw [List.length_replicate], T.ok, fun H4 s4 => ?_⟩
  have s04 := s03.trans s4
  refine ⟨_, rfl, v, t, rfl, T.td.keep (Same.kt s04), _, _, rfl, rfl, _, rfl, ?_⟩
  have few := T.few
  rw [decide_eq_false (show ¬ (1500 : Int) < ((cnt n t : Nat) : Int) by omega)]
  exact iteF (q H4 s04)
theorem ok_House_init {n : Nat} {Cc f fe f1 f2 f3 : Addr} {fd fd1 fd2 fd3 : FuncData} (D : Dm K "__init__" "House.__init__" s_House_init ["self", "worlds", "tree"] f fd) (B : Blt mg) (C : Cst K mg aN aO t1 t2 t3 t4 t5 t6 t7) (U : Hcl K mg Cc f fe) (D_check_tree : Dn K mg "check_tree" s_check_tree ["worlds", "tree"] f1 fd1) (G_check_tree : FnOk P w K mg base CX0 (7 + 2 * n) f1 fd1 ["worlds", "tree"] (spCkT K n))
    (D_is_number : Dn K mg "is_number" s_is_number ["thing", "least", "most"] f2 fd2) (D_is_integral : Dn K mg "is_integral" s_is_integral ["thing"] f3 fd3) : FnOk P w K mg base CX0 (8 + 2 * n) f fd ["self", "worlds", "tree"] (spInit K Cc n) := by
  have G_is_number : FnOk P w K mg base CX0 2 f2 fd2 ["thing", "least", "most"] spNumber := ok_is_number D_is_number B D_is_integral
  rw [show 8 + 2 * n = (7 + 2 * n) + 1 by omega]
  refine D.F.ok sc_House_init (fun vs H Q E h => ?_) (fun cdv A outer s H vs Q E hr h => ?_)
  · obtain ⟨p, dx, W, v, t, rfl, _⟩ := h
    rfl
  obtain ⟨p, dx, W, v, t, rfl, hp, T, q⟩ := h
  have nd := sc_House_init.nd
  refine ⟨_, (pss_cons (ps_if (pt_not (pt_val (pe_call G_is_number (hr.mono (by omega)) (by rfl) D_is_number.m D_is_number.F.kp D_is_number.b .nil pass0 (pa_cons (pv 1) (pa_cons pe_int (pa_cons pe_int pa_nil)))))) (pss_one ps_never) pss_nil)
      (pss_cons (ps_expr (pe_call G_check_tree (hr.mono (by omega)) (by rfl) D_check_tree.m D_check_tree.F.kp D_check_tree.b .nil pass0 (pa_cons (pv 1) (pa_cons (pv 2) pa_nil))))
      (pss_cons (ps_fld (pv 0) (pv 1) rfl)
      (pss_one (ps_fld (pv 0) (pv 2) rfl))))), ?_⟩
  have w1 := T.w1
  have w5 := T.w5
  refine ⟨_, rfl, _, _, _, rfl, _, rfl, ?_⟩
  rw [decide_eq_true (show (1 : Int) ≤ (W : Int) by omega), decide_eq_true (show (W : Int) ≤ 5 by omega)]
  refine iteF ?_
  refine ⟨_, rfl, _, rfl, W, v, t, rfl, T, fun H1 s1 => ?_⟩
  have h1 := s1 _ _ hp
  refine ⟨_, rfl, _, rfl, p, Cc, dx, [], rfl, h1, U.cl, U.nw, (by show 0 < 1000; decide), ?_⟩
  refine ⟨_, rfl, _, rfl, p, Cc, dx, _, rfl, upd_same, U.cl, U.nt, (by show 1 < 1000; decide), ?_⟩
  exact q _ upd_same fun b o e hb => by
    rw [upd_ne hb, upd_ne hb]
    exact s1 _ _ e
theorem ok_House_eq {Cc fi f : Addr} {fd : FuncData} (D : Dm K "__eq__" "House.__eq__" s_House_eq ["self", "other"] f fd) (B : Blt mg) (U : Hcl K mg Cc fi f) : FnOk P w K mg base CX0 1 f fd ["self", "other"] (spEq (HEq2 K Cc)) := by
  refine D.F.ok sc_House_eq (fun vs H Q E h => ?_) (fun cdv A outer s H vs Q E hr h => ?_)
  · obtain ⟨a, b, rfl, _⟩ := h
    rfl
  obtain ⟨a, b, rfl, ⟨W, v, v', d, k, ⟨dx, h1⟩, ⟨dy, h2⟩, e1, e2, g, hk⟩, q⟩ := h
  have nd := sc_House_eq.nd
  refine ⟨_, (pss_one (ps_ret (pe_and (pe_callB (k_isi (K := K) rfl) (by rfl) B.isinstance (by decide +kernel) (pa_cons (pv 1) (pa_cons (pe_glob (v := .ref _) rfl U.gHouse rfl) pa_nil))) (pe_and (pe_cmpR op_eq (k_fld (K := K) rfl (pv 0) rfl) (k_fld (K := K) rfl (pv 1) rfl) (nomark _)) (pe_one (pe_cmpR (k_eqD (K := K) rfl hr.units) (k_fld (K := K) rfl (pv 0) rfl) (k_fld (K := K) rfl (pv 1) rfl) (nomark _))))))), ?_⟩
  have kk : PySem.W.kitOne K (.ref Cc) (.ref Cc) = some true := by
    unfold PySem.W.kitOne
    rw [if_pos (beq_self_eq_true _)]
  refine ⟨_, rfl, _, .ref Cc, .ref Cc, .ref Cc, true, rfl, .own Cc, .base (.ins h2 U.cl U.ha U.hn U.htk U.hm), kk, _, rfl, iteT ?_⟩
  refine ⟨_, rfl, a, Cc, dx, _, _, rfl, h1, U.cl, U.nw, hf_w _ _, _, rfl, b, Cc, dy, _, _, rfl, h2, U.cl, U.nw, hf_w _ _, rfl, _, rfl, ?_⟩
  rw [decide_eq_true rfl]
  refine iteT ?_
  refine ⟨_, rfl, a, Cc, dx, _, _, rfl, h1, U.cl, U.nt, hf_t _ _, _, rfl, b, Cc, dy, _, _, rfl, h2, U.cl, U.nt, hf_t _ _, d, d, e1.dp, e2.dp, g.shaped hk, g.shaped hk, ?_⟩
  rw [g.refl]
  exact q H Ext.rfl'
end
end Tl
namespace Tl
open PySem PySem.Spec PyProof.Rows L2 RZ
/-! the house without hopeless answers -/
def hope : (n : Nat) → Nd n → Nd n
  | 0, t => t
  | n + 1, qs => (show List (Qn n) from qs).map fun q => (q.filter fun a => !isZ a.2.1).map fun a => (a.1, a.2.1, hope n a.2.2)
def hopeA (n : Nat) (a : An n) : An n := (a.1, a.2.1, hope n a.2.2)
def hopeQ (n : Nat) (q : Qn n) : Qn n := (q.filter fun a => !isZ a.2.1).map (hopeA n)
theorem hope_succ (n : Nat) (qs : List (Qn n)) : hope (n + 1) qs = (qs.map (hopeQ n) : List (Qn n)) := rfl
theorem cntQ_nil (n : Nat) : cntQ n [] = 0 := rfl
theorem cntQ_cons (n : Nat) (a : An n) (q : Qn n) : cntQ n (a :: q) = 1 + cnt n a.2.2 + cntQ n q := rfl
theorem cnt_cons (n : Nat) (q : Qn n) (qs : List (Qn n)) : cnt (n + 1) (q :: qs : List (Qn n)) = cntQ n q + cnt (n + 1) qs := rfl
theorem hopeQ_cons (n : Nat) (a : An n) (q : Qn n) : hopeQ n (a :: q) = if isZ a.2.1 = true then hopeQ n q else hopeA n a :: hopeQ n q := by
  unfold hopeQ
  rw [List.filter_cons]
  cases isZ a.2.1 <;> rfl
theorem cnt_hope : ∀ (n : Nat) (t : Nd n), cnt n (hope n t) ≤ cnt n t
  | 0, _ => Nat.le_refl _
  | n + 1, qs => by
    have hq : ∀ q : Qn n, cntQ n (hopeQ n q) ≤ cntQ n q := by
      intro q
      induction q with
      | nil => exact Nat.le_refl _
      | cons a r ih =>
        rw [hopeQ_cons, cntQ_cons]
        have := cnt_hope n a.2.2
        split
        · omega
        · rw [cntQ_cons]
          show 1 + cnt n (hope n a.2.2) + _ ≤ _
          omega
    have all : ∀ l : List (Qn n), cnt (n + 1) (l.map (hopeQ n) : List (Qn n)) ≤ cnt (n + 1) l := by
      intro l
      induction l with
      | nil => exact Nat.le_refl _
      | cons q r ih =>
        have := hq q
        rw [List.map_cons, cnt_cons, cnt_cons]
        omega
    exact all qs
theorem isZ_false {ws : List Rat} (h : isZ ws = true) {j : Nat} : ws.getD j 0 = 0 := by
  by_cases hj : j < ws.length
  · rw [getD_of (List.getElem?_eq_getElem hj)]
    unfold isZ at h
    exact of_decide_eq_true (List.all_eq_true.mp h _ (List.getElem_mem hj))
  · rw [List.getD_eq_getElem?_getD, List.getElem?_eq_none (by omega)]
    rfl
theorem isZ_of {W : Nat} {ws : List Rat} (hl : ws.length = W) (h : ∀ j, j < W → ws.getD j 0 = 0) : isZ ws = true := by
  unfold isZ
  refine List.all_eq_true.mpr fun x hx => ?_
  obtain ⟨j, hj, rfl⟩ := List.getElem_of_mem hx
  have := h j (by omega)
  rw [getD_of (List.getElem?_eq_getElem hj)] at this
  exact decide_eq_true this
theorem fsum_zero : ∀ l : List Rat, (∀ x ∈ l, x = 0) → fsum l = 0
  | [], _ => rfl
  | x :: r, h => by
    rw [fsum_cons, h x (List.mem_cons_self ..), fsum_zero r fun y hy => h y (List.mem_cons_of_mem _ hy), Rat.zero_add]
theorem col_cons {n : Nat} (a : An n) (q : Qn n) (j : Nat) : col (a :: q) j = a.2.1.getD j 0 :: col q j := rfl
theorem hope_sub {n : Nat} (j : Nat) (q : Qn n) : ∀ r ∈ col (hopeQ n q) j, r ∈ col q j := by
  intro r hr
  unfold col hopeQ at hr
  rw [List.map_map] at hr
  obtain ⟨a, ha, rfl⟩ := List.mem_map.mp hr
  exact List.mem_map.mpr ⟨a, (List.mem_filter.mp ha).1, rfl⟩
theorem hope_whole {n : Nat} (j : Nat) : ∀ q : Qn n, fsum (col (hopeQ n q) j) = fsum (col q j)
  | [] => rfl
  | a :: q => by
    rw [hopeQ_cons]
    by_cases h : isZ a.2.1 = true
    · rw [if_pos h, hope_whole j q, col_cons, fsum_cons, isZ_false h, Rat.zero_add]
    · rw [if_neg h, col_cons, col_cons, fsum_cons, fsum_cons, hope_whole j q]
      rfl
theorem lex_trans : ∀ {a b c : List Int}, HT.lexLt a b = true → HT.lexLt b c = true → HT.lexLt a c = true
  | [], [], _, h, _ => by cases h
  | [], _ :: _, [], _, h => by cases h
  | [], _ :: _, _ :: _, _, _ => rfl
  | _ :: _, [], _, h, _ => by cases h
  | _ :: _, _ :: _, [], _, h => by cases h
  | x :: xs, y :: ys, z :: zs, h1, h2 => by
    unfold HT.lexLt at h1 h2 ⊢
    by_cases e1 : x = y
    · subst e1
      rw [if_pos rfl] at h1
      by_cases e2 : x = z
      · subst e2
        rw [if_pos rfl] at h2 ⊢
        exact lex_trans h1 h2
      · rw [if_neg e2] at h2 ⊢
        exact h2
    · rw [if_neg e1] at h1
      have l1 := of_decide_eq_true h1
      by_cases e2 : y = z
      · subst e2
        rw [if_neg (by omega)]
        exact h1
      · rw [if_neg e2] at h2
        have l2 := of_decide_eq_true h2
        rw [if_neg (by omega)]
        exact decide_eq_true (by omega)
def AscP {n : Nat} (q : Qn n) : Prop := q.Pairwise fun x y => HT.lexLt x.1 y.1 = true
theorem asc_pair {n : Nat} : ∀ {q : Qn n}, (∀ i (x y : An n), q[i]? = some x → q[i + 1]? = some y → HT.lexLt x.1 y.1 = true) → AscP q
  | [], _ => List.Pairwise.nil
  | [a], _ => List.pairwise_singleton _ _
  | a :: b :: r, h => by
    have ih : AscP (b :: r) := asc_pair fun i x y hx hy => h (i + 1) x y hx hy
    have ab := h 0 a b rfl rfl
    refine List.Pairwise.cons (fun z hz => ?_) ih
    rcases List.mem_cons.mp hz with rfl | hz
    · exact ab
    · exact lex_trans ab (List.rel_of_pairwise_cons ih hz)
theorem pair_asc {n : Nat} {q : Qn n} (h : AscP q) (i : Nat) (x y : An n) (hx : q[i]? = some x) (hy : q[i + 1]? = some y) : HT.lexLt x.1 y.1 = true := by
  have h1 := (List.getElem?_eq_some_iff.mp hx)
  have h2 := (List.getElem?_eq_some_iff.mp hy)
  obtain ⟨l1, e1⟩ := h1
  obtain ⟨l2, e2⟩ := h2
  have := (List.pairwise_iff_getElem.mp h) i (i + 1) l1 l2 (by omega)
  rw [e1, e2] at this
  exact this
theorem hope_asc {n : Nat} {q : Qn n} (h : AscP q) : AscP (hopeQ n q) := by
  unfold AscP hopeQ
  rw [List.pairwise_map]
  exact List.Pairwise.filter _ h
theorem hope_ok : ∀ {W n : Nat} {ahead : List Rat} {t : Nd n}, ahead.length = W → isZ ahead = false → NdOk W n ahead t → NdOk W n ahead (hope n t)
  | _, 0, _, _, _, _, _ => trivial
  | W, n + 1, ahead, qs, hl, hz, h => by
    refine ⟨?_, ?_⟩
    · show (List.map _ _).length ≤ 5
      rw [List.length_map]
      exact h.1
    · intro q' hq'
      obtain ⟨q, hq, rfl⟩ := List.mem_map.mp hq'
      obtain ⟨ok, nok⟩ := h.2 q hq
      have mem : ∀ a' ∈ hopeQ n q, ∃ a ∈ q, isZ a.2.1 = false ∧ a' = hopeA n a := by
        intro a' ha'
        unfold hopeQ at ha'
        obtain ⟨a, ha, rfl⟩ := List.mem_map.mp ha'
        obtain ⟨h1, h2⟩ := List.mem_filter.mp ha
        exact ⟨a, h1, by simpa using h2, rfl⟩
      refine ⟨⟨?_, ?_, ?_, ?_, ?_, ?_, ?_⟩, ?_⟩
      · show 1 ≤ (hopeQ n q).length
        cases e : hopeQ n q with
        | cons a r => simp
        | nil =>
          have : isZ ahead = true := isZ_of hl fun j hj => by
            rw [← ok.whole j hj, ← hope_whole j q, e]
            rfl
          rw [hz] at this
          cases this
      · show (hopeQ n q).length ≤ 12
        unfold hopeQ
        rw [List.length_map]
        exact Nat.le_trans (List.length_filter_le _ _) ok.most
      · intro a' ha'
        obtain ⟨a, h1, h2, rfl⟩ := mem a' ha'
        exact ok.words a h1
      · exact fun i x y => pair_asc (hope_asc (asc_pair ok.asc)) i x y
      · intro a' ha'
        obtain ⟨a, h1, h2, rfl⟩ := mem a' ha'
        exact ok.wide a h1
      · intro a' ha'
        obtain ⟨a, h1, h2, rfl⟩ := mem a' ha'
        exact ok.chs a h1
      · intro j hj
        show fsum (col (hopeQ n q) j) = _
        rw [hope_whole]
        exact ok.whole j hj
      · intro a' ha'
        obtain ⟨a, h1, h2, rfl⟩ := mem a' ha'
        exact hope_ok (ok.wide a h1) h2 (nok a h1)
theorem ones_not {W : Nat} (h : 1 ≤ W) : isZ (ones W) = false := by
  cases W with
  | zero => omega
  | succ W =>
    unfold isZ ones
    rw [List.replicate_succ, List.all_cons]
    rfl
/-- without hopeless answers once more -/
theorem hope_hope : ∀ (n : Nat) (t : Nd n), hope n (hope n t) = hope n t
  | 0, _ => rfl
  | n + 1, qs => by
    have hq : ∀ q : Qn n, hopeQ n (hopeQ n q) = hopeQ n q := by
      intro q
      induction q with
      | nil => rfl
      | cons a r ih =>
        rw [hopeQ_cons]
        by_cases h : isZ a.2.1 = true
        · rw [if_pos h, ih]
        · rw [if_neg h, hopeQ_cons]
          have h2 : ¬ isZ (hopeA n a).2.1 = true := h
          rw [if_neg h2, ih]
          have e : hopeA n (hopeA n a) = hopeA n a := by
            unfold hopeA
            rw [hope_hope n a.2.2]
          rw [e]
    have all : ∀ l : List (Qn n), (l.map (hopeQ n)).map (hopeQ n) = l.map (hopeQ n) := by
      intro l
      rw [List.map_map]
      exact List.map_congr_left fun q _ => hq q
    exact all qs
end Tl
namespace Tl
open PySem PySem.Spec PyProof.Rows L2 RZ
def spHope (K : PySem.W.Frag) (n : Nat) : Sp := fun vs H Q _ => ∃ (W : Nat) (v : V) (ahead : List Rat) (t : Nd n), vs = [v] ∧ Td K H v (ndD n t) ∧ NdOk W n ahead t ∧ W ≤ 5 ∧ ∀ v' H', Same H H' → Td K H' v' (ndD n (hope n t)) → Q v' H'
theorem hopeQ_snoc {n : Nat} (q : Qn n) (i : Nat) (an : An n) (h : q[i]? = some an) : hopeQ n (q.take (i + 1)) = hopeQ n (q.take i) ++ (if isZ an.2.1 = true then [] else [hopeA n an]) := by
  unfold hopeQ
  rw [List.take_add_one, h, List.filter_append, List.map_append]
  congr 1
  show List.map (hopeA n) (List.filter _ [an]) = _
  rw [List.filter_cons]
  cases isZ an.2.1 <;> rfl
theorem hopeQ_len {n : Nat} (q : Qn n) : (hopeQ n q).length ≤ q.length := by
  unfold hopeQ
  rw [List.length_map]
  exact List.length_filter_le _ _
/-- an answer at its place -/
theorem td_an {K : PySem.W.Frag} {H : Hp} {n : Nat} {an : An n} {v : V} (h : Td K H v (anD n an)) : ∃ p vw vs vt, v = .ref p ∧ SqT K H p [vw, vs, vt] ∧ Td K H vw (wdD an.1) ∧ Td K H vs (wsD an.2.1) ∧ Td K H vt (ndD n an.2.2) := by
  obtain ⟨p, ys, rfl, hp, tp⟩ := id h.tupE
  cases tp with
  | cons h1 tp => cases tp with
    | cons h2 tp => cases tp with
      | cons h3 tp =>
        cases tp
        exact ⟨p, _, _, _, rfl, hp, h1, h2, h3⟩
section
variable {P : Program} {w : World} {K : PySem.W.Frag} {mg : Str → Option Value} {base : Heap} {aN aO : Addr} {t1 t2 t3 t4 t5 t6 t7 : Tok}
end
end Tl
namespace Tl
open PySem PySem.Spec PyProof.Rows L2 RZ
/-- how many questions -/
def nq : (n : Nat) → Nd n → Nat
  | 0, _ => 0
  | n + 1, qs => (show List (Qn n) from qs).length
/-- answers told by their numbers and by what is behind -/
def cntd : (n : Nat) → Nd n → Nd n
  | 0, t => t
  | n + 1, qs => (show List (Qn n) from qs).map fun q => q.mapIdx fun i a => ([(i : Int), (nq n a.2.2 : Int)], a.2.1, cntd n a.2.2)
def cntdA (n : Nat) (i : Nat) (a : An n) : An n := ([(i : Int), (nq n a.2.2 : Int)], a.2.1, cntd n a.2.2)
def cntdQ (n : Nat) (q : Qn n) : Qn n := q.mapIdx (cntdA n)
theorem cntdQ_snoc {n : Nat} (q : Qn n) (i : Nat) (an : An n) (h : q[i]? = some an) : cntdQ n (q.take (i + 1)) = cntdQ n (q.take i) ++ [cntdA n i an] := by
  unfold cntdQ
  have hi := (List.getElem?_eq_some_iff.mp h).1
  rw [List.take_add_one, h]
  show List.mapIdx _ (_ ++ [an]) = _
  rw [List.mapIdx_concat, List.length_take, Nat.min_eq_left (Nat.le_of_lt hi)]
theorem cnt_cntd : ∀ (n : Nat) (t : Nd n), cnt n (cntd n t) = cnt n t
  | 0, _ => rfl
  | n + 1, qs => by
    have hq : ∀ q : Qn n, cntQ n (cntdQ n q) = cntQ n q := by
      intro q
      unfold cntQ cntdQ
      congr 1
      refine List.ext_getElem? fun i => ?_
      rw [List.getElem?_map, List.getElem?_map, List.getElem?_mapIdx]
      cases q[i]? with
      | none => rfl
      | some a =>
        show some (1 + cnt n (cntd n a.2.2)) = some (1 + cnt n a.2.2)
        rw [cnt_cntd n]
    have all : ∀ l : List (Qn n), cnt (n + 1) (l.map (cntdQ n) : List (Qn n)) = cnt (n + 1) l := by
      intro l
      induction l with
      | nil => rfl
      | cons q r ih =>
        have := hq q
        rw [List.map_cons, cnt_cons, cnt_cons]
        omega
    exact all qs
theorem nq_td {K : PySem.W.Frag} {H : Hp} {n : Nat} {t : Nd n} {v : V} (h : Td K H v (ndD n t)) : ∃ (a : Addr) (xs : List V), v = .ref a ∧ SqT K H a xs ∧ xs.length = nq n t := by
  obtain ⟨a, xs, ds, rfl, ha, ed, ta, l0⟩ := td_qs h
  refine ⟨a, xs, rfl, ha, ?_⟩
  cases n with
  | zero => rw [l0 rfl]; rfl
  | succ n =>
    cases ed
    rw [ta.len, List.length_map]
    rfl
def spCntd (K : PySem.W.Frag) (n : Nat) : Sp := fun vs H Q _ => ∃ (W : Nat) (v : V) (ahead : List Rat) (t : Nd n), vs = [v] ∧ Td K H v (ndD n t) ∧ NdOk W n ahead t ∧ ∀ v' H', Same H H' → Td K H' v' (ndD n (cntd n t)) → Q v' H'
section
variable {P : Program} {w : World} {K : PySem.W.Frag} {mg : Str → Option Value} {base : Heap} {aN aO : Addr} {t1 t2 t3 t4 t5 t6 t7 : Tok}
end
end Tl
namespace Tl
open PySem PySem.Spec PyProof.Rows L2 RZ
section
variable {P : Program} {w : World} {K : PySem.W.Frag} {mg : Str → Option Value} {base : Heap} {aN aO : Addr} {t1 t2 t3 t4 t5 t6 t7 : Tok}
theorem ok_made_house {n : Nat} {Cc fi fe f f1 f2 : Addr} {fd fd1 fd2 fdi : FuncData} (D : Dn K mg "made_house" s_made_house ["worlds", "tree"] f fd) (B : Blt mg) (C : Cst K mg aN aO t1 t2 t3 t4 t5 t6 t7) (U : Hcl K mg Cc fi fe) (D_rounds_in : Dn K mg "rounds_in" s_rounds_in ["node"] f1 fd1) (D_answers_in : Dn K mg "answers_in" s_answers_in ["node"] f2 fd2)
    (D_House_init : Dm K "__init__" "House.__init__" s_House_init ["self", "worlds", "tree"] fi fdi) (G_House_init : FnOk P w K mg base CX0 8 fi fdi ["self", "worlds", "tree"] (spInit K Cc 0)) : FnOk P w K mg base CX0 (12 + n) f fd ["worlds", "tree"] (spMade K Cc n) := by
  have G_rounds_in : FnOk P w K mg base CX0 (1 + n) f1 fd1 ["node"] (spRnd K n) := ok_rounds_in D_rounds_in B n
  have G_answers_in : FnOk P w K mg base CX0 (1 + n) f2 fd2 ["node"] (spCnt K n) := ok_answers_in D_answers_in B n
  rw [show 12 + n = (11 + n) + 1 by omega]
  refine D.F.ok sc_made_house (fun vs H Q E h => ?_) (fun cdv A outer s H vs Q E hr h => ?_)
  · obtain ⟨W, v, t, rfl, _⟩ := h
    rfl
  obtain ⟨W, v, t, rfl, hv, hn, hc, q⟩ := h
  have nd := sc_made_house.nd
  refine ⟨_, (pss_cons (ps_if (PW.pt (pw_or (pt_cmpR op_gt (pe_call G_rounds_in (hr.mono (by omega)) (by rfl) D_rounds_in.m D_rounds_in.F.kp D_rounds_in.b .nil pass0 (pa_cons (pv 1) pa_nil)) (pe_glob (v := .int _) rfl C.MOST_ROUNDS ⟨_, rfl⟩) (nomark _)) (pw_or1 (pt_cmpR op_gt (pe_call G_answers_in (hr.mono (by omega)) (by rfl) D_answers_in.m D_answers_in.F.kp D_answers_in.b .nil pass0 (pa_cons (pv 1) pa_nil)) (pe_glob (v := .int _) rfl C.MOST_ANSWERS ⟨_, rfl⟩) (nomark _))))) (pss_one ps_never) pss_nil)
      (pss_cons (ps_set (i := 2) nd rfl (.inl rfl) (pe_make U.mkH G_House_init (hr.mono (by omega)) (by rfl) U.gHouse D_House_init.b .nil pass0 (pa_cons pe_int (pa_cons (pe_tup pa_nil) pa_nil))))
      (pss_cons (ps_fld (pv 2) (pv 0) rfl)
      (pss_cons (ps_fld (pv 2) (pv 1) rfl)
      (pss_one (ps_ret (pv 2))))))), ?_⟩
  refine ⟨_, rfl, v, t, rfl, hv, by omega, fun r H1 r0 r1 s1 => ?_⟩
  refine ⟨_, _, rfl, rfl, _, rfl, ?_⟩
  rw [decide_eq_false (show ¬ (12 : Int) < r by omega)]
  refine iteF ?_
  refine ⟨_, rfl, v, t, rfl, hv.keep (Same.kt s1), _, _, rfl, rfl, _, rfl, ?_⟩
  rw [decide_eq_false (show ¬ (3000 : Int) < ((cnt n t : Nat) : Int) by omega)]
  refine iteF ?_
  refine ⟨by show 0 ≤ sizeLine; decide, fun p1 n1 => ?_⟩
  have s2 := s1.trans (same_upd (o := .tup []) n1)
  refine fun x dx nx ndx ne => ?_
  have nz : ∀ {b : Addr} {o : HO}, upd H1 p1 (.tup []) b = some o → b ≠ x ∧ b ≠ dx := fun e => ⟨ne_of_none e nx, ne_of_none e ndx⟩
  have s3 : Same (upd H1 p1 (.tup [])) (upd (upd (upd H1 p1 (.tup [])) dx (.own x)) x (.ins Cc dx [])) := fun b o e => by
    rw [upd_ne (nz e).1, upd_ne (nz e).2]
    exact e
  refine ⟨x, dx, 1, .ref p1, (), rfl, upd_same, ⟨.tup (Same.kt s3 _ _ (.inl (.inl upd_same))) .nil, trivial, Nat.zero_le _, by omega, by omega, by omega⟩, fun H3 h3 k3 => ⟨rfl, ?_⟩⟩
  refine ⟨_, rfl, _, rfl, x, Cc, dx, _, rfl, h3, U.cl, U.nw, (by rw [hf_eq]; show 2 < 1000; decide), ?_⟩
  refine ⟨_, rfl, _, rfl, x, Cc, dx, _, rfl, upd_same, U.cl, U.nt, (by rw [hf_putw, hf_eq]; show 2 < 1000; decide), ?_⟩
  refine ⟨_, rfl, q x _ (fun b o e => ?_) ⟨dx, by rw [upd_same, hf_putw, hf_putt]⟩⟩
  have e2 := s2 _ _ e
  have nx2 := (nz e2).1
  rw [upd_ne nx2, upd_ne nx2]
  exact k3 _ _ (s3 _ _ e2) nx2
/-- a house and its tree -/
structure HsOk (K : PySem.W.Frag) (C : Addr) (H : Hp) (p : Addr) (W n : Nat) (t : Nd n) (v : V) : Prop where
  at_ : HouseAt C H p W v
  td : Td K H v (ndD n t)
  ok : NdOk W n (ones W) t
  few : cnt n t ≤ 1500
  deep : n ≤ 8
  w1 : 1 ≤ W
  w5 : W ≤ 5
theorem HsOk.tree {C p : Addr} {H : Hp} {W n : Nat} {t : Nd n} {v : V} (h : HsOk K C H p W n t v) : TreeOk K H W n v t := ⟨h.td, h.ok, h.few, h.deep, h.w1, h.w5⟩
theorem HsOk.keep {C p : Addr} {H H' : Hp} {W n : Nat} {t : Nd n} {v : V} (h : HsOk K C H p W n t v) (s : Same H H') : HsOk K C H' p W n t v := ⟨h.at_.keep s, h.td.keep (Same.kt s), h.ok, h.few, h.deep, h.w1, h.w5⟩
def spHopeful (K : PySem.W.Frag) (C : Addr) (n : Nat) : Sp := fun vs H Q _ => ∃ (p : Addr) (W : Nat) (t : Nd n) (v : V), vs = [.ref p] ∧ HsOk K C H p W n t v ∧ ∀ p' v' H', Same H H' → HsOk K C H' p' W n (hope n t) v' → Q (.ref p') H'
/-- the one answer with which a house begins -/
def beg (W n : Nat) (t : Nd n) : Nd (n + 1) := ([[([(nq n t : Int)], ones W, cntd n t)]] : List (Qn n))
theorem cnt_beg (W n : Nat) (t : Nd n) : cnt (n + 1) (beg W n t) = 1 + cnt n t := by
  show 1 + cnt n (cntd n t) + 0 + 0 = _
  rw [cnt_cntd]
  rfl
def spBegun (K : PySem.W.Frag) (C : Addr) (n : Nat) : Sp := fun vs H Q _ => ∃ (p : Addr) (W : Nat) (t : Nd n) (v : V), vs = [.ref p] ∧ HsOk K C H p W n t v ∧ ∀ p' v' H', Same H H' → HouseAt C H' p' W v' → Td K H' v' (ndD (n + 1) (beg W n t)) → Q (.ref p') H'
end
end Tl
namespace Tl
open PySem PySem.Spec PyProof.Rows L2 RZ
section
variable {P : Program} {w : World} {K : PySem.W.Frag} {mg : Str → Option Value} {base : Heap} {aN aO : Addr} {t1 t2 t3 t4 t5 t6 t7 : Tok}
end
end Tl
namespace Tl
open PySem PySem.Spec PyProof.Rows L2 RZ
def fq {n : Nat} (q : Qn n) : Qn n := q.filter fun a => !isZ a.2.1
theorem fq_snoc {n : Nat} (q : Qn n) (i : Nat) (an : An n) (h : q[i]? = some an) : fq (q.take (i + 1)) = fq (q.take i) ++ (if isZ an.2.1 = true then [] else [an]) := by
  unfold fq
  rw [List.take_add_one, h, List.filter_append]
  congr 1
  show List.filter _ [an] = _
  rw [List.filter_cons]
  cases isZ an.2.1 <;> rfl
theorem fq_len {n : Nat} (q : Qn n) : (fq q).length ≤ q.length := List.length_filter_le _ _
theorem hopeQ_fq {n : Nat} (q : Qn n) : hopeQ n q = (fq q).map (hopeA n) := rfl
theorem any_pos : ∀ ws : List Rat, (∀ r ∈ ws, 0 ≤ r) → (ws.map fun r => decide (0 < r.num)).any id = !isZ ws
  | [], _ => rfl
  | r :: l, h => by
    have ih := any_pos l fun x hx => h x (List.mem_cons_of_mem _ hx)
    have h0 := Rat.num_nonneg.mpr (h r (List.mem_cons_self ..))
    show (decide (0 < r.num) || ((l.map fun r => decide (0 < r.num)).any id)) = !(decide (r = 0) && isZ l)
    rw [ih]
    by_cases e : r = 0
    · subst e
      rw [decide_eq_false (show ¬ 0 < (0 : Rat).num by decide), decide_eq_true rfl]
      rfl
    · have hn : r.num ≠ 0 := fun z => e (Rat.num_eq_zero.mp z)
      rw [decide_eq_true (show 0 < r.num by omega), decide_eq_false e]
      rfl
section
variable {P : Program} {w : World} {K : PySem.W.Frag} {mg : Str → Option Value} {base : Heap} {aN aO : Addr} {t1 t2 t3 t4 t5 t6 t7 : Tok}
end
end Tl
namespace Tl
open PySem PySem.Spec PyProof.Rows L2 RZ
def key {n : Nat} (a : An n) : List Int × List Rat := (a.1, a.2.1)
theorem key_at {n m : Nat} {q : Qn n} {q' : Qn m} (e : q'.map key = q.map key) {i : Nat} {x : An m} (h : q'[i]? = some x) : ∃ y : An n, q[i]? = some y ∧ y.1 = x.1 ∧ y.2.1 = x.2.1 := by
  have h1 : (q'.map key)[i]? = some (key x) := by rw [List.getElem?_map, h]; rfl
  rw [e] at h1
  obtain ⟨y, ey, ky⟩ := map_at h1
  have k1 : x.1 = y.1 := congrArg Prod.fst ky
  have k2 : x.2.1 = y.2.1 := congrArg Prod.snd ky
  exact ⟨y, ey, k1.symm, k2.symm⟩
theorem key_col {n m : Nat} {q : Qn n} {q' : Qn m} (e : q'.map key = q.map key) (j : Nat) : col q' j = col q j := by
  have f : ∀ {k : Nat} (r : Qn k), col r j = (r.map key).map fun z => z.2.getD j 0 := fun r => by
    rw [List.map_map]
    rfl
  rw [f q', f q, e]
theorem qnOk_key {W n m : Nat} {ahead : List Rat} {q : Qn n} {q' : Qn m} (e : q'.map key = q.map key) (h : QnOk W ahead q) : QnOk W ahead q' := by
  have hl : q'.length = q.length := by
    have := congrArg List.length e
    rw [List.length_map, List.length_map] at this
    exact this
  have mem : ∀ a ∈ q', ∃ y ∈ q, y.1 = a.1 ∧ y.2.1 = a.2.1 := fun a ha => by
    obtain ⟨i, hi, rfl⟩ := List.getElem_of_mem ha
    obtain ⟨y, ey, k⟩ := key_at e (List.getElem?_eq_getElem hi)
    exact ⟨y, List.mem_of_getElem? ey, k⟩
  refine ⟨by have := h.one; omega, by have := h.most; omega, fun a ha => ?_, fun i x y hx hy => ?_, fun a ha => ?_, fun a ha => ?_, fun j hj => ?_⟩
  · obtain ⟨y, hy, k1, k2⟩ := mem a ha
    rw [← k1]
    exact h.words y hy
  · obtain ⟨x', ex, k1, _⟩ := key_at e hx
    obtain ⟨y', ey, k2, _⟩ := key_at e hy
    rw [← k1, ← k2]
    exact h.asc i x' y' ex ey
  · obtain ⟨y, hy, k1, k2⟩ := mem a ha
    rw [← k2]
    exact h.wide y hy
  · obtain ⟨y, hy, k1, k2⟩ := mem a ha
    rw [← k2]
    exact h.chs y hy
  · rw [key_col e]
    exact h.whole j hj
def zer (W : Nat) : List Rat := List.replicate W 0
theorem zer_at (W j : Nat) : (zer W).getD j 0 = 0 := by
  unfold zer
  by_cases h : j < W
  · exact getD_of (by rw [List.getElem?_replicate, if_pos h])
  · rw [List.getD_eq_getElem?_getD, List.getElem?_eq_none (by rw [List.length_replicate]; omega)]
    rfl
/-- a hopeless answer more at the end -/
theorem qnOk_more {W n : Nat} {ahead : List Rat} {q : Qn n} (h : QnOk W ahead q) (l : q.length ≤ 11) {wd : List Int} (hw : WordOk wd) {nd : Nd n} {x : An n} (hx : q[q.length - 1]? = some x) (hlt : HT.lexLt x.1 wd = true) : QnOk W ahead (q ++ [(wd, zer W, nd)]) := by
  have c : ∀ j, col (q ++ [((wd, zer W, nd) : An n)]) j = col q j ++ [0] := fun j => by
    unfold col
    rw [List.map_append]
    show _ ++ [(zer W).getD j 0] = _
    rw [zer_at]
  have o1 := h.one
  refine ⟨by rw [List.length_append]; omega, by rw [List.length_append]; show q.length + 1 ≤ 12; omega, fun a ha => ?_, fun i x' y' h1 h2 => ?_, fun a ha => ?_, fun a ha => ?_, fun j hj => ?_⟩
  · rcases List.mem_append.mp ha with z | z
    · exact h.words a z
    · rw [List.mem_singleton.mp z]
      exact hw
  · by_cases hi : i + 1 < q.length
    · rw [List.getElem?_append_left hi] at h2
      rw [List.getElem?_append_left (by omega)] at h1
      exact h.asc i x' y' h1 h2
    · have hb := (List.getElem?_eq_some_iff.mp h2).1
      rw [List.length_append] at hb
      have hb2 : i + 1 < q.length + 1 := hb
      have ei : i + 1 = q.length := by omega
      rw [ei, List.getElem?_append_right (Nat.le_refl _), Nat.sub_self] at h2
      rw [List.getElem?_append_left (by omega), show i = q.length - 1 by omega, hx] at h1
      cases h1
      cases h2
      exact hlt
  · rcases List.mem_append.mp ha with z | z
    · exact h.wide a z
    · rw [List.mem_singleton.mp z]
      show (zer W).length = W
      unfold zer
      rw [List.length_replicate]
  · rcases List.mem_append.mp ha with z | z
    · exact h.chs a z
    · rw [List.mem_singleton.mp z]
      intro r hr
      have : r = 0 := (List.mem_replicate.mp hr).2
      rw [this]
      exact ch_zero
  · rw [c, fsum_snoc, Rat.add_zero]
    exact h.whole j hj
/-- a node of one round where more may be -/
def upA (m : Nat) (a : An 0) : An m := (a.1, a.2.1, emptyNd m)
def upN (m : Nat) (qs : List (Qn 0)) : Nd (m + 1) := (qs.map fun q => q.map (upA m) : List (Qn m))
theorem upN_D (m : Nat) (qs : List (Qn 0)) : ndD (m + 1) (upN m qs) = ndD 1 (show Nd 1 from qs) := by
  show PyData.tuple _ = PyData.tuple _
  refine congrArg PyData.tuple ?_
  unfold upN
  show List.map _ (List.map _ qs) = _
  rw [List.map_map]
  refine List.map_congr_left fun q _ => ?_
  show PyData.tuple (List.map _ (List.map _ q)) = PyData.tuple _
  rw [List.map_map]
  refine congrArg PyData.tuple (List.map_congr_left fun a _ => ?_)
  show PyData.tuple [wdD a.1, wsD a.2.1, ndD m (emptyNd m)] = PyData.tuple [wdD a.1, wsD a.2.1, ndD 0 a.2.2]
  rw [ndD_empty]
  rfl
theorem upN_cnt (m : Nat) (qs : List (Qn 0)) : cnt (m + 1) (upN m qs) = cnt 1 (show Nd 1 from qs) := by
  show List.sum _ = List.sum _
  congr 1
  unfold upN
  show List.map _ (List.map _ qs) = _
  rw [List.map_map]
  refine List.map_congr_left fun q _ => ?_
  show List.sum (List.map _ (List.map _ q)) = List.sum _
  rw [List.map_map]
  congr 1
  refine List.map_congr_left fun a _ => ?_
  show 1 + cnt m (emptyNd m) = 1 + 0
  rw [cnt_empty]
theorem upN_ok {W m : Nat} {ws : List Rat} {qs : List (Qn 0)} (h : NdOk W 1 ws (show Nd 1 from qs)) : NdOk W (m + 1) ws (upN m qs) := by
  refine ⟨by show (List.map _ qs).length ≤ 5; rw [List.length_map]; exact h.1, fun q' hq' => ?_⟩
  obtain ⟨q, hq, rfl⟩ := List.mem_map.mp hq'
  refine ⟨qnOk_key (by rw [List.map_map]; rfl) (h.2 q hq).1, fun a' ha' => ?_⟩
  obtain ⟨a, ha, rfl⟩ := List.mem_map.mp ha'
  exact ndOk_empty _ _ _
theorem sharp_key {n m : Nat} {q : Qn n} {q' : Qn m} (e : q'.map key = q.map key) (h : Sharp q) : Sharp q' := fun a ha => by
  obtain ⟨i, hi, rfl⟩ := List.getElem_of_mem ha
  obtain ⟨y, ey, k1, k2⟩ := key_at e (List.getElem?_eq_getElem hi)
  rw [← k2]
  exact h y (List.mem_of_getElem? ey)
theorem sharp_more {n W : Nat} {q : Qn n} (h : Sharp q) {wd : List Int} {nd : Nd n} : Sharp (q ++ [(wd, zer W, nd)]) := fun a ha r hr => by
  rcases List.mem_append.mp ha with z | z
  · exact h a z r hr
  · rw [List.mem_singleton.mp z] at hr
    have : r = 0 := (List.mem_replicate.mp hr).2
    rw [this]
    exact ch_zero
theorem upN_g {W m : Nat} {ws : List Rat} {qs : List (Qn 0)} (h : NdG W 1 ws (show Nd 1 from qs)) : NdG W (m + 1) ws (upN m qs) := by
  refine ⟨by show (List.map _ qs).length ≤ 5; rw [List.length_map]; exact h.1, fun q' hq' => ?_⟩
  obtain ⟨q, hq, rfl⟩ := List.mem_map.mp hq'
  refine ⟨⟨qnOk_key (by rw [List.map_map]; rfl) (h.2 q hq).1.1, sharp_key (by rw [List.map_map]; rfl) (h.2 q hq).1.2⟩, fun a' ha' => ?_⟩
  obtain ⟨a, ha, rfl⟩ := List.mem_map.mp ha'
  exact ndG_empty _ _ _
end Tl
namespace Tl
open PySem PySem.Spec PyProof.Rows L2 RZ
theorem atI_neg1 {xs : List V} {v : V} (h : xs[xs.length - 1]? = some v) : atI xs (-1) = some v := by
  have hl := (List.getElem?_eq_some_iff.mp h).1
  have hne : xs ≠ [] := fun e => by subst e; exact absurd hl (Nat.not_lt_zero _)
  have e := List.dropLast_concat_getLast hne
  have g : xs.getLast hne = v := by
    rw [List.getLast_eq_getElem]
    exact (List.getElem?_eq_some_iff.mp h).2
  rw [g] at e
  rw [← e]
  exact atI_last _ _
theorem zer_td {K : PySem.W.Frag} {H : Hp} {p q : Addr} {W : Nat} (hq : Td K H (.ref q) (rD 0)) (hp : SqT K H p (List.replicate (W : Int).toNat [V.ref q]).flatten) : Td K H (.ref p) (wsD (zer W)) := by
  rw [flat_rep, Int.toNat_natCast] at hp
  refine .tup hp ?_
  unfold zer
  rw [List.map_replicate]
  exact tdAll_rep hq W
def spWH (K : PySem.W.Frag) (n : Nat) : Sp := fun vs H Q _ => ∃ (b g : Addr) (W : Nat) (v : V) (ahead : List Rat) (t : Nd n), vs = [.ref b, .int (W : Int), v] ∧ Bag H b g ∧ Td K H v (ndD n t) ∧ NdF W n ahead t ∧ 1 ≤ W ∧ W ≤ 5 ∧
  ∀ (v' : V) (t' : Nd (n + 1)) (H' : Hp), Td K H' v' (ndD (n + 1) t') → NdG W (n + 1) ahead t' → cnt (n + 1) t' ≤ 11 * cnt n t → Bag H' b g → Frm b g H H' → Q v' H'
/-- what stands when i questions are done -/
structure WhI (K : PySem.W.Frag) (b g T : Addr) (W n : Nat) (ahead : List Rat) (qs : List (Qn n)) (H : Hp) (i : Nat) (H2 : Hp) (us : List V) (qs' : List (Qn (n + 1))) : Prop where
  len : qs'.length = i
  h : H2 T = some (.lst us)
  t : TdAll K H2 us (qs'.map (qnD (n + 1)))
  ok : ∀ q ∈ qs', QnG W ahead q ∧ ∀ a ∈ q, NdG W (n + 1) a.2.1 a.2.2
  c : cnt (n + 2) (qs' : List (Qn (n + 1))) ≤ 11 * cnt (n + 1) (qs.take i : List (Qn n))
  B : Bag H2 b g
  F : Frm b g H H2
theorem wh_fin {K : PySem.W.Frag} {b g T : Addr} {W n : Nat} {ahead : List Rat} {qs : List (Qn n)} {H H2 H5 : Hp} {i : Nat} {us : List V} {qs' : List (Qn (n + 1))} {qn : Qn n} {qa : Qn (n + 1)} {l : Addr} (I : WhI K b g T W n ahead qs H i H2 us qs') (eq : qs[i]? = some qn) (F5 : Frm b g H2 H5) (B5 : Bag H5 b g) (t5 : Td K H5 (.ref l) (qnD (n + 1) qa)) (o1 : QnG W ahead qa)
    (o2 : ∀ a ∈ qa, NdG W (n + 1) a.2.1 a.2.2) (c5 : cntQ (n + 1) qa ≤ 11 * cntQ n qn) (Tb : T ≠ b) (Tg : T ≠ g) (T0 : H T = none) : H5 T = some (.lst us) ∧ WhI K b g T W n ahead qs H (i + 1) (upd H5 T (.lst (us ++ [.ref l]))) (us ++ [.ref l]) (qs' ++ [qa]) := by
  have h5 := F5 _ _ I.h Tb Tg
  have kT : KT K H5 (upd H5 T (.lst (us ++ [.ref l]))) := KT.updL h5
  refine ⟨h5, by rw [List.length_append, I.len]; rfl, upd_same, ?_, fun q hq => ?_, ?_, B5.updN Tb Tg, (I.F.trans F5).updN T0⟩
  · rw [List.map_append]
    exact (I.t.keep ((I.B.kt F5).trans kT)).app (.cons (t5.keep kT) .nil)
  · rcases List.mem_append.mp hq with z | z
    · exact I.ok q z
    · rw [List.mem_singleton.mp z]
      exact ⟨o1, o2⟩
  · rw [cnt_snoc, cnt_take n qs i qn eq]
    have := I.c
    show cnt (n + 2) (qs' : List (Qn (n + 1))) + _ ≤ _
    omega
section
variable {P : Program} {w : World} {K : PySem.W.Frag} {mg : Str → Option Value} {base : Heap}
end
end Tl
section
set_option exponentiation.threshold 2000
namespace Tl
open PySem PySem.Spec PyProof.Rows L2 RZ
/-! data that may be shown -/
structure Shw (m : Nat) (d : PyData) : Prop where
  sh : d.showable = true
  lv : d.leavesShort 602 = true
  bk : d.bulk ≤ m
theorem Shw.mono {m m' : Nat} {d : PyData} (h : Shw m d) (l : m ≤ m') : Shw m' d := ⟨h.sh, h.lv, Nat.le_trans h.bk l⟩
theorem log2_lt {n : Nat} (h : n ≤ 2 ^ 600) : n.log2 < 601 := by
  by_cases h0 : n = 0
  · subst h0
    decide
  · exact (Nat.log2_lt h0).mpr (Nat.lt_of_le_of_lt h (Nat.pow_lt_pow_right (by decide) (by decide)))
theorem shw_int {i : Int} (h : i.natAbs ≤ 2 ^ 600) : Shw 0 (.int i) := by
  have hl := log2_lt h
  refine ⟨?_, ?_, Nat.le_refl _⟩
  · show decide (i.natAbs.log2 < 1920) = true
    exact decide_eq_true (by omega)
  · show decide ((PyData.shown (.int i)).length ≤ 602) = true
    refine decide_eq_true ?_
    have := int_text_length_le (a := i) (k := 601) (by decide) hl
    have e : (PyData.shown (.int i)).length = (toString i).length := by
      show (Str.ofString (toString i)).length = _
      exact PySem.ofString_length _
    omega
theorem shw_all {m : Nat} : ∀ {xs : List PyData}, (∀ x ∈ xs, Shw m x) → PyData.showableAll xs = true ∧ PyData.leavesShortAll 602 xs = true ∧ PyData.bulkAll xs ≤ xs.length * (m + 1)
  | [], _ => ⟨rfl, rfl, Nat.zero_le _⟩
  | x :: xs, h => by
    obtain ⟨h1, h2, h3⟩ := h x (List.mem_cons_self ..)
    obtain ⟨a1, a2, a3⟩ := shw_all fun y hy => h y (List.mem_cons_of_mem _ hy)
    refine ⟨?_, ?_, ?_⟩
    · show (PyData.showable x && PyData.showableAll xs) = true
      rw [h1, a1]
      rfl
    · show (PyData.leavesShort 602 x && PyData.leavesShortAll 602 xs) = true
      rw [h2, a2]
      rfl
    · show PyData.bulk x + 1 + PyData.bulkAll xs ≤ (xs.length + 1) * (m + 1)
      rw [Nat.add_mul, Nat.one_mul]
      omega
theorem shw_tup {m : Nat} {xs : List PyData} (h : ∀ x ∈ xs, Shw m x) : Shw (xs.length * (m + 1)) (.tuple xs) := by
  obtain ⟨a1, a2, a3⟩ := shw_all h
  exact ⟨a1, a2, a3⟩
theorem shw_wdD {w : List Int} (h : WordOk w) : Shw 8 (wdD w) := by
  refine (shw_tup (m := 0) fun x hx => ?_).mono (by rw [List.length_map]; have := h.1; omega)
  obtain ⟨i, hi, rfl⟩ := List.mem_map.mp hx
  have := h.2 i hi
  exact shw_int (Nat.le_trans (show i.natAbs ≤ 2 ^ 7 by omega) (Nat.pow_le_pow_right (by decide) (by decide)))
theorem shw_rD {r : Rat} (h : Ch 6 r) : Shw 2 (rD r) := by
  refine (shw_tup (m := 0) (xs := [.int r.num, .int (r.den : Int)]) fun x hx => ?_).mono (by show 2 * 1 ≤ 2; decide)
  simp only [List.mem_cons, List.not_mem_nil, or_false] at hx
  rcases hx with rfl | rfl
  · exact shw_int (Nat.le_trans h.num (ll_small (by decide)))
  · exact shw_int (by rw [Int.natAbs_natCast]; exact Nat.le_trans h.den (ll_small (by decide)))
theorem shw_wsD {ws : List Rat} (l : ws.length ≤ 5) (h : ∀ r ∈ ws, Ch 6 r) : Shw 15 (wsD ws) := by
  refine (shw_tup (m := 2) fun x hx => ?_).mono (by rw [List.length_map]; omega)
  obtain ⟨r, hr, rfl⟩ := List.mem_map.mp hx
  exact shw_rD (h r hr)
theorem shw_ndD {W : Nat} (hW : W ≤ 5) : ∀ {n : Nat} {ahead : List Rat} {t : Nd n}, NdOk W n ahead t → Shw (28 * cnt n t) (ndD n t)
  | 0, _, _, _ => ⟨rfl, rfl, Nat.zero_le _⟩
  | n + 1, ahead, qs, h => by
    have one : ∀ a : An n, ∀ q : Qn n, QnOk W ahead q → a ∈ q → Shw (28 * cnt n a.2.2) (ndD n a.2.2) → PyData.showable (anD n a) = true ∧ PyData.leavesShort 602 (anD n a) = true ∧ PyData.bulk (anD n a) ≤ 26 + 28 * cnt n a.2.2 := by
      intro a q ok ha hn
      have h1 := shw_wdD (ok.words a ha)
      have h2 := shw_wsD (by rw [ok.wide a ha]; exact hW) (ok.chs a ha)
      refine ⟨?_, ?_, ?_⟩
      · show (PyData.showable (wdD a.1) && (PyData.showable (wsD a.2.1) && (PyData.showable (ndD n a.2.2) && true))) = true
        rw [h1.sh, h2.sh, hn.sh]
        rfl
      · show (PyData.leavesShort 602 (wdD a.1) && (PyData.leavesShort 602 (wsD a.2.1) && (PyData.leavesShort 602 (ndD n a.2.2) && true))) = true
        rw [h1.lv, h2.lv, hn.lv]
        rfl
      · show PyData.bulk (wdD a.1) + 1 + (PyData.bulk (wsD a.2.1) + 1 + (PyData.bulk (ndD n a.2.2) + 1 + 0)) ≤ _
        have := h1.bk
        have := h2.bk
        have := hn.bk
        omega
    have many : ∀ q : Qn n, QnOk W ahead q → (∀ a ∈ q, NdOk W n a.2.1 a.2.2) → ∀ r : Qn n, (∀ a ∈ r, a ∈ q) → PyData.showableAll (r.map (anD n)) = true ∧ PyData.leavesShortAll 602 (r.map (anD n)) = true ∧ PyData.bulkAll (r.map (anD n)) + r.length ≤ 28 * cntQ n r := by
      intro q ok nok r
      induction r with
      | nil => exact fun _ => ⟨rfl, rfl, Nat.zero_le _⟩
      | cons a r ih =>
        intro sub
        have ma := sub a (List.mem_cons_self ..)
        obtain ⟨i1, i2, i3⟩ := ih fun b hb => sub b (List.mem_cons_of_mem _ hb)
        obtain ⟨o1, o2, o3⟩ := one a q ok ma (shw_ndD hW (nok a ma))
        refine ⟨?_, ?_, ?_⟩
        · show (PyData.showable (anD n a) && PyData.showableAll (r.map (anD n))) = true
          rw [o1, i1]
          rfl
        · show (PyData.leavesShort 602 (anD n a) && PyData.leavesShortAll 602 (r.map (anD n))) = true
          rw [o2, i2]
          rfl
        · show PyData.bulk (anD n a) + 1 + PyData.bulkAll (r.map (anD n)) + (r.length + 1) ≤ _
          rw [cntQ_cons]
          omega
    have all : ∀ l : List (Qn n), (∀ q ∈ l, QnOk W ahead q ∧ ∀ a ∈ q, NdOk W n a.2.1 a.2.2) → PyData.showableAll (l.map (qnD n)) = true ∧ PyData.leavesShortAll 602 (l.map (qnD n)) = true ∧ PyData.bulkAll (l.map (qnD n)) ≤ 28 * cnt (n + 1) l := by
      intro l
      induction l with
      | nil => exact fun _ => ⟨rfl, rfl, Nat.zero_le _⟩
      | cons q r ih =>
        intro sub
        obtain ⟨ok, nok⟩ := sub q (List.mem_cons_self ..)
        obtain ⟨i1, i2, i3⟩ := ih fun b hb => sub b (List.mem_cons_of_mem _ hb)
        obtain ⟨o1, o2, o3⟩ := many q ok nok q fun a ha => ha
        have l1 := ok.one
        refine ⟨?_, ?_, ?_⟩
        · show (PyData.showableAll (q.map (anD n)) && PyData.showableAll (r.map (qnD n))) = true
          rw [o1, i1]
          rfl
        · show (PyData.leavesShortAll 602 (q.map (anD n)) && PyData.leavesShortAll 602 (r.map (qnD n))) = true
          rw [o2, i2]
          rfl
        · show PyData.bulkAll (q.map (anD n)) + 1 + PyData.bulkAll (r.map (qnD n)) ≤ _
          rw [cnt_cons]
          omega
    obtain ⟨h1, h2, h3⟩ := all qs h.2
    exact ⟨h1, h2, h3⟩
/-- worlds and a tree -/
def wtD (W n : Nat) (t : Nd n) : PyData := .tuple [.int (W : Int), ndD n t]
theorem wtD_short {W n : Nat} (hW : W ≤ 5) {ahead : List Rat} {t : Nd n} (h : NdOk W n ahead t) (hc : cnt n t ≤ 400) : (wtD W n t).showable = true ∧ (wtD W n t).shown.length ≤ sizeLine := by
  have h1 := shw_ndD hW h
  have h0 : Shw 0 (.int (W : Int)) := shw_int (Nat.le_trans (show (W : Int).natAbs ≤ 2 ^ 7 by omega) (Nat.pow_le_pow_right (by decide) (by decide)))
  have hs : (wtD W n t).showable = true := by
    show (PyData.showable (.int (W : Int)) && (PyData.showable (ndD n t) && true)) = true
    rw [h0.sh, h1.sh]
    rfl
  have hl : (wtD W n t).leavesShort 602 = true := by
    show (PyData.leavesShort 602 (.int (W : Int)) && (PyData.leavesShort 602 (ndD n t) && true)) = true
    rw [h0.lv, h1.lv]
    rfl
  have hb : (wtD W n t).bulk ≤ 11202 := by
    show PyData.bulk (.int (W : Int)) + 1 + (PyData.bulk (ndD n t) + 1 + 0) ≤ _
    have := h0.bk
    have := h1.bk
    omega
  refine ⟨hs, ?_⟩
  have := PyData.shown_le_bulk 602 (by decide) (wtD W n t) hl
  rw [sizeLine_eq]
  omega
theorem good_wtD (W n : Nat) (t : Nd n) : Good (3 * n + 3) (wtD W n t) := by
  refine good_tup fun x hx => ?_
  simp only [List.mem_cons, List.not_mem_nil, or_false] at hx
  rcases hx with rfl | rfl
  · exact good_int _ _
  · exact good_ndD n t
/-! what is told by numbers is right, too -/
theorem cntdQ_at {n : Nat} {q : Qn n} {i : Nat} {x : An n} (h : (cntdQ n q)[i]? = some x) : ∃ a, q[i]? = some a ∧ x = cntdA n i a := by
  unfold cntdQ at h
  rw [List.getElem?_mapIdx] at h
  cases e : q[i]? with
  | none =>
    rw [e] at h
    cases h
  | some a =>
    rw [e] at h
    exact ⟨a, rfl, (Option.some.inj h).symm⟩
theorem cntdQ_col {n : Nat} (q : Qn n) (j : Nat) : col (cntdQ n q) j = col q j := by
  refine List.ext_getElem? fun i => ?_
  unfold col cntdQ
  rw [List.getElem?_map, List.getElem?_map, List.getElem?_mapIdx]
  cases q[i]? <;> rfl
theorem nq_le {W n : Nat} {ahead : List Rat} {t : Nd n} (h : NdOk W n ahead t) : nq n t ≤ 5 := by
  cases n with
  | zero => exact Nat.zero_le _
  | succ n => exact h.1
theorem cntd_ok : ∀ {W n : Nat} {ahead : List Rat} {t : Nd n}, NdOk W n ahead t → NdOk W n ahead (cntd n t)
  | _, 0, _, _, _ => trivial
  | W, n + 1, ahead, qs, h => by
    refine ⟨Nat.le_trans (Nat.le_of_eq (List.length_map (as := (show List (Qn n) from qs)) _)) h.1, fun q' hq' => ?_⟩
    obtain ⟨q, hq, rfl⟩ := List.mem_map.mp hq'
    obtain ⟨ok, nok⟩ := h.2 q hq
    have hl : (cntdQ n q).length = q.length := by
      unfold cntdQ
      rw [List.length_mapIdx]
    have mem : ∀ a' ∈ cntdQ n q, ∃ i a, a ∈ q ∧ i < q.length ∧ a' = cntdA n i a := fun a' ha' => by
      obtain ⟨i, hi, rfl⟩ := List.getElem_of_mem ha'
      obtain ⟨a, ea, e⟩ := cntdQ_at (List.getElem?_eq_getElem hi)
      exact ⟨i, a, List.mem_of_getElem? ea, by omega, e⟩
    have o12 := ok.most
    refine ⟨⟨by show 1 ≤ (cntdQ n q).length; rw [hl]; exact ok.one, by show (cntdQ n q).length ≤ 12; rw [hl]; exact ok.most, fun a' ha' => ?_, fun i x y hx hy => ?_, fun a' ha' => ?_, fun a' ha' => ?_, fun j hj => ?_⟩, fun a' ha' => ?_⟩
    · obtain ⟨i, a, ha, hi, rfl⟩ := mem a' ha'
      have := nq_le (nok a ha)
      refine ⟨by show 2 ≤ 8; decide, fun x hx => ?_⟩
      have hx2 : x ∈ [(i : Int), (nq n a.2.2 : Int)] := hx
      simp only [List.mem_cons, List.not_mem_nil, or_false] at hx2
      rcases hx2 with rfl | rfl <;> omega
    · obtain ⟨a, ea, rfl⟩ := cntdQ_at hx
      obtain ⟨b, eb, rfl⟩ := cntdQ_at hy
      show HT.lexLt [(i : Int), _] [((i + 1 : Nat) : Int), _] = true
      unfold HT.lexLt
      rw [if_neg (by omega)]
      exact decide_eq_true (by omega)
    · obtain ⟨i, a, ha, hi, rfl⟩ := mem a' ha'
      exact ok.wide a ha
    · obtain ⟨i, a, ha, hi, rfl⟩ := mem a' ha'
      exact ok.chs a ha
    · show fsum (col (cntdQ n q) j) = _
      rw [cntdQ_col]
      exact ok.whole j hj
    · obtain ⟨i, a, ha, hi, rfl⟩ := mem a' ha'
      exact cntd_ok (nok a ha)
theorem ones_at {W j : Nat} (h : j < W) : (ones W).getD j 0 = 1 := by
  unfold ones
  exact getD_of (by rw [List.getElem?_replicate, if_pos h])
theorem beg_ok {W n : Nat} {t : Nd n} (h : NdOk W n (ones W) t) : NdOk W (n + 1) (ones W) (beg W n t) := by
  refine ⟨by show 1 ≤ 5; decide, fun q hq => ?_⟩
  have eq := List.mem_singleton.mp hq
  subst eq
  have nl := nq_le h
  have c : ∀ j, j < W → col ([([(nq n t : Int)], ones W, cntd n t)] : Qn n) j = [1] := fun j hj => by
    show [(ones W).getD j 0] = [1]
    rw [ones_at hj]
  refine ⟨⟨by show 1 ≤ 1; decide, by show 1 ≤ 12; decide, fun a ha => ?_, fun i x y hx hy => ?_, fun a ha => ?_, fun a ha => ?_, fun j hj => ?_⟩, fun a ha => ?_⟩
  · rw [List.mem_singleton.mp ha]
    refine ⟨by show 1 ≤ 8; decide, fun x hx => ?_⟩
    have : x = (nq n t : Int) := List.mem_singleton.mp hx
    omega
  · have := (List.getElem?_eq_some_iff.mp hy).1
    exact absurd this (by show ¬ (i + 1 < 1); omega)
  · rw [List.mem_singleton.mp ha]
    unfold ones
    rw [List.length_replicate]
  · rw [List.mem_singleton.mp ha]
    exact ones_ch
  · rw [c j hj, ones_at hj, fsum_cons, fsum_nil, Rat.add_zero]
  · rw [List.mem_singleton.mp ha]
    exact cntd_ok h
end Tl
end
namespace Tl
open PySem PySem.Spec PyProof.Rows L2 RZ
/-- at some number of rounds -/
def anySp (N : Nat) (sp : Nat → Sp) : Sp := fun vs H Q E => ∃ n, n ≤ N ∧ sp n vs H Q E
section
variable {P : Program} {w : World} {K : PySem.W.Frag} {mg : Str → Option Value} {base : Heap}
theorem FnOk.any {f : Addr} {fd : FuncData} {ps : List Str} {N k : Nat} {sp : Nat → Sp} {lv : Nat → Nat} (h : ∀ n, FnOk P w K mg base CX0 (lv n) f fd ps (sp n)) (hk : ∀ n, n ≤ N → lv n ≤ k) : FnOk P w K mg base CX0 k f fd ps (anySp N sp) :=
  ⟨fun vs H Q E ⟨n, _, q⟩ => (h n).len vs H Q E q, fun A outer s H args us vs Q E hr e0 hb rv ⟨n, hn, q⟩ => ((h n).mono (hk n hn)).run A outer s H args us vs Q E hr e0 hb rv q⟩
def spIs (K : PySem.W.Frag) : Sp := fun vs H Q _ => ∃ (a b : Addr) (W n : Nat) (ahead : List Rat) (t : Nd n), vs = [.ref a, .ref b] ∧ Td K H (.ref a) (wtD W n t) ∧ Td K H (.ref b) (wtD W n t) ∧ W ≤ 5 ∧ NdOk W n ahead t ∧ cnt n t ≤ 400 ∧ n ≤ 6 ∧ Q (.bl true) H
theorem ok_law_is {f : Addr} {fd : FuncData} (D : Dn K mg "_law_is" s_law_is ["found", "due"] f fd) (B : Blt mg) : FnG P w K mg base CX0 1 f fd ["found", "due"] (spIs K) := by
  refine okG D.F sc_law_is (fun vs H Q E h => ?_) (fun cdv A outer s H vs Q E hr hgu h => ?_)
  · obtain ⟨a, b, W, n, ahead, t, rfl, _⟩ := h
    rfl
  obtain ⟨a, b, W, n, ahead, t, rfl, ta, tb, hW, hok, hc, hn, q⟩ := h
  have nd := sc_law_is.nd
  refine ⟨_, (pss_one (ps_ret (pe_and (pe_cmpR (k_eqD (K := K) rfl hr.units) (pv 0) (pv 1) (nomark _)) (pe_one (pe_cmpR op_eq (pe_callB (k_repr (K := K) rfl hr.units hgu) (by rfl) B.repr (by decide +kernel) (pa_cons (pv 0) pa_nil)) (pe_callB (k_repr (K := K) rfl hr.units hgu) (by rfl) B.repr (by decide +kernel) (pa_cons (pv 1) pa_nil)) (nomark _)))))), ?_⟩
  have gd := (good_wtD W n t).mono (show 3 * n + 3 ≤ 60 by omega)
  obtain ⟨h1, h2⟩ := wtD_short hW hok hc
  refine ⟨_, rfl, _, rfl, wtD W n t, wtD W n t, ta.dp, tb.dp, gd.shaped (by decide), gd.shaped (by decide), ?_⟩
  rw [gd.refl]
  refine ⟨_, rfl, iteT ?_⟩
  refine ⟨_, rfl, a, wtD W n t, rfl, ta.dp, h1, gd.dict, gd.deep, h2, _, rfl, b, wtD W n t, rfl, tb.dp, h1, gd.dict, gd.deep, h2, rfl, ?_⟩
  rw [decide_eq_true rfl]
  exact q
end
end Tl
/-! dicts whose keys are tuples of tuples -/
namespace Tl
open PySem PySem.Spec PyProof.Rows L2 RZ
/-- the object of such a dict -/
def ndo (w : World) (d : Addr) (xs : List (NestedKey × Addr × Value)) : HO := .ext fun h => ∃ o es ep, h.get? d = some o ∧ o.ExactDict ∧ o.data = .dict es ep ∧ es.toList = xs.map (fun x => (⟨x.1.hash w, .ref x.2.1, x.2.2⟩ : DictEntry))
/-- at d a dict of at most n pairs, told by f -/
def NDc (K : PySem.W.Frag) (w : World) (H : Hp) (d : Addr) (n : Nat) (f : NestedKey → Option V) : Prop := ∃ xs : List (NestedKey × Addr × Value), H d = some (ndo w d xs) ∧ (d == sysModules) = false ∧ xs.length ≤ n ∧ (xs.map (·.1)).Nodup ∧
  (∀ x ∈ xs, Td K H (.ref x.2.1) x.1.data ∧ x.1.depth ≤ 8) ∧ ∀ k, RelO (f k) ((atKey xs k).map (·.2))
theorem NDc.keep {K : PySem.W.Frag} {w : World} {H H' : Hp} {d : Addr} {n : Nat} {f : NestedKey → Option V} (h : NDc K w H d n f) (k : KT K H H') (e : ∀ o, H d = some o → H' d = some o) : NDc K w H' d n f := by
  obtain ⟨xs, h1, h2, h3, h4, h5, h6⟩ := h
  exact ⟨xs, e _ h1, h2, h3, h4, fun x hx => ⟨(h5 x hx).1.keep k, (h5 x hx).2⟩, h6⟩
theorem NDc.mono {K : PySem.W.Frag} {w : World} {H : Hp} {d : Addr} {n m : Nat} {f : NestedKey → Option V} (h : NDc K w H d n f) (l : n ≤ m) : NDc K w H d m f := by
  obtain ⟨xs, h1, h2, h3, h4⟩ := h
  exact ⟨xs, h1, h2, Nat.le_trans h3 l, h4⟩
theorem NDc.at_ {K : PySem.W.Frag} {w : World} {H : Hp} {d : Addr} {n : Nat} {f : NestedKey → Option V} (h : NDc K w H d n f) : ∃ φ, H d = some (.ext φ) := let ⟨_, h1, _⟩ := h; ⟨_, h1⟩
section
variable {X : Cx} {pins : List (Addr × Obj)} {σ : L2.St} {H : Hp} {s : Shared}
mutual
theorem nested_is (I : Inv X pins σ H s) : ∀ (k : NestedKey) (v : V) (u : Value), Td X.K H v k.data → RelV v u → NestedIs s.heap k u
  | .none, _, u, h, r => by
    cases h
    cases (show u = Value.none from r)
    exact .none
  | .num i, _, u, h, r => by
    cases h
    obtain ⟨t, rfl⟩ := r
    exact .int i t
  | .text x, _, u, h, r => by
    cases h
    obtain ⟨t, rfl⟩ := r
    exact .text x t
  | .tup ks, _, u, h, r => by
    cases h with
    | tup hs ha =>
      rename_i a xs
      cases (show u = Value.ref a from r)
      obtain ⟨its, rv, ⟨o, h1, h2, n, h3⟩, _⟩ := I.tuple hs
      exact .tup h1 h2 h3 (by simpa using nested_all I ks xs its ha rv)
theorem nested_all (I : Inv X pins σ H s) : ∀ (ks : List NestedKey) (vs : List V) (us : List Value), TdAll X.K H vs (NestedKey.datas ks) → Vals vs us → NestedAll s.heap ks us
  | [], _, us, h, r => by
    cases h
    cases r
    exact .nil
  | k :: ks, _, us, h, r => by
    cases h with
    | cons h1 h2 =>
      cases r with
      | cons r1 r2 => exact .cons (nested_is I k _ _ h1 r1) (nested_all I ks _ _ h2 r2)
end
theorem NDc.of (I : Inv X pins σ H s) {d : Addr} {n : Nat} {f : NestedKey → Option V} (D : NDc X.K X.w H d n f) : ∃ xs, s.heap.DictOfH (nestedKind X.prog X.w) d xs ∧ H d = some (ndo X.w d xs) ∧ (d == sysModules) = false ∧ xs.length ≤ n ∧ (xs.map (·.1)).Nodup ∧ (∀ x ∈ xs, Td X.K H (.ref x.2.1) x.1.data ∧ x.1.depth ≤ 8) ∧ ∀ k, RelO (f k) ((atKey xs k).map (·.2)) := by
  obtain ⟨xs, h1, h2, h3, h4, h5, h6⟩ := D
  obtain ⟨⟨o, es, ep, e1, e2, e3, e4⟩, _⟩ := (show ObjOk X.prog X.w H s.heap d (ndo X.w d xs) from I.hok d _ h1)
  exact ⟨xs, ⟨o, es, ep, e1, e2, e3, e4, fun x hx => ⟨nested_is I _ _ _ (h5 x hx).1 rfl, (h5 x hx).2⟩, h4⟩, h1, h2, h3, h4, h5, h6⟩
theorem ndo_ok {P : Program} {w : World} {H : Hp} {h : Heap} {d : Addr} {xs : List (NestedKey × Addr × Value)} (e : ∃ o es ep, h.get? d = some o ∧ o.ExactDict ∧ o.data = .dict es ep ∧ es.toList = xs.map (fun x => (⟨x.1.hash w, .ref x.2.1, x.2.2⟩ : DictEntry))) : ObjOk P w H h d (ndo w d xs) := by
  refine ⟨e, ?_, fun h1 h2 q k => ?_⟩
  · obtain ⟨o, _, _, e1, _⟩ := e
    exact ⟨o, e1⟩
  · obtain ⟨o, es, ep, e1, e2⟩ := q
    exact ⟨o, es, ep, k _ e1, e2⟩
end
theorem atKey_nil {k : NestedKey} : atKey ([] : List (NestedKey × Addr × Value)) k = none := rfl
theorem atKey_cons (x : NestedKey × Addr × Value) (r : List (NestedKey × Addr × Value)) (k : NestedKey) : atKey (x :: r) k = if x.1 = k then some x.2 else atKey r k := by
  unfold atKey
  rw [List.find?_cons]
  by_cases e : x.1 = k
  · rw [if_pos e, decide_eq_true e]
    rfl
  · rw [if_neg e, decide_eq_false e]
theorem atKey_snoc (r : List (NestedKey × Addr × Value)) (x : NestedKey × Addr × Value) (k : NestedKey) : atKey (r ++ [x]) k = (atKey r k).or (if x.1 = k then some x.2 else none) := by
  induction r with
  | nil =>
    rw [List.nil_append, atKey_cons, atKey_nil]
    rfl
  | cons y r ih =>
    rw [List.cons_append, atKey_cons, atKey_cons, ih]
    by_cases e : y.1 = k
    · rw [if_pos e, if_pos e]
      rfl
    · rw [if_neg e, if_neg e]
theorem atKey_put (k : NestedKey) (v : Value) (j : NestedKey) : ∀ r : List (NestedKey × Addr × Value), (atKey (r.map (putAt k v)) j).map (·.2) = if j = k then (atKey r j).map (fun _ => v) else (atKey r j).map (·.2)
  | [] => by
    rw [List.map_nil, atKey_nil]
    split <;> rfl
  | x :: r => by
    have ih := atKey_put k v j r
    rw [List.map_cons, atKey_cons, atKey_cons]
    have e1 : (putAt k v x).1 = x.1 := by unfold putAt; split <;> rfl
    rw [e1]
    by_cases e : x.1 = j
    · rw [if_pos e, if_pos e]
      by_cases f : j = k
      · rw [if_pos f]
        unfold putAt
        rw [if_pos (e.trans f)]
        rfl
      · rw [if_neg f]
        unfold putAt
        rw [if_neg (fun z => f (e.symm.trans z))]
    · rw [if_neg e, if_neg e]
      exact ih
theorem atKey_stored (r : List (NestedKey × Addr × Value)) (k : NestedKey) (b : Addr) (v : Value) (j : NestedKey) : (atKey (storedH r k b v) j).map (·.2) = if j = k then some v else (atKey r j).map (·.2) := by
  cases h : atKey r k with
  | none =>
    rw [storedH_new h, atKey_snoc]
    by_cases e : j = k
    · rw [if_pos e, e, h]
      show Option.map _ (if k = k then _ else _) = _
      rw [if_pos rfl]
      rfl
    · rw [if_neg e]
      show Option.map _ ((atKey r j).or (if k = j then _ else _)) = _
      rw [if_neg (fun z => e z.symm), Option.or_none]
  | some p =>
    rw [storedH_old h, atKey_put]
    by_cases e : j = k
    · rw [if_pos e, if_pos e, e, h]
      rfl
    · rw [if_neg e, if_neg e]
theorem stored_keys (r : List (NestedKey × Addr × Value)) (k : NestedKey) (b : Addr) (v : Value) (x : NestedKey × Addr × Value) (h : x ∈ storedH r k b v) : (∃ y ∈ r, x.1 = y.1 ∧ x.2.1 = y.2.1) ∨ (x.1 = k ∧ x.2.1 = b) := by
  cases e : atKey r k with
  | none =>
    rw [storedH_new e] at h
    rcases List.mem_append.mp h with h | h
    · exact .inl ⟨x, h, rfl, rfl⟩
    · rw [List.mem_singleton.mp h]
      exact .inr ⟨rfl, rfl⟩
  | some p =>
    rw [storedH_old e] at h
    obtain ⟨y, hy, rfl⟩ := List.mem_map.mp h
    refine .inl ⟨y, hy, ?_, ?_⟩ <;> (unfold putAt; split <;> rfl)
theorem stored_len (r : List (NestedKey × Addr × Value)) (k : NestedKey) (b : Addr) (v : Value) : (storedH r k b v).length ≤ r.length + 1 := by
  cases e : atKey r k with
  | none =>
    rw [storedH_new e, List.length_append]
    exact Nat.le_refl _
  | some p =>
    rw [storedH_old e, List.length_map]
    omega
/-! the rules -/
def tDNewN (K : PySem.W.Frag) (w : World) : TE := fun _ H Q => ∀ p H', H p = none → Same H H' → NDc K w H' p 0 (fun _ => none) → Q (.ref p) H'
def tDGetN (K : PySem.W.Frag) (w : World) (td ty : TE) : TE := fun σ H Q => td σ H fun x H1 => ty σ H1 fun y H2 => ∃ d n f k v, x = .ref d ∧ NDc K w H2 d n f ∧ Td K H2 y (NestedKey.data k) ∧ (∃ b, y = .ref b) ∧ k.depth ≤ 8 ∧ f k = some v ∧ Q v H2
def sDPutN (K : PySem.W.Frag) (w : World) (td ty tv : TE) : TS := fun D σ H => tv σ H fun v H1 => td σ H1 fun x H2 => ty σ H2 fun y H3 => ∃ d n f k, x = .ref d ∧ NDc K w H3 d n f ∧ n ≤ 100000 ∧ Td K H3 y (NestedKey.data k) ∧ (∃ b, y = .ref b) ∧ k.depth ≤ 8 ∧
  ∀ H4, (∀ a o, H3 a = some o → a ≠ d → H4 a = some o) → KT K H3 H4 → NDc K w H4 d (n + 1) (fun j => if j = k then some v else f j) → D.nx σ H4
theorem ext_tup {φ : Heap → Prop} {xs : List V} : HO.ext φ ≠ .tup xs := fun z => by cases z
section
variable {X : Cx} {K : PySem.W.Frag} {w : World} (hK : X.K = K) (hw : X.w = w)
include hK hw
theorem k_dnewN {pos : Pos} : PE X (.Dict [] [] pos) (tDNewN K w) := by
  subst hK hw
  constructor
  intro pins s σ H Q I want
  have n0 := I.hok.fresh (Nat.le_refl s.heap.objs.size)
  have big : (s.heap.objs.size == sysModules) = false := beq_eq_false_iff_ne.mpr (Ne.symm (Nat.ne_of_lt I.big))
  refine wpAny_Dict_empty ⟨.ref s.heap.objs.size, _, I.laid (a := s.heap.objs.size) (o := ndo X.w s.heap.objs.size []) (t' := s.toks) (fun _ _ q => Heap.get?_push_of_some _ q) (Nat.le_refl _) ?_, rfl, want _ _ n0 (same_upd n0) ⟨[], upd_same, big, Nat.le_refl _, List.nodup_nil, fun x hx => absurd hx List.not_mem_nil, fun k => ?_⟩⟩
  · exact ndo_ok ⟨_, #[], 0, Heap.get?_push_size _ rfl, ⟨rfl, rfl, rfl⟩, rfl, rfl⟩
  · exact True.intro
theorem k_dgetN {o i : Expr} {td ty : TE} {pos : Pos} (hu : X.A.units + 64 < cLine) (eo : PE X o td) (ei : PE X i ty) (hs : NoSl i) : PE X (.Subscript o i pos) (tDGetN K w td ty) := by
  subst hK hw
  constructor
  intro pins s σ H Q I want
  refine subD_of PySem.F.slot_dict_getitem.lookup hs (thn (eo.run pins s σ H _ I want) fun u sa za => ?_)
  obtain ⟨x, Ha, Ia, rx, want⟩ := za
  refine thn (ei.run pins sa σ Ha _ Ia want) fun iv sb zb => ?_
  obtain ⟨y, Hb, Ib, ry, d, n, f, k, v, rfl, D, tk, ⟨b, rfl⟩, hd, hf, want⟩ := zb
  cases (show u = Value.ref d from rx)
  cases (show iv = Value.ref b from ry)
  obtain ⟨xs, dd, h1, h2, h3, h4, h5, h6⟩ := D.of Ib
  obtain ⟨w', hw', rw'⟩ := RelO.some_of (v := v) (o := (atKey xs k).map (·.2)) (by rw [← hf]; exact h6 k)
  obtain ⟨p, hp, hp2⟩ := Option.map_eq_some_iff.mp hw'
  refine ⟨dd.typeIs, wpAny_getItem_heap (knd := nestedKind X.prog X.w) (k := k) ?_ ⟨nested_is Ib k _ _ tk rfl, hd⟩ dd hp ?_⟩
  · show X.A.in1.units + 8 < cLine
    have : X.A.in1.units = X.A.units + 1 := rfl
    omega
  · rw [hp2]
    exact ⟨v, Hb, Ib.tok _, rw', want⟩
theorem k_dputN {o i value : Expr} {td ty tv : TE} {pos pos' : Pos} (hu : X.A.units + 64 < cLine) (eo : PE X o td) (ei : PE X i ty) (ev : PE X value tv) (hs : swapsWith value (some (.Subscript o i pos')) pos.line X.env = pure false) :
    PS X (.Assign [.Subscript o i pos'] value pos) (sDPutN K w td ty tv) := by
  subst hK hw
  constructor
  intro pins s σ H D I want
  refine wpAny_Assign_Subscript (thn (ev.run pins s σ H _ I want) fun r sa za => ?_) hs
  obtain ⟨v, Ha, Ia, rv, want⟩ := za
  refine thn (eo.run pins sa σ Ha _ Ia want) fun u sb zb => ?_
  obtain ⟨x, Hb, Ib, rx, want⟩ := zb
  refine thn (ei.run pins sb σ Hb _ Ib want) fun iv sc zc => ?_
  obtain ⟨y, Hc, Ic, ry, d, n, f, k, rfl, ND, hn, tk, ⟨b, rfl⟩, hd, want⟩ := zc
  cases (show u = Value.ref d from rx)
  cases (show iv = Value.ref b from ry)
  obtain ⟨xs, dd, h1, h2, h3, h4, h5, h6⟩ := ND.of Ic
  have hz : xs.length ≤ sizeLine := by rw [sizeLine_eq]; omega
  refine wpAny_setItem_heap (knd := nestedKind X.prog X.w) (k := k) (hsz := hz) ?_ ⟨nested_is Ic k _ _ tk rfl, hd⟩ dd fun h' dd' hsb => ?_
  · show X.A.in1.units + 8 < cLine
    have : X.A.in1.units = X.A.units + 1 := rfl
    omega
  obtain ⟨q, es, ep, q1, q2, q3, q4, q5, q6⟩ := dd'
  have Id := d_write (t' := sc.toks + (nestedKind X.prog X.w).draws k) (ob := ndo X.w d (storedH xs k b r)) Ic (by rw [h1]; exact True.intro) hsb ⟨q, q1⟩ (ndo_ok ⟨q, es, ep, q1, q2, q3, q4⟩)
  have kt : KT X.K Hc (upd Hc d (ndo X.w d (storedH xs k b r))) := fun a ys z => by
    rcases z with (z | ⟨oo, z⟩) | z
    · exact .inl (.inl (by rw [upd_ne (ne_of z h1 (fun e => by cases e))]; exact z))
    · exact .inl (.inr ⟨oo, by rw [upd_ne (ne_of z h1 (fun e => by cases e))]; exact z⟩)
    · exact .inr z
  refine ⟨σ, _, Id, want _ (fun a oo z ne => by rw [upd_ne ne]; exact z) kt ⟨storedH xs k b r, upd_same, h2, ?_, q6, fun x hx => ?_, fun j => ?_⟩⟩
  · have := stored_len xs k b r
    omega
  · rcases stored_keys xs k b r x hx with ⟨y, hy, e1, e2⟩ | ⟨e1, e2⟩
    · rw [e1, e2]
      exact ⟨(h5 y hy).1.keep kt, (h5 y hy).2⟩
    · rw [e1, e2]
      exact ⟨tk.keep kt, hd⟩
  · rw [atKey_stored]
    show RelO (if j = k then some v else f j) _
    by_cases e : j = k
    · rw [if_pos e, if_pos e]
      exact rv
    · rw [if_neg e, if_neg e]
      exact h6 j
end
end Tl
/-! zip of three tuples -/
namespace Tl
open PySem PySem.Spec PyProof.Rows L2 RZ
/-- three tuples side by side, the items in new triples -/
def ItzT3 (K : PySem.W.Frag) (a b c : Addr) : It :=
  ⟨fun i H => ∃ (xs ys zs : List V) (x y z : V), SqT K H a xs ∧ SqT K H b ys ∧ SqT K H c zs ∧ xs[i]? = some x ∧ ys[i]? = some y ∧ zs[i]? = some z,
   fun i H v H' => ∃ T x y z, v = .ref T ∧ H T = none ∧ H' = upd H T (.tup [x, y, z]) ∧ (∀ xs, SqT K H a xs → xs[i]? = some x) ∧ (∀ ys, SqT K H b ys → ys[i]? = some y) ∧ ∀ zs, SqT K H c zs → zs[i]? = some z,
   fun i H => ∃ xs ys zs : List V, SqT K H a xs ∧ SqT K H b ys ∧ SqT K H c zs ∧ i = min (min xs.length ys.length) zs.length⟩
def Y3 (xs ys zs : Nat → Option V) : Nat → Hp → V → Hp → Prop := fun i H v H' => ∃ T x y z, v = .ref T ∧ H T = none ∧ H' = upd H T (.tup [x, y, z]) ∧ xs i = some x ∧ ys i = some y ∧ zs i = some z
theorem turn_zipT3 {P : Program} {w : World} {K : PySem.W.Frag} {elts : List Expr} {kk : Nat} {tpos : Pos} (N a b c : Addr) (la : a < N) (lb : b < N) (lc : c < N) :
    Turn P w K (.Tuple elts kk tpos) (ItzT3 K a b c) [(N + 5 : Nat), (N + 3 : Nat), (N + 4 : Nat), N, (N + 1 : Nat), (N + 2 : Nat)] (N + 5 : Nat) (fun i h => IsZip h (N + 5 : Nat) (N + 3 : Nat) (N + 4 : Nat) .none ∧ IsTupOf3 h (N + 3 : Nat) (.ref N) (.ref (N + 1 : Nat)) (.ref (N + 2 : Nat)) ∧ (∃ a1 a2 a3, IsTupOf3 h (N + 4 : Nat) a1 a2 a3) ∧ h.IsTupleIter N a i ∧ h.IsTupleIter (N + 1 : Nat) b i ∧ h.IsTupleIter (N + 2 : Nat) c i) where
  mem := List.mem_cons_self
  obj := by
    rintro i h ⟨g1, g2, ⟨a1, a2, a3, g3⟩, ⟨o1, e1, _, d1⟩, ⟨o2, e2, _, d2⟩, ⟨o3, e3, _, d3⟩⟩ q hq
    simp only [List.mem_cons, List.not_mem_nil, or_false] at hq
    rcases hq with z | z | z | z | z | z
    · rw [z]; exact ⟨_, g1, fun v y => nomatch y⟩
    · rw [z]; exact ⟨_, g2, fun v y => nomatch y⟩
    · rw [z]; exact ⟨_, g3, fun v y => nomatch y⟩
    · rw [z]; exact ⟨o1, e1, fun v y => by rw [d1] at y; cases y⟩
    · rw [z]; exact ⟨o2, e2, fun v y => by rw [d2] at y; cases y⟩
    · rw [z]; exact ⟨o3, e3, fun v y => by rw [d3] at y; cases y⟩
  keep := by
    rintro i h h' ⟨g1, g2, ⟨a1, a2, a3, g3⟩, i1, i2, i3⟩ k
    exact ⟨k _ (by simp) _ g1, k _ (by simp) _ g2, ⟨a1, a2, a3, k _ (by simp) _ g3⟩, i1.at fun o y => k _ (by simp) o y, i2.at fun o y => k _ (by simp) o y, i3.at fun o y => k _ (by simp) o y⟩
  item := by
    intro X hP hw hK hcalm i pins s σ H E I hf st hg
    subst hP hw hK
    obtain ⟨g1, g2, g3, i1, i2, i3⟩ := st
    obtain ⟨xs, ys, zs, x, y, z, q1, q2, q3, e1, e2, e3⟩ := hg
    obtain ⟨us1, rv1, p1, _⟩ := I.tuple q1
    obtain ⟨us2, rv2, p2, _⟩ := I.tuple q2
    obtain ⟨us3, rv3, p3, _⟩ := I.tuple q3
    obtain ⟨u1, f1, r1⟩ := rv1.get e1
    obtain ⟨u2, f2, r2⟩ := rv2.get e2
    obtain ⟨u3, f3, r3⟩ := rv3.get e3
    have n1 : i < us1.toArray.size := by rw [List.size_toArray]; exact (List.getElem?_eq_some_iff.mp f1).1
    have n2 : i < us2.toArray.size := by rw [List.size_toArray]; exact (List.getElem?_eq_some_iff.mp f2).1
    have n3 : i < us3.toArray.size := by rw [List.size_toArray]; exact (List.getElem?_eq_some_iff.mp f3).1
    have D1 := Draws.tuple (prog := X.prog) (w := X.w) (A := X.A.in1) (I.ok.hd hcalm) N a (Nat.ne_of_lt la) us1.toArray
    have D2 := Draws.tuple (prog := X.prog) (w := X.w) (A := X.A.in1) (I.ok.hd hcalm) (N + 1 : Nat) b (Nat.ne_of_lt (Nat.lt_succ_of_lt lb)) us2.toArray
    have D3 := Draws.tuple (prog := X.prog) (w := X.w) (A := X.A.in1) (I.ok.hd hcalm) (N + 2 : Nat) c (Nat.ne_of_lt (Nat.lt_succ_of_lt (Nat.lt_succ_of_lt lc))) us3.toArray
    have one : ∀ {t : Addr}, t < N → ∀ q ∈ [t], q < N := fun h q hq => by rw [List.mem_singleton.mp hq]; exact h
    have G := GoesN.zip3 (elts := elts) (x1 := kk) (pos := tpos) (zip_sep3 (one la) (one lb) (one lc)) D1 D2 D3
    refine G.goes i s (fun v s2 => ∃ x H', Inv X pins σ H' s2 ∧ RelV x v ∧ (ItzT3 X.K a b c).yld i H x H' ∧ _ ∧ ∀ q ∈ [(N + 5 : Nat), (N + 3 : Nat), (N + 4 : Nat), N, (N + 1 : Nat), (N + 2 : Nat)], H' q = none) E (by omega) ⟨g1, g2, g3, ⟨i1, p1⟩, ⟨i2, p2⟩, ⟨i3, p3⟩⟩ fun v h' tk hY st' hk htk => ?_
    obtain ⟨T, v1, v2, v3, rfl, hT, w1, w2, w3, hTt⟩ := hY
    have e1' : us1[i]? = some v1 := by simpa using w1
    have e2' : us2[i]? = some v2 := by simpa using w2
    have e3' : us3[i]? = some v3 := by simpa using w3
    rw [f1] at e1'
    rw [f2] at e2'
    rw [f3] at e3'
    cases e1'
    cases e2'
    cases e3'
    obtain ⟨k1, k2, k3, ⟨k4, _⟩, ⟨k5, _⟩, ⟨k6, _⟩⟩ := st'
    have new : ObjOk X.prog X.w (upd H T (.tup [x, y, z])) h' T (.tup [x, y, z]) := ⟨by show 3 ≤ sizeLine; decide, [u1, u2, u3], .cons r1 (.cons r2 (.cons r3 .nil)), hTt⟩
    have hlt : ∀ q ∈ [(N + 5 : Nat), (N + 3 : Nat), (N + 4 : Nat), N, (N + 1 : Nat), (N + 2 : Nat)], q < s.heap.objs.size := fun q hq => by
      simp only [List.mem_cons, List.not_mem_nil, or_false] at hq
      obtain ⟨a1, a2, a3, g3⟩ := g3
      rcases hq with z | z | z | z | z | z
      · rw [z]; exact Heap.lt_size g1
      · rw [z]; exact Heap.lt_size g2
      · rw [z]; exact Heap.lt_size g3
      · rw [z]; obtain ⟨_, y, _⟩ := i1; exact Heap.lt_size y
      · rw [z]; obtain ⟨_, y, _⟩ := i2; exact Heap.lt_size y
      · rw [z]; obtain ⟨_, y, _⟩ := i3; exact Heap.lt_size y
    refine ⟨.ref T, upd H T (.tup [x, y, z]), I.turnedNew (t' := tk) (ch := [(N + 5 : Nat), (N + 3 : Nat), (N + 4 : Nat), N, (N + 1 : Nat), (N + 2 : Nat)]) (fun q o hq e => hk q o (fun m => hq ?_) e) hf hT new, rfl, ⟨T, x, y, z, rfl, I.hok.fresh hT, rfl, fun l hl => ?_, fun l hl => ?_, fun l hl => ?_⟩, ⟨k1, k2, k3, k4, k5, k6⟩, fun q hq => ?_⟩
    · simp only [List.mem_cons, List.not_mem_nil, or_false] at m ⊢
      rcases m with m | m | m | m | m
      · exact .inl m
      · exact .inr (.inr (.inl m))
      · exact .inr (.inr (.inr (.inl m)))
      · exact .inr (.inr (.inr (.inr (.inl m))))
      · exact .inr (.inr (.inr (.inr (.inr m))))
    · rw [I.tuple_inj hl q1]
      exact e1
    · rw [I.tuple_inj hl q2]
      exact e2
    · rw [I.tuple_inj hl q3]
      exact e3
    · rw [upd_ne (Nat.ne_of_lt (Nat.lt_of_lt_of_le (hlt q hq) hT))]
      exact (hf q hq).1
  done := by
    intro X hP hw hK hcalm i pins s σ H E I hf st hg
    subst hP hw hK
    obtain ⟨g1, g2, g3, i1, i2, i3⟩ := st
    obtain ⟨xs, ys, zs, q1, q2, q3, hi⟩ := hg
    obtain ⟨us1, rv1, p1, _⟩ := I.tuple q1
    obtain ⟨us2, rv2, p2, _⟩ := I.tuple q2
    obtain ⟨us3, rv3, p3, _⟩ := I.tuple q3
    have D1 := Draws.tuple (prog := X.prog) (w := X.w) (A := X.A.in1) (I.ok.hd hcalm) N a (Nat.ne_of_lt la) us1.toArray
    have D2 := Draws.tuple (prog := X.prog) (w := X.w) (A := X.A.in1) (I.ok.hd hcalm) (N + 1 : Nat) b (Nat.ne_of_lt (Nat.lt_succ_of_lt lb)) us2.toArray
    have D3 := Draws.tuple (prog := X.prog) (w := X.w) (A := X.A.in1) (I.ok.hd hcalm) (N + 2 : Nat) c (Nat.ne_of_lt (Nat.lt_succ_of_lt (Nat.lt_succ_of_lt lc))) us3.toArray
    have one : ∀ {t : Addr}, t < N → ∀ q ∈ [t], q < N := fun h q hq => by rw [List.mem_singleton.mp hq]; exact h
    have G := GoesN.zip3 (elts := elts) (x1 := kk) (pos := tpos) (zip_sep3 (one la) (one lb) (one lc)) D1 D2 D3
    have hn : i = min (min us1.toArray.size us2.toArray.size) us3.toArray.size := by
      rw [hi, rv1.length, rv2.length, rv3.length, List.size_toArray, List.size_toArray, List.size_toArray]
    rw [hn] at i1 i2 i3
    refine G.stops s (fun s1 => Inv X pins σ H s1) E ⟨g1, g2, g3, ⟨i1, p1⟩, ⟨i2, p2⟩, ⟨i3, p3⟩⟩ fun h' tk hk htk => ?_
    refine I.turnedL (t' := tk) (ch := [(N + 5 : Nat), (N + 3 : Nat), (N + 4 : Nat), N, (N + 1 : Nat), (N + 2 : Nat)]) (fun q o hq e => hk q o (fun m => hq ?_) e) hf
    simp only [List.mem_cons, List.not_mem_nil, or_false] at m ⊢
    rcases m with m | m | m | m | m
    · exact .inl m
    · exact .inr (.inr (.inl m))
    · exact .inr (.inr (.inr (.inl m)))
    · exact .inr (.inr (.inr (.inr (.inl m))))
    · exact .inr (.inr (.inr (.inr (.inr m))))
  self := fun A i s Q E st h => wpAny_pyIter_zip st.1 h
def iZip3 (K : PySem.W.Frag) (ta : TA) : TI := fun σ H R => ta σ H fun vs H1 => ∃ a b c xs ys zs, vs = [.ref a, .ref b, .ref c] ∧ SqT K H1 a xs ∧ SqT K H1 b ys ∧ SqT K H1 c zs ∧ R (ItzT3 K a b c) H1
section
variable {X : Cx} {K : PySem.W.Frag} (hK : X.K = K)
include hK
theorem k_zip3 {e1 e2 e3 : Expr} {ta : TA} {p pos tpos : Pos} {elts : List Expr} {kk : Nat} (hg : Gl X "zip") (hm : X.mg "zip" = none) (ha : PA X [e1, e2, e3] ta)
    (hs : starEach [e1, e2, e3] X.env = (false, eval e1 X.env) :: starEach [e2, e3] X.env := by rfl) (hpl : (backTo pos (starEach [e2, e3] X.env)).any (·.1) = false := by rfl) :
    PI X (.Tuple elts kk tpos) (.Call (.Name "zip" p) [e1, e2, e3] [] pos) (iZip3 K ta) := by
  subst hK
  constructor
  intro pins s σ H R I want
  refine Call_ (ld_blt I hg hm PyProof.Rows.boot_zip (PyProof.Rows.callWith_type1 (thn (ha.run pos pins s σ H _ I want) fun us sa za => ?_) hs hpl))
  obtain ⟨vs, Ha, Ia, rs, a, b, c, xs, ys, zs, rfl, qa, qb, qc, want⟩ := za
  obtain ⟨u1, u2, u3, rfl, r1, r2, r3⟩ : ∃ u1 u2 u3, us = [u1, u2, u3] ∧ RelV (.ref a) u1 ∧ RelV (.ref b) u2 ∧ RelV (.ref c) u3 := by
    cases rs with
    | cons r1 rs =>
      cases rs with
      | cons r2 rs =>
        cases rs with
        | cons r3 rs =>
          cases rs
          exact ⟨_, _, _, rfl, r1, r2, r3⟩
  cases r1
  cases r2
  cases r3
  obtain ⟨us1, rv1, p1, _⟩ := Ia.tuple qa
  obtain ⟨us2, rv2, p2, _⟩ := Ia.tuple qb
  obtain ⟨us3, rv3, p3, _⟩ := Ia.tuple qc
  obtain ⟨o1, h1, _⟩ := id p1
  obtain ⟨o2, h2, _⟩ := id p2
  obtain ⟨o3, h3, _⟩ := id p3
  refine zip_begins3 (begins_tuple a us1.toArray) (begins_tuple b us2.toArray) (begins_tuple c us3.toArray) p1 p2 p3 fun h' gz gT gO g1 g2 g3 hsz hk => wpAny_pyIter_zip gz ?_
  have Ib : Inv X pins σ Ha { sa with heap := h' } := Ia.kept (t' := sa.toks) hk
  refine ⟨_, _, _, _, Ha, rfl, Ib, turn_zipT3 sa.heap.objs.size a b c (Heap.lt_size h1) (Heap.lt_size h2) (Heap.lt_size h3), ⟨gz, gT, ⟨_, _, _, gO⟩, ⟨_, g1, rfl, rfl⟩, ⟨_, g2, rfl, rfl⟩, ⟨_, g3, rfl, rfl⟩⟩, fun q hq => ?_, want⟩
  have hle : sa.heap.objs.size ≤ q := by
    simp only [List.mem_cons, List.not_mem_nil, or_false] at hq
    rcases hq with z | z | z | z | z | z
    · rw [z]; exact Nat.le_add_right _ _
    · rw [z]; exact Nat.le_add_right _ _
    · rw [z]; exact Nat.le_add_right _ _
    · rw [z]; exact Nat.le_refl _
    · rw [z]; exact Nat.le_add_right _ _
    · rw [z]; exact Nat.le_add_right _ _
  exact Ia.fpOk hle (Ia.hok.fresh hle)
end
theorem walk_zip3 {K : PySem.W.Frag} {a b c : Addr} {xs ys zs : List V} {n : Nat} (h1 : xs.length = n) (h2 : ys.length = n) (h3 : zs.length = n) : Walk (ItzT3 K a b c) n (fun H => SqT K H a xs ∧ SqT K H b ys ∧ SqT K H c zs) (Y3 (fun i => xs[i]?) (fun i => ys[i]?) (fun i => zs[i]?)) := by
  refine ⟨fun i _ hi q => ⟨xs, ys, zs, xs[i]'(by omega), ys[i]'(by omega), zs[i]'(by omega), q.1, q.2.1, q.2.2, List.getElem?_eq_getElem _, List.getElem?_eq_getElem _, List.getElem?_eq_getElem _⟩, fun _ q => ⟨xs, ys, zs, q.1, q.2.1, q.2.2, by omega⟩, fun i H v H' _ q y => ?_⟩
  obtain ⟨T, x, y, z, e1, e2, e3, f1, f2, f3⟩ := y
  exact ⟨T, x, y, z, e1, e2, e3, f1 xs q.1, f2 ys q.2.1, f3 zs q.2.2⟩
end Tl
namespace Tl
open PySem PySem.Spec PyProof.Rows L2 RZ
/-! ### fractions of bounded size -/
def Bd (r : Rat) (m : Nat) : Prop := -(m : Rat) ≤ r ∧ r ≤ (m : Rat)
theorem le2 {a b c d : Rat} (h1 : a ≤ b) (h2 : c ≤ d) : a + c ≤ b + d := Rat.le_trans (Rat.add_le_add_right.mpr h1) (Rat.add_le_add_left.mpr h2)
theorem bd_add {r s : Rat} {m n : Nat} (h : Bd r m) (k : Bd s n) : Bd (r + s) (m + n) := by
  unfold Bd
  rw [Rat.natCast_add, Rat.neg_add]
  exact ⟨le2 h.1 k.1, le2 h.2 k.2⟩
theorem bd_mono {r : Rat} {m n : Nat} (h : Bd r m) (l : m ≤ n) : Bd r n := by
  have z : (m : Rat) ≤ (n : Rat) := Rat.natCast_le_natCast.mpr l
  exact ⟨Rat.le_trans (Rat.neg_le_neg z) h.1, Rat.le_trans h.2 z⟩
theorem bd_zero {m : Nat} : Bd 0 m := by
  have z : (0 : Rat) ≤ (m : Rat) := Rat.natCast_nonneg
  exact ⟨by have := Rat.neg_le_neg z; rw [Rat.neg_zero] at this; exact this, z⟩
theorem bd_mul {c r : Rat} {m : Nat} (h0 : 0 ≤ c) (h1 : c ≤ 1) (h : Bd r m) : Bd (c * r) m := by
  have z : (0 : Rat) ≤ (m : Rat) := Rat.natCast_nonneg
  have e1 : c * (m : Rat) ≤ m := by
    have := Rat.mul_le_mul_of_nonneg_right h1 z
    rw [Rat.one_mul] at this
    exact this
  have u := Rat.mul_le_mul_of_nonneg_left h.2 h0
  have l := Rat.mul_le_mul_of_nonneg_left h.1 h0
  rw [Rat.mul_neg] at l
  exact ⟨Rat.le_trans (Rat.neg_le_neg e1) l, Rat.le_trans u e1⟩
theorem bd_ch {e : Nat} {r : Rat} (h : Ch e r) : Bd r 1 := by
  have z : (((1 : Nat) : Rat)) = 1 := rfl
  refine ⟨?_, by rw [z]; exact h.2.1⟩
  rw [z]
  exact Rat.le_trans (by decide) h.1
theorem bd_num {r : Rat} {m : Nat} (h : Bd r m) : r.num.natAbs ≤ m * r.den := by
  have a := (Rat.le_iff _ _).mp h.1
  have b := (Rat.le_iff _ _).mp h.2
  rw [Rat.neg_num, Rat.neg_den, Rat.num_natCast, Rat.den_natCast] at a
  rw [Rat.num_natCast, Rat.den_natCast] at b
  have c : ((m * r.den : Nat) : Int) = (m : Int) * (r.den : Int) := Int.natCast_mul _ _
  rw [Int.neg_mul] at a
  omega
/-- the bottom divides the k-th power, at most m either way -/
def Fd (k m : Nat) (r : Rat) : Prop := r.den ∣ LL ^ k ∧ Bd r m
theorem add_den_dvd {a b : Rat} {D : Nat} (h1 : a.den ∣ D) (h2 : b.den ∣ D) (hD : 0 < D) : (a + b).den ∣ D := by
  rw [← fr_frN hD h1, ← fr_frN hD h2, fr_add hD]
  exact mk_den_dvd hD
theorem Fd.add {k m n : Nat} {r s : Rat} (h : Fd k m r) (g : Fd k n s) : Fd k (m + n) (r + s) := ⟨add_den_dvd h.1 g.1 (ll_pos k), bd_add h.2 g.2⟩
theorem Fd.mono {k k' m m' : Nat} {r : Rat} (h : Fd k m r) (l : k ≤ k') (l' : m ≤ m') : Fd k' m' r := ⟨Nat.dvd_trans h.1 (ll_mono l), bd_mono h.2 l'⟩
theorem Fd.mul {e k m : Nat} {c r : Rat} (hc : Ch e c) (h : Fd k m r) : Fd (e + k) m (c * r) := by
  refine ⟨Nat.dvd_trans (mul_den_dvd _ _) ?_, bd_mul hc.1 hc.2.1 h.2⟩
  rw [Nat.pow_add]
  exact Nat.mul_dvd_mul hc.2.2 h.1
theorem Ch.prod {e f : Nat} {c d : Rat} (hc : Ch e c) (hd : Ch f d) : Ch (e + f) (c * d) := by
  refine ⟨Rat.mul_nonneg hc.1 hd.1, ?_, ?_⟩
  · have := Rat.mul_le_mul_of_nonneg_left hd.2.1 hc.1
    rw [Rat.mul_one] at this
    exact Rat.le_trans this hc.2.1
  · rw [Nat.pow_add]
    exact Nat.dvd_trans (mul_den_dvd _ _) (Nat.mul_dvd_mul hc.2.2 hd.2.2)
theorem fd_zero {k m : Nat} : Fd k m 0 := ⟨Nat.one_dvd _, bd_zero⟩
theorem Ch.fd {e : Nat} {r : Rat} (h : Ch e r) : Fd e 1 r := ⟨h.2.2, bd_ch h⟩
theorem Fd.den {k m : Nat} {r : Rat} (h : Fd k m r) : r.den ≤ LL ^ k := Nat.le_of_dvd (ll_pos k) h.1
theorem Fd.num {k m : Nat} {r : Rat} (h : Fd k m r) : r.num.natAbs ≤ m * LL ^ k := Nat.le_trans (bd_num h.2) (Nat.mul_le_mul_left m h.den)
theorem ll_big {k m : Nat} (hk : k ≤ 15) (hm : m ≤ 2 ^ 100) : m * LL ^ k < 2 ^ 1500 := by
  have a : LL ^ k ≤ 2 ^ 1335 := ll_small (by omega)
  have b := Nat.mul_le_mul hm a
  rw [← Nat.pow_add] at b
  exact Nat.lt_of_le_of_lt b (Nat.pow_lt_pow_right (by decide) (by decide))
theorem Fd.sm {k m : Nat} {r : Rat} (h : Fd k m r) (hk : k ≤ 15) (hm : m ≤ 2 ^ 100) : Sm r := by
  refine ⟨?_, Nat.lt_of_le_of_lt h.num (ll_big hk hm)⟩
  have := ll_big (m := 1) hk (Nat.one_le_two_pow)
  rw [Nat.one_mul] at this
  exact Nat.lt_of_le_of_lt h.den this
theorem fd_sum {k m : Nat} : ∀ {rs : List Rat}, (∀ r ∈ rs, Fd k m r) → Fd k (rs.length * m) (fsum rs)
  | [], _ => fd_zero
  | r :: rs, h => by
    rw [fsum_cons, List.length_cons, Nat.add_mul, Nat.one_mul, Nat.add_comm]
    exact (h r (List.mem_cons_self ..)).add (fd_sum fun x hx => h x (List.mem_cons_of_mem _ hx))
theorem frN_absM {D m : Nat} {r : Rat} (h : r.den ∣ D) (hb : Bd r m) : (frN D r).natAbs ≤ m * D := by
  have n1 := bd_num hb
  unfold frN
  rw [Int.natAbs_mul, Int.natAbs_natCast]
  have := Nat.mul_le_mul_right (D / r.den) n1
  rw [Nat.mul_assoc, Nat.mul_div_cancel' h] at this
  exact this
theorem frNs_absM {D m : Nat} : ∀ {rs : List Rat}, (∀ r ∈ rs, r.den ∣ D ∧ Bd r m) → abssum (rs.map (frN D)) ≤ rs.length * (m * D)
  | [], _ => by
    rw [List.length_nil, Nat.zero_mul]
    exact Nat.le_refl 0
  | r :: rs, h => by
    rw [List.map_cons, abssum_cons, List.length_cons, Nat.add_mul, Nat.one_mul]
    obtain ⟨a, b⟩ := h r (List.mem_cons_self ..)
    have := frN_absM a b
    have := frNs_absM fun x hx => h x (List.mem_cons_of_mem _ hx)
    omega
/-- a sum of such fractions, as total wants it -/
theorem tot_fd {k m : Nat} {rs : List Rat} (h : ∀ r ∈ rs, Fd k m r) (hk : k ≤ 14) (hm : rs.length * m ≤ 2 ^ 100) : ((rs.map (frN (LL ^ k))).map (fr (LL ^ k)) = rs) ∧ 0 < LL ^ k ∧ LL ^ k < 2 ^ 1500 ∧ abssum (rs.map (frN (LL ^ k))) < 2 ^ 1500 := by
  refine ⟨frs_frN (ll_pos k) fun r hr => (h r hr).1, ll_pos k, ll_lt1500 (by omega), Nat.lt_of_le_of_lt (frNs_absM h) ?_⟩
  rw [← Nat.mul_assoc]
  exact ll_big (by omega) hm
/-! ### tables -/
def Tb : Nat → Type
  | 0 => Unit
  | n + 1 => List (Rat × List (List Rat × Tb n))
abbrev Rw (n : Nat) : Type := List Rat × Tb n
abbrev Ask (n : Nat) : Type := Rat × List (Rw n)
def tbD : (n : Nat) → Tb n → PyData
  | 0, _ => .tuple []
  | n + 1, xs => .tuple ((show List (Ask n) from xs).map fun x => .tuple [rD x.1, .tuple (x.2.map fun r => .tuple [wsD r.1, tbD n r.2])])
def rwD (n : Nat) (r : Rw n) : PyData := .tuple [wsD r.1, tbD n r.2]
def rwsD (n : Nat) (rs : List (Rw n)) : PyData := .tuple (rs.map (rwD n))
def askD (n : Nat) (x : Ask n) : PyData := .tuple [rD x.1, rwsD n x.2]
theorem tbD_succ (n : Nat) (xs : List (Ask n)) : tbD (n + 1) xs = .tuple (xs.map (askD n)) := rfl
structure PaysOk (W : Nat) (ps : List Rat) : Prop where
  len : ps.length = W
  fd : ∀ p ∈ ps, Fd 1 4 p
/-- two lists of one length, place by place -/
inductive Al {α β : Type} (R : α → β → Prop) : List α → List β → Prop
  | nil : Al R [] []
  | cons {a : α} {b : β} {as : List α} {bs : List β} : R a b → Al R as bs → Al R (a :: as) (b :: bs)
theorem Al.len {α β : Type} {R : α → β → Prop} : ∀ {as : List α} {bs : List β}, Al R as bs → as.length = bs.length
  | _, _, .nil => rfl
  | _, _, .cons _ t => congrArg (· + 1) (Al.len t)
theorem Al.get {α β : Type} {R : α → β → Prop} : ∀ {as : List α} {bs : List β} {i : Nat} {a : α}, Al R as bs → as[i]? = some a → ∃ b, bs[i]? = some b ∧ R a b
  | _, _, _, _, .nil, e => by simp at e
  | _, _, 0, _, .cons h _, e => by
    simp at e
    subst e
    exact ⟨_, rfl, h⟩
  | _, _, i + 1, a, .cons _ t, e => by
    obtain ⟨b, h1, h2⟩ := Al.get (i := i) (a := a) t (by simpa using e)
    exact ⟨b, by simpa using h1, h2⟩
theorem Al.imp {α β : Type} {R S : α → β → Prop} (h : ∀ a b, R a b → S a b) : ∀ {as : List α} {bs : List β}, Al R as bs → Al S as bs
  | _, _, .nil => .nil
  | _, _, .cons x t => .cons (h _ _ x) (Al.imp h t)
theorem Al.snoc {α β : Type} {R : α → β → Prop} {a : α} {b : β} (h : R a b) : ∀ {as : List α} {bs : List β}, Al R as bs → Al R (as ++ [a]) (bs ++ [b])
  | _, _, .nil => .cons h .nil
  | _, _, .cons x t => .cons x (Al.snoc h t)
theorem Al.of {α β : Type} {R : α → β → Prop} : ∀ {as : List α} {bs : List β}, as.length = bs.length → (∀ (i : Nat) (a : α) (b : β), as[i]? = some a → bs[i]? = some b → R a b) → Al R as bs
  | [], [], _, _ => .nil
  | [], _ :: _, e, _ => by simp at e
  | _ :: _, [], e, _ => by simp at e
  | a :: as, b :: bs, e, h => .cons (h 0 a b rfl rfl) (Al.of (by simpa using e) fun i x y h1 h2 => h (i + 1) x y (by simpa using h1) (by simpa using h2))
/-- a table for a node -/
def TbOk (W : Nat) : (n : Nat) → Nd n → Tb n → Prop
  | 0, _, _ => True
  | n + 1, qs, xs => (∀ x ∈ (show List (Ask n) from xs), Ch 1 x.1) ∧ fsum ((show List (Ask n) from xs).map (·.1)) ≤ 1 ∧ Al (fun (q : Qn n) (x : Ask n) => Al (fun (a : An n) (r : Rw n) => PaysOk W r.1 ∧ TbOk W n a.2.2 r.2) q x.2) qs xs
/-! ### what is paid -/
def dot3 : List Rat → List Rat → List Rat → List Rat
  | p :: ps, w :: ws, y :: ys => p * w * y :: dot3 ps ws ys
  | _, _, _ => []
def payF (prior ws ps : List Rat) : Rat := fsum (dot3 prior ws ps)
def paidT (prior : List Rat) : (n : Nat) → Nd n → Tb n → Rat
  | 0, _, _ => 0
  | n + 1, qs, xs => fsum (List.zipWith (fun (q : Qn n) (x : Ask n) => x.1 * fsum (List.zipWith (fun (a : An n) (r : Rw n) => payF prior a.2.1 r.1 + paidT prior n a.2.2 r.2) q x.2)) qs xs)
def paidA (prior : List Rat) (n : Nat) (a : An n) (r : Rw n) : Rat := payF prior a.2.1 r.1 + paidT prior n a.2.2 r.2
def paidQ (prior : List Rat) (n : Nat) (q : Qn n) (x : Ask n) : Rat := x.1 * fsum (List.zipWith (paidA prior n) q x.2)
theorem paidT_succ (prior : List Rat) (n : Nat) (qs : List (Qn n)) (xs : List (Ask n)) : paidT prior (n + 1) qs xs = fsum (List.zipWith (paidQ prior n) qs xs) := rfl
theorem dot3_len : ∀ {W : Nat} {a b c : List Rat}, a.length = W → b.length = W → c.length = W → (dot3 a b c).length = W
  | 0, [], [], [], _, _, _ => rfl
  | W + 1, x :: a, y :: b, z :: c, h1, h2, h3 => congrArg (· + 1) (dot3_len (W := W) (by simpa using h1) (by simpa using h2) (by simpa using h3))
theorem dot3_at : ∀ {a b c : List Rat} {i : Nat} {x y z : Rat}, a[i]? = some x → b[i]? = some y → c[i]? = some z → (dot3 a b c)[i]? = some (x * y * z)
  | [], _, _, _, _, _, _, h, _, _ => by simp at h
  | _ :: _, [], _, _, _, _, _, _, h, _ => by simp at h
  | _ :: _, _ :: _, [], _, _, _, _, _, _, h => by simp at h
  | x :: a, y :: b, z :: c, 0, _, _, _, h1, h2, h3 => by
    cases h1
    cases h2
    cases h3
    rfl
  | x :: a, y :: b, z :: c, i + 1, x', y', z', h1, h2, h3 => by
    have := dot3_at (a := a) (b := b) (c := c) (i := i) (x := x') (y := y') (z := z') (by simpa using h1) (by simpa using h2) (by simpa using h3)
    simpa [dot3] using this
theorem dot3_mem {a b c : List Rat} {r : Rat} (h : r ∈ dot3 a b c) : ∃ x ∈ a, ∃ y ∈ b, ∃ z ∈ c, r = x * y * z := by
  induction a generalizing b c with
  | nil => exact absurd h (by simp [dot3])
  | cons x a ih =>
    cases b with
    | nil => exact absurd h (by simp [dot3])
    | cons y b =>
      cases c with
      | nil => exact absurd h (by simp [dot3])
      | cons z c =>
        rcases List.mem_cons.mp h with rfl | h
        · exact ⟨x, List.mem_cons_self .., y, List.mem_cons_self .., z, List.mem_cons_self .., rfl⟩
        · obtain ⟨x', h1, y', h2, z', h3, e⟩ := ih h
          exact ⟨x', List.mem_cons_of_mem _ h1, y', List.mem_cons_of_mem _ h2, z', List.mem_cons_of_mem _ h3, e⟩
/-- a prior -/
structure PriorOk (W : Nat) (p : List Rat) : Prop where
  len : p.length = W
  ch : ∀ r ∈ p, Ch 1 r
  one : fsum p = 1
theorem dot3_fd {W : Nat} {p ws ps : List Rat} (hp : PriorOk W p) (hw : ∀ r ∈ ws, Ch 6 r) (hy : ∀ r ∈ ps, Fd 1 4 r) : ∀ r ∈ dot3 p ws ps, Fd 8 4 r := fun r hr => by
  obtain ⟨x, hx, y, hy', z, hz, rfl⟩ := dot3_mem hr
  exact Fd.mul ((hp.ch x hx).prod (hw y hy')) (hy z hz)
theorem payF_fd {W : Nat} {p ws ps : List Rat} (hp : PriorOk W p) (h5 : W ≤ 5) (hl : ws.length = W) (hw : ∀ r ∈ ws, Ch 6 r) (hy : PaysOk W ps) : Fd 8 20 (payF p ws ps) := by
  have z := fd_sum (dot3_fd hp hw hy.fd)
  rw [dot3_len hp.len hl hy.len] at z
  exact z.mono (Nat.le_refl _) (by omega)
/-- how much at most -/
def MB : Nat → Nat
  | 0 => 0
  | n + 1 => 60 * (20 + MB n)
theorem mb_le : ∀ n, n ≤ 9 → MB n ≤ 2 ^ 70 := by
  intro n h
  have h' : ∀ k : Fin 10, MB k.val ≤ 2 ^ 70 := by decide +kernel
  exact h' ⟨n, by omega⟩
theorem zip_fd {α β : Type} {f : α → β → Rat} {R : α → β → Prop} {k m : Nat} (h : ∀ a b, R a b → Fd k m (f a b)) : ∀ {as : List α} {bs : List β}, Al R as bs → ∀ r ∈ List.zipWith f as bs, Fd k m r
  | _, _, .nil, r, hr => by simp at hr
  | _, _, .cons x t, r, hr => by
    rw [List.zipWith_cons_cons] at hr
    rcases List.mem_cons.mp hr with rfl | hr
    · exact h _ _ x
    · exact zip_fd h t r hr
theorem zip_len {α β γ : Type} {f : α → β → γ} {R : α → β → Prop} : ∀ {as : List α} {bs : List β}, Al R as bs → (List.zipWith f as bs).length = as.length
  | _, _, .nil => rfl
  | _, _, .cons _ t => by
    rw [List.zipWith_cons_cons, List.length_cons, List.length_cons, zip_len t]
theorem zip_at {α β γ : Type} {f : α → β → γ} {as : List α} {bs : List β} {i : Nat} {a : α} {b : β} (h1 : as[i]? = some a) (h2 : bs[i]? = some b) : (List.zipWith f as bs)[i]? = some (f a b) := by
  rw [List.getElem?_zipWith, h1, h2]
theorem Al.mem {α β : Type} {R : α → β → Prop} {as : List α} {bs : List β} (h : Al R as bs) : Al (fun a b => a ∈ as ∧ b ∈ bs ∧ R a b) as bs := Al.of h.len fun i a b h1 h2 => by
  obtain ⟨b', e1, e2⟩ := h.get h1
  rw [h2] at e1
  cases e1
  exact ⟨List.mem_of_getElem? h1, List.mem_of_getElem? h2, e2⟩
/-- what each part is worth: in bounds -/
theorem paidA_fd0 {W : Nat} {prior : List Rat} (hp : PriorOk W prior) (h5 : W ≤ 5) {n : Nat} (ih : ∀ (ahead : List Rat) (t : Nd n) (tb : Tb n), NdOk W n ahead t → TbOk W n t tb → Fd (8 + n) (MB n) (paidT prior n t tb)) {ahead : List Rat} {q : Qn n} {rs : List (Rw n)} (qok : QnOk W ahead q) (nok : ∀ a ∈ q, NdOk W n a.2.1 a.2.2) (hal : Al (fun (a : An n) (r : Rw n) => PaysOk W r.1 ∧ TbOk W n a.2.2 r.2) q rs) : ∀ z ∈ List.zipWith (paidA prior n) q rs, Fd (8 + n) (20 + MB n) z := by
  refine zip_fd (fun a r ⟨ha, _, hpay, htb⟩ => ?_) hal.mem
  have f1 := payF_fd hp h5 (qok.wide a ha) (qok.chs a ha) hpay
  have f2 := ih _ _ _ (nok a ha) htb
  exact (f1.mono (by omega) (Nat.le_refl _)).add f2
theorem paidQ_fd0 {W : Nat} {prior : List Rat} (hp : PriorOk W prior) (h5 : W ≤ 5) {n : Nat} (ih : ∀ (ahead : List Rat) (t : Nd n) (tb : Tb n), NdOk W n ahead t → TbOk W n t tb → Fd (8 + n) (MB n) (paidT prior n t tb)) {ahead : List Rat} {qs : List (Qn n)} {xs : List (Ask n)} (ok : NdOk W (n + 1) ahead qs) (c1 : ∀ x ∈ xs, Ch 1 x.1) (al : Al (fun (q : Qn n) (x : Ask n) => Al (fun (a : An n) (r : Rw n) => PaysOk W r.1 ∧ TbOk W n a.2.2 r.2) q x.2) qs xs) : ∀ z ∈ List.zipWith (paidQ prior n) qs xs, Fd (8 + (n + 1)) (12 * (20 + MB n)) z := by
  refine zip_fd (fun q x ⟨hq, hx, hal⟩ => ?_) al.mem
  have s := fd_sum (paidA_fd0 hp h5 ih (ok.2 q hq).1 (ok.2 q hq).2 hal)
  rw [zip_len hal] at s
  have o12 := (ok.2 q hq).1.most
  have := Fd.mul (c1 x hx) (s.mono (Nat.le_refl _) (Nat.mul_le_mul_right _ o12))
  exact this.mono (by omega) (Nat.le_refl _)
theorem paid_fd {W : Nat} {prior : List Rat} (hp : PriorOk W prior) (h5 : W ≤ 5) : ∀ (n : Nat) (ahead : List Rat) (t : Nd n) (tb : Tb n), NdOk W n ahead t → TbOk W n t tb → Fd (8 + n) (MB n) (paidT prior n t tb)
  | 0, _, _, _, _, _ => fd_zero
  | n + 1, ahead, qs, xs, ok, tok => by
    show Fd (8 + (n + 1)) (MB (n + 1)) (fsum (List.zipWith (paidQ prior n) (show List (Qn n) from qs) (show List (Ask n) from xs)))
    have z := fd_sum (paidQ_fd0 hp h5 (paid_fd hp h5 n) ok tok.1 tok.2.2)
    rw [zip_len tok.2.2] at z
    refine z.mono (Nat.le_refl _) ?_
    have l5 : (show List (Qn n) from qs).length ≤ 5 := ok.1
    show (show List (Qn n) from qs).length * (12 * (20 + MB n)) ≤ 60 * (20 + MB n)
    have := Nat.mul_le_mul_right (12 * (20 + MB n)) l5
    omega
theorem paidA_fd {W : Nat} {prior : List Rat} (hp : PriorOk W prior) (h5 : W ≤ 5) {n : Nat} {ahead : List Rat} {q : Qn n} {rs : List (Rw n)} (qok : QnOk W ahead q) (nok : ∀ a ∈ q, NdOk W n a.2.1 a.2.2) (hal : Al (fun (a : An n) (r : Rw n) => PaysOk W r.1 ∧ TbOk W n a.2.2 r.2) q rs) : ∀ z ∈ List.zipWith (paidA prior n) q rs, Fd (8 + n) (20 + MB n) z := paidA_fd0 hp h5 (paid_fd hp h5 n) qok nok hal
theorem paidQ_fd {W : Nat} {prior : List Rat} (hp : PriorOk W prior) (h5 : W ≤ 5) {n : Nat} {ahead : List Rat} {qs : List (Qn n)} {xs : List (Ask n)} (ok : NdOk W (n + 1) ahead qs) (c1 : ∀ x ∈ xs, Ch 1 x.1) (al : Al (fun (q : Qn n) (x : Ask n) => Al (fun (a : An n) (r : Rw n) => PaysOk W r.1 ∧ TbOk W n a.2.2 r.2) q x.2) qs xs) : ∀ z ∈ List.zipWith (paidQ prior n) qs xs, Fd (8 + (n + 1)) (12 * (20 + MB n)) z := paidQ_fd0 hp h5 (paid_fd hp h5 n) ok c1 al
end Tl
namespace Tl
open PySem PySem.Spec PyProof.Rows L2 RZ
def spMul (K : PySem.W.Frag) : Sp := fun vs H Q _ => ∃ (x y : V) (p q : Rat), vs = [x, y] ∧ Td K H x (rD p) ∧ Td K H y (rD q) ∧ Sm p ∧ Sm q ∧ ∀ v H', Same H H' → Td K H' v (rD (p * q)) → Q v H'
def spFractions (K : PySem.W.Frag) : Sp := fun vs H Q _ => ∃ (v : V) (ws : List Rat), vs = [v, .int ((ws.length : Nat) : Int)] ∧ Td K H v (wsD ws) ∧ ws.length ≤ 100 ∧ ∀ H', Same H H' → Q (.bl true) H'
def spPrior (K : PySem.W.Frag) : Sp := fun vs H Q _ => ∃ (v : V) (p : List Rat) (W : Nat), vs = [v, .int (W : Int)] ∧ Td K H v (wsD p) ∧ PriorOk W p ∧ W ≤ 5 ∧ ∀ H', Same H H' → Q (.bl true) H'
def spTbl (K : PySem.W.Frag) (n : Nat) : Sp := fun vs H Q _ => ∃ (W : Nat) (v u : V) (ahead : List Rat) (t : Nd n) (tb : Tb n), vs = [v, u, .int (W : Int)] ∧ Td K H v (tbD n tb) ∧ Td K H u (ndD n t) ∧ W ≤ 5 ∧ NdOk W n ahead t ∧ TbOk W n t tb ∧ ∀ H', Same H H' → Q (.bl true) H'
def spPaying (K : PySem.W.Frag) (n : Nat) : Sp := fun vs H Q _ => ∃ (W : Nat) (v u : V) (a : An n) (r : Rw n), vs = [v, u, .int (W : Int)] ∧ Td K H v (rwD n r) ∧ Td K H u (anD n a) ∧ W ≤ 5 ∧ NdOk W n a.2.1 a.2.2 ∧ PaysOk W r.1 ∧ TbOk W n a.2.2 r.2 ∧ ∀ H', Same H H' → Q (.bl true) H'
def spAsking (K : PySem.W.Frag) : Nat → Sp
  | 0 => fun _ _ _ _ => False
  | n + 1 => fun vs H Q _ => ∃ (W : Nat) (v u : V) (q : Qn n) (x : Ask n), vs = [v, u, .int (W : Int)] ∧ Td K H v (askD n x) ∧ Td K H u (qnD n q) ∧ W ≤ 5 ∧ q.length ≤ 12 ∧ Ch 1 x.1 ∧ (∀ a ∈ q, NdOk W n a.2.1 a.2.2) ∧ Al (fun (a : An n) (r : Rw n) => PaysOk W r.1 ∧ TbOk W n a.2.2 r.2) q x.2 ∧ ∀ H', Same H H' → Q (.bl true) H'
def spPF (K : PySem.W.Frag) : Sp := fun vs H Q _ => ∃ (W : Nat) (vp vw vy : V) (prior ws ps : List Rat), vs = [vp, vw, vy] ∧ Td K H vp (wsD prior) ∧ Td K H vw (wsD ws) ∧ Td K H vy (wsD ps) ∧ PriorOk W prior ∧ W ≤ 5 ∧ ws.length = W ∧ (∀ r ∈ ws, Ch 6 r) ∧ PaysOk W ps ∧ ∀ v H', Same H H' → Td K H' v (rD (payF prior ws ps)) → Q v H'
def spPA (K : PySem.W.Frag) (n : Nat) : Sp := fun vs H Q _ => ∃ (W : Nat) (vp v u : V) (prior ahead : List Rat) (t : Nd n) (tb : Tb n), vs = [vp, v, u] ∧ Td K H vp (wsD prior) ∧ Td K H v (ndD n t) ∧ Td K H u (tbD n tb) ∧ PriorOk W prior ∧ W ≤ 5 ∧ NdOk W n ahead t ∧ TbOk W n t tb ∧ n ≤ 6 ∧ ∀ r H', Same H H' → Td K H' r (rD (paidT prior n t tb)) → Q r H'
theorem td_inj {K : PySem.W.Frag} {H : Hp} {a : Addr} (h : SqT K H a [.int 1, .int 1]) : Td K H (.ref a) (rD 1) := by
  rw [rD_one]
  exact .tup h (tdAll_ints [1, 1])
theorem rat_le_one {q : Rat} (h : q ≤ 1) : q.num ≤ (q.den : Int) := by
  have a := (Rat.le_iff q 1).mp h
  have c : (1 : Rat).num = 1 := rfl
  have d : (1 : Rat).den = 1 := rfl
  rw [c, d] at a
  omega
section
variable {P : Program} {w : World} {K : PySem.W.Frag} {mg : Str → Option Value} {base : Heap} {aN aO : Addr} {t1 t2 t3 t4 t5 t6 t7 : Tok}
theorem ok_multiplied {f f1 : Addr} {fd fd1 : FuncData} (D : Dn K mg "multiplied" s_multiplied ["first", "second"] f fd) (B : Blt mg) (C : Cst K mg aN aO t1 t2 t3 t4 t5 t6 t7) (D_reduced : Dn K mg "reduced" s_reduced ["top", "bottom"] f1 fd1) : FnOk P w K mg base CX0 2 f fd ["first", "second"] (spMul K) := by
  have G_reduced : FnOk P w K mg base CX0 1 f1 fd1 ["top", "bottom"] (spReduced K) := ok_reduced D_reduced B C
  refine D.F.ok sc_multiplied (fun vs H Q E h => ?_) (fun cdv A outer s H vs Q E hr h => ?_)
  · obtain ⟨x, y, p, q, rfl, _⟩ := h
    rfl
  obtain ⟨x, y, p, q, rfl, hx, hy, z1, z2, k⟩ := h
  have nd := sc_multiplied.nd
  refine ⟨_, (pss_one (ps_ret (pe_call G_reduced (hr.mono (by omega)) (by rfl) D_reduced.m D_reduced.F.kp D_reduced.b .nil pass0 (pa_cons (pe_op op_mulW (pe_ix (k_ixT (K := K) rfl) (pv 0) pe_int (fun _ _ => rfl)) (pe_ix (k_ixT (K := K) rfl) (pv 1) pe_int (fun _ _ => rfl))) (pa_cons (pe_op op_mulW (pe_ix (k_ixT (K := K) rfl) (pv 0) pe_int (fun _ _ => rfl)) (pe_ix (k_ixT (K := K) rfl) (pv 1) pe_int (fun _ _ => rfl))) pa_nil))))), ?_⟩
  obtain ⟨a, rfl, ha⟩ := hx.rE
  obtain ⟨b, rfl, hb⟩ := hy.rE
  have i0 : atI [V.int p.num, .int (p.den : Int)] 0 = some (.int p.num) := at_of (j := 0) rfl rfl
  have i1 : atI [V.int p.num, .int (p.den : Int)] 1 = some (.int (p.den : Int)) := at_of (j := 1) rfl rfl
  have j0 : atI [V.int q.num, .int (q.den : Int)] 0 = some (.int q.num) := at_of (j := 0) rfl rfl
  have j1 : atI [V.int q.num, .int (q.den : Int)] 1 = some (.int (q.den : Int)) := at_of (j := 1) rfl rfl
  have hp0 : 0 < p.den := Nat.pos_of_ne_zero p.den_nz
  have hq0 : 0 < q.den := Nat.pos_of_ne_zero q.den_nz
  have dp : ((p.den : Int)).natAbs < 2 ^ 1500 := by rw [Int.natAbs_natCast]; exact z1.1
  have dq : ((q.den : Int)).natAbs < 2 ^ 1500 := by rw [Int.natAbs_natCast]; exact z2.1
  have c1 : CMulW p.num q.num := wide_mul z1.2 z2.2 (by decide) (by decide) (by decide)
  have c3 : CMulW (p.den : Int) (q.den : Int) := wide_mul dp dq (by decide) (by decide) (by decide)
  refine ⟨_, rfl, a, _, 0, _, rfl, rfl, ha, i0, _, rfl, b, _, 0, _, rfl, rfl, hb, j0, _, _, rfl, rfl, c1, _, rfl, a, _, 1, _, rfl, rfl, ha, i1, _, rfl, b, _, 1, _, rfl, rfl, hb, j1, _, _, rfl, rfl, c3, ?_⟩
  refine ⟨p.num * q.num, p.den * q.den, by rw [Int.natCast_mul]; rfl, Nat.mul_pos hp0 hq0, ?_, fun v H' s' hv => k v H' s' ?_⟩
  · have z := Nat.mul_lt_mul'' z1.1 z2.1
    rw [← Nat.pow_add] at z
    exact Nat.lt_trans z (Nat.pow_lt_pow_right (by decide) (by decide))
  · rw [← Rat.mkRat_mul_mkRat, rat_mk, rat_mk] at hv
    exact hv
end
end Tl
namespace Tl
open PySem PySem.Spec PyProof.Rows L2 RZ
def tsD (n : Nat) (prior : List Rat) (tb : Tb n) : PyData := .tuple [wsD prior, tbD n tb]
def spTest (K : PySem.W.Frag) (C : Addr) (n : Nat) : Sp := fun vs H Q _ => ∃ (p : Addr) (u v : V) (W : Nat) (t : Nd n) (prior : List Rat) (tb : Tb n), vs = [.ref p, u] ∧ HsOk K C H p W n t v ∧ Td K H u (tsD n prior tb) ∧ PriorOk W prior ∧ TbOk W n t tb ∧ ∀ H', Same H H' → Q (.bl true) H'
def spCkTest (K : PySem.W.Frag) (C : Addr) (n : Nat) : Sp := fun vs H Q _ => ∃ (p : Addr) (u v : V) (W : Nat) (t : Nd n) (prior : List Rat) (tb : Tb n), vs = [.ref p, u] ∧ HsOk K C H p W n t v ∧ Td K H u (tsD n prior tb) ∧ PriorOk W prior ∧ TbOk W n t tb ∧ ∀ H', Same H H' → Q .non H'
def spPaid (K : PySem.W.Frag) (C : Addr) (n : Nat) : Sp := fun vs H Q _ => ∃ (p : Addr) (u v : V) (W : Nat) (t : Nd n) (prior : List Rat) (tb : Tb n), vs = [.ref p, u] ∧ HsOk K C H p W n t v ∧ Td K H u (tsD n prior tb) ∧ PriorOk W prior ∧ TbOk W n t tb ∧ n ≤ 6 ∧ ∀ r H', Same H H' → Td K H' r (rD (paidT prior n t tb)) → Q r H'
theorem td_two {K : PySem.W.Frag} {H : Hp} {v : V} {d e : PyData} (h : Td K H v (.tuple [d, e])) : ∃ p x y, v = .ref p ∧ SqT K H p [x, y] ∧ Td K H x d ∧ Td K H y e := by
  obtain ⟨p, xs, rfl, hp, t⟩ := h.tupE
  cases t with
  | cons t1 t =>
    cases t with
    | cons t2 t =>
      cases t
      exact ⟨p, _, _, rfl, hp, t1, t2⟩
theorem take_zip_succ {α β γ : Type} {f : α → β → γ} {as : List α} {bs : List β} {i : Nat} {a : α} {b : β} (h1 : as[i]? = some a) (h2 : bs[i]? = some b) : (List.zipWith f as bs).take (i + 1) = (List.zipWith f as bs).take i ++ [f a b] := by
  rw [List.take_add_one, zip_at h1 h2]
  rfl
section
variable {P : Program} {w : World} {K : PySem.W.Frag} {mg : Str → Option Value} {base : Heap} {aN aO : Addr} {t1 t2 t3 t4 t5 t6 t7 : Tok}
end
end Tl
namespace Tl
open PySem PySem.Spec PyProof.Rows L2 RZ
/-! ### what the law draws for a test -/
theorem shares_ch {m : Nat} {rs : List Rat} (h : IsShares m rs) (hm : m ≤ 12) : ∀ r ∈ rs, Ch 1 r := by
  obtain ⟨ps, h1, h2, h3, rfl⟩ := h
  intro r hr
  obtain ⟨p, hp, rfl⟩ := List.mem_map.mp hr
  refine ch_share h2 (by omega) ?_
  have : ∀ (l : List Nat) (x : Nat), x ∈ l → x ≤ l.sum := fun l => by
    induction l with
    | nil =>
      intro x h
      exact absurd h List.not_mem_nil
    | cons y r ih =>
      intro x h
      rcases List.mem_cons.mp h with rfl | h
      · show x ≤ x + r.sum
        omega
      · have := ih x h
        show x ≤ y + r.sum
        omega
  exact this ps p hp
theorem shares_sum {m : Nat} {rs : List Rat} (h : IsShares m rs) : fsum rs = 1 ∧ rs.length = m ∧ ∀ i, fsum (rs.take i) ≤ 1 := by
  obtain ⟨ps, h1, h2, h3, rfl⟩ := h
  refine ⟨by rw [fsum_mk _ h2, mk_same _ h2], by rw [List.length_map, h1], fun i => ?_⟩
  rw [← List.map_take, fsum_mk _ h2]
  refine mk_le_one _ _ h2 ?_
  have e : (ps.take i ++ ps.drop i).sum = (ps.take i).sum + (ps.drop i).sum := List.sum_append
  rw [List.take_append_drop] at e
  omega
theorem shares_prior {W : Nat} {rs : List Rat} (h : IsShares W rs) (h5 : W ≤ 5) : PriorOk W rs := ⟨(shares_sum h).2.1, shares_ch h (by omega), (shares_sum h).1⟩
theorem pay_fd {t : Int} {b : Nat} (h1 : -4 ≤ t) (h2 : t ≤ 4) (b1 : 1 ≤ b) (b3 : b ≤ 3) : Fd 1 4 (mkRat t b) := by
  have hb : 0 < b := b1
  refine ⟨?_, ?_⟩
  · rw [Nat.pow_one]
    exact Nat.dvd_trans (mk_den_dvd hb) (ll_dvd b hb (by omega))
  · have dp : (1 : Int) ≤ ((mkRat t b).den : Int) := by
      have := Nat.pos_of_ne_zero (mkRat t b).den_nz
      omega
    have nl : (mkRat t b).num.natAbs ≤ 4 := by
      rw [(mkRat_parts t b hb).1]
      exact Nat.le_trans (Int.natAbs_ediv_le_natAbs _ _) (by omega)
    constructor
    · refine (Rat.le_iff _ _).mpr ?_
      rw [Rat.neg_num, Rat.neg_den, Rat.num_natCast, Rat.den_natCast]
      show -(4 : Int) * ((mkRat t b).den : Int) ≤ (mkRat t b).num * 1
      omega
    · refine (Rat.le_iff _ _).mpr ?_
      rw [Rat.num_natCast, Rat.den_natCast]
      show (mkRat t b).num * 1 ≤ 4 * ((mkRat t b).den : Int)
      omega
def spPlus (K : PySem.W.Frag) : Sp := fun vs H Q _ => ∃ (x y : V) (p q : Rat), vs = [x, y] ∧ Td K H x (rD p) ∧ Td K H y (rD q) ∧ Sm p ∧ Sm q ∧ ∀ v H', Same H H' → Td K H' v (rD (p + q)) → Q v H'
def spTab (K : PySem.W.Frag) (n : Nat) : Sp := fun vs H Q _ => ∃ (b g : Addr) (W : Nat) (v : V) (ahead : List Rat) (t : Nd n), vs = [.ref b, .int (W : Int), v] ∧ Bag H b g ∧ Td K H v (ndD n t) ∧ NdOk W n ahead t ∧ 1 ≤ W ∧ W ≤ 5 ∧
  ∀ (v' : V) (tb : Tb n) (H' : Hp), Td K H' v' (tbD n tb) → TbOk W n t tb → Bag H' b g → Frm b g H H' → Q v' H'
def spTst (K : PySem.W.Frag) (n : Nat) : Sp := fun vs H Q _ => ∃ (b g : Addr) (W : Nat) (v : V) (ahead : List Rat) (t : Nd n), vs = [.ref b, .int (W : Int), v] ∧ Bag H b g ∧ Td K H v (ndD n t) ∧ NdOk W n ahead t ∧ 1 ≤ W ∧ W ≤ 5 ∧
  ∀ (v' : V) (prior : List Rat) (tb : Tb n) (H' : Hp), Td K H' v' (tsD n prior tb) → PriorOk W prior → TbOk W n t tb → Bag H' b g → Frm b g H H' → Q v' H'
theorem Sm.big {q : Rat} (h : Sm q) : q.den < 2 ^ 2000 ∧ q.num.natAbs < 2 ^ 2000 := by
  have z : 2 ^ 1500 < 2 ^ 2000 := Nat.pow_lt_pow_right (by decide) (by decide)
  exact ⟨Nat.lt_trans h.1 z, Nat.lt_trans h.2 z⟩
section
variable {P : Program} {w : World} {K : PySem.W.Frag} {mg : Str → Option Value} {base : Heap}
theorem ok_law_plus {f f1 f2 : Addr} {fd fd1 fd2 : FuncData} (D : Dn K mg "_law_plus" s_law_plus ["one", "other"] f fd) (B : Blt mg) (D_law_low : Dn K mg "_law_low" s_law_low ["top", "bottom"] f1 fd1) (D_law_common : Dn K mg "_law_common" s_law_common ["one", "other"] f2 fd2) : FnOk P w K mg base CX0 3 f fd ["one", "other"] (spPlus K) := by
  have G_law_low : FnOk P w K mg base CX0 2 f1 fd1 ["top", "bottom"] (spLow K) := ok_law_low D_law_low B D_law_common
  refine D.F.ok sc_law_plus (fun vs H Q E h => ?_) (fun cdv A outer s H vs Q E hr h => ?_)
  · obtain ⟨x, y, p, q, rfl, _⟩ := h
    rfl
  obtain ⟨x, y, p, q, rfl, hx, hy, z1, z2, k⟩ := h
  have nd := sc_law_plus.nd
  refine ⟨_, (pss_one (ps_ret (pe_call G_law_low (hr.mono (by omega)) (by rfl) D_law_low.m D_law_low.F.kp D_law_low.b .nil pass0 (pa_cons (pe_op op_add (pe_op op_mulW (pe_ix (k_ixT (K := K) rfl) (pv 0) pe_int (fun _ _ => rfl)) (pe_ix (k_ixT (K := K) rfl) (pv 1) pe_int (fun _ _ => rfl))) (pe_op op_mulW (pe_ix (k_ixT (K := K) rfl) (pv 1) pe_int (fun _ _ => rfl)) (pe_ix (k_ixT (K := K) rfl) (pv 0) pe_int (fun _ _ => rfl)))) (pa_cons (pe_op op_mulW (pe_ix (k_ixT (K := K) rfl) (pv 0) pe_int (fun _ _ => rfl)) (pe_ix (k_ixT (K := K) rfl) (pv 1) pe_int (fun _ _ => rfl))) pa_nil))))), ?_⟩
  obtain ⟨a, rfl, ha⟩ := hx.rE
  obtain ⟨b, rfl, hb⟩ := hy.rE
  have i0 : atI [V.int p.num, .int (p.den : Int)] 0 = some (.int p.num) := at_of (j := 0) rfl rfl
  have i1 : atI [V.int p.num, .int (p.den : Int)] 1 = some (.int (p.den : Int)) := at_of (j := 1) rfl rfl
  have j0 : atI [V.int q.num, .int (q.den : Int)] 0 = some (.int q.num) := at_of (j := 0) rfl rfl
  have j1 : atI [V.int q.num, .int (q.den : Int)] 1 = some (.int (q.den : Int)) := at_of (j := 1) rfl rfl
  have hp0 : 0 < p.den := Nat.pos_of_ne_zero p.den_nz
  have hq0 : 0 < q.den := Nat.pos_of_ne_zero q.den_nz
  have dp : ((p.den : Int)).natAbs < 2 ^ 1500 := by rw [Int.natAbs_natCast]; exact z1.1
  have dq : ((q.den : Int)).natAbs < 2 ^ 1500 := by rw [Int.natAbs_natCast]; exact z2.1
  have c1 : CMulW p.num (q.den : Int) := wide_mul z1.2 dq (by decide) (by decide) (by decide)
  have c2 : CMulW q.num (p.den : Int) := wide_mul z2.2 dp (by decide) (by decide) (by decide)
  have c3 : CMulW (p.den : Int) (q.den : Int) := wide_mul dp dq (by decide) (by decide) (by decide)
  refine ⟨_, rfl, a, _, 0, _, rfl, rfl, ha, i0, _, rfl, b, _, 1, _, rfl, rfl, hb, j1, _, _, rfl, rfl, c1, _, rfl, b, _, 0, _, rfl, rfl, hb, j0, _, rfl, a, _, 1, _, rfl, rfl, ha, i1, _, _, rfl, rfl, c2, _, _, rfl, rfl,
    _, rfl, a, _, 1, _, rfl, rfl, ha, i1, _, rfl, b, _, 1, _, rfl, rfl, hb, j1, _, _, rfl, rfl, c3, ?_⟩
  refine ⟨p.num * q.den + q.num * p.den, p.den * q.den, by rw [Int.natCast_mul]; rfl, Nat.mul_pos hp0 hq0, ?_, fun v H' s' hv => k v H' s' ?_⟩
  · have z := Nat.mul_lt_mul'' z1.1 z2.1
    rw [← Nat.pow_add] at z
    exact Nat.lt_trans z (Nat.pow_lt_pow_right (by decide) (by decide))
  · rw [← Rat.mkRat_add_mkRat _ _ p.den_nz q.den_nz, rat_mk, rat_mk] at hv
    exact hv
end
end Tl
namespace Tl
open PySem PySem.Spec PyProof.Rows L2 RZ
/-! ### plans: moves for a question, by the depth of the stand -/
def MvT (A : Nat → Type) : Nat → Type
  | 0 => Nat × A 0
  | n + 1 => Sum (Nat × A (n + 1)) (Nat × List (MvT A n))
def Wt : Nat → Nat → Type
  | 0 => fun _ => Unit
  | m + 1 => fun n => List (MvT (Wt m) n)
abbrev Mv (m n : Nat) : Type := MvT (Wt m) n
def tellD (a : Nat) (d : PyData) : PyData := .tuple [.str "tell", .int (a : Int), d]
def askD2 (i : Nat) (ds : List PyData) : PyData := .tuple [.str "ask", .int (i : Int), .tuple ds]
def mvD {A : Nat → Type} (wD : (n : Nat) → A n → PyData) : (n : Nat) → MvT A n → PyData
  | 0, x => tellD x.1 (wD 0 x.2)
  | n + 1, .inl x => tellD x.1 (wD (n + 1) x.2)
  | n + 1, .inr x => askD2 x.1 (x.2.map (mvD wD n))
def waitD : (m n : Nat) → Wt m n → PyData
  | 0, _, _ => .tuple []
  | m + 1, n, ms => .tuple ((show List (Mv m n) from ms).map (mvD (waitD m) n))
/-- a move that is right for a question, at a stand -/
def MvOk {m : Nat} {A : Nat → Type} (wOk : (n : Nat) → Nd n → Nd m → A n → Prop) : (n : Nat) → Nd n → Qn m → MvT A n → Prop
  | 0, t, q, x => ∃ an, q[x.1]? = some an ∧ wOk 0 t an.2.2 x.2
  | n + 1, t, q, .inl x => ∃ an, q[x.1]? = some an ∧ wOk (n + 1) t an.2.2 x.2
  | n + 1, t, q, .inr x => ∃ qn, (show List (Qn n) from t)[x.1]? = some qn ∧ Al (fun (an : An n) (y : MvT A n) => MvOk wOk n an.2.2 q y) qn x.2
def WtOk : (m n : Nat) → Nd n → Nd m → Wt m n → Prop
  | 0, _, _, _, _ => True
  | m + 1, n, t, gs, ms => Al (fun (q : Qn m) (y : Mv m n) => MvOk (WtOk m) n t q y) gs ms
def tellM {A : Nat → Type} : (n : Nat) → Nat → A n → MvT A n
  | 0, a, w => (a, w)
  | _ + 1, a, w => .inl (a, w)
theorem tellM_D {A : Nat → Type} (wD : (n : Nat) → A n → PyData) : ∀ (n a : Nat) (w : A n), mvD wD n (tellM n a w) = tellD a (wD n w)
  | 0, _, _ => rfl
  | _ + 1, _, _ => rfl
theorem tellM_ok {m : Nat} {A : Nat → Type} {wOk : (n : Nat) → Nd n → Nd m → A n → Prop} : ∀ {n : Nat} {t : Nd n} {q : Qn m} {a : Nat} {w : A n} {an : An m}, q[a]? = some an → wOk n t an.2.2 w → MvOk wOk n t q (tellM n a w)
  | 0, _, _, _, _, _, h, k => ⟨_, h, k⟩
  | _ + 1, _, _, _, _, _, h, k => ⟨_, h, k⟩
def spWait (K : PySem.W.Frag) (m n : Nat) : Sp := fun vs H Q _ => ∃ (b g l : Addr) (W : Nat) (vh vg : V) (ahead ahead' : List Rat) (L : Int) (t : Nd n) (gs : Nd m), vs = [.ref b, vh, vg, .ref l] ∧ BagL H b g l L ∧ Td K H vh (ndD n t) ∧ Td K H vg (ndD m gs) ∧ n ≤ 6 ∧ NdOk W n ahead t ∧ NdOk W m ahead' gs ∧
  ∀ (v : V) (wt : Wt m n) (L' : Int) (H' : Hp), Td K H' v (waitD m n wt) → WtOk m n t gs wt → BagL H' b g l L' → Frl b g l H H' → Q v H'
def spMove (K : PySem.W.Frag) (m n : Nat) : Sp := fun vs H Q _ => ∃ (b g l : Addr) (W : Nat) (vh vq : V) (ahead ahead' : List Rat) (L : Int) (t : Nd n) (q : Qn m), vs = [.ref b, vh, vq, .ref l] ∧ BagL H b g l L ∧ Td K H vh (ndD n t) ∧ Td K H vq (qnD m q) ∧ n ≤ 6 ∧ NdOk W n ahead t ∧ QnOk W ahead' q ∧ (∀ a ∈ q, NdOk W m a.2.1 a.2.2) ∧
  ∀ (v : V) (mv : Mv m n) (L' : Int) (H' : Hp), Td K H' v (mvD (waitD m) n mv) → MvOk (WtOk m) n t q mv → BagL H' b g l L' → Frl b g l H H' → Q v H'
section
variable {P : Program} {w : World} {K : PySem.W.Frag} {mg : Str → Option Value} {base : Heap}
theorem ok_law_wait {m n : Nat} {f f1 : Addr} {fd fd1 : FuncData} {k : Nat} (D : Dn K mg "_law_wait" s_law_wait ["bag", "here", "goal", "left"] f fd) (B : Blt mg) (D_law_move : Dn K mg "_law_move" s_law_move ["bag", "here", "question", "left"] f1 fd1) {sp0 : Sp} (G_law_move : FnOk P w K mg base CX0 k f1 fd1 ["bag", "here", "question", "left"] sp0) (hsp : ∀ m', m = m' + 1 → sp0 = spMove K m' n) :
    FnOk P w K mg base CX0 (k + 1) f fd ["bag", "here", "goal", "left"] (spWait K m n) := by
  refine D.F.ok sc_law_wait (fun vs H Q E h => ?_) (fun cdv A outer s H vs Q E hr h => ?_)
  · obtain ⟨b, g, l, W, vh, vg, ahead, ahead', L, t, gs, rfl, _⟩ := h
    rfl
  obtain ⟨b, g, l, W, vh, vg, ahead, ahead', L, t, gs, rfl, hB, hvh, hvg, hn, hok, gok, q⟩ := h
  have nd := sc_law_wait.nd
  refine ⟨_, (pss_one (ps_ret (pe_callTy (k_tupOf (K := K) rfl) (by rfl) B.tuple (by decide +kernel) (pa_cons (pe_lc (own := [("question", 4)]) rfl nd (k_iT (K := K) rfl (pv 2)) (blkOk_by (own := [("question", 4)]) (by kernel_rfl)) (fun _ _ _ _ _ => (pg_name (i := 4) nd rfl (.inl rfl))) (fun _ _ _ _ _ => pts_nil) (fun _ _ _ _ _ => (pe_call G_law_move (hr.mono (by omega)) (by rfl) D_law_move.m D_law_move.F.kp D_law_move.b .nil pass0 (pa_cons (pv 0) (pa_cons (pv 1) (pa_cons (pv 4) (pa_cons (pv 3) pa_nil))))))) pa_nil)))), ?_⟩
  obtain ⟨a, xs, ds, rfl, ha, ed, ta, l0⟩ := td_qs hvg
  refine ⟨_, rfl, a, rfl, ⟨_, ha⟩, fun T hT => ?_⟩
  obtain ⟨Tb, Tg, Tl'⟩ := hB.neNew hT
  have sT := same_upd (o := .lst []) hT
  cases m with
  | zero =>
    have := l0 rfl
    subst this
    refine lc_it (walk_tup (K := K) (a := a) (xs := [])) (fun i H2 => H2 = upd H T (.lst [])) rfl (fun i H2 _ h => by rw [h]; exact Same.kt sT _ _ ha) ?_ ?_
    · rintro i x H2 H3 hi
      exact absurd hi (Nat.not_lt_zero _)
    · rintro H2 rfl
      exact ⟨T, [], rfl, SqL.of upd_same, fun v H3 s3 q3 => q (.ref v) () L H3 (.tup q3 .nil) trivial (hB.keep (sT.trans s3)) (.of (sT.trans s3))⟩
  | succ m =>
    have hsp := hsp m rfl
    subst hsp
    obtain ⟨qs, hqs⟩ : ∃ qs : List (Qn m), (qs : Nd (m + 1)) = gs := ⟨gs, rfl⟩
    subst hqs
    cases ed
    have lx : xs.length = qs.length := by rw [ta.len, List.length_map]
    have l5 : qs.length ≤ 5 := gok.1
    refine lc_it (walk_tup (K := K) (a := a) (xs := xs)) (fun i H2 => ∃ (us : List V) (ms : List (Mv m n)) (L2 : Int), H2 T = some (.lst us) ∧ TdAll K H2 us (ms.map (mvD (waitD m) n)) ∧ Al (fun (q : Qn m) (y : Mv m n) => MvOk (WtOk m) n t q y) (qs.take i) ms ∧ BagL H2 b g l L2 ∧ Frl b g l H H2) ⟨[], [], L, upd_same, .nil, .nil, hB.updN Tb Tg Tl', .of sT⟩ (fun i H2 _ h => ?_) ?_ ?_
    · obtain ⟨_, _, _, _, _, _, _, F2⟩ := h
      exact hB.kt F2 _ _ ha
    · rintro i x H2 H3 hi ⟨us, ms, L2, h2, t2, al, B2, F2⟩ ⟨rfl, e2⟩
      obtain ⟨dx, ex, tx⟩ := ta.getV e2
      obtain ⟨qn, eq, rfl⟩ := map_at ex
      obtain ⟨qok, nok⟩ := gok.2 qn (List.mem_of_getElem? eq)
      refine ⟨rfl, ?_⟩
      refine iteT (B := ∃ (us : List V) (ms : List (Mv m n)) (L2 : Int), H3 T = some (.lst us) ∧ TdAll K H3 us (ms.map (mvD (waitD m) n)) ∧ Al (fun (q : Qn m) (y : Mv m n) => MvOk (WtOk m) n t q y) (qs.take (i + 1)) ms ∧ BagL H3 b g l L2 ∧ Frl b g l H H3) ?_
      have k2 := hB.kt (K := K) F2
      refine ⟨_, rfl, _, rfl, _, rfl, _, rfl, b, g, l, W, vh, x, ahead, ahead', L2, t, qn, rfl, B2, hvh.keep k2, tx.keep k2, hn, hok, qok, nok, fun v mv L4 H4 tv ok4 B4 F4 => ?_⟩
      have k4 := B2.kt (K := K) F4
      have h4 := F4 T _ h2 Tb Tg Tl'
      have kT : KT K H4 (upd H4 T (.lst (us ++ [v]))) := KT.updL h4
      refine ⟨us, h4, ?_, us ++ [v], ms ++ [mv], L4, upd_same, ?_, ?_, B4.updN Tb Tg Tl', (F2.trans F4).updN hT⟩
      · rw [t2.len, List.length_map, ← al.len, List.length_take]
        exact small1000 (by omega)
      · rw [List.map_append]
        exact (t2.keep (k4.trans kT)).app (.cons (tv.keep kT) .nil)
      · rw [List.take_add_one, eq]
        exact Al.snoc (R := fun (q : Qn m) (y : Mv m n) => MvOk (WtOk m) n t q y) ok4 al
    · rintro H2 ⟨us, ms, L2, h2, t2, al, B2, F2⟩
      rw [lx, List.take_length] at al
      exact ⟨T, us, rfl, SqL.of h2, fun v H3 s3 q3 => q (.ref v) ms L2 H3 (.tup q3 (t2.keep (Same.kt s3))) al (B2.keep s3) (F2.trans (.of s3))⟩
theorem ok_law_move {m n : Nat} {f f1 f2 : Addr} {fd fd1 fd2 : FuncData} {k : Nat} (D : Dn K mg "_law_move" s_law_move ["bag", "here", "question", "left"] f fd) (B : Blt mg) (D_law_pick : Dn K mg "_law_pick" s_law_pick ["bag", "many"] f1 fd1) (D_law_wait : Dn K mg "_law_wait" s_law_wait ["bag", "here", "goal", "left"] f2 fd2)
    (G_law_wait : FnOk P w K mg base CX0 k f2 fd2 ["bag", "here", "goal", "left"] (spWait K m n)) {sp0 : Sp} (G_law_move : FnOk P w K mg base CX0 k f fd ["bag", "here", "question", "left"] sp0) (hsp : ∀ n', n = n' + 1 → sp0 = spMove K m n') (hk : 1 ≤ k) :
    FnOk P w K mg base CX0 (k + 1) f fd ["bag", "here", "question", "left"] (spMove K m n) := by
  have G_law_pick : FnOk P w K mg base CX0 1 f1 fd1 ["bag", "many"] spPick := ok_law_pick D_law_pick B
  refine D.F.ok sc_law_move (fun vs H Q E h => ?_) (fun cdv A outer s H vs Q E hr h => ?_)
  · obtain ⟨b, g, l, W, vh, vq, ahead, ahead', L, t, q, rfl, _⟩ := h
    rfl
  obtain ⟨b, g, l, W, vh, vq, ahead, ahead', L, t, qn, rfl, hB, hvh, hvq, hn, hok, qok, nok, q⟩ := h
  have nd := sc_law_move.nd
  have D_law_move := D
  refine ⟨_, (pss_cons (ps_augS (pv 3) pe_int (k_getL (K := K) rfl) pe_int ip_sub set_list)
      (pss_cons (ps_if (PW.pt (pw_and (pt_cmpR op_gt (pe_callB (k_len (K := K) rfl) (by rfl) B.len PySem.boot_len (pa_cons (pv 1) pa_nil)) pe_int (nomark _)) (pw_and (pt_cmpR op_gt (pe_ix (k_ixL (K := K) rfl) (pv 3) pe_int (fun _ _ => rfl)) pe_int (nomark _)) (pw_and1 (pt_cmpR op_gt (pe_call G_law_pick (hr.mono (by omega)) (by rfl) D_law_pick.m D_law_pick.F.kp D_law_pick.b .nil pass0 (pa_cons (pv 0) (pa_cons pe_int pa_nil))) pe_int (nomark _)))))) (pss_cons (ps_set (i := 4) nd rfl (.inl rfl) (pe_call G_law_pick (hr.mono (by omega)) (by rfl) D_law_pick.m D_law_pick.F.kp D_law_pick.b .nil pass0 (pa_cons (pv 0) (pa_cons (pe_callB (k_len (K := K) rfl) (by rfl) B.len PySem.boot_len (pa_cons (pv 1) pa_nil)) pa_nil))))
      (pss_one (ps_ret (pe_tup (pa_cons pe_str (pa_cons (pv 4) (pa_cons (pe_callTy (k_tupOf (K := K) rfl) (by rfl) B.tuple (by decide +kernel) (pa_cons (pe_lc (own := [("word", 5), ("weights", 6), ("behind", 7)]) rfl nd (k_iT (K := K) rfl (pe_ix (k_ixT (K := K) rfl) (pv 1) (pv 4) (fun _ _ => rfl))) (blkOk_by (own := [("word", 5), ("weights", 6), ("behind", 7)]) (by kernel_rfl)) (fun _ _ _ _ _ => (k_tup (K := K) (n := 3) rfl rfl (pgs_cons (pg_name (i := 5) nd rfl (.inl rfl)) (pgs_cons (pg_name (i := 6) nd rfl (.inl rfl)) (pgs_cons (pg_name (i := 7) nd rfl (.inl rfl)) pgs_nil))))) (fun _ _ _ _ _ => pts_nil) (fun _ _ _ _ _ => (pe_call G_law_move (hr.mono (by omega)) (by rfl) D_law_move.m D_law_move.F.kp D_law_move.b .nil pass0 (pa_cons (pv 0) (pa_cons (pv 7) (pa_cons (pv 2) (pa_cons (pv 3) pa_nil))))))) pa_nil)) pa_nil))))))) pss_nil)
      (pss_cons (ps_set (i := 8) nd rfl (.inl rfl) (pe_call G_law_pick (hr.mono (by omega)) (by rfl) D_law_pick.m D_law_pick.F.kp D_law_pick.b .nil pass0 (pa_cons (pv 0) (pa_cons (pe_callB (k_len (K := K) rfl) (by rfl) B.len PySem.boot_len (pa_cons (pv 2) pa_nil)) pa_nil))))
      (pss_one (ps_ret (pe_tup (pa_cons pe_str (pa_cons (pv 8) (pa_cons (pe_call G_law_wait (hr.mono (by omega)) (by rfl) D_law_wait.m D_law_wait.F.kp D_law_wait.b .nil pass0 (pa_cons (pv 0) (pa_cons (pv 1) (pa_cons (pe_ix (k_ixT (K := K) rfl) (pe_ix (k_ixT (K := K) rfl) (pv 2) (pv 8) (fun _ _ => rfl)) pe_int (fun _ _ => rfl)) (pa_cons (pv 3) pa_nil))))) pa_nil))))))))), ?_⟩
  obtain ⟨a, xs, ds, rfl, ha, ed, ta, l0⟩ := td_qs hvh
  obtain ⟨qa, qxs, rfl, hqa, tqa⟩ := hvq.tupE
  have lqx : qxs.length = qn.length := by rw [tqa.len, List.length_map]
  have q1 := qok.one
  have q12 := qok.most
  -- left[0] -= 1
  refine ⟨_, rfl, l, _, 0, _, rfl, rfl, SqL.of hB.hl, rfl, _, _, rfl, rfl, l, _, 0, 0, rfl, rfl, hB.hl, rfl, ?_⟩
  have B2 : BagL (upd H l (.lst ([V.int L].set 0 (.int (L - 1))))) b g l (L - 1) := hB.updL
  have F2 : Frl b g l H (upd H l (.lst ([V.int L].set 0 (.int (L - 1))))) := Frl.updL
  generalize upd H l (.lst ([V.int L].set 0 (.int (L - 1)))) = H2 at B2 F2
  have k2 := hB.kt (K := K) F2
  refine ⟨_, rfl, a, xs, rfl, .inr (k2 _ _ ha), _, _, rfl, rfl, _, rfl, ite2 (fun c1 => ?_) (fun c1 => ?_)⟩
  rotate_left
  · have B5 := B2
    have F5 := F2
    have k5 := hB.kt (K := K) F5
    refine ⟨_, rfl, _, rfl, qa, qxs, rfl, .inr (k5 _ _ hqa), b, g, qxs.length, rfl, B5.B, by omega, by rw [lqx]; omega, fun r H6 r0 r1 B6 F6 => ?_⟩
    obtain ⟨j, rfl⟩ : ∃ j : Nat, r = (j : Int) := ⟨r.toNat, by omega⟩
    have hj : j < qxs.length := by omega
    have B6 := B5.bag B6 F6
    have F6 := F5.trans (.ofF F6)
    have k6 := hB.kt (K := K) F6
    obtain ⟨dx, ex, tx⟩ := (tqa.keep k6).getV (List.getElem?_eq_getElem hj)
    obtain ⟨an, ean, rfl⟩ := map_at ex
    obtain ⟨pn, vw, vz, vt, evn, hpn, tw, tz, tt⟩ := td_an tx
    have gj : qxs[j]? = some (.ref pn) := by rw [List.getElem?_eq_getElem hj, evn]
    refine ⟨_, rfl, _, rfl, _, rfl, _, rfl, _, rfl, qa, qxs, (j : Int), _, rfl, rfl, k6 _ _ hqa, at_of (j := j) rfl gj, pn, _, 2, _, rfl, rfl, hpn, at_of (j := 2) rfl rfl, _, rfl, ?_⟩
    refine ⟨b, g, l, W, .ref a, vt, ahead, an.2.1, _, t, an.2.2, rfl, B6, hvh.keep k6, tt, hn, hok, nok an (List.mem_of_getElem? ean), fun v wt L7 H7 tv ok7 B7 F7 => ?_⟩
    refine ⟨by show 3 ≤ sizeLine; decide, fun p8 n8 => ?_⟩
    have s8 := same_upd (o := .tup [.str "tell", .int (j : Int), v]) n8
    refine q (.ref p8) (tellM n j wt) L7 _ ?_ (tellM_ok ean ok7) (B7.keep s8) ((F6.trans F7).trans (.of s8))
    rw [tellM_D]
    exact .tup (.inl (.inl upd_same)) (.cons (.str _) (.cons (.int _) (.cons (tv.keep (Same.kt s8)) .nil)))
  refine ⟨_, rfl, l, _, 0, _, rfl, rfl, SqL.of B2.hl, at_of (j := 0) rfl rfl, _, _, rfl, rfl, _, rfl, ite2 (fun c2 => ?_) (fun c2 => ?_)⟩
  rotate_left
  · have B5 := B2
    have F5 := F2
    have k5 := hB.kt (K := K) F5
    refine ⟨_, rfl, _, rfl, qa, qxs, rfl, .inr (k5 _ _ hqa), b, g, qxs.length, rfl, B5.B, by omega, by rw [lqx]; omega, fun r H6 r0 r1 B6 F6 => ?_⟩
    obtain ⟨j, rfl⟩ : ∃ j : Nat, r = (j : Int) := ⟨r.toNat, by omega⟩
    have hj : j < qxs.length := by omega
    have B6 := B5.bag B6 F6
    have F6 := F5.trans (.ofF F6)
    have k6 := hB.kt (K := K) F6
    obtain ⟨dx, ex, tx⟩ := (tqa.keep k6).getV (List.getElem?_eq_getElem hj)
    obtain ⟨an, ean, rfl⟩ := map_at ex
    obtain ⟨pn, vw, vz, vt, evn, hpn, tw, tz, tt⟩ := td_an tx
    have gj : qxs[j]? = some (.ref pn) := by rw [List.getElem?_eq_getElem hj, evn]
    refine ⟨_, rfl, _, rfl, _, rfl, _, rfl, _, rfl, qa, qxs, (j : Int), _, rfl, rfl, k6 _ _ hqa, at_of (j := j) rfl gj, pn, _, 2, _, rfl, rfl, hpn, at_of (j := 2) rfl rfl, _, rfl, ?_⟩
    refine ⟨b, g, l, W, .ref a, vt, ahead, an.2.1, _, t, an.2.2, rfl, B6, hvh.keep k6, tt, hn, hok, nok an (List.mem_of_getElem? ean), fun v wt L7 H7 tv ok7 B7 F7 => ?_⟩
    refine ⟨by show 3 ≤ sizeLine; decide, fun p8 n8 => ?_⟩
    have s8 := same_upd (o := .tup [.str "tell", .int (j : Int), v]) n8
    refine q (.ref p8) (tellM n j wt) L7 _ ?_ (tellM_ok ean ok7) (B7.keep s8) ((F6.trans F7).trans (.of s8))
    rw [tellM_D]
    exact .tup (.inl (.inl upd_same)) (.cons (.str _) (.cons (.int _) (.cons (tv.keep (Same.kt s8)) .nil)))
  refine ⟨_, rfl, b, g, 3, rfl, B2.B, by decide, by decide, fun r3 H3 r30 r31 B3 F3 => ⟨_, _, rfl, rfl, _, rfl, ?_⟩⟩
  have B5 := B2.bag B3 F3
  have F5 := F2.trans (.ofF F3)
  refine ite2 (fun c3 => ?_) (fun c3 => ?_)
  rotate_left
  · have k5 := hB.kt (K := K) F5
    refine ⟨_, rfl, _, rfl, qa, qxs, rfl, .inr (k5 _ _ hqa), b, g, qxs.length, rfl, B5.B, by omega, by rw [lqx]; omega, fun r H6 r0 r1 B6 F6 => ?_⟩
    obtain ⟨j, rfl⟩ : ∃ j : Nat, r = (j : Int) := ⟨r.toNat, by omega⟩
    have hj : j < qxs.length := by omega
    have B6 := B5.bag B6 F6
    have F6 := F5.trans (.ofF F6)
    have k6 := hB.kt (K := K) F6
    obtain ⟨dx, ex, tx⟩ := (tqa.keep k6).getV (List.getElem?_eq_getElem hj)
    obtain ⟨an, ean, rfl⟩ := map_at ex
    obtain ⟨pn, vw, vz, vt, evn, hpn, tw, tz, tt⟩ := td_an tx
    have gj : qxs[j]? = some (.ref pn) := by rw [List.getElem?_eq_getElem hj, evn]
    refine ⟨_, rfl, _, rfl, _, rfl, _, rfl, _, rfl, qa, qxs, (j : Int), _, rfl, rfl, k6 _ _ hqa, at_of (j := j) rfl gj, pn, _, 2, _, rfl, rfl, hpn, at_of (j := 2) rfl rfl, _, rfl, ?_⟩
    refine ⟨b, g, l, W, .ref a, vt, ahead, an.2.1, _, t, an.2.2, rfl, B6, hvh.keep k6, tt, hn, hok, nok an (List.mem_of_getElem? ean), fun v wt L7 H7 tv ok7 B7 F7 => ?_⟩
    refine ⟨by show 3 ≤ sizeLine; decide, fun p8 n8 => ?_⟩
    have s8 := same_upd (o := .tup [.str "tell", .int (j : Int), v]) n8
    refine q (.ref p8) (tellM n j wt) L7 _ ?_ (tellM_ok ean ok7) (B7.keep s8) ((F6.trans F7).trans (.of s8))
    rw [tellM_D]
    exact .tup (.inl (.inl upd_same)) (.cons (.str _) (.cons (.int _) (.cons (tv.keep (Same.kt s8)) .nil)))
  have k5 := hB.kt (K := K) F5
  have hxs : 0 < xs.length := by
    have := of_decide_eq_true c1
    omega
  cases n with
  | zero =>
    have := l0 rfl
    subst this
    exact absurd hxs (Nat.lt_irrefl 0)
  | succ n =>
    have hsp := hsp n rfl
    subst hsp
    obtain ⟨qs, hqs⟩ : ∃ qs : List (Qn n), (qs : Nd (n + 1)) = t := ⟨t, rfl⟩
    subst hqs
    cases ed
    have lx : xs.length = qs.length := by rw [ta.len, List.length_map]
    have l5 : qs.length ≤ 5 := hok.1
    refine ⟨_, rfl, _, rfl, a, xs, rfl, .inr (k5 _ _ ha), b, g, xs.length, rfl, B5.B, by omega, by omega, fun r H6 r0 r1 B6 F6 => ?_⟩
    obtain ⟨j, rfl⟩ : ∃ j : Nat, r = (j : Int) := ⟨r.toNat, by omega⟩
    have hj : j < xs.length := by omega
    have B6 := B5.bag B6 F6
    have F6 := F5.trans (.ofF F6)
    have k6 := hB.kt (K := K) F6
    obtain ⟨dx, ex, tx⟩ := (ta.keep k6).getV (List.getElem?_eq_getElem hj)
    obtain ⟨qj, eqj, rfl⟩ := map_at ex
    obtain ⟨qjok, njok⟩ := hok.2 qj (List.mem_of_getElem? eqj)
    have q12j := qjok.most
    obtain ⟨pj, jxs, evj, hpj, tpj⟩ := tx.tupE
    have ljx : jxs.length = qj.length := by rw [tpj.len, List.length_map]
    have gj : xs[j]? = some (.ref pj) := by rw [List.getElem?_eq_getElem hj, evj]
    refine ⟨_, rfl, _, rfl, _, rfl, a, xs, (j : Int), _, rfl, rfl, k6 _ _ ha, at_of (j := j) rfl gj, pj, rfl, ⟨_, hpj⟩, fun T hT => ?_⟩
    obtain ⟨Tb, Tg, Tl'⟩ := B6.neNew hT
    have sT := same_upd (o := .lst []) hT
    refine lc_it (walk_tup (K := K) (a := pj) (xs := jxs)) (fun i H7 => ∃ (us : List V) (ms : List (Mv m n)) (L7 : Int), H7 T = some (.lst us) ∧ TdAll K H7 us (ms.map (mvD (waitD m) n)) ∧ Al (fun (an : An n) (y : Mv m n) => MvOk (WtOk m) n an.2.2 qn y) (qj.take i) ms ∧ BagL H7 b g l L7 ∧ Frl b g l H6 H7) ⟨[], [], _, upd_same, .nil, .nil, B6.updN Tb Tg Tl', .of sT⟩ (fun i H7 _ h => ?_) ?_ ?_
    · obtain ⟨_, _, _, _, _, _, _, F7⟩ := h
      exact B6.kt F7 _ _ hpj
    · rintro i x H0 H7 hi ⟨us, ms, L7, h7, t7, al, B7, F7⟩ ⟨rfl, e7⟩
      obtain ⟨dx, ex, tx⟩ := tpj.getV e7
      obtain ⟨an, ean, rfl⟩ := map_at ex
      have k7 := B6.kt (K := K) F7
      obtain ⟨p, vw, vz, vt, rfl, hp, tw, tz, tt⟩ := td_an (tx.keep k7)
      refine ⟨p, _, rfl, hp, rfl, _, _, rfl, _, _, rfl, _, _, rfl, rfl, rfl, ?_⟩
      refine iteT (B := ∃ (us : List V) (ms : List (Mv m n)) (L7 : Int), H7 T = some (.lst us) ∧ TdAll K H7 us (ms.map (mvD (waitD m) n)) ∧ Al (fun (an : An n) (y : Mv m n) => MvOk (WtOk m) n an.2.2 qn y) (qj.take (i + 1)) ms ∧ BagL H7 b g l L7 ∧ Frl b g l H6 H7) ?_
      have k07 := hB.kt (K := K) (F6.trans F7)
      refine ⟨_, rfl, _, rfl, _, rfl, _, rfl, b, g, l, W, vt, .ref qa, an.2.1, ahead', L7, an.2.2, qn, rfl, B7, tt, hvq.keep k07, by omega, njok an (List.mem_of_getElem? ean), qok, nok, fun v mv L8 H8 tv ok8 B8 F8 => ?_⟩
      have k8 := B7.kt (K := K) F8
      have h8 := F8 T _ h7 Tb Tg Tl'
      have kT : KT K H8 (upd H8 T (.lst (us ++ [v]))) := KT.updL h8
      refine ⟨us, h8, ?_, us ++ [v], ms ++ [mv], L8, upd_same, ?_, ?_, B8.updN Tb Tg Tl', (F7.trans F8).updN hT⟩
      · rw [t7.len, List.length_map, ← al.len, List.length_take]
        exact small1000 (by omega)
      · rw [List.map_append]
        exact (t7.keep (k8.trans kT)).app (.cons (tv.keep kT) .nil)
      · rw [List.take_add_one, ean]
        exact Al.snoc (R := fun (an : An n) (y : Mv m n) => MvOk (WtOk m) n an.2.2 qn y) ok8 al
    · rintro H7 ⟨us, ms, L7, h7, t7, al, B7, F7⟩
      rw [ljx, List.take_length] at al
      refine ⟨T, us, rfl, SqL.of h7, fun v H8 s8 q8 => ?_⟩
      refine ⟨by show 3 ≤ sizeLine; decide, fun p9 n9 => ?_⟩
      have s9 := same_upd (o := .tup [.str "ask", .int (j : Int), .ref v]) n9
      have s79 := s8.trans s9
      refine q (.ref p9) (.inr (j, ms)) L7 _ ?_ ⟨qj, eqj, al⟩ (B7.keep s79) ((F6.trans F7).trans (.of s79))
      exact .tup (.inl (.inl upd_same)) (.cons (.str _) (.cons (.int _) (.cons (.tup (Same.kt s9 _ _ q8) (t7.keep (Same.kt s79))) .nil)))
def lvW (m : Nat) : Nat := 2 + 8 * m
theorem ok_law_plans {f f1 f2 : Addr} {fd fd1 fd2 : FuncData} (D_law_move : Dn K mg "_law_move" s_law_move ["bag", "here", "question", "left"] f fd) (B : Blt mg) (D_law_pick : Dn K mg "_law_pick" s_law_pick ["bag", "many"] f1 fd1) (D_law_wait : Dn K mg "_law_wait" s_law_wait ["bag", "here", "goal", "left"] f2 fd2) :
    ∀ m n : Nat, n ≤ 6 → FnOk P w K mg base CX0 (2 + 8 * m) f2 fd2 ["bag", "here", "goal", "left"] (spWait K m n) ∧ FnOk P w K mg base CX0 (3 + 8 * m + n) f fd ["bag", "here", "question", "left"] (spMove K m n) := by
  have no : ∀ k, FnOk P w K mg base CX0 k f fd ["bag", "here", "question", "left"] (fun _ _ _ _ => False) := fun k => ⟨fun vs H Q E h => h.elim, fun A outer s H args us vs Q E _ _ _ _ h => h.elim⟩
  have step : ∀ m : Nat, (∀ m', m = m' + 1 → ∀ n, n ≤ 6 → FnOk P w K mg base CX0 (3 + 8 * m' + n) f fd ["bag", "here", "question", "left"] (spMove K m' n)) → ∀ n : Nat, n ≤ 6 → FnOk P w K mg base CX0 (2 + 8 * m) f2 fd2 ["bag", "here", "goal", "left"] (spWait K m n) ∧ FnOk P w K mg base CX0 (3 + 8 * m + n) f fd ["bag", "here", "question", "left"] (spMove K m n) := by
    intro m IH
    have wait : ∀ n : Nat, n ≤ 6 → FnOk P w K mg base CX0 (2 + 8 * m) f2 fd2 ["bag", "here", "goal", "left"] (spWait K m n) := by
      intro n hn
      cases m with
      | zero => exact ok_law_wait (k := 1) D_law_wait B D_law_move (no 1) (fun m' e => by omega)
      | succ m' =>
        have G := IH m' rfl n hn
        rw [show 2 + 8 * (m' + 1) = (9 + 8 * m') + 1 by omega]
        exact ok_law_wait D_law_wait B D_law_move (G.mono (by omega)) (fun m2 e => by rw [show m2 = m' by omega])
    have move : ∀ n : Nat, n ≤ 6 → FnOk P w K mg base CX0 (3 + 8 * m + n) f fd ["bag", "here", "question", "left"] (spMove K m n) := by
      intro n
      induction n with
      | zero =>
        intro hn
        rw [show 3 + 8 * m + 0 = (2 + 8 * m) + 1 by omega]
        exact ok_law_move D_law_move B D_law_pick D_law_wait (wait 0 hn) (no _) (fun n' e => by omega) (by omega)
      | succ n ih =>
        intro hn
        rw [show 3 + 8 * m + (n + 1) = (3 + 8 * m + n) + 1 by omega]
        exact ok_law_move D_law_move B D_law_pick D_law_wait ((wait (n + 1) hn).mono (by omega)) (ih (by omega)) (fun n' e => by rw [show n' = n by omega]) (by omega)
    exact fun n hn => ⟨wait n hn, move n hn⟩
  intro m
  induction m with
  | zero => exact step 0 (fun m' e => by omega)
  | succ m ih => exact step (m + 1) (fun m' e n hn => by rw [show m' = m by omega]; exact (ih n hn).2)
end
end Tl
namespace Tl
open PySem PySem.Spec PyProof.Rows L2 RZ
theorem mk_pos {p s : Nat} (hp : 1 ≤ p) (hs : 0 < s) : (0 : Rat) < mkRat (p : Int) s := by
  have h1 : 0 < (mkRat (p : Int) s).num := by
    rw [(mkRat_parts (p : Int) s hs).1, Int.natAbs_natCast]
    have hg : 0 < Nat.gcd p s := Nat.gcd_pos_of_pos_right _ hs
    have hd : Nat.gcd p s ≤ p := Nat.le_of_dvd hp (Nat.gcd_dvd_left p s)
    have := Nat.div_pos hd hg
    rw [← Int.natCast_ediv]
    omega
  refine (Rat.lt_iff _ _).mpr ?_
  show (0 : Int) * _ < (mkRat (p : Int) s).num * ((1 : Nat) : Int)
  omega
theorem frm_new {b g p : Addr} {H H' : Hp} (f : Frm b g H H') (h : H' p = none) (h1 : p ≠ b) (h2 : p ≠ g) : H p = none := by
  cases e : H p with
  | none => rfl
  | some o =>
    rw [f p o e h1 h2] at h
    cases h
def spShares1 (K : PySem.W.Frag) : Sp := fun vs H Q _ => ∃ (b g : Addr) (m : Nat), vs = [.ref b, .int (m : Int), .int 1] ∧ Bag H b g ∧ 1 ≤ m ∧ m ≤ 12 ∧
  ∀ (r : Addr) (rs : List Rat) (us : List V) (H' : Hp), IsShares m rs → (∀ r ∈ rs, 0 < r) → H' r = some (.lst us) → TdAll K H' us (rs.map rD) → H r = none → Bag H' b g → Frm b g H H' → Q (.ref r) H'
/-! ### go-betweens -/
abbrev Bw (m n : Nat) : Type := List (Rat × Wt m n)
def bwI (m n : Nat) (x : Rat × Wt m n) : PyData := .tuple [rD x.1, waitD m n x.2]
def bwD (m n : Nat) (bs : Bw m n) : PyData := .tuple (bs.map (bwI m n))
structure BwOk (m n : Nat) (t : Nd n) (gs : Nd m) (bs : Bw m n) : Prop where
  one : 1 ≤ bs.length
  most : bs.length ≤ 4
  ch : ∀ x ∈ bs, Ch 2 x.1 ∧ 0 < x.1
  sum : fsum (bs.map (·.1)) = 1
  ok : ∀ x ∈ bs, WtOk m n t gs x.2
def spBw (K : PySem.W.Frag) (m n : Nat) : Sp := fun vs H Q _ => ∃ (b g : Addr) (W p : Nat) (vh vg : V) (ahead ahead' : List Rat) (t : Nd n) (gs : Nd m), vs = [.ref b, vh, vg, .int (p : Int)] ∧ Bag H b g ∧ Td K H vh (ndD n t) ∧ Td K H vg (ndD m gs) ∧ n ≤ 6 ∧ 1 ≤ p ∧ p ≤ 3 ∧ NdOk W n ahead t ∧ NdOk W m ahead' gs ∧
  ∀ (v : V) (bs : Bw m n) (H' : Hp), Td K H' v (bwD m n bs) → BwOk m n t gs bs → ((∀ x ∈ bs, Ch 1 x.1) ∧ bs.length ≤ p) → Bag H' b g → Frm b g H H' → Q v H'
section
variable {P : Program} {w : World} {K : PySem.W.Frag} {mg : Str → Option Value} {base : Heap}
theorem ok_law_shares1 {f f1 f2 f3 : Addr} {fd fd1 fd2 fd3 : FuncData} (D : Dn K mg "_law_shares" s_law_shares ["bag", "many", "least"] f fd) (B : Blt mg) (D_law_low : Dn K mg "_law_low" s_law_low ["top", "bottom"] f1 fd1) (D_law_common : Dn K mg "_law_common" s_law_common ["one", "other"] f2 fd2)
    (D_law_pick : Dn K mg "_law_pick" s_law_pick ["bag", "many"] f3 fd3) : FnOk P w K mg base CX0 3 f fd ["bag", "many", "least"] (spShares1 K) := by
  have G_law_low : FnOk P w K mg base CX0 2 f1 fd1 ["top", "bottom"] (spLow K) := ok_law_low D_law_low B D_law_common
  have G_law_pick : FnOk P w K mg base CX0 1 f3 fd3 ["bag", "many"] spPick := ok_law_pick D_law_pick B
  refine D.F.ok sc_law_shares (fun vs H Q E h => ?_) (fun cdv A outer s H vs Q E hr h => ?_)
  · obtain ⟨b, g, m, rfl, _⟩ := h
    rfl
  obtain ⟨b, g, m, rfl, hB, hm1, hm2, q⟩ := h
  have nd := sc_law_shares.nd
  refine ⟨_, (pss_cons (ps_set (i := 3) nd rfl (.inr rfl) (pe_lc (own := [("k", 4)]) rfl nd (pi_range1 (by rfl) B.range (pa_cons (pv 1) pa_nil)) (blkOk_by (own := [("k", 4)]) (by kernel_rfl)) (fun _ _ _ _ _ => (pg_name (i := 4) nd rfl (.inl rfl))) (fun _ _ _ _ _ => pts_nil) (fun _ _ _ _ _ => (pe_op op_add (pv 2) (pe_call G_law_pick (hr.mono (by omega)) (by rfl) D_law_pick.m D_law_pick.F.kp D_law_pick.b .nil pass0 (pa_cons (pv 0) (pa_cons pe_int pa_nil)))))))
      (pss_cons (ps_augS (pv 3) (pe_call G_law_pick (hr.mono (by omega)) (by rfl) D_law_pick.m D_law_pick.F.kp D_law_pick.b .nil pass0 (pa_cons (pv 0) (pa_cons (pv 1) pa_nil))) (k_getL (K := K) rfl) pe_int ip_add set_list)
      (pss_one (ps_ret (pe_lc (own := [("part", 5)]) rfl nd (k_iL (K := K) rfl (pv 3)) (blkOk_by (own := [("part", 5)]) (by kernel_rfl)) (fun _ _ _ _ _ => (pg_name (i := 5) nd rfl (.inl rfl))) (fun _ _ _ _ _ => pts_nil) (fun _ _ _ _ _ => (pe_call G_law_low (hr.mono (by omega)) (by rfl) D_law_low.m D_law_low.F.kp D_law_low.b .nil pass0 (pa_cons (pv 5) (pa_cons (pe_callB (k_sum (K := K) rfl rfl) (by rfl) B.sum (by decide +kernel) (pa_cons (pv 3) pa_nil)) pa_nil))))))))), ?_⟩
  -- parts = [least + _law_pick(bag, 4) for k in range(many)]
  refine ⟨_, rfl, _, rfl, by omega, by omega, fun d hd => ?_⟩
  obtain ⟨db, dg⟩ := hB.neNew hd
  refine lc_range (lo := 0) (n := m) (fun i H3 => ∃ ps : List Nat, ps.length = i ∧ (∀ p ∈ ps, 1 ≤ p ∧ p ≤ 4) ∧ H3 d = some (.lst ((nI ps).map V.int)) ∧ Bag H3 b g ∧ Frm b g H H3) ⟨[], rfl, fun _ h => absurd h List.not_mem_nil, upd_same, hB.updN db dg, (Frm.refl b g H).updN hd⟩ ?_ ?_
  · rintro i H3 hi ⟨ps, hp1, hp2, h3, B3, F3⟩
    refine ⟨rfl, ?_⟩
    refine iteT (B := ∃ ps : List Nat, ps.length = i + 1 ∧ (∀ p ∈ ps, 1 ≤ p ∧ p ≤ 4) ∧ H3 d = some (.lst ((nI ps).map V.int)) ∧ Bag H3 b g ∧ Frm b g H H3) ?_
    refine ⟨_, rfl, _, rfl, b, g, 4, rfl, B3, by decide, by decide, fun r H4 r0 r1 B4 F4 => ⟨_, _, rfl, rfl, ?_⟩⟩
    have h4 := F4 d _ h3 db dg
    refine ⟨_, h4, by rw [List.length_map, nI, List.length_map]; exact small1000 (by omega), ps ++ [((1 : Int) + r).toNat], by rw [List.length_append, hp1]; rfl, ?_, ?_, B4.updN db dg, (F3.trans F4).updN hd⟩
    · intro p hp
      rcases List.mem_append.mp hp with hp | hp
      · exact hp2 p hp
      · rw [List.mem_singleton.mp hp]
        omega
    · rw [upd_same, nI, nI, List.map_append, List.map_append]
      show some (HO.lst (_ ++ [V.int ((1 : Int) + r)])) = some (HO.lst (_ ++ [V.int ((((1 : Int) + r).toNat : Nat) : Int)]))
      rw [show ((((1 : Int) + r).toNat : Nat) : Int) = (1 : Int) + r by omega]
  rintro H3 ⟨ps, hp1, hp2, h3, B3, F3⟩
  -- parts[_law_pick(bag, many)] += 1
  refine ⟨_, rfl, _, rfl, _, rfl, b, g, (m : Int), rfl, B3, by omega, by omega, fun r H4 r0 r1 B4 F4 => ?_⟩
  have h4 := F4 d _ h3 db dg
  obtain ⟨j, ej⟩ : ∃ j : Nat, r = (j : Int) := ⟨r.toNat, by omega⟩
  have hj : j < ps.length := by omega
  have gj : ps[j]? = some ps[j] := List.getElem?_eq_getElem hj
  have gI : ((nI ps).map V.int)[j]? = some (.int ((ps[j] : Nat) : Int)) := by
    rw [List.getElem?_map, nI, List.getElem?_map, gj]
    rfl
  refine ⟨d, _, j, _, rfl, by rw [ej], SqL.of h4, gI, _, _, rfl, rfl, d, _, r, j, rfl, rfl, h4, ?_, ?_⟩
  · rw [List.length_map, nI, List.length_map]
    unfold ixN
    rw [if_pos r0, if_pos (by omega)]
    exact congrArg some (by omega)
  have h5 : (upd H4 d (.lst (((nI ps).map V.int).set j (.int (((ps[j] : Nat) : Int) + 1))))) d = some (.lst ((nI (ps.set j (ps[j] + 1))).map V.int)) := by
    rw [upd_same, nI, nI, List.map_set, List.map_set]
    rfl
  have B5 : Bag (upd H4 d (.lst (((nI ps).map V.int).set j (.int (((ps[j] : Nat) : Int) + 1))))) b g := B4.updN db dg
  have F5 : Frm b g H (upd H4 d (.lst (((nI ps).map V.int).set j (.int (((ps[j] : Nat) : Int) + 1))))) := (F3.trans F4).updN hd
  generalize upd H4 d (.lst (((nI ps).map V.int).set j (.int (((ps[j] : Nat) : Int) + 1)))) = H5 at h5 B5 F5
  have hsum := sum_bump ps j _ gj
  have hle := sum_le5 ps (fun x hx => (hp2 x hx).2)
  have hlen : (ps.set j (ps[j] + 1)).length = m := by rw [List.length_set]; exact hp1
  have hpos : ∀ p ∈ ps.set j (ps[j] + 1), 1 ≤ p := fun p hp => by
    rcases List.mem_or_eq_of_mem_set hp with z | z
    · exact (hp2 p z).1
    · omega
  generalize ps.set j (ps[j] + 1) = us at h5 hsum hlen hpos
  -- return [_law_low(part, sum(parts)) for part in parts]
  have hs0 : 0 < us.sum := by omega
  have hs1 : us.sum ≤ 5 * m + 1 := by omega
  refine ⟨_, rfl, d, rfl, ⟨_, SqL.of h5⟩, fun e he => ?_⟩
  obtain ⟨eb, eg⟩ := B5.neNew he
  have heH : H e = none := by
    cases z : H e with
    | none => rfl
    | some o =>
      rw [F5 e o z eb eg] at he
      cases he
  have hl5 : ((nI us).map V.int).length = m := by rw [List.length_map, nI, List.length_map, hlen]
  refine lc_list (K := K) (a := d) (xs := (nI us).map V.int) (fun i H6 => ∃ ws : List V, H6 e = some (.lst ws) ∧ TdAll K H6 ws ((us.take i).map fun (p : Nat) => rD (mkRat (p : Int) us.sum)) ∧ Same H5 H6) ⟨[], upd_same, .nil, same_upd he⟩ (fun i H6 _ h => by obtain ⟨_, _, _, s6⟩ := h; exact s6.seq (SqL.of h5)) ?_ ?_
  · rintro i y H6 hi ⟨ws, h6, t6, s6⟩
    obtain ⟨z, hz, rfl⟩ := int_at hi
    obtain ⟨p, hp, rfl⟩ : ∃ p : Nat, us[i]? = some p ∧ z = (p : Int) := by
      rw [nI, List.getElem?_map] at hz
      cases q2 : us[i]? with
      | none =>
        rw [q2] at hz
        cases hz
      | some p =>
        rw [q2] at hz
        exact ⟨p, rfl, (Option.some.inj hz).symm⟩
    have hi2 : i < us.length := (List.getElem?_eq_some_iff.mp hp).1
    refine ⟨rfl, ?_⟩
    refine iteT (B := ∃ ws : List V, H6 e = some (.lst ws) ∧ TdAll K H6 ws ((us.take (i + 1)).map fun (p : Nat) => rD (mkRat (p : Int) us.sum)) ∧ Same H5 H6) ?_
    refine ⟨_, rfl, _, rfl, d, nI us, rfl, SqL.of (s6 _ _ h5), (p : Int), us.sum, by rw [nI_sum]; rfl, hs0, ?_, fun v H7 s7 hv => ?_⟩
    · exact Nat.lt_of_le_of_lt (Nat.le_trans hs1 (show 5 * m + 1 ≤ 2 ^ 10 by omega)) (Nat.pow_lt_pow_right (by decide) (by decide))
    · have h7 := s7 _ _ h6
      have kt7 : KT K H7 (upd H7 e (.lst (ws ++ [v]))) := KT.updL h7
      have kt : KT K H6 (upd H7 e (.lst (ws ++ [v]))) := (Same.kt s7).trans kt7
      refine ⟨ws, h7, ?_, ws ++ [v], upd_same, ?_, fun a o q => ?_⟩
      · rw [t6.len, List.length_map, List.length_take]
        exact small1000 (by omega)
      · rw [List.take_add_one, hp, List.map_append]
        exact (t6.keep kt).app (.cons (hv.keep kt7) .nil)
      · rw [upd_ne (ne_of_none q he)]
        exact s7 _ _ (s6 _ _ q)
  · rintro H6 ⟨ws, h6, t6, s6⟩
    rw [hl5, ← hlen, List.take_length] at t6
    have t7 : TdAll K H6 ws ((us.map fun (p : Nat) => mkRat (p : Int) us.sum).map rD) := by
      rw [List.map_map]
      exact t6
    exact q e _ ws H6 ⟨us, hlen, hs0, hs1, rfl⟩ (fun r hr => by obtain ⟨p, hp, rfl⟩ := List.mem_map.mp hr; exact mk_pos (hpos p hp) hs0) h6 t7 heH (B5.keep s6) (F5.trans (Frm.of s6))
theorem ok_law_between {m n : Nat} {f f1 f2 f3 f4 f5 f6 : Addr} {fd fd1 fd2 fd3 fd4 fd5 fd6 : FuncData} (D : Dn K mg "_law_between" s_law_between ["bag", "one", "other", "plans"] f fd) (B : Blt mg) (D_law_low : Dn K mg "_law_low" s_law_low ["top", "bottom"] f1 fd1) (D_law_common : Dn K mg "_law_common" s_law_common ["one", "other"] f2 fd2)
    (D_law_pick : Dn K mg "_law_pick" s_law_pick ["bag", "many"] f3 fd3) (D_law_shares : Dn K mg "_law_shares" s_law_shares ["bag", "many", "least"] f4 fd4) (D_law_move : Dn K mg "_law_move" s_law_move ["bag", "here", "question", "left"] f5 fd5) (D_law_wait : Dn K mg "_law_wait" s_law_wait ["bag", "here", "goal", "left"] f6 fd6) (hn : n ≤ 6) :
    FnOk P w K mg base CX0 (4 + 8 * m) f fd ["bag", "one", "other", "plans"] (spBw K m n) := by
  have G_law_shares : FnOk P w K mg base CX0 3 f4 fd4 ["bag", "many", "least"] (spShares1 K) := ok_law_shares1 D_law_shares B D_law_low D_law_common D_law_pick
  have G_law_wait : FnOk P w K mg base CX0 (2 + 8 * m) f6 fd6 ["bag", "here", "goal", "left"] (spWait K m n) := (ok_law_plans D_law_move B D_law_pick D_law_wait m n hn).1
  rw [show 4 + 8 * m = (3 + 8 * m) + 1 by omega]
  refine D.F.ok sc_law_between (fun vs H Q E h => ?_) (fun cdv A outer s H vs Q E hr h => ?_)
  · obtain ⟨b, g, W, p, vh, vg, ahead, ahead', t, gs, rfl, _⟩ := h
    rfl
  obtain ⟨b, g, W, p, vh, vg, ahead, ahead', t, gs, rfl, hB, hvh, hvg, hn, hp1, hp3, hok, gok, q⟩ := h
  have nd := sc_law_between.nd
  refine ⟨_, (pss_cons (ps_set (i := 4) nd rfl (.inl rfl) (pe_call G_law_shares (hr.mono (by omega)) (by rfl) D_law_shares.m D_law_shares.F.kp D_law_shares.b .nil pass0 (pa_cons (pv 0) (pa_cons (pv 3) (pa_cons pe_int pa_nil)))))
      (pss_one (ps_ret (pe_callTy (k_tupOf (K := K) rfl) (by rfl) B.tuple (by decide +kernel) (pa_cons (pe_lc (own := [("share", 5)]) rfl nd (k_iL (K := K) rfl (pv 4)) (blkOk_by (own := [("share", 5)]) (by kernel_rfl)) (fun _ _ _ _ _ => (pg_name (i := 5) nd rfl (.inl rfl))) (fun _ _ _ _ _ => pts_nil) (fun _ _ _ _ _ => (pe_tup (pa_cons (pv 5) (pa_cons (pe_call G_law_wait (hr.mono (by omega)) (by rfl) D_law_wait.m D_law_wait.F.kp D_law_wait.b .nil pass0 (pa_cons (pv 0) (pa_cons (pv 1) (pa_cons (pv 2) (pa_cons (pe_lst (pa_cons pe_int pa_nil)) pa_nil))))) pa_nil))))) pa_nil))))), ?_⟩
  refine ⟨_, rfl, _, rfl, b, g, p, rfl, hB, hp1, by omega, fun R rs rus H1 hsh hpos hR tR nR B1 F1 => ?_⟩
  obtain ⟨Rb, Rg⟩ := hB.neNew nR
  have lrs : rs.length = p := (shares_sum hsh).2.1
  have lru : rus.length = rs.length := by rw [tR.len, List.length_map]
  refine ⟨_, rfl, R, rfl, ⟨_, SqL.of hR⟩, fun T hT => ?_⟩
  obtain ⟨Tb, Tg⟩ := B1.neNew hT
  have RT : R ≠ T := ne_of_none hR hT
  have hT0 : H T = none := frm_new F1 hT Tb Tg
  have sT := same_upd (o := .lst []) hT
  have ch1 := shares_ch hsh (by omega)
  refine lc_it (walk_list (K := K) (a := R) (xs := rus)) (fun i H2 => ∃ (us : List V) (bs : Bw m n), H2 T = some (.lst us) ∧ H2 R = some (.lst rus) ∧ TdAll K H2 us (bs.map (bwI m n)) ∧ bs.map (·.1) = rs.take i ∧ (∀ x ∈ bs, WtOk m n t gs x.2) ∧ Bag H2 b g ∧ Frm b g H H2 ∧ KT K H1 H2)
    ⟨[], [], upd_same, sT _ _ hR, .nil, rfl, fun x h => absurd h List.not_mem_nil, B1.keep sT, F1.trans (.of sT), Same.kt sT⟩ (fun i H2 _ h => ?_) ?_ ?_
  · obtain ⟨_, _, _, h2, _⟩ := h
    exact SqL.of h2
  · rintro i x H0 H2 hi ⟨us, bs, h2, hR2, t2, e2, ok2, B2, F2, k2⟩ ⟨rfl, ex⟩
    obtain ⟨dx, exx, tx⟩ := (tR.keep k2).getV ex
    obtain ⟨r, er, rfl⟩ := map_at exx
    refine ⟨rfl, ?_⟩
    refine iteT (B := ∃ (us : List V) (bs : Bw m n), H2 T = some (.lst us) ∧ H2 R = some (.lst rus) ∧ TdAll K H2 us (bs.map (bwI m n)) ∧ bs.map (·.1) = rs.take (i + 1) ∧ (∀ x ∈ bs, WtOk m n t gs x.2) ∧ Bag H2 b g ∧ Frm b g H H2 ∧ KT K H1 H2) ?_
    refine ⟨_, rfl, _, rfl, _, rfl, _, rfl, by show 1 ≤ sizeLine; decide, fun l nl => ?_⟩
    obtain ⟨lb, lg⟩ := B2.neNew nl
    have sl := same_upd (o := .lst [.int 30]) nl
    have k02 := hB.kt (K := K) (F2.trans (.of sl))
    have BL : BagL (upd H2 l (.lst [.int 30])) b g l 30 := ⟨B2.keep sl, upd_same, lb, lg⟩
    refine ⟨b, g, l, W, vh, vg, ahead, ahead', 30, t, gs, rfl, BL, hvh.keep k02, hvg.keep k02, hn, hok, gok, fun v wt L3 H3 tv ok3 B3 F3 => ?_⟩
    have F23 : Frm b g H2 H3 := fun a o e n1 n2 => F3 _ _ (sl _ _ e) n1 n2 (ne_of_none e nl)
    have k23 : KT K H2 H3 := B2.kt F23
    refine ⟨by show 2 ≤ sizeLine; decide, fun p4 n4 => ?_⟩
    have s4 : Same H3 (upd H3 p4 (.tup [x, v])) := same_upd n4
    have F24 := F23.trans (.of s4)
    have h4 := F24 _ _ h2 Tb Tg
    have hR4 := F24 _ _ hR2 Rb Rg
    have kT : KT K (upd H3 p4 (.tup [x, v])) (upd (upd H3 p4 (.tup [x, v])) T (.lst (us ++ [.ref p4]))) := KT.updL h4
    have k24 := (k23.trans (Same.kt s4)).trans kT
    have lbs : bs.length ≤ p := by
      have := congrArg List.length e2
      rw [List.length_map, List.length_take] at this
      omega
    refine ⟨us, h4, ?_, us ++ [.ref p4], bs ++ [(r, wt)], upd_same, by rw [upd_ne RT]; exact hR4, ?_, ?_, ?_, (B3.B.keep s4).updN Tb Tg, (F2.trans F24).updN hT0, k2.trans k24⟩
    · rw [t2.len, List.length_map]
      exact small1000 (by omega)
    · rw [List.map_append]
      exact (t2.keep k24).app (.cons (.tup (kT _ _ (.inl (.inl upd_same))) (.cons (tx.keep k24) (.cons (tv.keep ((Same.kt s4).trans kT)) .nil))) .nil)
    · rw [List.map_append, e2, List.take_add_one, er]
      rfl
    · intro y hy
      rcases List.mem_append.mp hy with hy | hy
      · exact ok2 y hy
      · rw [List.mem_singleton.mp hy]
        exact ok3
  · rintro H2 ⟨us, bs, h2, hR2, t2, e2, ok2, B2, F2, k2⟩
    rw [lru, List.take_length] at e2
    refine ⟨T, us, rfl, SqL.of h2, fun v H3 s3 q3 => q (.ref v) bs H3 (.tup q3 (t2.keep (Same.kt s3))) ⟨?_, ?_, fun x hx => ?_, by rw [e2]; exact (shares_sum hsh).1, ok2⟩ ⟨fun x hx => ch1 _ (by rw [← e2]; exact List.mem_map.mpr ⟨x, hx, rfl⟩), by have := congrArg List.length e2; rw [List.length_map] at this; omega⟩ (B2.keep s3) (F2.trans (.of s3))⟩
    · have := congrArg List.length e2
      rw [List.length_map] at this
      omega
    · have := congrArg List.length e2
      rw [List.length_map] at this
      omega
    · have mx : x.1 ∈ rs := by
        rw [← e2]
        exact List.mem_map.mpr ⟨x, hx, rfl⟩
      exact ⟨(ch1 _ mx).mono (by decide), hpos _ mx⟩
end
end Tl
namespace Tl
open PySem PySem.Spec PyProof.Rows L2 RZ
/-! ### plans judged: right ones -/
def spIsW (K : PySem.W.Frag) (m n : Nat) : Sp := fun vs H Q _ => ∃ (W : Nat) (vt vg vh : V) (ahead ahead' : List Rat) (t : Nd n) (gs : Nd m) (wt : Wt m n), vs = [vt, vg, vh] ∧ Td K H vt (waitD m n wt) ∧ Td K H vg (ndD m gs) ∧ Td K H vh (ndD n t) ∧ NdOk W n ahead t ∧ NdOk W m ahead' gs ∧ WtOk m n t gs wt ∧ ∀ H', Same H H' → Q (.bl true) H'
def spIsM (K : PySem.W.Frag) (m n : Nat) : Sp := fun vs H Q _ => ∃ (W : Nat) (vt vq vh : V) (ahead ahead' : List Rat) (t : Nd n) (q : Qn m) (mv : Mv m n), vs = [vt, vq, vh] ∧ Td K H vt (mvD (waitD m) n mv) ∧ Td K H vq (qnD m q) ∧ Td K H vh (ndD n t) ∧ NdOk W n ahead t ∧ QnOk W ahead' q ∧ (∀ a ∈ q, NdOk W m a.2.1 a.2.2) ∧ MvOk (WtOk m) n t q mv ∧ ∀ H', Same H H' → Q (.bl true) H'
theorem mv_cases {m n : Nat} {t : Nd n} {q : Qn m} {mv : Mv m n} (h : MvOk (WtOk m) n t q mv) : (∃ (a : Nat) (w : Wt m n) (an : An m), mvD (waitD m) n mv = tellD a (waitD m n w) ∧ q[a]? = some an ∧ WtOk m n t an.2.2 w) ∨
    (∃ (n' : Nat) (e : n = n' + 1) (i : Nat) (ms : List (Mv m n')) (qs : List (Qn n')) (qn : Qn n'), HEq t qs ∧ mvD (waitD m) n mv = askD2 i (ms.map (mvD (waitD m) n')) ∧ ndD n t = .tuple (qs.map (qnD n')) ∧ qs[i]? = some qn ∧ Al (fun (an : An n') (y : Mv m n') => MvOk (WtOk m) n' an.2.2 q y) qn ms) := by
  cases n with
  | zero =>
    obtain ⟨an, h1, h2⟩ := h
    exact .inl ⟨mv.1, mv.2, an, rfl, h1, h2⟩
  | succ n =>
    cases mv with
    | inl x =>
      obtain ⟨an, h1, h2⟩ := h
      exact .inl ⟨x.1, x.2, an, rfl, h1, h2⟩
    | inr x =>
      obtain ⟨qn, h1, h2⟩ := h
      exact .inr ⟨n, rfl, x.1, x.2, t, qn, HEq.rfl, rfl, rfl, h1, h2⟩
section
variable {P : Program} {w : World} {K : PySem.W.Frag} {mg : Str → Option Value} {base : Heap}
theorem ok_is_wait {m n : Nat} {f f1 : Addr} {fd fd1 : FuncData} {k : Nat} (D : Dn K mg "is_wait" s_is_wait ["thing", "waiting", "stand"] f fd) (B : Blt mg) (D_is_move : Dn K mg "is_move" s_is_move ["thing", "question", "stand"] f1 fd1) {sp0 : Sp} (G_is_move : FnOk P w K mg base CX0 k f1 fd1 ["thing", "question", "stand"] sp0) (hsp : ∀ m', m = m' + 1 → sp0 = spIsM K m' n) :
    FnOk P w K mg base CX0 (k + 1) f fd ["thing", "waiting", "stand"] (spIsW K m n) := by
  refine D.F.ok sc_is_wait (fun vs H Q E h => ?_) (fun cdv A outer s H vs Q E hr h => ?_)
  · obtain ⟨W, vt, vg, vh, ahead, ahead', t, gs, wt, rfl, _⟩ := h
    rfl
  obtain ⟨W, vt, vg, vh, ahead, ahead', t, gs, wt, rfl, hv, hg, hh, hok, gok, wok, q⟩ := h
  have nd := sc_is_wait.nd
  refine ⟨_, (pss_cons (ps_if (PW.pt (pw_or (pt_not (pt_val (pe_callB (k_isi (K := K) rfl) (by rfl) B.isinstance (by decide +kernel) (pa_cons (pv 0) (pa_cons (pe_bltn (v := .ty "tuple") (u := .type "tuple") (by rfl) B.tuple (by decide +kernel) rfl) pa_nil))))) (pw_or1 (pt_cmpR op_ne (pe_callB (k_len (K := K) rfl) (by rfl) B.len PySem.boot_len (pa_cons (pv 0) pa_nil)) (pe_callB (k_len (K := K) rfl) (by rfl) B.len PySem.boot_len (pa_cons (pv 1) pa_nil)) (nomark _))))) (pss_one (ps_ret pe_bl)) pss_nil)
      (pss_one (ps_ret (pe_callB (k_all (K := K) rfl rfl) (by rfl) B.all (by decide +kernel) (pa_cons (pe_lc (own := [("move", 3), ("question", 4)]) rfl nd (k_zip (K := K) rfl (by rfl) B.zip (pa_cons (pv 0) (pa_cons (pv 1) pa_nil))) (blkOk_by (own := [("move", 3), ("question", 4)]) (by kernel_rfl)) (fun _ _ _ _ _ => (k_tup (K := K) (n := 2) rfl rfl (pgs_cons (pg_name (i := 3) nd rfl (.inl rfl)) (pgs_cons (pg_name (i := 4) nd rfl (.inl rfl)) pgs_nil)))) (fun _ _ _ _ _ => pts_nil) (fun _ _ _ _ _ => (pe_call G_is_move (hr.mono (by omega)) (by rfl) D_is_move.m D_is_move.F.kp D_is_move.b .nil pass0 (pa_cons (pv 3) (pa_cons (pv 4) (pa_cons (pv 2) pa_nil)))))) pa_nil))))), ?_⟩
  obtain ⟨a, b, xs, ys, N, rfl, rfl, ha, hb, lx, ly, l5, each⟩ : ∃ (a b : Addr) (xs ys : List V) (N : Nat), vt = .ref a ∧ vg = .ref b ∧ SqT K H a xs ∧ SqT K H b ys ∧ xs.length = N ∧ ys.length = N ∧ N ≤ 5 ∧
      ∀ (i : Nat) (x y : V), xs[i]? = some x → ys[i]? = some y → ∀ (H2 : Hp) (Q' : VK) (E' : XK), Same H H2 → (∀ H3, Same H2 H3 → Q' (.bl true) H3) → sp0 [x, y, vh] H2 Q' E' := by
    cases m with
    | zero =>
      obtain ⟨a, xs, rfl, ha, ta⟩ := Td.tupE (show Td K H vt (.tuple []) from hv)
      obtain ⟨b, ys, rfl, hb, tb'⟩ := Td.tupE (show Td K H vg (.tuple []) from hg)
      cases ta
      cases tb'
      exact ⟨a, b, [], [], 0, rfl, rfl, ha, hb, rfl, rfl, by decide, fun i x y h => by simp at h⟩
    | succ m =>
      have hsp := hsp m rfl
      subst hsp
      obtain ⟨a, xs, rfl, ha, ta⟩ := Td.tupE (show Td K H vt (.tuple ((show List (Mv m n) from wt).map (mvD (waitD m) n))) from hv)
      obtain ⟨b, ys, rfl, hb, tb'⟩ := Td.tupE (show Td K H vg (.tuple ((show List (Qn m) from gs).map (qnD m))) from hg)
      have al : Al (fun (q : Qn m) (y : Mv m n) => MvOk (WtOk m) n t q y) (show List (Qn m) from gs) (show List (Mv m n) from wt) := wok
      have lal := al.len
      have lx : xs.length = (show List (Mv m n) from wt).length := by rw [ta.len, List.length_map]
      have ly : ys.length = (show List (Qn m) from gs).length := by rw [tb'.len, List.length_map]
      refine ⟨a, b, xs, ys, (show List (Qn m) from gs).length, rfl, rfl, ha, hb, lx.trans lal.symm, ly, gok.1, fun i x y h1 h2 H2 Q' E' s2 q' => ?_⟩
      obtain ⟨dx, ex, tx⟩ := ta.getV h1
      obtain ⟨dy, ey, ty⟩ := tb'.getV h2
      obtain ⟨mv, em, rfl⟩ := mapAt ex
      obtain ⟨qq, eq, rfl⟩ := mapAt ey
      obtain ⟨mv', em', okm⟩ := al.get eq
      rw [em] at em'
      cases em'
      obtain ⟨qok, nk⟩ := gok.2 qq (List.mem_of_getElem? eq)
      exact ⟨W, x, y, vh, ahead, ahead', t, qq, mv, rfl, tx.keep (Same.kt s2), ty.keep (Same.kt s2), hh.keep (Same.kt s2), hok, qok, nk, okm, q'⟩
  refine ⟨_, rfl, _, _, _, _, true, rfl, .ty "tuple", tyx_tup ha, kit_ty (by decide +kernel), _, rfl, iteF ?_⟩
  refine ⟨_, rfl, a, _, rfl, .inr ha, _, rfl, b, _, rfl, .inr hb, rfl, _, rfl, ?_⟩
  rw [lx, ly, decide_eq_true rfl]
  refine iteF ?_
  refine ⟨_, rfl, _, rfl, a, b, xs, ys, rfl, .inr ⟨ha, hb, fun T hT => ?_⟩⟩
  refine lc_it (walk_zipT (K := K) (a := a) (b := b) (xs := xs) (ys := ys) (n := N) (by omega)) (fun i H2 => H2 T = some (.lst ((List.replicate i true).map V.bl)) ∧ Same H H2) ⟨upd_same, same_upd hT⟩ (fun i H2 _ h => ⟨Same.kt h.2 _ _ ha, Same.kt h.2 _ _ hb⟩) ?_ ?_
  · rintro i y H2 H3 hi ⟨h2, s2⟩ ⟨T2, x', y', rfl, n2, rfl, g1, g2⟩
    have s3 : Same H2 (upd H2 T2 (.tup [x', y'])) := same_upd n2
    refine ⟨T2, _, rfl, .inl (.inl upd_same), rfl, _, _, rfl, _, _, rfl, rfl, ?_⟩
    refine ⟨rfl, ?_⟩
    refine iteT (B := (upd H2 T2 (.tup [x', y'])) T = some (.lst ((List.replicate (i + 1) true).map V.bl)) ∧ Same H (upd H2 T2 (.tup [x', y']))) ?_
    refine ⟨_, rfl, _, rfl, _, rfl, each i x' y' g1 g2 _ _ _ (s2.trans s3) fun H4 s4 => ?_⟩
    refine ⟨_, s4 _ _ (s3 _ _ h2), ?_, ?_, fun c o z => ?_⟩
    · rw [List.length_map, List.length_replicate]
      exact small1000 (by omega)
    · rw [upd_same, ← rep_snoc, List.map_append]
      rfl
    · rw [upd_ne (ne_of_none z hT)]
      exact s4 _ _ (s3 _ _ (s2 _ _ z))
  · rintro H2 ⟨h2, s2⟩
    refine ⟨T, _, rfl, SqL.of h2, ?_⟩
    rw [all_rep]
    exact q H2 s2
theorem and_true2 {a b : Prop} [Decidable a] [Decidable b] (h1 : a) (h2 : b) : (decide a && decide b) = true := by
  rw [decide_eq_true h1, decide_eq_true h2]
  rfl
theorem ok_is_move {m n : Nat} {f f1 f2 f3 : Addr} {fd fd1 fd2 fd3 : FuncData} {k : Nat} (D : Dn K mg "is_move" s_is_move ["thing", "question", "stand"] f fd) (B : Blt mg) (BS : mg "str" = none) (D_is_number : Dn K mg "is_number" s_is_number ["thing", "least", "most"] f1 fd1) (D_is_integral : Dn K mg "is_integral" s_is_integral ["thing"] f2 fd2)
    (D_is_wait : Dn K mg "is_wait" s_is_wait ["thing", "waiting", "stand"] f3 fd3) (G_is_wait : FnOk P w K mg base CX0 k f3 fd3 ["thing", "waiting", "stand"] (spIsW K m n)) {sp0 : Sp} (G_is_move : FnOk P w K mg base CX0 k f fd ["thing", "question", "stand"] sp0) (hsp : ∀ n', n = n' + 1 → sp0 = spIsM K m n') (hk : 2 ≤ k) :
    FnOk P w K mg base CX0 (k + 1) f fd ["thing", "question", "stand"] (spIsM K m n) := by
  have G_is_number : FnOk P w K mg base CX0 2 f1 fd1 ["thing", "least", "most"] spNumber := ok_is_number D_is_number B D_is_integral
  refine D.F.ok sc_is_move (fun vs H Q E h => ?_) (fun cdv A outer s H vs Q E hr h => ?_)
  · obtain ⟨W, vt, vq, vh, ahead, ahead', t, q, mv, rfl, _⟩ := h
    rfl
  obtain ⟨W, vt, vq, vh, ahead, ahead', t, qn, mv, rfl, hv, hq, hh, hok, qok, nok, mok, q⟩ := h
  have nd := sc_is_move.nd
  have D_is_move := D
  refine ⟨_, (pss_cons (ps_if (PW.pt (pw_or (pt_not (pt_val (pe_callB (k_isi (K := K) rfl) (by rfl) B.isinstance (by decide +kernel) (pa_cons (pv 0) (pa_cons (pe_bltn (v := .ty "tuple") (u := .type "tuple") (by rfl) B.tuple (by decide +kernel) rfl) pa_nil))))) (pw_or (pt_cmpR op_ne (pe_callB (k_len (K := K) rfl) (by rfl) B.len PySem.boot_len (pa_cons (pv 0) pa_nil)) pe_int (nomark _)) (pw_or1 (pt_not (pt_val (pe_callB (k_isi (K := K) rfl) (by rfl) B.isinstance (by decide +kernel) (pa_cons (pe_ix (k_ixT (K := K) rfl) (pv 0) pe_int (fun _ _ => rfl)) (pa_cons (pe_bltn (v := .ty "str") (u := .type "str") (by rfl) BS (by decide +kernel) rfl) pa_nil))))))))) (pss_one (ps_ret pe_bl)) pss_nil)
      (pss_cons (ps_asg (pv 0) (k_tup (K := K) (n := 3) rfl rfl (pgs_cons (pg_name (i := 3) nd rfl (.inl rfl)) (pgs_cons (pg_name (i := 4) nd rfl (.inl rfl)) (pgs_cons (pg_name (i := 5) nd rfl (.inl rfl)) pgs_nil)))))
      (pss_cons (ps_if (pt_cmpR op_eq (pv 3) pe_str (nomark _)) (pss_one (ps_ret (pe_and (pe_call G_is_number (hr.mono (by omega)) (by rfl) D_is_number.m D_is_number.F.kp D_is_number.b .nil pass0 (pa_cons (pv 4) (pa_cons pe_int (pa_cons (pe_op op_sub (pe_callB (k_len (K := K) rfl) (by rfl) B.len PySem.boot_len (pa_cons (pv 1) pa_nil)) pe_int) pa_nil)))) (pe_one (pe_call G_is_wait (hr.mono (by omega)) (by rfl) D_is_wait.m D_is_wait.F.kp D_is_wait.b .nil pass0 (pa_cons (pv 5) (pa_cons (pe_ix (k_ixT (K := K) rfl) (pe_ix (k_ixT (K := K) rfl) (pv 1) (pv 4) (fun _ _ => rfl)) pe_int (fun _ _ => rfl)) (pa_cons (pv 2) pa_nil)))))))) pss_nil)
      (pss_cons (ps_if (PW.pt (pw_or (pt_cmpR op_ne (pv 3) pe_str (nomark _)) (pw_or1 (pt_not (pt_val (pe_call G_is_number (hr.mono (by omega)) (by rfl) D_is_number.m D_is_number.F.kp D_is_number.b .nil pass0 (pa_cons (pv 4) (pa_cons pe_int (pa_cons (pe_op op_sub (pe_callB (k_len (K := K) rfl) (by rfl) B.len PySem.boot_len (pa_cons (pv 2) pa_nil)) pe_int) pa_nil))))))))) (pss_one (ps_ret pe_bl)) pss_nil)
      (pss_cons (ps_if (PW.pt (pw_or (pt_not (pt_val (pe_callB (k_isi (K := K) rfl) (by rfl) B.isinstance (by decide +kernel) (pa_cons (pv 5) (pa_cons (pe_bltn (v := .ty "tuple") (u := .type "tuple") (by rfl) B.tuple (by decide +kernel) rfl) pa_nil))))) (pw_or1 (pt_cmpR op_ne (pe_callB (k_len (K := K) rfl) (by rfl) B.len PySem.boot_len (pa_cons (pv 5) pa_nil)) (pe_callB (k_len (K := K) rfl) (by rfl) B.len PySem.boot_len (pa_cons (pe_ix (k_ixT (K := K) rfl) (pv 2) (pv 4) (fun _ _ => rfl)) pa_nil)) (nomark _))))) (pss_one (ps_ret pe_bl)) pss_nil)
      (pss_one (ps_ret (pe_callB (k_all (K := K) rfl rfl) (by rfl) B.all (by decide +kernel) (pa_cons (pe_lc (own := [("move", 6), ("answer", 7)]) rfl nd (k_zip (K := K) rfl (by rfl) B.zip (pa_cons (pv 5) (pa_cons (pe_ix (k_ixT (K := K) rfl) (pv 2) (pv 4) (fun _ _ => rfl)) pa_nil))) (blkOk_by (own := [("move", 6), ("answer", 7)]) (by kernel_rfl)) (fun _ _ _ _ _ => (k_tup (K := K) (n := 2) rfl rfl (pgs_cons (pg_name (i := 6) nd rfl (.inl rfl)) (pgs_cons (pg_name (i := 7) nd rfl (.inl rfl)) pgs_nil)))) (fun _ _ _ _ _ => pts_nil) (fun _ _ _ _ _ => (pe_call G_is_move (hr.mono (by omega)) (by rfl) D_is_move.m D_is_move.F.kp D_is_move.b .nil pass0 (pa_cons (pv 6) (pa_cons (pv 1) (pa_cons (pe_ix (k_ixT (K := K) rfl) (pv 7) pe_int (fun _ _ => rfl)) pa_nil)))))) pa_nil))))))))), ?_⟩
  obtain ⟨b, ys, rfl, hb, tb⟩ := id hq.tupE
  have ly : ys.length = qn.length := by rw [tb.len, List.length_map]
  rcases mv_cases mok with ⟨j, w', an, em, ea, wok⟩ | ⟨n', en, j, ms, qs, qj, ht, em, et, eq, al⟩
  · rw [em] at hv
    obtain ⟨a, xs, rfl, ha, ta⟩ := hv.tupE
    cases ta with
    | cons t0 ta1 =>
    rename_i v0 xs
    cases ta1 with
    | cons t1 ta2 =>
    rename_i v1 xs
    cases ta2 with
    | cons t2 ta3 =>
    rename_i v2 xs
    cases ta3
    cases t0
    cases t1
    have hj : j < ys.length := by
      rw [ly]
      exact (List.getElem?_eq_some_iff.mp ea).1
    refine ⟨_, rfl, _, _, _, _, true, rfl, .ty "tuple", tyx_tup ha, kit_ty (by decide +kernel), _, rfl, iteF ?_⟩
    refine ⟨_, rfl, a, _, rfl, .inr ha, rfl, _, rfl, iteF ?_⟩
    refine ⟨_, rfl, a, _, 0, _, rfl, rfl, ha, at_of (j := 0) rfl rfl, _, _, _, _, true, rfl, .ty "str", .base (.str _), kit_ty (by decide +kernel), _, rfl, iteF ?_⟩
    refine ⟨_, rfl, a, _, rfl, ha, rfl, _, _, rfl, _, _, rfl, _, _, rfl, rfl, ?_⟩
    refine ⟨_, rfl, rfl, _, rfl, ite2 (fun _ => ?_) (fun c => absurd (decide_eq_true rfl) c)⟩
    refine ⟨_, rfl, _, rfl, b, ys, rfl, .inr hb, _, _, rfl, rfl, (j : Int), 0, (ys.length : Int) - 1, rfl, _, rfl, ite2 (fun _ => ?_) (fun c => absurd (and_true2 (by omega) (by omega)) c)⟩
    obtain ⟨dx, ex, tx⟩ := tb.getV (List.getElem?_eq_getElem hj)
    obtain ⟨an', ea', rfl⟩ := mapAt ex
    rw [ea] at ea'
    cases ea'
    obtain ⟨pn, vw, vz, vt, evn, hpn, tw, tz, tt⟩ := td_an tx
    have gj : ys[j]? = some (.ref pn) := by rw [List.getElem?_eq_getElem hj, evn]
    exact ⟨_, rfl, _, rfl, _, rfl, b, ys, (j : Int), _, rfl, rfl, hb, at_of (j := j) rfl gj, pn, _, 2, _, rfl, rfl, hpn, at_of (j := 2) rfl rfl, _, rfl, W, v2, vt, vh, ahead, an.2.1, t, an.2.2, w', rfl, t2, tt, hh, hok, nok an (List.mem_of_getElem? ea), wok, q⟩
  · subst en
    cases ht
    have hsp := hsp n' rfl
    subst hsp
    rw [em] at hv
    rw [et] at hh
    obtain ⟨a, xs, rfl, ha, ta⟩ := hv.tupE
    cases ta with
    | cons t0 ta1 =>
    rename_i v0 xs
    cases ta1 with
    | cons t1 ta2 =>
    rename_i v1 xs
    cases ta2 with
    | cons t2 ta3 =>
    rename_i v2 xs
    cases ta3
    cases t0
    cases t1
    obtain ⟨pb, bs, rfl, hpb, tbs⟩ := t2.tupE
    obtain ⟨c, zs, rfl, hc, tz⟩ := hh.tupE
    have lz : zs.length = qs.length := by rw [tz.len, List.length_map]
    have lbs : bs.length = ms.length := by rw [tbs.len, List.length_map]
    have lal := al.len
    have hj : j < zs.length := by
      rw [lz]
      exact (List.getElem?_eq_some_iff.mp eq).1
    obtain ⟨qjok, njok⟩ := hok.2 qj (List.mem_of_getElem? eq)
    have q12 := qjok.most
    obtain ⟨dx, ex, tx⟩ := tz.getV (List.getElem?_eq_getElem hj)
    obtain ⟨qj', eq', rfl⟩ := mapAt ex
    rw [eq] at eq'
    cases eq'
    obtain ⟨pj, js, evj, hpj, tpj⟩ := tx.tupE
    have ljs : js.length = qj.length := by rw [tpj.len, List.length_map]
    have gj : zs[j]? = some (.ref pj) := by rw [List.getElem?_eq_getElem hj, evj]
    refine ⟨_, rfl, _, _, _, _, true, rfl, .ty "tuple", tyx_tup ha, kit_ty (by decide +kernel), _, rfl, iteF ?_⟩
    refine ⟨_, rfl, a, _, rfl, .inr ha, rfl, _, rfl, iteF ?_⟩
    refine ⟨_, rfl, a, _, 0, _, rfl, rfl, ha, at_of (j := 0) rfl rfl, _, _, _, _, true, rfl, .ty "str", .base (.str _), kit_ty (by decide +kernel), _, rfl, iteF ?_⟩
    refine ⟨_, rfl, a, _, rfl, ha, rfl, _, _, rfl, _, _, rfl, _, _, rfl, rfl, ?_⟩
    refine ⟨_, rfl, rfl, _, rfl, ite2 (fun c => absurd c (by decide)) (fun _ => ?_)⟩
    refine ⟨_, rfl, rfl, _, rfl, ite2 (fun c => absurd c (by decide)) (fun _ => ?_)⟩
    refine ⟨_, rfl, _, rfl, c, zs, rfl, .inr hc, _, _, rfl, rfl, (j : Int), 0, (zs.length : Int) - 1, rfl, _, rfl, ?_⟩
    rw [and_true2 (show (0 : Int) ≤ (j : Int) by omega) (show (j : Int) ≤ (zs.length : Int) - 1 by omega)]
    refine iteF ?_
    refine ⟨_, rfl, _, _, _, _, true, rfl, .ty "tuple", tyx_tup hpb, kit_ty (by decide +kernel), _, rfl, iteF ?_⟩
    refine ⟨_, rfl, pb, _, rfl, .inr hpb, _, rfl, _, rfl, c, zs, (j : Int), _, rfl, rfl, hc, at_of (j := j) rfl gj, pj, _, rfl, .inr hpj, rfl, _, rfl, ?_⟩
    rw [lbs, ljs, lal, decide_eq_true rfl]
    refine iteF ?_
    refine ⟨_, rfl, _, rfl, _, rfl, c, zs, (j : Int), _, rfl, rfl, hc, at_of (j := j) rfl gj, pb, pj, bs, js, rfl, .inr ⟨hpb, hpj, fun T hT => ?_⟩⟩
    refine lc_it (walk_zipT (K := K) (a := pb) (b := pj) (xs := bs) (ys := js) (n := qj.length) (by omega)) (fun i H2 => H2 T = some (.lst ((List.replicate i true).map V.bl)) ∧ Same H H2) ⟨upd_same, same_upd hT⟩ (fun i H2 _ h => ⟨Same.kt h.2 _ _ hpb, Same.kt h.2 _ _ hpj⟩) ?_ ?_
    · rintro i y H2 H3 hi ⟨h2, s2⟩ ⟨T2, x', y', rfl, n2, rfl, g1, g2⟩
      obtain ⟨dx, ex, tx'⟩ := tbs.getV g1
      obtain ⟨dy, ey, ty⟩ := tpj.getV g2
      obtain ⟨mv', em', rfl⟩ := mapAt ex
      obtain ⟨an, ean, rfl⟩ := mapAt ey
      obtain ⟨mv2, em2, okm⟩ := al.get ean
      rw [em'] at em2
      cases em2
      have s3 : Same H2 (upd H2 T2 (.tup [x', y'])) := same_upd n2
      have k3 := Same.kt (K := K) (s2.trans s3)
      obtain ⟨pn, vw, vz, vt, rfl, hpn, tw, tz', tt⟩ := td_an (ty.keep k3)
      refine ⟨T2, _, rfl, .inl (.inl upd_same), rfl, _, _, rfl, _, _, rfl, rfl, ?_⟩
      refine ⟨rfl, ?_⟩
      refine iteT (B := (upd H2 T2 (.tup [x', .ref pn])) T = some (.lst ((List.replicate (i + 1) true).map V.bl)) ∧ Same H (upd H2 T2 (.tup [x', .ref pn]))) ?_
      refine ⟨_, rfl, _, rfl, _, rfl, pn, _, 2, _, rfl, rfl, hpn, at_of (j := 2) rfl rfl, W, x', .ref b, vt, an.2.1, ahead', an.2.2, qn, mv', rfl, tx'.keep k3, hq.keep k3, tt, njok an (List.mem_of_getElem? ean), qok, nok, okm, fun H4 s4 => ?_⟩
      refine ⟨_, s4 _ _ (s3 _ _ h2), ?_, ?_, fun c o z => ?_⟩
      · rw [List.length_map, List.length_replicate]
        exact small1000 (by omega)
      · rw [upd_same, ← rep_snoc, List.map_append]
        rfl
      · rw [upd_ne (ne_of_none z hT)]
        exact s4 _ _ (s3 _ _ (s2 _ _ z))
    · rintro H2 ⟨h2, s2⟩
      refine ⟨T, _, rfl, SqL.of h2, ?_⟩
      rw [all_rep]
      exact q H2 s2
theorem ok_plans_judged {f f1 f2 f3 : Addr} {fd fd1 fd2 fd3 : FuncData} (D_is_move : Dn K mg "is_move" s_is_move ["thing", "question", "stand"] f fd) (B : Blt mg) (BS : mg "str" = none) (D_is_number : Dn K mg "is_number" s_is_number ["thing", "least", "most"] f1 fd1) (D_is_integral : Dn K mg "is_integral" s_is_integral ["thing"] f2 fd2)
    (D_is_wait : Dn K mg "is_wait" s_is_wait ["thing", "waiting", "stand"] f3 fd3) :
    ∀ m n : Nat, n ≤ 6 → FnOk P w K mg base CX0 (2 + 8 * m) f3 fd3 ["thing", "waiting", "stand"] (spIsW K m n) ∧ FnOk P w K mg base CX0 (3 + 8 * m + n) f fd ["thing", "question", "stand"] (spIsM K m n) := by
  have no : ∀ k, FnOk P w K mg base CX0 k f fd ["thing", "question", "stand"] (fun _ _ _ _ => False) := fun k => ⟨fun vs H Q E h => h.elim, fun A outer s H args us vs Q E _ _ _ _ h => h.elim⟩
  have step : ∀ m : Nat, (∀ m', m = m' + 1 → ∀ n, n ≤ 6 → FnOk P w K mg base CX0 (3 + 8 * m' + n) f fd ["thing", "question", "stand"] (spIsM K m' n)) → ∀ n : Nat, n ≤ 6 → FnOk P w K mg base CX0 (2 + 8 * m) f3 fd3 ["thing", "waiting", "stand"] (spIsW K m n) ∧ FnOk P w K mg base CX0 (3 + 8 * m + n) f fd ["thing", "question", "stand"] (spIsM K m n) := by
    intro m IH
    have wait : ∀ n : Nat, n ≤ 6 → FnOk P w K mg base CX0 (2 + 8 * m) f3 fd3 ["thing", "waiting", "stand"] (spIsW K m n) := by
      intro n hn
      cases m with
      | zero => exact ok_is_wait (k := 1) D_is_wait B D_is_move (no 1) (fun m' e => by omega)
      | succ m' =>
        have G := IH m' rfl n hn
        rw [show 2 + 8 * (m' + 1) = (9 + 8 * m') + 1 by omega]
        exact ok_is_wait D_is_wait B D_is_move (G.mono (by omega)) (fun m2 e => by rw [show m2 = m' by omega])
    have move : ∀ n : Nat, n ≤ 6 → FnOk P w K mg base CX0 (3 + 8 * m + n) f fd ["thing", "question", "stand"] (spIsM K m n) := by
      intro n
      induction n with
      | zero =>
        intro hn
        rw [show 3 + 8 * m + 0 = (2 + 8 * m) + 1 by omega]
        exact ok_is_move D_is_move B BS D_is_number D_is_integral D_is_wait (wait 0 hn) (no _) (fun n' e => by omega) (by omega)
      | succ n ih =>
        intro hn
        rw [show 3 + 8 * m + (n + 1) = (3 + 8 * m + n) + 1 by omega]
        exact ok_is_move D_is_move B BS D_is_number D_is_integral D_is_wait ((wait (n + 1) hn).mono (by omega)) (ih (by omega)) (fun n' e => by rw [show n' = n by omega]) (by omega)
    exact fun n hn => ⟨wait n hn, move n hn⟩
  intro m
  induction m with
  | zero => exact step 0 (fun m' e => by omega)
  | succ m ih => exact step (m + 1) (fun m' e n hn => by rw [show m' = m by omega]; exact (ih n hn).2)
end
end Tl
namespace Tl
open PySem PySem.Spec PyProof.Rows L2 RZ
/-! ### go-betweens judged: right ones -/
def spShare (K : PySem.W.Frag) : Sp := fun vs H Q _ => ∃ (v : V) (q : Rat), vs = [v] ∧ Td K H v (rD q) ∧ 0 < q ∧ q ≤ 1 ∧ Q (.bl true) H
def spAreSh (K : PySem.W.Frag) : Sp := fun vs H Q _ => ∃ (a : Addr) (us : List V) (rs : List Rat), vs = [.ref a] ∧ H a = some (.lst us) ∧ TdAll K H us (rs.map rD) ∧ rs.length ≤ 4 ∧ (∀ r ∈ rs, Ch 2 r ∧ 0 < r) ∧ fsum rs = 1 ∧ ∀ H', Same H H' → Q (.bl true) H'
def spAlike (C : Addr) : Sp := fun vs H Q _ => ∃ (p p' : Addr) (W : Nat) (v v' : V), vs = [.ref p, .ref p'] ∧ HouseAt C H p W v ∧ HouseAt C H p' W v' ∧ Q .non H
def spIsPlan (K : PySem.W.Frag) (C : Addr) (m n : Nat) : Sp := fun vs H Q _ => ∃ (p p' : Addr) (W : Nat) (v v' vt : V) (t : Nd n) (gs : Nd m) (wt : Wt m n), vs = [.ref p, .ref p', vt] ∧ HsOk K C H p W n t v ∧ HsOk K C H p' W m gs v' ∧ Td K H vt (waitD m n wt) ∧ WtOk m n t gs wt ∧ n ≤ 6 ∧ ∀ H', Same H H' → Q (.bl true) H'
def spIsSP (K : PySem.W.Frag) (C : Addr) (m n : Nat) : Sp := fun vs H Q _ => ∃ (p p' : Addr) (W : Nat) (v v' vt : V) (t : Nd n) (gs : Nd m) (x : Rat × Wt m n), vs = [.ref p, .ref p', vt] ∧ HsOk K C H p W n t v ∧ HsOk K C H p' W m gs v' ∧ Td K H vt (bwI m n x) ∧ WtOk m n t gs x.2 ∧ n ≤ 6 ∧ ∀ H', Same H H' → Q (.bl true) H'
def spIsGB (K : PySem.W.Frag) (C : Addr) (m n : Nat) : Sp := fun vs H Q _ => ∃ (p p' : Addr) (W : Nat) (v v' vt : V) (t : Nd n) (gs : Nd m) (bs : Bw m n), vs = [.ref p, .ref p', vt] ∧ HsOk K C H p W n t v ∧ HsOk K C H p' W m gs v' ∧ Td K H vt (bwD m n bs) ∧ BwOk m n t gs bs ∧ n ≤ 6 ∧ ∀ H', Same H H' → Q (.bl true) H'
def spCkB (K : PySem.W.Frag) (C : Addr) (m n : Nat) : Sp := fun vs H Q _ => ∃ (p p' : Addr) (W : Nat) (v v' vt : V) (t : Nd n) (gs : Nd m) (bs : Bw m n), vs = [.ref p, .ref p', vt] ∧ HsOk K C H p W n t v ∧ HsOk K C H p' W m gs v' ∧ Td K H vt (bwD m n bs) ∧ BwOk m n t gs bs ∧ n ≤ 6 ∧ ∀ H', Same H H' → Q .non H'
section
variable {P : Program} {w : World} {K : PySem.W.Frag} {mg : Str → Option Value} {base : Heap} {aN aO : Addr} {t1 t2 t3 t4 t5 t6 t7 : Tok}
theorem ok_is_share {f f1 f2 f3 : Addr} {fd fd1 fd2 fd3 : FuncData} (D : Dn K mg "is_share" s_is_share ["thing"] f fd) (B : Blt mg) (C : Cst K mg aN aO t1 t2 t3 t4 t5 t6 t7) (D_is_integral : Dn K mg "is_integral" s_is_integral ["thing"] f1 fd1) (D_is_fraction : Dn K mg "is_fraction" s_is_fraction ["thing"] f2 fd2) (D_is_chance : Dn K mg "is_chance" s_is_chance ["thing"] f3 fd3) : FnOk P w K mg base CX0 4 f fd ["thing"] (spShare K) := by
  have G_is_chance : FnOk P w K mg base CX0 3 f3 fd3 ["thing"] (spChance K) := ok_is_chance D_is_chance B C D_is_integral D_is_fraction
  refine D.F.ok sc_is_share (fun vs H Q E h => ?_) (fun cdv A outer s H vs Q E hr h => ?_)
  · obtain ⟨v, q, rfl, _⟩ := h
    rfl
  obtain ⟨v, r, rfl, hv, h0, h1, q⟩ := h
  have nd := sc_is_share.nd
  refine ⟨_, (pss_one (ps_ret (pe_and (pe_call G_is_chance (hr.mono (by omega)) (by rfl) D_is_chance.m D_is_chance.F.kp D_is_chance.b .nil pass0 (pa_cons (pv 0) pa_nil)) (pe_one (pe_cmpR op_gt (pe_ix (k_ixT (K := K) rfl) (pv 0) pe_int (fun _ _ => rfl)) pe_int (nomark _)))))), ?_⟩
  obtain ⟨a, rfl, ha⟩ := id hv.rE
  have hp : 0 < r.num := by
    have a1 := (Rat.lt_iff 0 r).mp h0
    have e0 : (0 : Rat).num = 0 := rfl
    have e1 : (0 : Rat).den = 1 := rfl
    rw [e0, e1] at a1
    omega
  refine ⟨_, rfl, _, r, rfl, hv, Rat.le_of_lt h0, h1, _, rfl, iteT ⟨_, rfl, a, _, 0, _, rfl, rfl, ha, at_of (j := 0) rfl rfl, _, _, rfl, rfl, ?_⟩⟩
  show Q (.bl (decide (0 < r.num))) H
  rw [decide_eq_true hp]
  exact q
theorem ok_are_shares {f f1 f2 f3 f4 f5 f6 f7 : Addr} {fd fd1 fd2 fd3 fd4 fd5 fd6 fd7 : FuncData} (D : Dn K mg "are_shares" s_are_shares ["things"] f fd) (B : Blt mg) (C : Cst K mg aN aO t1 t2 t3 t4 t5 t6 t7) (D_is_integral : Dn K mg "is_integral" s_is_integral ["thing"] f1 fd1) (D_is_fraction : Dn K mg "is_fraction" s_is_fraction ["thing"] f2 fd2) (D_is_chance : Dn K mg "is_chance" s_is_chance ["thing"] f3 fd3) (D_is_share : Dn K mg "is_share" s_is_share ["thing"] f4 fd4)
    (D_total : Dn K mg "total" s_total ["fractions"] f5 fd5) (D_reduced : Dn K mg "reduced" s_reduced ["top", "bottom"] f6 fd6) (D_added : DTot K mg f7 fd7) : FnOk P w K mg base CX0 5 f fd ["things"] (spAreSh K) := by
  have G_is_share : FnOk P w K mg base CX0 4 f4 fd4 ["thing"] (spShare K) := ok_is_share D_is_share B C D_is_integral D_is_fraction D_is_chance
  have G_total : FnOk P w K mg base CX0 3 f5 fd5 ["fractions"] (spTotal K) := ok_total D_total B C D_reduced D_added
  refine D.F.ok sc_are_shares (fun vs H Q E h => ?_) (fun cdv A outer s H vs Q E hr h => ?_)
  · obtain ⟨a, us, rs, rfl, _⟩ := h
    rfl
  obtain ⟨a, us, rs, rfl, ha, ta, l3, hch, hs, q⟩ := h
  have nd := sc_are_shares.nd
  refine ⟨_, (pss_one (ps_ret (pe_and (pe_callB (k_all (K := K) rfl rfl) (by rfl) B.all (by decide +kernel) (pa_cons (pe_lc (own := [("thing", 1)]) rfl nd (k_iL (K := K) rfl (pv 0)) (blkOk_by (own := [("thing", 1)]) (by kernel_rfl)) (fun _ _ _ _ _ => (pg_name (i := 1) nd rfl (.inl rfl))) (fun _ _ _ _ _ => pts_nil) (fun _ _ _ _ _ => (pe_call G_is_share (hr.mono (by omega)) (by rfl) D_is_share.m D_is_share.F.kp D_is_share.b .nil pass0 (pa_cons (pv 1) pa_nil)))) pa_nil)) (pe_one (pe_cmpR (k_eqD (K := K) rfl hr.units) (pe_call G_total (hr.mono (by omega)) (by rfl) D_total.m D_total.F.kp D_total.b .nil pass0 (pa_cons (pv 0) pa_nil)) (pe_glob (v := .ref _) rfl C.ONE rfl) (nomark _)))))), ?_⟩
  have lu : us.length = rs.length := by rw [ta.len, List.length_map]
  refine ⟨_, rfl, a, rfl, ⟨_, SqL.of ha⟩, fun T hT => ?_⟩
  refine lc_it (walk_list (K := K) (a := a) (xs := us)) (fun i H2 => H2 T = some (.lst ((List.replicate i true).map V.bl)) ∧ Same H H2) ⟨upd_same, same_upd hT⟩ (fun i H2 _ h => SqL.of (h.2 _ _ ha)) ?_ ?_
  · rintro i x H0 H2 hi ⟨h2, s2⟩ ⟨rfl, e1⟩
    obtain ⟨dx, ex, tx⟩ := ta.getV e1
    obtain ⟨r, er, rfl⟩ := mapAt ex
    obtain ⟨c1, c2⟩ := hch r (List.mem_of_getElem? er)
    refine ⟨rfl, ?_⟩
    refine iteT (B := H2 T = some (.lst ((List.replicate (i + 1) true).map V.bl)) ∧ Same H H2) ?_
    refine ⟨_, rfl, x, r, rfl, tx.keep (Same.kt s2), c2, c1.2.1, _, h2, ?_, ?_, fun c o y => ?_⟩
    · rw [List.length_map, List.length_replicate]
      exact small1000 (by omega)
    · rw [upd_same, ← rep_snoc, List.map_append]
      rfl
    · rw [upd_ne (ne_of_none y hT)]
      exact s2 _ _ y
  · rintro H2 ⟨h2, s2⟩
    refine ⟨T, _, rfl, SqL.of h2, ?_⟩
    rw [all_rep]
    refine ⟨_, rfl, iteT ?_⟩
    obtain ⟨e, d0, d1, ab⟩ := tot_fd (k := 2) (m := 1) (fun r hr => (hch r hr).1.fd) (by decide) (Nat.le_trans (show rs.length * 1 ≤ 2 ^ 3 by omega) (Nat.pow_le_pow_right (by decide) (by decide)))
    refine ⟨_, rfl, a, us, LL ^ 2, rs.map (frN (LL ^ 2)), rfl, .inl (SqL.of (s2 _ _ ha)), by rw [e]; exact ta.keep (Same.kt s2), d0, d1, ab, by rw [List.length_map]; omega, fun v2 H3 s3 tv => ?_⟩
    rw [e, hs] at tv
    have tO := td_inj (C.tO H3)
    refine ⟨rD 1, rD 1, tv.dp, tO.dp, (good_rD 1).shaped (by decide), (good_rD 1).shaped (by decide), ?_⟩
    rw [(good_rD 1).refl]
    exact q H3 (s2.trans s3)
theorem ok_check_alike {Cc fi fe f : Addr} {fd : FuncData} (D : Dn K mg "check_alike" s_check_alike ["house", "other"] f fd) (U : Hcl K mg Cc fi fe) : FnOk P w K mg base CX0 1 f fd ["house", "other"] (spAlike Cc) := by
  refine D.F.ok sc_check_alike (fun vs H Q E h => ?_) (fun cdv A outer s H vs Q E hr h => ?_)
  · obtain ⟨p, p', W, v, v', rfl, _⟩ := h
    rfl
  obtain ⟨p, p', W, v, v', rfl, ⟨d, e⟩, ⟨d', e'⟩, q⟩ := h
  have nd := sc_check_alike.nd
  refine ⟨_, (pss_one (ps_if (pt_cmpR op_ne (k_fld (K := K) rfl (pv 0) rfl) (k_fld (K := K) rfl (pv 1) rfl) (nomark _)) (pss_one ps_never) pss_nil)), ?_⟩
  refine ⟨_, rfl, p, Cc, d, _, _, rfl, e, U.cl, U.nw, hf_w _ _, _, rfl, p', Cc, d', _, _, rfl, e', U.cl, U.nw, hf_w _ _, rfl, _, rfl, ?_⟩
  rw [decide_eq_true rfl]
  exact iteF q
theorem ok_is_plan {m n : Nat} {Cc fi fe f f1 f2 : Addr} {fd fd1 fd2 : FuncData} {k : Nat} (D : Dn K mg "is_plan" s_is_plan ["house", "other", "thing"] f fd) (U : Hcl K mg Cc fi fe) (D_check_alike : Dn K mg "check_alike" s_check_alike ["house", "other"] f1 fd1) (D_is_wait : Dn K mg "is_wait" s_is_wait ["thing", "waiting", "stand"] f2 fd2)
    (G_is_wait : FnOk P w K mg base CX0 k f2 fd2 ["thing", "waiting", "stand"] (spIsW K m n)) (hk : 1 ≤ k) : FnOk P w K mg base CX0 (k + 1) f fd ["house", "other", "thing"] (spIsPlan K Cc m n) := by
  have G_check_alike : FnOk P w K mg base CX0 1 f1 fd1 ["house", "other"] (spAlike Cc) := ok_check_alike D_check_alike U
  refine D.F.ok sc_is_plan (fun vs H Q E h => ?_) (fun cdv A outer s H vs Q E hr h => ?_)
  · obtain ⟨p, p', W, v, v', vt, t, gs, wt, rfl, _⟩ := h
    rfl
  obtain ⟨p, p', W, v, v', vt, t, gs, wt, rfl, h1, h2, tv, ok, hn, q⟩ := h
  have nd := sc_is_plan.nd
  refine ⟨_, (pss_cons (ps_expr (pe_call G_check_alike (hr.mono (by omega)) (by rfl) D_check_alike.m D_check_alike.F.kp D_check_alike.b .nil pass0 (pa_cons (pv 0) (pa_cons (pv 1) pa_nil))))
      (pss_one (ps_ret (pe_call G_is_wait (hr.mono (by omega)) (by rfl) D_is_wait.m D_is_wait.F.kp D_is_wait.b .nil pass0 (pa_cons (pv 2) (pa_cons (k_fld (K := K) rfl (pv 1) rfl) (pa_cons (k_fld (K := K) rfl (pv 0) rfl) pa_nil))))))), ?_⟩
  obtain ⟨d, e⟩ := id h1.at_
  obtain ⟨d', e'⟩ := id h2.at_
  exact ⟨_, rfl, _, rfl, p, p', W, v, v', rfl, h1.at_, h2.at_, _, rfl, _, rfl, p', Cc, d', _, _, rfl, e', U.cl, U.nt, hf_t _ _, _, rfl, p, Cc, d, _, _, rfl, e, U.cl, U.nt, hf_t _ _, W, vt, v', v, ones W, ones W, t, gs, wt, rfl, tv, h2.td, h1.td, h1.ok, h2.ok, ok, q⟩
theorem ok_is_shared_plan {m n : Nat} {Cc f f1 : Addr} {fd fd1 : FuncData} {k : Nat} (D : Dn K mg "is_shared_plan" s_is_shared_plan ["house", "other", "thing"] f fd) (B : Blt mg) (D_is_plan : Dn K mg "is_plan" s_is_plan ["house", "other", "thing"] f1 fd1)
    (G_is_plan : FnOk P w K mg base CX0 k f1 fd1 ["house", "other", "thing"] (spIsPlan K Cc m n)) : FnOk P w K mg base CX0 (k + 1) f fd ["house", "other", "thing"] (spIsSP K Cc m n) := by
  refine D.F.ok sc_is_shared_plan (fun vs H Q E h => ?_) (fun cdv A outer s H vs Q E hr h => ?_)
  · obtain ⟨p, p', W, v, v', vt, t, gs, x, rfl, _⟩ := h
    rfl
  obtain ⟨p, p', W, v, v', vt, t, gs, x, rfl, h1, h2, tv, ok, hn, q⟩ := h
  have nd := sc_is_shared_plan.nd
  refine ⟨_, (pss_one (ps_ret (pe_and (pe_callB (k_isi (K := K) rfl) (by rfl) B.isinstance (by decide +kernel) (pa_cons (pv 2) (pa_cons (pe_bltn (v := .ty "tuple") (u := .type "tuple") (by rfl) B.tuple (by decide +kernel) rfl) pa_nil))) (pe_and (pe_cmpR op_eq (pe_callB (k_len (K := K) rfl) (by rfl) B.len PySem.boot_len (pa_cons (pv 2) pa_nil)) pe_int (nomark _)) (pe_one (pe_call G_is_plan (hr.mono (by omega)) (by rfl) D_is_plan.m D_is_plan.F.kp D_is_plan.b .nil pass0 (pa_cons (pv 0) (pa_cons (pv 1) (pa_cons (pe_ix (k_ixT (K := K) rfl) (pv 2) pe_int (fun _ _ => rfl)) pa_nil))))))))), ?_⟩
  obtain ⟨a, v0, v1, rfl, ha, t0, t1'⟩ := td_two tv
  refine ⟨_, rfl, _, _, _, _, true, rfl, .ty "tuple", tyx_tup ha, kit_ty (by decide +kernel), _, rfl, iteT ?_⟩
  refine ⟨_, rfl, a, _, rfl, .inr ha, rfl, _, rfl, ite2 (fun _ => ?_) (fun c => absurd (decide_eq_true rfl) c)⟩
  exact ⟨_, rfl, _, rfl, _, rfl, a, _, 1, v1, rfl, rfl, ha, at_of (j := 1) rfl rfl, p, p', W, v, v', v1, t, gs, x.2, rfl, h1, h2, t1', ok, hn, q⟩
theorem ok_is_go_between {m n : Nat} {Cc f f1 f2 : Addr} {fd fd1 fd2 : FuncData} {k : Nat} (D : Dn K mg "is_go_between" s_is_go_between ["house", "other", "thing"] f fd) (B : Blt mg) (D_is_shared_plan : Dn K mg "is_shared_plan" s_is_shared_plan ["house", "other", "thing"] f1 fd1) (G_is_shared_plan : FnOk P w K mg base CX0 k f1 fd1 ["house", "other", "thing"] (spIsSP K Cc m n))
    (D_are_shares : Dn K mg "are_shares" s_are_shares ["things"] f2 fd2) (G_are_shares : FnOk P w K mg base CX0 5 f2 fd2 ["things"] (spAreSh K)) (hk : 5 ≤ k) : FnOk P w K mg base CX0 (k + 1) f fd ["house", "other", "thing"] (spIsGB K Cc m n) := by
  refine D.F.ok sc_is_go_between (fun vs H Q E h => ?_) (fun cdv A outer s H vs Q E hr h => ?_)
  · obtain ⟨p, p', W, v, v', vt, t, gs, bs, rfl, _⟩ := h
    rfl
  obtain ⟨p, p', W, v, v', vt, t, gs, bs, rfl, h1, h2, tv, ok, hn, q⟩ := h
  have nd := sc_is_go_between.nd
  refine ⟨_, (pss_cons (ps_if (PW.pt (pw_or (pt_not (pt_val (pe_callB (k_isi (K := K) rfl) (by rfl) B.isinstance (by decide +kernel) (pa_cons (pv 2) (pa_cons (pe_bltn (v := .ty "tuple") (u := .type "tuple") (by rfl) B.tuple (by decide +kernel) rfl) pa_nil))))) (pw_or1 (pt_not (pt_val (pe_callB (k_all (K := K) rfl rfl) (by rfl) B.all (by decide +kernel) (pa_cons (pe_lc (own := [("pair", 3)]) rfl nd (k_iT (K := K) rfl (pv 2)) (blkOk_by (own := [("pair", 3)]) (by kernel_rfl)) (fun _ _ _ _ _ => (pg_name (i := 3) nd rfl (.inl rfl))) (fun _ _ _ _ _ => pts_nil) (fun _ _ _ _ _ => (pe_call G_is_shared_plan (hr.mono (by omega)) (by rfl) D_is_shared_plan.m D_is_shared_plan.F.kp D_is_shared_plan.b .nil pass0 (pa_cons (pv 0) (pa_cons (pv 1) (pa_cons (pv 3) pa_nil)))))) pa_nil))))))) (pss_one (ps_ret pe_bl)) pss_nil)
      (pss_one (ps_ret (pe_call G_are_shares (hr.mono (by omega)) (by rfl) D_are_shares.m D_are_shares.F.kp D_are_shares.b .nil pass0 (pa_cons (pe_lc (own := [("pair", 3)]) rfl nd (k_iT (K := K) rfl (pv 2)) (blkOk_by (own := [("pair", 3)]) (by kernel_rfl)) (fun _ _ _ _ _ => (pg_name (i := 3) nd rfl (.inl rfl))) (fun _ _ _ _ _ => pts_nil) (fun _ _ _ _ _ => (pe_ix (k_ixT (K := K) rfl) (pv 3) pe_int (fun _ _ => rfl)))) pa_nil))))), ?_⟩
  obtain ⟨a, xs, rfl, ha, ta⟩ := tv.tupE
  have lx : xs.length = bs.length := by rw [ta.len, List.length_map]
  have l3 := ok.most
  refine ⟨_, rfl, _, _, _, _, true, rfl, .ty "tuple", tyx_tup ha, kit_ty (by decide +kernel), _, rfl, iteF ?_⟩
  refine ⟨_, rfl, a, rfl, ⟨_, ha⟩, fun T hT => ?_⟩
  refine lc_it (walk_tup (K := K) (a := a) (xs := xs)) (fun i H2 => H2 T = some (.lst ((List.replicate i true).map V.bl)) ∧ Same H H2) ⟨upd_same, same_upd hT⟩ (fun i H2 _ h => Same.kt h.2 _ _ ha) ?_ ?_
  · rintro i x H0 H2 hi ⟨h2', s2⟩ ⟨rfl, e1⟩
    obtain ⟨dx, ex, tx⟩ := ta.getV e1
    obtain ⟨b, eb, rfl⟩ := mapAt ex
    have mb := List.mem_of_getElem? eb
    refine ⟨rfl, ?_⟩
    refine iteT (B := H2 T = some (.lst ((List.replicate (i + 1) true).map V.bl)) ∧ Same H H2) ?_
    refine ⟨_, rfl, _, rfl, _, rfl, p, p', W, v, v', x, t, gs, b, rfl, h1.keep s2, h2.keep s2, tx.keep (Same.kt s2), ok.ok b mb, hn, fun H3 s3 => ?_⟩
    refine ⟨_, s3 _ _ h2', ?_, ?_, fun c o y => ?_⟩
    · rw [List.length_map, List.length_replicate]
      exact small1000 (by omega)
    · rw [upd_same, ← rep_snoc, List.map_append]
      rfl
    · rw [upd_ne (ne_of_none y hT)]
      exact s3 _ _ (s2 _ _ y)
  · rintro H2 ⟨h2', s2⟩
    refine ⟨T, _, rfl, SqL.of h2', ?_⟩
    rw [all_rep]
    refine ⟨_, rfl, iteF ?_⟩
    have ha2 := Same.kt (K := K) s2 _ _ ha
    have ta2 := ta.keep (Same.kt s2)
    refine ⟨_, rfl, a, rfl, ⟨_, ha2⟩, fun T3 hT3 => ?_⟩
    have sT3 := same_upd (o := .lst []) hT3
    refine lc_it (walk_tup (K := K) (a := a) (xs := xs)) (fun i H3 => ∃ us : List V, H3 T3 = some (.lst us) ∧ TdAll K H3 us ((bs.take i).map fun b => rD b.1) ∧ Same H2 H3) ⟨[], upd_same, .nil, sT3⟩ (fun i H3 _ h => by obtain ⟨_, _, _, s3⟩ := h; exact Same.kt s3 _ _ ha2) ?_ ?_
    · rintro i x H0 H3 hi ⟨us, h3, t3, s3⟩ ⟨rfl, e1⟩
      obtain ⟨dx, ex, tx⟩ := (ta2.keep (Same.kt s3)).getV e1
      obtain ⟨b, eb, rfl⟩ := mapAt ex
      obtain ⟨pb, v0, v1, rfl, hpb, t0, t1'⟩ := td_two tx
      refine ⟨rfl, ?_⟩
      refine iteT (B := ∃ us : List V, H3 T3 = some (.lst us) ∧ TdAll K H3 us ((bs.take (i + 1)).map fun b => rD b.1) ∧ Same H2 H3) ?_
      have kT : KT K H3 (upd H3 T3 (.lst (us ++ [v0]))) := KT.updL h3
      refine ⟨_, rfl, pb, _, 0, v0, rfl, rfl, hpb, at_of (j := 0) rfl rfl, us, h3, ?_, us ++ [v0], upd_same, ?_, fun c o y => ?_⟩
      · rw [t3.len, List.length_map, List.length_take]
        exact small1000 (by omega)
      · rw [List.take_add_one, eb, List.map_append]
        exact (t3.keep kT).app (.cons (t0.keep kT) .nil)
      · rw [upd_ne (ne_of_none y hT3)]
        exact s3 _ _ y
    · rintro H3 ⟨us, h3, t3, s3⟩
      rw [lx, List.take_length] at t3
      have t3' : TdAll K H3 us ((bs.map (·.1)).map rD) := by
        rw [List.map_map]
        exact t3
      refine ⟨T3, us, bs.map (·.1), rfl, h3, t3', by rw [List.length_map]; exact l3, fun r hr => ?_, ok.sum, fun H4 s4 => q H4 (s2.trans (s3.trans s4))⟩
      obtain ⟨b, hb, rfl⟩ := List.mem_map.mp hr
      exact ok.ch b hb
theorem ok_check_between {m n : Nat} {Cc f f1 : Addr} {fd fd1 : FuncData} {k : Nat} (D : Dn K mg "check_between" s_check_between ["house", "other", "thing"] f fd) (D_is_go_between : Dn K mg "is_go_between" s_is_go_between ["house", "other", "thing"] f1 fd1)
    (G_is_go_between : FnOk P w K mg base CX0 k f1 fd1 ["house", "other", "thing"] (spIsGB K Cc m n)) : FnOk P w K mg base CX0 (k + 1) f fd ["house", "other", "thing"] (spCkB K Cc m n) := by
  refine D.F.ok sc_check_between (fun vs H Q E h => ?_) (fun cdv A outer s H vs Q E hr h => ?_)
  · obtain ⟨p, p', W, v, v', vt, t, gs, bs, rfl, _⟩ := h
    rfl
  obtain ⟨p, p', W, v, v', vt, t, gs, bs, rfl, h1, h2, tv, ok, hn, q⟩ := h
  have nd := sc_check_between.nd
  refine ⟨_, (pss_one (ps_if (pt_not (pt_val (pe_call G_is_go_between (hr.mono (by omega)) (by rfl) D_is_go_between.m D_is_go_between.F.kp D_is_go_between.b .nil pass0 (pa_cons (pv 0) (pa_cons (pv 1) (pa_cons (pv 2) pa_nil)))))) (pss_one ps_never) pss_nil)), ?_⟩
  exact ⟨_, rfl, _, rfl, _, rfl, p, p', W, v, v', vt, t, gs, bs, rfl, h1, h2, tv, ok, hn, fun H1 s1 => ⟨_, rfl, iteF (q H1 s1)⟩⟩
end
end Tl
namespace Tl
open PySem PySem.Spec PyProof.Rows L2 RZ
/-- right nodes, their weights known more sharply -/
def NdP (W : Nat) : (n : Nat) → List Rat → Nd n → Prop
  | 0, _, _ => True
  | n + 1, ahead, qs => (show List (Qn n) from qs).length ≤ 5 ∧ ∀ q ∈ (show List (Qn n) from qs), (QnOk W ahead q ∧ ∀ a ∈ q, ∀ r ∈ a.2.1, Ch 4 r) ∧ ∀ a ∈ q, NdP W n a.2.1 a.2.2
theorem NdP.ok : ∀ {W n : Nat} {ahead : List Rat} {t : Nd n}, NdP W n ahead t → NdOk W n ahead t
  | _, 0, _, _, _ => trivial
  | _, _ + 1, _, _, h => ⟨h.1, fun q hq => ⟨(h.2 q hq).1.1, fun a ha => ((h.2 q hq).2 a ha).ok⟩⟩
theorem NdG.p : ∀ {W n : Nat} {ahead : List Rat} {t : Nd n}, NdG W n ahead t → NdP W n ahead t
  | _, 0, _, _, _ => trivial
  | _, _ + 1, _, _, h => ⟨h.1, fun q hq => ⟨⟨(h.2 q hq).1.1, fun a ha r hr => ((h.2 q hq).1.2 a ha r hr).mono (by decide)⟩, fun a ha => ((h.2 q hq).2 a ha).p⟩⟩
/-! ### holders of a wait, and what a move tells of them -/
structure Hd (m : Nat) where
  sh : Rat
  ws : List Rat
  n : Nat
  t : Nd n
  w : Wt m n
def hdD (Z : Nat) {m : Nat} (h : Hd m) : PyData := .tuple [.int (frN Z h.sh), wsD h.ws, ndD h.n h.t, waitD m h.n h.w]
def telD (Z : Nat) {m : Nat} (x : Nat × Hd m) : PyData := .tuple [.int (x.1 : Int), hdD Z x.2]
def tels {m : Nat} (sh : Rat) : (n : Nat) → List Rat → Nd n → Mv m n → List (Nat × Hd m)
  | 0, ws, t, x => [(x.1, ⟨sh, ws, 0, t, x.2⟩)]
  | n + 1, ws, t, .inl x => [(x.1, ⟨sh, ws, n + 1, t, x.2⟩)]
  | n + 1, _, t, .inr x => match (show List (Qn n) from t)[x.1]? with
    | some qn => (List.zipWith (fun (an : An n) (y : Mv m n) => if isZ an.2.1 then [] else tels sh n an.2.1 an.2.2 y) qn x.2).flatten
    | none => []
theorem flat_take {α : Type} {l : List (List α)} {i : Nat} {a : List α} (h : l[i]? = some a) : (l.take (i + 1)).flatten = (l.take i).flatten ++ a := by
  rw [List.take_add_one, h, List.flatten_append]
  exact congrArg (_ ++ ·) (List.append_nil a)
theorem tels_len {m : Nat} {sh : Rat} {q : Qn m} : ∀ {n : Nat} {ws : List Rat} {t : Nd n} {mv : Mv m n}, MvOk (WtOk m) n t q mv → (tels sh n ws t mv).length ≤ 1 + cnt n t
  | 0, _, _, _, _ => Nat.le_add_right 1 _
  | n + 1, _, _, .inl _, _ => Nat.le_add_right 1 _
  | n + 1, _, t, .inr x, h => by
    obtain ⟨qn, e, al⟩ := h
    have one : ∀ (q' : Qn n) (ms : List (Mv m n)), Al (fun (an : An n) (y : MvT (Wt m) n) => MvOk (WtOk m) n an.2.2 q y) q' ms → (List.zipWith (fun (an : An n) (y : Mv m n) => if isZ an.2.1 then [] else tels sh n an.2.1 an.2.2 y) q' ms).flatten.length ≤ cntQ n q' := by
      intro q' ms al
      induction al with
      | nil => exact Nat.zero_le _
      | cons h hal ih =>
        rename_i an y as bs
        rw [List.zipWith_cons_cons, List.flatten_cons, List.length_append, cntQ_cons]
        have := tels_len (sh := sh) (ws := an.2.1) h
        split
        · rw [List.length_nil]
          omega
        · omega
    have c1 := cnt_le_of_mem (List.mem_of_getElem? e)
    have c2 := one qn x.2 al
    show (match (show List (Qn n) from t)[x.1]? with
      | some qn => (List.zipWith (fun (an : An n) (y : Mv m n) => if isZ an.2.1 then [] else tels sh n an.2.1 an.2.2 y) qn x.2).flatten
      | none => []).length ≤ _
    rw [e]
    have c3 : cntQ n qn ≤ cnt (n + 1) t := c1
    exact Nat.le_trans c2 (by omega)
theorem mv_casesT {m n : Nat} {t : Nd n} {q : Qn m} {mv : Mv m n} (sh : Rat) (ws : List Rat) (h : MvOk (WtOk m) n t q mv) : (∃ (a : Nat) (w : Wt m n), mvD (waitD m) n mv = tellD a (waitD m n w) ∧ tels sh n ws t mv = [(a, ⟨sh, ws, n, t, w⟩)]) ∨
    (∃ (n' : Nat) (e : n = n' + 1) (i : Nat) (ms : List (Mv m n')) (qs : List (Qn n')) (qn : Qn n'), HEq t qs ∧ mvD (waitD m) n mv = askD2 i (ms.map (mvD (waitD m) n')) ∧ ndD n t = .tuple (qs.map (qnD n')) ∧ qs[i]? = some qn ∧ Al (fun (an : An n') (y : Mv m n') => MvOk (WtOk m) n' an.2.2 q y) qn ms ∧
      tels sh n ws t mv = (List.zipWith (fun (an : An n') (y : Mv m n') => if isZ an.2.1 then [] else tels sh n' an.2.1 an.2.2 y) qn ms).flatten) := by
  cases n with
  | zero => exact .inl ⟨mv.1, mv.2, rfl, rfl⟩
  | succ n =>
    cases mv with
    | inl x => exact .inl ⟨x.1, x.2, rfl, rfl⟩
    | inr x =>
      obtain ⟨qn, h1, h2⟩ := h
      refine .inr ⟨n, rfl, x.1, x.2, t, qn, HEq.rfl, rfl, rfl, h1, h2, ?_⟩
      show (match (show List (Qn n) from t)[x.1]? with
        | some qn => (List.zipWith (fun (an : An n) (y : Mv m n) => if isZ an.2.1 then [] else tels sh n an.2.1 an.2.2 y) qn x.2).flatten
        | none => []) = _
      rw [h1]
theorem flat_le {α : Type} (l : List (List α)) (i : Nat) : (l.take i).flatten.length ≤ l.flatten.length := by
  have e : (l.take i ++ l.drop i).flatten.length = (l.take i).flatten.length + (l.drop i).flatten.length := by rw [List.flatten_append, List.length_append]
  rw [List.take_append_drop] at e
  omega
def spTels (K : PySem.W.Frag) (Z m n : Nat) : Sp := fun vs H Q _ => ∃ (W : Nat) (vs_ vw vt vm : V) (sh : Rat) (ws ahead ahead' : List Rat) (t : Nd n) (q : Qn m) (mv : Mv m n), vs = [vs_, vw, vt, vm] ∧ Td K H vs_ (.int (frN Z sh)) ∧ Td K H vw (wsD ws) ∧ Td K H vt (ndD n t) ∧ Td K H vm (mvD (waitD m) n mv) ∧ MvOk (WtOk m) n t q mv ∧ NdOk W n ahead t ∧ W ≤ 5 ∧ cnt n t ≤ 1500 ∧
  ∀ (r : Addr) (us : List V) (H' : Hp), Same H H' → H' r = some (.lst us) → TdAll K H' us ((tels sh n ws t mv).map (telD Z)) → H r = none → Q (.ref r) H'
section
variable {P : Program} {w : World} {K : PySem.W.Frag} {mg : Str → Option Value} {base : Heap} {aN aO : Addr} {t1 t2 t3 t4 t5 t6 t7 : Tok}
theorem ok_tellings {Z m : Nat} {f f1 : Addr} {fd fd1 : FuncData} (D : Dn K mg "tellings" s_tellings ["share", "weights", "stand", "move"] f fd) (B : Blt mg) (C : Cst K mg aN aO t1 t2 t3 t4 t5 t6 t7) (D_are_nought : Dn K mg "are_nought" s_are_nought ["weights"] f1 fd1) : ∀ n : Nat, FnOk P w K mg base CX0 (2 + n) f fd ["share", "weights", "stand", "move"] (spTels K Z m n) := by
  intro n
  have G_are_nought : FnOk P w K mg base CX0 1 f1 fd1 ["weights"] (spNought K) := ok_are_nought D_are_nought B C
  obtain ⟨sp0, G_tellings, hsp⟩ : ∃ sp0, FnOk P w K mg base CX0 (1 + n) f fd ["share", "weights", "stand", "move"] sp0 ∧ (∀ n', n = n' + 1 → sp0 = spTels K Z m n') := by
    cases n with
    | zero => exact ⟨fun _ _ _ _ => False, ⟨fun vs H Q E h => h.elim, fun A outer s H args us vs Q E _ _ _ _ h => h.elim⟩, fun m e => by omega⟩
    | succ n' =>
      have G := ok_tellings (Z := Z) (m := m) D B C D_are_nought n'
      rw [show 2 + n' = 1 + (n' + 1) by omega] at G
      exact ⟨_, G, fun m' e => by rw [show m' = n' by omega]⟩
  rw [show 2 + n = (1 + n) + 1 by omega]
  refine D.F.ok sc_tellings (fun vs H Q E h => ?_) (fun cdv A outer s H vs Q E hr h => ?_)
  · obtain ⟨W, a1, a2, a3, a4, sh, ws, ahead, ahead', t, q, mv, rfl, _⟩ := h
    rfl
  obtain ⟨W, va, vw, vt, vm, sh, ws, ahead, ahead', t, qn, mv, rfl, ta, tw, tt, tm, mok, hok, h5, hc, q⟩ := h
  have nd := sc_tellings.nd
  have D_tellings := D
  refine ⟨_, (pss_cons (ps_asg (pv 3) (k_tup (K := K) (n := 3) rfl rfl (pgs_cons (pg_name (i := 4) nd rfl (.inl rfl)) (pgs_cons (pg_name (i := 5) nd rfl (.inl rfl)) (pgs_cons (pg_name (i := 6) nd rfl (.inl rfl)) pgs_nil)))))
      (pss_cons (ps_if (pt_cmpR op_eq (pv 4) pe_str (nomark _)) (pss_one (ps_ret (pe_lst (pa_cons (pe_tup (pa_cons (pv 5) (pa_cons (pe_tup (pa_cons (pv 0) (pa_cons (pv 1) (pa_cons (pv 2) (pa_cons (pv 6) pa_nil))))) pa_nil))) pa_nil)))) pss_nil)
      (pss_cons (ps_set (i := 7) nd rfl (.inl rfl) (pe_lst pa_nil))
      (pss_cons (ps_for PassesOwn.never rfl (k_zip (K := K) rfl (by rfl) B.zip (pa_cons (pe_ix (k_ixT (K := K) rfl) (pv 2) (pv 5) (fun _ _ => rfl)) (pa_cons (pv 6) pa_nil))) (k_tup (K := K) (n := 2) rfl rfl (pgs_cons (pg_name (i := 8) nd rfl (.inl rfl)) (pgs_cons (pg_name (i := 9) nd rfl (.inl rfl)) pgs_nil))) (pss_one (ps_if (pt_not (pt_val (pe_call G_are_nought (hr.mono (by omega)) (by rfl) D_are_nought.m D_are_nought.F.kp D_are_nought.b .nil pass0 (pa_cons (pe_ix (k_ixT (K := K) rfl) (pv 8) pe_int (fun _ _ => rfl)) pa_nil)))) (pss_one (ps_expr (pe_bm PySem.F.plainAttrs_list PySem.F.slot_list_extend PySem.F.type_list_extend mt_extend (pv 7) (pa_cons (pe_call G_tellings (hr.mono (by omega)) (by rfl) D_tellings.m D_tellings.F.kp D_tellings.b .nil pass0 (pa_cons (pv 0) (pa_cons (pe_ix (k_ixT (K := K) rfl) (pv 8) pe_int (fun _ _ => rfl)) (pa_cons (pe_ix (k_ixT (K := K) rfl) (pv 8) pe_int (fun _ _ => rfl)) (pa_cons (pv 9) pa_nil))))) pa_nil)))) pss_nil)))
      (pss_one (ps_ret (pv 7))))))), ?_⟩
  rcases mv_casesT sh ws mok with ⟨j, w', em, et⟩ | ⟨n', en, j, ms, qs, qj, ht, em, ent, eq, al, et⟩
  · rw [em] at tm
    rw [et] at q
    obtain ⟨a, xs, rfl, ha, tx⟩ := tm.tupE
    cases tx with
    | cons t0 ta1 =>
    rename_i v0 xs
    cases ta1 with
    | cons t1 ta2 =>
    rename_i v1 xs
    cases ta2 with
    | cons t2 ta3 =>
    rename_i v2 xs
    cases ta3
    cases t0
    cases t1
    refine ⟨_, rfl, a, _, rfl, ha, rfl, _, _, rfl, _, _, rfl, _, _, rfl, rfl, ?_⟩
    refine ⟨_, rfl, rfl, _, rfl, ite2 (fun _ => ?_) (fun c => absurd (decide_eq_true rfl) c)⟩
    refine ⟨_, rfl, _, rfl, _, rfl, _, rfl, _, rfl, by show 4 ≤ sizeLine; decide, fun p1 n1 => ⟨by show 2 ≤ sizeLine; decide, fun p2 n2 => ⟨by show 1 ≤ sizeLine; decide, fun p3 n3 => ?_⟩⟩⟩
    have s1 := same_upd (o := .tup [va, vw, vt, v2]) n1
    have s2 := same_upd (o := .tup [.int (j : Int), .ref p1]) n2
    have s3 := same_upd (o := .lst [.ref p2]) n3
    have k := Same.kt (K := K) (s1.trans (s2.trans s3))
    refine q p3 _ _ (s1.trans (s2.trans s3)) upd_same (.cons (.tup (Same.kt s3 _ _ (.inl (.inl upd_same))) (.cons (.int _) (.cons (.tup (Same.kt (s2.trans s3) _ _ (.inl (.inl upd_same))) (.cons (ta.keep k) (.cons (tw.keep k) (.cons (tt.keep k) (.cons (t2.keep k) .nil))))) .nil))) .nil) ((s1.trans s2).free n3)
  · subst en
    cases ht
    have hsp := hsp n' rfl
    subst hsp
    rw [em] at tm
    rw [ent] at tt
    rw [et] at q
    obtain ⟨a, xs, rfl, ha, tx⟩ := tm.tupE
    cases tx with
    | cons t0 ta1 =>
    rename_i v0 xs
    cases ta1 with
    | cons t1 ta2 =>
    rename_i v1 xs
    cases ta2 with
    | cons t2 ta3 =>
    rename_i v2 xs
    cases ta3
    cases t0
    cases t1
    obtain ⟨pb, bs, rfl, hpb, tbs⟩ := t2.tupE
    obtain ⟨c, zs, rfl, hzc, tz⟩ := tt.tupE
    have lz : zs.length = qs.length := by rw [tz.len, List.length_map]
    have lbs : bs.length = ms.length := by rw [tbs.len, List.length_map]
    have lal := al.len
    have hj : j < zs.length := by
      rw [lz]
      exact (List.getElem?_eq_some_iff.mp eq).1
    obtain ⟨qjok, njok⟩ := hok.2 qj (List.mem_of_getElem? eq)
    have q12 := qjok.most
    have cq : cntQ n' qj ≤ cnt (n' + 1) (qs : Nd (n' + 1)) := cnt_le_of_mem (List.mem_of_getElem? eq)
    obtain ⟨dx, ex, tx⟩ := tz.getV (List.getElem?_eq_getElem hj)
    obtain ⟨qj', eq', rfl⟩ := mapAt ex
    rw [eq] at eq'
    cases eq'
    obtain ⟨pj, js, evj, hpj, tpj⟩ := tx.tupE
    have ljs : js.length = qj.length := by rw [tpj.len, List.length_map]
    have gj : zs[j]? = some (.ref pj) := by rw [List.getElem?_eq_getElem hj, evj]
    refine ⟨_, rfl, a, _, rfl, ha, rfl, _, _, rfl, _, _, rfl, _, _, rfl, rfl, ?_⟩
    refine ⟨_, rfl, rfl, _, rfl, ite2 (fun c => absurd c (by decide)) (fun _ => ?_)⟩
    refine ⟨by show 0 ≤ sizeLine; decide, fun T hT => ?_⟩
    have sT := same_upd (o := .lst []) hT
    refine ⟨_, rfl, _, rfl, c, zs, (j : Int), _, rfl, rfl, Same.kt sT _ _ hzc, at_of (j := j) rfl gj, _, rfl, pj, pb, js, bs, rfl, .inr ⟨Same.kt sT _ _ hpj, Same.kt sT _ _ hpb, for_it (walk_zipT (K := K) (a := pj) (b := pb) (xs := js) (ys := bs) (n := qj.length) (by omega)) (fun i σ H2 => ∃ (us : List V) (o8 o9 : Option V), σ = [some va, some vw, some (.ref c), some (.ref a), some (.str "ask"), some (.int (j : Int)), some (.ref pb), some (.ref T), o8, o9] ∧ H2 T = some (.lst us) ∧ TdAll K H2 us (((List.zipWith (fun (an : An n') (y : Mv m n') => if isZ an.2.1 then [] else tels sh n' an.2.1 an.2.2 y) qj ms).take i).flatten.map (telD Z)) ∧ Same H H2)
      ⟨[], none, none, rfl, upd_same, .nil, sT⟩ (fun i σ H2 _ h => ?_) ?_ ?_⟩⟩
    · obtain ⟨_, _, _, _, _, _, s2⟩ := h
      exact ⟨Same.kt s2 _ _ hpj, Same.kt s2 _ _ hpb⟩
    · rintro i x σ H2 H3 hi ⟨us, o8, o9, rfl, h2, tus, s2⟩ ⟨T2, x1, x2, rfl, n2, rfl, g1, g2⟩
      obtain ⟨dx, ex, tx⟩ := tpj.getV g1
      obtain ⟨dy, ey, ty⟩ := tbs.getV g2
      obtain ⟨an, ean, rfl⟩ := mapAt ex
      obtain ⟨mv', em', rfl⟩ := mapAt ey
      obtain ⟨mv2, em2, okm⟩ := al.get ean
      rw [em'] at em2
      cases em2
      have man := List.mem_of_getElem? ean
      have ezi : (List.zipWith (fun (an : An n') (y : Mv m n') => if isZ an.2.1 then [] else tels sh n' an.2.1 an.2.2 y) qj ms)[i]? = some (if isZ an.2.1 then [] else tels sh n' an.2.1 an.2.2 mv') := zip_at ean em'
      have efl := flat_take ezi
      have s3 : Same H2 (upd H2 T2 (.tup [x1, x2])) := same_upd n2
      have s03 := s2.trans s3
      have h3 := s3 _ _ h2
      have tus3 := tus.keep (Same.kt s3)
      obtain ⟨pn, vw', vz, vt', rfl, hpn, tw', tz', tt'⟩ := td_an (tx.keep (Same.kt s03))
      have tm3 := ty.keep (Same.kt s03)
      have e3 : SqT K (upd H2 T2 (.tup [.ref pn, x2])) T2 [.ref pn, x2] := .inl (.inl upd_same)
      generalize upd H2 T2 (.tup [.ref pn, x2]) = H3 at s3 s03 h3 tus3 hpn tw' tz' tt' tm3 e3 ⊢
      refine ⟨T2, _, rfl, e3, rfl, _, _, rfl, _, _, rfl, rfl, ?_⟩
      have lW := qjok.wide an man
      refine ⟨_, rfl, pn, _, 1, _, rfl, rfl, hpn, at_of (j := 1) rfl rfl, vz, an.2.1, rfl, tz', by omega, fun H4 s4 => ⟨_, rfl, ?_⟩⟩
      have s04 := s03.trans s4
      have h4 := s4 _ _ h3
      have tus4 := tus3.keep (Same.kt s4)
      cases hz : isZ an.2.1 with
      | true =>
        refine iteF ?_
        refine ⟨us, _, _, rfl, h4, ?_, s04⟩
        rw [efl, hz]
        show TdAll K H4 us ((_ ++ []).map (telD Z))
        rw [List.append_nil]
        exact tus4
      | false =>
        refine iteT ?_
        have k4 := Same.kt (K := K) s4
        have hpn4 := k4 _ _ hpn
        have ca : cnt n' an.2.2 ≤ cntQ n' qj := by
          have := cnt_le_ans man
          omega
        refine ⟨_, rfl, .inl ⟨rfl, _, SqL.of h4⟩, _, rfl, _, rfl, pn, _, 1, _, rfl, rfl, hpn4, at_of (j := 1) rfl rfl, _, rfl, pn, _, 2, _, rfl, rfl, hpn4, at_of (j := 2) rfl rfl, _, rfl, ?_⟩
        refine ⟨W, va, vz, vt', x2, sh, an.2.1, an.2.1, ahead', an.2.2, qn, mv', rfl, ta.keep (Same.kt s04), tz'.keep k4, tt'.keep k4, tm3.keep k4, okm, njok an man, h5, by omega, fun r us' H5 s5 h5' t5 n5 => ?_⟩
        have h5 := s5 _ _ h4
        have kT : KT K H5 (upd H5 T (.lst (us ++ us'))) := KT.updL h5
        have l1 := tels_len (sh := sh) (ws := ws) mok
        rw [et] at l1
        have l2 := flat_le (List.zipWith (fun (an : An n') (y : Mv m n') => if isZ an.2.1 then [] else tels sh n' an.2.1 an.2.2 y) qj ms) (i + 1)
        rw [efl, hz] at l2
        have l3 : us.length + us'.length ≤ 1 + cnt (n' + 1) (qs : Nd (n' + 1)) := by
          rw [tus.len, t5.len, List.length_map, List.length_map]
          rw [List.length_append] at l2
          exact Nat.le_trans l2 l1
        have l4 : cnt (n' + 1) (qs : Nd (n' + 1)) ≤ 1500 := hc
        refine ⟨T, r, us, us', rfl, rfl, h5, h5', by rw [sizeLine_eq]; omega, us ++ us', _, _, rfl, upd_same, ?_, fun c o e => ?_⟩
        · rw [efl, hz, List.map_append]
          exact (tus4.keep ((Same.kt s5).trans kT)).app (t5.keep kT)
        · rw [upd_ne (ne_of_none e hT)]
          exact s5 _ _ (s04 _ _ e)
    · rintro σ H2 ⟨us, o8, o9, rfl, h2, tus, s2⟩
      have ez : ((List.zipWith (fun (an : An n') (y : Mv m n') => if isZ an.2.1 then [] else tels sh n' an.2.1 an.2.2 y) qj ms).take qj.length) = List.zipWith (fun (an : An n') (y : Mv m n') => if isZ an.2.1 then [] else tels sh n' an.2.1 an.2.2 y) qj ms := List.take_of_length_le (by rw [List.length_zipWith]; omega)
      rw [ez] at tus
      exact ⟨_, rfl, q T us H2 s2 h2 tus hT⟩
end
end Tl
namespace Tl
open PySem PySem.Spec PyProof.Rows L2 RZ
/-- of one shape, with the same words -/
def Shp : (n : Nat) → Nd n → Nd n → Prop
  | 0, _, _ => True
  | n + 1, qs, qs' => Al (fun (q q' : Qn n) => Al (fun (a a' : An n) => a.1 = a'.1 ∧ Shp n a.2.2 a'.2.2) q q') qs qs'
theorem Al.join {α β γ : Type} {R : α → β → Prop} {S : α → γ → Prop} {T : β → γ → Prop} {as : List α} {bs : List β} {cs : List γ} (h : Al R as bs) (g : Al S as cs) (f : ∀ a b c, R a b → S a c → T b c) : Al T bs cs := Al.of (by rw [← h.len, g.len]) fun i b c h1 h2 => by
  have la := h.len
  have hi : i < as.length := by
    have := (List.getElem?_eq_some_iff.mp h1).1
    omega
  have ea : as[i]? = some as[i] := List.getElem?_eq_getElem hi
  obtain ⟨b', e1, r⟩ := h.get ea
  obtain ⟨c', e2, s⟩ := g.get ea
  rw [h1] at e1
  rw [h2] at e2
  cases e1
  cases e2
  exact f _ _ _ r s
theorem tbOk_shp {W : Nat} : ∀ {n : Nat} {t t' : Nd n} {tb : Tb n}, Shp n t t' → TbOk W n t tb → TbOk W n t' tb
  | 0, _, _, _, _, _ => trivial
  | n + 1, qs, qs', xs, sh, ok => ⟨ok.1, ok.2.1, Al.join sh ok.2.2 fun q q' x h1 h2 => Al.join h1 h2 fun a a' r k1 k2 => ⟨k2.1, tbOk_shp k1.2 k2.2⟩⟩
theorem cnt_shp : ∀ {n : Nat} {t t' : Nd n}, Shp n t t' → cnt n t = cnt n t'
  | 0, _, _, _ => rfl
  | n + 1, qs, qs', sh => by
    have one : ∀ {q q' : Qn n}, Al (fun (a a' : An n) => a.1 = a'.1 ∧ Shp n a.2.2 a'.2.2) q q' → cntQ n q = cntQ n q' := fun {q q'} h => by
      induction h with
      | nil => rfl
      | cons h _ ih =>
        rw [cntQ_cons, cntQ_cons, ih, cnt_shp h.2]
    have all : ∀ {l l' : List (Qn n)}, Al (fun (q q' : Qn n) => Al (fun (a a' : An n) => a.1 = a'.1 ∧ Shp n a.2.2 a'.2.2) q q') l l' → cnt (n + 1) (l : Nd (n + 1)) = cnt (n + 1) (l' : Nd (n + 1)) := fun {l l'} h => by
      induction h with
      | nil => rfl
      | cons h _ ih => rw [cnt_cons, cnt_cons, ih, one h]
    exact all sh
/-- other weights in a right question -/
theorem rw_ok {W n m e : Nat} {ahead0 ahead : List Rat} {ds : List (List Rat)} {q : Qn n} {q' : Qn n} (ok : QnOk W ahead0 q) (hl : q'.length = q.length) (hd : ds.length = W) (ha : ahead.length = W) (hS : ∀ d ∈ ds, IsShares q.length d) (hA : ∀ r ∈ ahead, Ch e r) (he : e + 1 ≤ 6)
    (h : ∀ (i : Nat) (a' : An n), q'[i]? = some a' → ∃ a : An n, q[i]? = some a ∧ a'.1 = a.1 ∧ a'.2.1 = wk W ahead ds i) : QnOk W ahead q' ∧ (∀ a ∈ q', ∀ r ∈ a.2.1, Ch (e + 1) r) := by
  have o1 := ok.one
  have o12 := ok.most
  have dj : ∀ j, j < W → IsShares q.length (ds.getD j []) := fun j hj => by
    have hj2 : j < ds.length := by omega
    rw [getD_of (List.getElem?_eq_getElem hj2)]
    exact hS _ (List.getElem_mem hj2)
  have aj : ∀ j, j < W → Ch e (ahead.getD j 0) := fun j hj => mem_getD0 hA (by omega)
  have chw : ∀ a ∈ q', ∀ r ∈ a.2.1, Ch (e + 1) r := by
    intro a hm' r hr
    obtain ⟨i, hi, rfl⟩ := List.getElem_of_mem hm'
    obtain ⟨_, _, _, ew⟩ := h i _ (List.getElem?_eq_getElem hi)
    rw [ew] at hr
    unfold wk at hr
    obtain ⟨j, hj, rfl⟩ := List.mem_map.mp hr
    have hj := List.mem_range.mp hj
    obtain ⟨p, s, s0, s1, ps, e1⟩ := share_at (dj j hj) (show i < q.length by omega)
    rw [e1]
    exact (aj j hj).mul s0 (by omega) ps
  have colj : ∀ j, j < W → col q' j = (ds.getD j []).map fun x => ahead.getD j 0 * x := by
    intro j hj
    have lj : (ds.getD j []).length = q.length := by
      obtain ⟨ps, h1, _, _, e1⟩ := dj j hj
      rw [e1, List.length_map, h1]
    refine List.ext_getElem? fun i => ?_
    unfold col
    rw [List.getElem?_map, List.getElem?_map]
    by_cases hi : i < q.length
    · have g1 : q'[i]? = some (q'[i]'(by omega)) := List.getElem?_eq_getElem (by omega)
      have g2 : (ds.getD j [])[i]? = some ((ds.getD j [])[i]'(by omega)) := List.getElem?_eq_getElem (by omega)
      rw [g1, g2]
      obtain ⟨_, _, _, e3⟩ := h i _ g1
      show some ((q'[i]'(by omega)).2.1.getD j 0) = some (ahead.getD j 0 * ((ds.getD j [])[i]'(by omega)))
      rw [e3, wk_at hj, getD_of g2]
    · rw [List.getElem?_eq_none (by omega), List.getElem?_eq_none (by omega)]
      rfl
  refine ⟨⟨by omega, by omega, ?_, ?_, ?_, ?_, ?_⟩, chw⟩
  · intro a hm'
    obtain ⟨i, hi, rfl⟩ := List.getElem_of_mem hm'
    obtain ⟨a0, e0, ew, _⟩ := h i _ (List.getElem?_eq_getElem hi)
    rw [ew]
    exact ok.words _ (List.mem_of_getElem? e0)
  · intro i x y hx hy
    obtain ⟨x0, ex, kx, _⟩ := h i _ hx
    obtain ⟨y0, ey, ky, _⟩ := h (i + 1) _ hy
    rw [kx, ky]
    exact ok.asc i x0 y0 ex ey
  · intro a hm'
    obtain ⟨i, hi, rfl⟩ := List.getElem_of_mem hm'
    obtain ⟨_, _, _, ew⟩ := h i _ (List.getElem?_eq_getElem hi)
    rw [ew]
    unfold wk
    rw [List.length_map, List.length_range]
  · exact fun a h1 r h2 => (chw a h1 r h2).mono he
  · intro j hj
    rw [colj j hj]
    exact shares_col (dj j hj) _
def spRW (K : PySem.W.Frag) (n : Nat) : Sp := fun vs H Q _ => ∃ (b g : Addr) (W e : Nat) (v av : V) (ahead0 ahead : List Rat) (t : Nd n), vs = [.ref b, .int (W : Int), v, av] ∧ Bag H b g ∧ Td K H v (ndD n t) ∧ Td K H av (wsD ahead) ∧ ahead.length = W ∧ (∀ r ∈ ahead, Ch e r) ∧ e + n ≤ 6 ∧ NdOk W n ahead0 t ∧ 1 ≤ W ∧ W ≤ 5 ∧
  ∀ (v' : V) (t' : Nd n) (H' : Hp), Td K H' v' (ndD n t') → NdOk W n ahead t' → Shp n t t' → Bag H' b g → Frm b g H H' → Q v' H'
theorem Bag.nw {b g p : Addr} {H H' : Hp} (f : Frm b g H H') (h : H' p = none) (h1 : p ≠ b) (h2 : p ≠ g) : H p = none := by
  cases e : H p with
  | none => rfl
  | some o =>
    rw [f p o e h1 h2] at h
    cases h
section
variable {P : Program} {w : World} {K : PySem.W.Frag} {mg : Str → Option Value} {base : Heap}
end
end Tl
namespace Tl
open PySem PySem.Spec PyProof.Rows L2 RZ
/-- at some number of rounds -/
def anyS (N : Nat) (sp : Nat → Sp) : Sp := fun vs H Q E => ∃ n, n ≤ N ∧ sp n vs H Q E
/-- a choice of two values: what is known of it either way -/
def tIfE (t : TT) (ta tb : TE) : TE := fun σ H Q => ∃ R : VK, (∀ v H', R v H' → Q v H') ∧ tIf t ta tb σ H R
theorem pe_ifExpE {X : Cx} {c a b : Expr} {pos : Pos} {tA : TT} {ta tb : TE} (hc : PT X c tA) (ha : PE X a ta) (hb : PE X b tb) : PE X (.IfExp c a b pos) (tIfE tA ta tb) := by
  refine ⟨fun pins s σ H Q I h => ?_⟩
  obtain ⟨R, hm, h'⟩ := h
  refine wpAny_mono ((pe_ifExp hc ha hb).run pins s σ H R I h') (fun u s' z => ?_) fun _ _ x => x
  obtain ⟨v, H', I', r, q⟩ := z
  exact ⟨v, H', I', r, hm v H' q⟩
def spHs (K : PySem.W.Frag) : Sp := fun vs H Q _ => ∃ (b g : Addr) (n A : Nat), vs = [.ref b, .int ((n + 1 : Nat) : Int), .int (A : Int)] ∧ Bag H b g ∧ n ≤ 3 ∧ A ≤ 20 ∧
  ∀ (p : Addr) (W : Nat) (v : V) (m : Nat) (t : Nd m) (H' : Hp), 1 ≤ W → W ≤ 3 → m ≤ 5 → SqT K H' p [.int (W : Int), v] → Td K H' v (ndD m t) → NdOk W m (ones W) t → cnt m t ≤ 1500 → Bag H' b g → Frm b g H H' → Q (.ref p) H'
/-! equal fractions are the same -/
theorem shown_int {i : Int} (h : i.natAbs < 2 ^ 1500) : decide (i.natAbs.log2 < 1920) = true ∧ decide ((PyData.shown (.int i)).length ≤ 1502) = true := by
  have hl : i.natAbs.log2 < 1501 := by
    by_cases h0 : i.natAbs = 0
    · rw [h0]
      decide
    · exact (Nat.log2_lt h0).mpr (Nat.lt_trans h (Nat.pow_lt_pow_right (by decide) (by decide)))
  refine ⟨decide_eq_true (by omega), decide_eq_true ?_⟩
  have := int_text_length_le (a := i) (k := 1501) (by decide) hl
  have e : (PyData.shown (.int i)).length = (toString i).length := by
    show (Str.ofString (toString i)).length = _
    exact PySem.ofString_length _
  omega
theorem shown_rD {r : Rat} (h : Sm r) : (rD r).showable = true ∧ (rD r).shown.length ≤ sizeLine := by
  obtain ⟨a1, a2⟩ := shown_int h.2
  obtain ⟨b1, b2⟩ := shown_int (i := (r.den : Int)) (by rw [Int.natAbs_natCast]; exact h.1)
  constructor
  · show (decide (r.num.natAbs.log2 < 1920) && (decide (((r.den : Int)).natAbs.log2 < 1920) && true)) = true
    rw [a1, b1]
    rfl
  · have lv : (rD r).leavesShort 1502 = true := by
      show (decide ((PyData.shown (.int r.num)).length ≤ 1502) && (decide ((PyData.shown (.int (r.den : Int))).length ≤ 1502) && true)) = true
      rw [a2, b2]
      rfl
    have := PyData.shown_le_bulk 1502 (by decide) (rD r) lv
    have bk : (rD r).bulk ≤ 4 := Nat.le_of_ble_eq_true rfl
    rw [sizeLine_eq]
    omega
def spIsF (K : PySem.W.Frag) : Sp := fun vs H Q _ => ∃ (x y : V) (r : Rat), vs = [x, y] ∧ Td K H x (rD r) ∧ Td K H y (rD r) ∧ Sm r ∧ Q (.bl true) H
/-! ### the paths -/
def pairD (x : Nat × Nat) : PyData := .tuple [.int (x.1 : Int), .int (x.2 : Int)]
def pathD (p : List (Nat × Nat)) : PyData := .tuple (p.map pairD)
abbrev Pt : Type := List (Nat × Nat) × List Rat × PyData
def ptD (x : Pt) : PyData := .tuple [pathD x.1, wsD x.2.1, x.2.2]
def pthQ (n : Nat) (rec_ : Nd n → List (Nat × Nat) → List Pt) (pre : List (Nat × Nat)) (i : Nat) : Nat → Qn n → List Pt
  | _, [] => []
  | j, a :: r => ((pre ++ [(i, j)], a.2.1, ndD n a.2.2) :: rec_ a.2.2 (pre ++ [(i, j)])) ++ pthQ n rec_ pre i (j + 1) r
def pthN (n : Nat) (rec_ : Nd n → List (Nat × Nat) → List Pt) (pre : List (Nat × Nat)) : Nat → List (Qn n) → List Pt
  | _, [] => []
  | i, q :: r => pthQ n rec_ pre i 0 q ++ pthN n rec_ pre (i + 1) r
def pths : (n : Nat) → Nd n → List (Nat × Nat) → List Pt
  | 0, _, _ => []
  | n + 1, qs, pre => pthN n (pths n) pre 0 (show List (Qn n) from qs)
theorem pthQ_snoc (n : Nat) (rec_ : Nd n → List (Nat × Nat) → List Pt) (pre : List (Nat × Nat)) (i : Nat) (a : An n) : ∀ (j : Nat) (q : Qn n), pthQ n rec_ pre i j (q ++ [a]) = pthQ n rec_ pre i j q ++ ((pre ++ [(i, j + q.length)], a.2.1, ndD n a.2.2) :: rec_ a.2.2 (pre ++ [(i, j + q.length)]))
  | j, [] => by
    show (_ ++ []) = [] ++ _
    rw [List.append_nil, List.nil_append]
    rfl
  | j, x :: r => by
    show (_ ++ pthQ n rec_ pre i (j + 1) (r ++ [a])) = (_ ++ pthQ n rec_ pre i (j + 1) r) ++ _
    rw [pthQ_snoc n rec_ pre i a (j + 1) r, List.append_assoc, show j + 1 + r.length = j + (x :: r).length by rw [List.length_cons]; omega]
theorem pthN_snoc (n : Nat) (rec_ : Nd n → List (Nat × Nat) → List Pt) (pre : List (Nat × Nat)) (q : Qn n) : ∀ (i : Nat) (l : List (Qn n)), pthN n rec_ pre i (l ++ [q]) = pthN n rec_ pre i l ++ pthQ n rec_ pre (i + l.length) 0 q
  | i, [] => by
    show (_ ++ []) = [] ++ _
    rw [List.append_nil, List.nil_append]
    rfl
  | i, x :: r => by
    show (_ ++ pthN n rec_ pre (i + 1) (r ++ [q])) = (_ ++ pthN n rec_ pre (i + 1) r) ++ _
    rw [pthN_snoc n rec_ pre q (i + 1) r, List.append_assoc, show i + 1 + r.length = i + (x :: r).length by rw [List.length_cons]; omega]
theorem pths_len : ∀ (n : Nat) (t : Nd n) (pre : List (Nat × Nat)), (pths n t pre).length = cnt n t
  | 0, _, _ => rfl
  | n + 1, qs, pre => by
    have hq : ∀ (i j : Nat) (q : Qn n), (pthQ n (pths n) pre i j q).length = cntQ n q := by
      intro i j q
      induction q generalizing j with
      | nil => rfl
      | cons a r ih =>
        show (_ ++ pthQ n (pths n) pre i (j + 1) r).length = _
        rw [List.length_append, List.length_cons, pths_len n, ih, cntQ_cons]
        omega
    have hn : ∀ (i : Nat) (l : List (Qn n)), (pthN n (pths n) pre i l).length = cnt (n + 1) (l : Nd (n + 1)) := by
      intro i l
      induction l generalizing i with
      | nil => rfl
      | cons q r ih =>
        show (_ ++ pthN n (pths n) pre (i + 1) r).length = _
        rw [List.length_append, hq, ih, cnt_cons]
    exact hn 0 _
theorem pthQ_le (n : Nat) (pre : List (Nat × Nat)) (i : Nat) (q : Qn n) (j : Nat) : (pthQ n (pths n) pre i 0 (q.take j)).length ≤ cntQ n q := by
  have hq : ∀ (j0 : Nat) (q : Qn n), (pthQ n (pths n) pre i j0 q).length = cntQ n q := by
    intro j0 q
    induction q generalizing j0 with
    | nil => rfl
    | cons a r ih =>
      show (_ ++ pthQ n (pths n) pre i (j0 + 1) r).length = _
      rw [List.length_append, List.length_cons, pths_len n, ih, cntQ_cons]
      omega
  rw [hq]
  have e : cntQ n (q.take j ++ q.drop j) = cntQ n (q.take j) + cntQ n (q.drop j) := by
    unfold cntQ
    rw [List.map_append, List.sum_append]
  rw [List.take_append_drop] at e
  omega
def spPths (K : PySem.W.Frag) (n : Nat) : Sp := fun vs H Q _ => ∃ (v vp : V) (t : Nd n) (pre : List (Nat × Nat)), vs = [v, vp] ∧ Td K H v (ndD n t) ∧ Td K H vp (pathD pre) ∧ pre.length + n ≤ 100 ∧ n ≤ 20 ∧ cnt n t ≤ 3000 ∧
  ∀ r us H', Same H H' → H' r = some (.lst us) → TdAll K H' us ((pths n t pre).map ptD) → Q (.ref r) H'
section
variable {P : Program} {w : World} {K : PySem.W.Frag} {mg : Str → Option Value} {base : Heap}
theorem FnOk.anyS {f : Addr} {fd : FuncData} {ps : List Str} {N k : Nat} {sp : Nat → Sp} {lv : Nat → Nat} (h : ∀ n, FnOk P w K mg base CX0 (lv n) f fd ps (sp n)) (hk : ∀ n, n ≤ N → lv n ≤ k) : FnOk P w K mg base CX0 k f fd ps (Tl.anyS N sp) :=
  ⟨fun vs H Q E ⟨n, _, q⟩ => (h n).len vs H Q E q, fun A outer s H args us vs Q E hr e0 hb rv ⟨n, hn, q⟩ => ((h n).mono (hk n hn)).run A outer s H args us vs Q E hr e0 hb rv q⟩
theorem ok_law_isF {f : Addr} {fd : FuncData} (D : Dn K mg "_law_is" s_law_is ["found", "due"] f fd) (B : Blt mg) : FnG P w K mg base CX0 1 f fd ["found", "due"] (spIsF K) := by
  refine okG D.F sc_law_is (fun vs H Q E h => ?_) (fun cdv A outer s H vs Q E hr hgu h => ?_)
  · obtain ⟨x, y, r, rfl, _⟩ := h
    rfl
  obtain ⟨x, y, r, rfl, tx, ty, sm, q⟩ := h
  have nd := sc_law_is.nd
  refine ⟨_, (pss_one (ps_ret (pe_and (pe_cmpR (k_eqD (K := K) rfl hr.units) (pv 0) (pv 1) (nomark _)) (pe_one (pe_cmpR op_eq (pe_callB (k_repr (K := K) rfl hr.units hgu) (by rfl) B.repr (by decide +kernel) (pa_cons (pv 0) pa_nil)) (pe_callB (k_repr (K := K) rfl hr.units hgu) (by rfl) B.repr (by decide +kernel) (pa_cons (pv 1) pa_nil)) (nomark _)))))), ?_⟩
  have gd := good_rD r
  obtain ⟨h1, h2⟩ := shown_rD sm
  obtain ⟨a, rfl, ha⟩ := id tx.rE
  obtain ⟨b, rfl, hb⟩ := id ty.rE
  refine ⟨_, rfl, _, rfl, rD r, rD r, tx.dp, ty.dp, gd.shaped (by decide), gd.shaped (by decide), ?_⟩
  rw [gd.refl]
  refine ⟨_, rfl, iteT ?_⟩
  refine ⟨_, rfl, a, rD r, rfl, tx.dp, h1, gd.dict, Nat.le_trans gd.deep (by decide), h2, _, rfl, b, rD r, rfl, ty.dp, h1, gd.dict, Nat.le_trans gd.deep (by decide), h2, rfl, ?_⟩
  rw [decide_eq_true rfl]
  exact q
end
end Tl
namespace Tl
open PySem PySem.Spec PyProof.Rows L2 RZ
def tellH {m : Nat} (k : Nat) (h : Hd (m + 1)) : List (Nat × Hd m) := match (show List (Mv m h.n) from h.w)[k]? with
  | some mv => tels h.sh h.n h.ws h.t mv
  | none => []
def tellL {m : Nat} (k : Nat) (hs : List (Hd (m + 1))) : List (Nat × Hd m) := (hs.map (tellH k)).flatten
def selT {m : Nat} (a : Nat) (l : List (Nat × Hd m)) : List (Hd m) := (l.filter fun x => decide (x.1 = a)).map (·.2)
theorem selT_app {m : Nat} (a : Nat) (l l' : List (Nat × Hd m)) : selT a (l ++ l') = selT a l ++ selT a l' := by
  unfold selT
  rw [List.filter_append, List.map_append]
theorem selT_one {m : Nat} (a : Nat) (x : Nat × Hd m) : selT a [x] = if x.1 = a then [x.2] else [] := by
  unfold selT
  by_cases e : x.1 = a
  · rw [if_pos e]
    simp [e]
  · rw [if_neg e]
    simp [e]
theorem tels_lt {m : Nat} {sh : Rat} {q : Qn m} : ∀ {n : Nat} {ws : List Rat} {t : Nd n} {mv : Mv m n}, MvOk (WtOk m) n t q mv → ∀ x ∈ tels sh n ws t mv, x.1 < q.length
  | 0, _, _, mv, ⟨_, h, _⟩, x, hx => by
    rw [List.mem_singleton.mp hx]
    exact (List.getElem?_eq_some_iff.mp h).1
  | n + 1, _, _, .inl mv, ⟨_, h, _⟩, x, hx => by
    rw [List.mem_singleton.mp hx]
    exact (List.getElem?_eq_some_iff.mp h).1
  | n + 1, _, t, .inr y, ⟨qn, e, al⟩, x, hx => by
    have one : ∀ (q' : Qn n) (ms : List (Mv m n)), Al (fun (an : An n) (y : MvT (Wt m) n) => MvOk (WtOk m) n an.2.2 q y) q' ms → x ∈ (List.zipWith (fun (an : An n) (y : Mv m n) => if isZ an.2.1 then [] else tels sh n an.2.1 an.2.2 y) q' ms).flatten → x.1 < q.length := by
      intro q' ms al
      induction al with
      | nil => exact fun h => absurd h List.not_mem_nil
      | cons h hal ih =>
        rename_i an y' as bs
        intro hx
        rw [List.zipWith_cons_cons, List.flatten_cons] at hx
        rcases List.mem_append.mp hx with hx | hx
        · split at hx
          · exact absurd hx List.not_mem_nil
          · exact tels_lt h x hx
        · exact ih hx
    have hx' : x ∈ (match (show List (Qn n) from t)[y.1]? with
      | some qn => (List.zipWith (fun (an : An n) (y : Mv m n) => if isZ an.2.1 then [] else tels sh n an.2.1 an.2.2 y) qn y.2).flatten
      | none => []) := hx
    rw [e] at hx'
    exact one qn y.2 al hx'
/-- how much a holder may still tell -/
def hw {m : Nat} (h : Hd m) : Nat := 1 + cnt h.n h.t
def hwS {m : Nat} (l : List (Hd m)) : Nat := (l.map hw).sum
theorem tels_hw {m : Nat} {sh : Rat} {q : Qn m} : ∀ {n : Nat} {ws : List Rat} {t : Nd n} {mv : Mv m n}, MvOk (WtOk m) n t q mv → hwS ((tels sh n ws t mv).map (fun x : Nat × Hd m => x.2)) ≤ 1 + cnt n t
  | 0, _, _, _, _ => Nat.le_refl _
  | n + 1, _, _, .inl _, _ => Nat.le_refl _
  | n + 1, _, t, .inr y, ⟨qn, e, al⟩ => by
    have one : ∀ (q' : Qn n) (ms : List (Mv m n)), Al (fun (an : An n) (y : MvT (Wt m) n) => MvOk (WtOk m) n an.2.2 q y) q' ms → hwS (((List.zipWith (fun (an : An n) (y : Mv m n) => if isZ an.2.1 then [] else tels sh n an.2.1 an.2.2 y) q' ms).flatten).map (fun x : Nat × Hd m => x.2)) ≤ cntQ n q' := by
      intro q' ms al
      induction al with
      | nil => exact Nat.zero_le _
      | cons h hal ih =>
        rename_i an y' as bs
        have i1 := tels_hw (sh := sh) (ws := an.2.1) h
        rw [List.zipWith_cons_cons, List.flatten_cons, cntQ_cons]
        unfold hwS at ih i1 ⊢
        rw [List.map_append, List.map_append, List.sum_append]
        split
        · show 0 + _ ≤ _
          omega
        · omega
    have c3 : cntQ n qn ≤ cnt (n + 1) t := cnt_le_of_mem (List.mem_of_getElem? e)
    have c2 := one qn y.2 al
    show hwS ((match (show List (Qn n) from t)[y.1]? with
      | some qn => (List.zipWith (fun (an : An n) (y : Mv m n) => if isZ an.2.1 then [] else tels sh n an.2.1 an.2.2 y) qn y.2).flatten
      | none => ([] : List (Nat × Hd m))).map (fun x : Nat × Hd m => x.2)) ≤ _
    rw [e]
    exact Nat.le_trans c2 (by omega)
/-- lists at rs, told by their places -/
structure RowsT (K : PySem.W.Frag) (H0 H : Hp) (R : Addr) (rs : List Addr) (g : Nat → List PyData) : Prop where
  hR : H R = some (.lst (rs.map V.ref))
  ne : ∀ (i j : Nat) (r : Addr), rs[i]? = some r → rs[j]? = some r → i = j
  each : ∀ (i : Nat) (r : Addr), rs[i]? = some r → r ≠ R ∧ H0 r = none ∧ ∃ us, H r = some (.lst us) ∧ TdAll K H us (g i)
theorem RowsT.keep {K : PySem.W.Frag} {H0 H H' : Hp} {R : Addr} {rs : List Addr} {g : Nat → List PyData} (h : RowsT K H0 H R rs g) (s : Same H H') : RowsT K H0 H' R rs g :=
  ⟨s _ _ h.hR, h.ne, fun i r e => by
    obtain ⟨h1, h2, us, h3, h4⟩ := h.each i r e
    exact ⟨h1, h2, us, s _ _ h3, h4.keep (Same.kt s)⟩⟩
theorem RowsT.add {K : PySem.W.Frag} {H0 H : Hp} {R r : Addr} {rs : List Addr} {g g' : Nat → List PyData} {a : Nat} {us : List V} {v : V} {d : PyData} (h : RowsT K H0 H R rs g) (e : rs[a]? = some r) (hr : H r = some (.lst us)) (hu : TdAll K H us (g a)) (tv : Td K H v d) (ga : g' a = g a ++ [d]) (go : ∀ j, j ≠ a → g' j = g j) : RowsT K H0 (upd H r (.lst (us ++ [v]))) R rs g' := by
  have kT : KT K H (upd H r (.lst (us ++ [v]))) := KT.updL hr
  have rR := (h.each a r e).1
  refine ⟨by rw [upd_ne rR.symm]; exact h.hR, h.ne, fun i r' e' => ?_⟩
  obtain ⟨h1, h2, us', h3, h4⟩ := h.each i r' e'
  refine ⟨h1, h2, ?_⟩
  by_cases z : i = a
  · subst z
    rw [e] at e'
    cases e'
    exact ⟨_, upd_same, by rw [ga]; exact (hu.keep kT).app (.cons (tv.keep kT) .nil)⟩
  · have nr : r' ≠ r := fun y => z (h.ne i a r (by rw [← y]; exact e') e)
    exact ⟨us', by rw [upd_ne nr]; exact h3, by rw [go i z]; exact h4.keep kT⟩
end Tl
namespace Tl
open PySem PySem.Spec PyProof.Rows L2 RZ
theorem RowsT.more {K : PySem.W.Frag} {H0 H : Hp} {R r : Addr} {rs : List Addr} (h : RowsT K H0 H R rs (fun _ => [])) (s : Same H0 H) (n : H r = none) : RowsT K H0 (upd (upd H r (.lst [])) R (.lst (rs.map V.ref ++ [.ref r]))) R (rs ++ [r]) (fun _ => []) := by
  have rR : r ≠ R := fun e => by
    rw [e, h.hR] at n
    cases n
  have old : ∀ (i : Nat) (r' : Addr), rs[i]? = some r' → r' ≠ r := fun i r' e z => by
    obtain ⟨_, _, us, h3, _⟩ := h.each i r' e
    rw [z, n] at h3
    cases h3
  have cases_ : ∀ (i : Nat) (r' : Addr), (rs ++ [r])[i]? = some r' → rs[i]? = some r' ∨ (i = rs.length ∧ r' = r) := fun i r' e => by
    by_cases hi : i < rs.length
    · rw [List.getElem?_append_left hi] at e
      exact .inl e
    · rw [List.getElem?_append_right (by omega)] at e
      have : i - rs.length = 0 := by
        have := (List.getElem?_eq_some_iff.mp e).1
        simp at this
        omega
      rw [this] at e
      cases e
      exact .inr ⟨by omega, rfl⟩
  refine ⟨by rw [upd_same, List.map_append]; rfl, fun i j r' e1 e2 => ?_, fun i r' e => ?_⟩
  · rcases cases_ i r' e1 with a | ⟨a, a'⟩ <;> rcases cases_ j r' e2 with b | ⟨b, b'⟩
    · exact h.ne i j r' a b
    · exact absurd b' (old i r' a)
    · exact absurd a' (old j r' b)
    · rw [a, b]
  · rcases cases_ i r' e with a | ⟨a, rfl⟩
    · obtain ⟨h1, h2, us, h3, h4⟩ := h.each i r' a
      exact ⟨h1, h2, us, by rw [upd_ne h1, upd_ne (old i r' a)]; exact h3, by cases h4; exact .nil⟩
    · refine ⟨rR, ?_, [], by rw [upd_ne rR, upd_same], .nil⟩
      cases z : H0 r' with
      | none => rfl
      | some o =>
        rw [s _ _ z] at n
        cases n
structure HOk (W : Nat) {m : Nat} (h : Hd m) : Prop where
  deep : h.n ≤ 6
  ok : ∃ ahead, NdP W h.n ahead h.t
  few : cnt h.n h.t ≤ 1500
theorem tellH_at {m k : Nat} {h : Hd (m + 1)} {mv : Mv m h.n} (e : (show List (Mv m h.n) from h.w)[k]? = some mv) : tellH k h = tels h.sh h.n h.ws h.t mv := by
  unfold tellH
  rw [e]
theorem tellL_len {m k : Nat} {q : Qn m} : ∀ {hs : List (Hd (m + 1))}, (∀ h ∈ hs, ∃ mv, (show List (Mv m h.n) from h.w)[k]? = some mv ∧ MvOk (WtOk m) h.n h.t q mv) → (tellL k hs).length ≤ hwS hs
  | [], _ => Nat.le_refl 0
  | h :: hs, ok => by
    obtain ⟨mv, e1, e2⟩ := ok h (List.mem_cons_self ..)
    have i1 := tellL_len (hs := hs) fun x hx => ok x (List.mem_cons_of_mem _ hx)
    have i2 := tels_len (sh := h.sh) (ws := h.ws) e2
    show ((tellH k h) ++ tellL k hs).length ≤ hw h + hwS hs
    rw [tellH_at e1, List.length_append]
    unfold hw
    omega
theorem tellL_snoc {m k : Nat} {hs : List (Hd (m + 1))} {i : Nat} {h : Hd (m + 1)} (e : hs[i]? = some h) : tellL k (hs.take (i + 1)) = tellL k (hs.take i) ++ tellH k h := by
  unfold tellL
  rw [List.take_add_one, e, List.map_append, List.flatten_append]
  exact congrArg (_ ++ ·) (List.append_nil _)
theorem hwS_take {m : Nat} (l : List (Hd m)) (i : Nat) : hwS (l.take i) ≤ hwS l := by
  have e : hwS (l.take i ++ l.drop i) = hwS (l.take i) + hwS (l.drop i) := by
    unfold hwS
    rw [List.map_append, List.sum_append]
  rw [List.take_append_drop] at e
  omega
theorem selT_le {m : Nat} (a : Nat) (l : List (Nat × Hd m)) : (selT a l).length ≤ l.length := by
  unfold selT
  rw [List.length_map]
  exact List.length_filter_le _ _
def spTellers (K : PySem.W.Frag) (Z m : Nat) : Sp := fun vs H Q _ => ∃ (W k : Nat) (vq : V) (a : Addr) (hus : List V) (q : Qn m) (hs : List (Hd (m + 1))), vs = [vq, .int (k : Int), .ref a] ∧ Td K H vq (qnD m q) ∧ W ≤ 5 ∧ q.length ≤ 12 ∧ H a = some (.lst hus) ∧ TdAll K H hus (hs.map (hdD Z)) ∧
  (∀ h ∈ hs, HOk W h ∧ ∃ mv, (show List (Mv m h.n) from h.w)[k]? = some mv ∧ MvOk (WtOk m) h.n h.t q mv) ∧ hwS hs ≤ 5000 ∧
  ∀ (R : Addr) (rs : List Addr) (H' : Hp), Same H H' → rs.length = q.length → RowsT K H H' R rs (fun i => (selT i (tellL k hs)).map (hdD Z)) → Q (.ref R) H'
section
variable {P : Program} {w : World} {K : PySem.W.Frag} {mg : Str → Option Value} {base : Heap} {aN aO : Addr} {t1 t2 t3 t4 t5 t6 t7 : Tok}
theorem ok_tellers_of {Z m : Nat} {f f1 : Addr} {fd fd1 : FuncData} (D : Dn K mg "tellers_of" s_tellers_of ["question", "number", "holders"] f fd) (B : Blt mg) (D_tellings : Dn K mg "tellings" s_tellings ["share", "weights", "stand", "move"] f1 fd1) (G_tellings : FnOk P w K mg base CX0 8 f1 fd1 ["share", "weights", "stand", "move"] (anyS 6 (spTels K Z m))) : FnOk P w K mg base CX0 9 f fd ["question", "number", "holders"] (spTellers K Z m) := by
  refine D.F.ok sc_tellers_of (fun vs H Q E h => ?_) (fun cdv A outer s H vs Q E hr h => ?_)
  · obtain ⟨W, k, vq, a, hus, q, hs, rfl, _⟩ := h
    rfl
  obtain ⟨W, k, vq, a, hus, qn, hs, rfl, hq, h5, h12, ha, ta, hok, hbd, q⟩ := h
  have nd := sc_tellers_of.nd
  refine ⟨_, (pss_cons (ps_setLc (i := 3) (own := [("answer", 4)]) rfl nd rfl rfl (sw_true rfl rfl rfl (by decide +kernel)) (k_iT (K := K) rfl (pv 0)) (blkOk_by (own := [("answer", 4)]) (by kernel_rfl)) (fun _ _ _ _ _ => (pg_name (i := 4) nd rfl (.inl rfl))) (fun _ _ _ _ _ => pts_nil) (fun _ _ _ _ _ => (pe_lst pa_nil)))
      (pss_cons (ps_for PassesOwn.never rfl (k_iL (K := K) rfl (pv 2)) (k_tup (K := K) (n := 4) rfl rfl (pgs_cons (pg_name (i := 5) nd rfl (.inl rfl)) (pgs_cons (pg_name (i := 6) nd rfl (.inl rfl)) (pgs_cons (pg_name (i := 7) nd rfl (.inl rfl)) (pgs_cons (pg_name (i := 8) nd rfl (.inl rfl)) pgs_nil))))) (pss_one (ps_for PassesOwn.never rfl (k_iL (K := K) rfl (pe_call G_tellings (hr.mono (by omega)) (by rfl) D_tellings.m D_tellings.F.kp D_tellings.b .nil pass0 (pa_cons (pv 5) (pa_cons (pv 6) (pa_cons (pv 7) (pa_cons (pe_ix (k_ixT (K := K) rfl) (pv 8) (pv 1) (fun _ _ => rfl)) pa_nil)))))) (k_tup (K := K) (n := 2) rfl rfl (pgs_cons (pg_name (i := 9) nd rfl (.inl rfl)) (pgs_cons (pg_name (i := 10) nd rfl (.inl rfl)) pgs_nil))) (pss_one (ps_expr (pe_bm PySem.F.plainAttrs_list PySem.F.slot_list_append PySem.F.type_list_append mt_append (pe_ix (k_ixL (K := K) rfl) (pv 3) (pv 9) (fun _ _ => rfl)) (pa_cons (pv 10) pa_nil)))))))
      (pss_one (ps_ret (pv 3))))), ?_⟩
  obtain ⟨b, ys, rfl, hb, tb⟩ := hq.tupE
  have ly : ys.length = qn.length := by rw [tb.len, List.length_map]
  have lhu : hus.length = hs.length := by rw [ta.len, List.length_map]
  refine ⟨_, rfl, b, rfl, ⟨_, hb⟩, fun R hR => ?_⟩
  refine lc_it (walk_tup (K := K) (a := b) (xs := ys)) (fun i H2 => ∃ rs : List Addr, rs.length = i ∧ RowsT K H H2 R rs (fun _ => []) ∧ Same H H2) ⟨[], rfl, ⟨upd_same, fun i j r e => by simp at e, fun i r e => by simp at e⟩, same_upd hR⟩ (fun i H2 _ h => by obtain ⟨_, _, _, s2⟩ := h; exact Same.kt s2 _ _ hb) ?_ ?_
  · rintro i x H0 H2 hi ⟨rs, lr, rt, s2⟩ ⟨rfl, e1⟩
    refine ⟨rfl, ?_⟩
    refine iteT (B := ∃ rs : List Addr, rs.length = i + 1 ∧ RowsT K H H2 R rs (fun _ => []) ∧ Same H H2) ?_
    refine ⟨by show 0 ≤ sizeLine; decide, fun r nr => ?_⟩
    have sr := same_upd (o := .lst []) nr
    refine ⟨_, sr _ _ rt.hR, by rw [List.length_map]; exact small1000 (by omega), rs ++ [r], by rw [List.length_append, lr]; rfl, rt.more s2 nr, fun c o e => ?_⟩
    rw [upd_ne (ne_of_none e hR)]
    exact sr _ _ (s2 _ _ e)
  · rintro H2 ⟨rs, lr, rt, s2⟩
    rw [ly] at lr
    refine ⟨_, rfl, a, rfl, ⟨_, SqL.of (s2 _ _ ha)⟩, for_it (walk_list (K := K) (a := a) (xs := hus)) (fun i σ H3 => ∃ (o4 o5 o6 o7 o8 o9 o10 : Option V), σ = [some (.ref b), some (.int (k : Int)), some (.ref a), some (.ref R), o4, o5, o6, o7, o8, o9, o10] ∧ RowsT K H H3 R rs (fun j => (selT j (tellL k (hs.take i))).map (hdD Z)) ∧ Same H H3) ⟨_, _, _, _, _, _, _, rfl, rt, s2⟩ (fun i σ H3 _ h => ?_) ?_ ?_⟩
    · obtain ⟨_, _, _, _, _, _, _, _, _, s3⟩ := h
      exact SqL.of (s3 _ _ ha)
    · rintro i x σ H0 H3 hi ⟨o4, o5, o6, o7, o8, o9, o10, rfl, rt3, s3⟩ ⟨rfl, e1⟩
      obtain ⟨dx, ex, tx⟩ := (ta.keep (Same.kt s3)).getV e1
      obtain ⟨h, eh, rfl⟩ := mapAt ex
      obtain ⟨hOk, mv, emv, okm⟩ := hok h (List.mem_of_getElem? eh)
      obtain ⟨ahd, hndg⟩ := hOk.ok
      have hnd := hndg.ok
      obtain ⟨p, pxs, rfl, hp, tp⟩ := tx.tupE
      cases tp with
      | cons tsh tp =>
      rename_i vsh pxs
      cases tp with
      | cons tws tp =>
      rename_i vws pxs
      cases tp with
      | cons tst tp =>
      rename_i vst pxs
      cases tp with
      | cons twt tp =>
      rename_i vwt pxs
      cases tp
      obtain ⟨pw, wxs, rfl, hpw, tpw⟩ := Td.tupE (show Td K H3 vwt (.tuple ((show List (Mv m h.n) from h.w).map (mvD (waitD m) h.n))) from twt)
      obtain ⟨vm, evm, tvm⟩ := tpw.get (i := k) (d := mvD (waitD m) h.n mv) (by rw [List.getElem?_map, emv]; rfl)
      refine ⟨p, _, rfl, hp, rfl, _, _, rfl, _, _, rfl, _, _, rfl, _, _, rfl, rfl, ?_⟩
      refine ⟨_, rfl, _, rfl, _, rfl, _, rfl, _, rfl, pw, wxs, (k : Int), vm, rfl, rfl, hpw, atI_nat evm, h.n, hOk.deep, W, vsh, vws, vst, vm, h.sh, h.ws, ahd, [], h.t, qn, mv, rfl, tsh, tws, tst, tvm, okm, hnd, h5, hOk.few, fun r us' H4 s4 hr4 t4 nr => ?_⟩
      have rne : ∀ (i : Nat) (rr : Addr), rs[i]? = some rr → rr ≠ r := fun i rr e z => by
        obtain ⟨_, _, us, h3, _⟩ := rt3.each i rr e
        rw [z, nr] at h3
        cases h3
      have lus' : us'.length = (tels h.sh h.n h.ws h.t mv).length := by rw [t4.len, List.length_map]
      have snoc := tellL_snoc (k := k) eh
      rw [tellH_at emv] at snoc
      have lall := tellL_len (k := k) (q := qn) (hs := hs.take (i + 1)) (fun x hx => (hok x (List.mem_of_mem_take hx)).2)
      have lw := hwS_take hs (i + 1)
      rw [snoc, List.length_append] at lall
      refine ⟨r, rfl, ⟨_, SqL.of hr4⟩, for_it (walk_list (K := K) (a := r) (xs := us')) (fun j σ H5 => ∃ (o9 o10 : Option V), σ = [some (.ref b), some (.int (k : Int)), some (.ref a), some (.ref R), o4, some vsh, some vws, some vst, some (.ref pw), o9, o10] ∧ RowsT K H H5 R rs (fun c => (selT c (tellL k (hs.take i) ++ (tels h.sh h.n h.ws h.t mv).take j)).map (hdD Z)) ∧ H5 r = some (.lst us') ∧ KT K H4 H5 ∧ Same H H5)
        ⟨_, _, rfl, by rw [List.take_zero, List.append_nil]; exact rt3.keep s4, hr4, KT.refl H4, s3.trans s4⟩ (fun j σ H5 _ h => ?_) ?_ ?_⟩
      · obtain ⟨_, _, _, _, h5', _⟩ := h
        exact SqL.of h5'
      · rintro j y σ H00 H5 hj ⟨o9, o10, rfl, rt5, hr5, k5, s5⟩ ⟨rfl, g1⟩
        obtain ⟨dy, ey, ty⟩ := (t4.keep k5).getV g1
        obtain ⟨z, ez, rfl⟩ := mapAt ey
        have zlt := tels_lt okm z (List.mem_of_getElem? ez)
        obtain ⟨px, vn, vh, rfl, hpx, tn, th⟩ := td_two ty
        cases tn
        have hz : z.1 < rs.length := by omega
        have erz : rs[z.1]? = some rs[z.1] := List.getElem?_eq_getElem hz
        obtain ⟨zR, zn, us, hus, tus⟩ := rt5.each z.1 _ erz
        have zr := rne z.1 _ erz
        have lus : us.length ≤ (tellL k (hs.take i) ++ (tels h.sh h.n h.ws h.t mv).take j).length := by
          rw [tus.len, List.length_map]
          exact selT_le _ _
        rw [List.length_append, List.length_take] at lus
        refine ⟨px, _, rfl, hpx, rfl, _, _, rfl, _, _, rfl, rfl, ?_⟩
        refine ⟨_, rfl, _, rfl, R, rs.map V.ref, (z.1 : Int), .ref rs[z.1], rfl, rfl, SqL.of rt5.hR, atI_nat (by rw [List.getElem?_map, erz]; rfl), .inl ⟨rfl, _, SqL.of hus⟩, _, rfl, rs[z.1], us, _, rfl, rfl, hus, by rw [sizeLine_eq]; omega, ?_⟩
        have kT : KT K H5 (upd H5 rs[z.1] (.lst (us ++ [vh]))) := KT.updL hus
        have enx : tellL k (hs.take i) ++ (tels h.sh h.n h.ws h.t mv).take (j + 1) = (tellL k (hs.take i) ++ (tels h.sh h.n h.ws h.t mv).take j) ++ [z] := by
          rw [List.take_add_one, ez, List.append_assoc]
          rfl
        refine ⟨_, _, rfl, rt5.add erz hus tus th ?_ (fun c hc => ?_), by rw [upd_ne zr.symm]; exact hr5, k5.trans kT, fun c o e => ?_⟩
        · show (selT z.1 (tellL k (hs.take i) ++ (tels h.sh h.n h.ws h.t mv).take (j + 1))).map (hdD Z) = _
          rw [enx, selT_app, selT_one, if_pos rfl, List.map_append]
          rfl
        · show (selT c (tellL k (hs.take i) ++ (tels h.sh h.n h.ws h.t mv).take (j + 1))).map (hdD Z) = _
          rw [enx, selT_app, selT_one, if_neg (fun y => hc y.symm), List.append_nil]
        · rw [upd_ne (ne_of_none e zn)]
          exact s5 _ _ e
      · rintro σ H5 ⟨o9, o10, rfl, rt5, hr5, k5, s5⟩
        rw [lus', List.take_length, ← snoc] at rt5
        exact ⟨_, _, _, _, _, _, _, rfl, rt5, s5⟩
    · rintro σ H3 ⟨o4, o5, o6, o7, o8, o9, o10, rfl, rt3, s3⟩
      rw [lhu, List.take_length] at rt3
      exact ⟨_, rfl, q R rs H3 s3 lr rt3⟩
end
end Tl
namespace Tl
open PySem PySem.Spec PyProof.Rows L2 RZ
/-! ### weights of holders -/
def wtJ (j : Nat) {m : Nat} (hs : List (Hd m)) : Rat := fsum (hs.map fun h => h.sh * h.ws.getD j 0)
def wtsOf (W : Nat) {m : Nat} (hs : List (Hd m)) : List Rat := (List.range W).map fun j => wtJ j hs
structure WOk (W : Nat) {m : Nat} (h : Hd m) : Prop where
  sh : Ch 2 h.sh
  len : h.ws.length = W
  ch : ∀ r ∈ h.ws, Ch 4 r
theorem WOk.at_ {W m j : Nat} {h : Hd m} (w : WOk W h) (hj : j < W) : ∃ z, h.ws[j]? = some z ∧ Ch 4 z ∧ h.ws.getD j 0 = z := by
  have hl : j < h.ws.length := by rw [w.len]; exact hj
  have e : h.ws[j]? = some h.ws[j] := List.getElem?_eq_getElem hl
  exact ⟨_, e, w.ch _ (List.getElem_mem _), getD_of e⟩
theorem fr_mul {Z P : Nat} (hZ : 0 < Z) (hP : 0 < P) {a b : Rat} (ha : a.den ∣ Z) (hb : b.den ∣ P) : fr (Z * P) (frN Z a * frN P b) = a * b := by
  have e1 := fr_frN hZ ha
  have e2 := fr_frN hP hb
  unfold fr at e1 e2 ⊢
  rw [← Rat.mkRat_mul_mkRat, e1, e2]
theorem wtJ_sum {Z P : Nat} (hZ : 0 < Z) (hP : 0 < P) {m j : Nat} : ∀ {hs : List (Hd m)}, (∀ h ∈ hs, h.sh.den ∣ Z ∧ (h.ws.getD j 0).den ∣ P) → mkRat (hs.map fun h => frN Z h.sh * frN P (h.ws.getD j 0)).sum (Z * P) = wtJ j hs := by
  intro hs h
  have e : (hs.map fun h => frN Z h.sh * frN P (h.ws.getD j 0)).map (fr (Z * P)) = hs.map fun h => h.sh * h.ws.getD j 0 := by
    rw [List.map_map]
    exact List.map_congr_left fun x hx => fr_mul hZ hP (h x hx).1 (h x hx).2
  unfold wtJ
  rw [← e, fsum_fr (Nat.mul_pos hZ hP)]
  rfl
theorem td_hd {K : PySem.W.Frag} {H : Hp} {v : V} {Z m : Nat} {h : Hd m} (t : Td K H v (hdD Z h)) : ∃ p vws vst vwt, v = .ref p ∧ SqT K H p [.int (frN Z h.sh), vws, vst, vwt] ∧ Td K H vws (wsD h.ws) ∧ Td K H vst (ndD h.n h.t) ∧ Td K H vwt (waitD m h.n h.w) := by
  obtain ⟨p, pxs, rfl, hp, tp⟩ := t.tupE
  cases tp with
  | cons tsh tp => cases tp with
    | cons tws tp => cases tp with
      | cons tst tp => cases tp with
        | cons twt tp =>
          cases tp
          cases tsh
          exact ⟨p, _, _, _, rfl, hp, tws, tst, twt⟩
def spWof (K : PySem.W.Frag) (Z m : Nat) : Sp := fun vs H Q _ => ∃ (r : Addr) (us : List V) (W j : Nat) (hs : List (Hd m)), vs = [.ref r, .int (j : Int), .int (Z : Int)] ∧ H r = some (.lst us) ∧ TdAll K H us (hs.map (hdD Z)) ∧ j < W ∧ W ≤ 5 ∧ hs.length ≤ 900 ∧ (∀ h ∈ hs, WOk W h ∧ h.sh.den ∣ Z) ∧ 0 < Z ∧ Z ≤ LL ^ 2 ∧ ∀ v H', Same H H' → Td K H' v (rD (wtJ j hs)) → Q v H'
section
variable {P : Program} {w : World} {K : PySem.W.Frag} {mg : Str → Option Value} {base : Heap} {aN aO : Addr} {t1 t2 t3 t4 t5 t6 t7 : Tok}
theorem ok_weight_of {Z m : Nat} {f f1 f2 f3 : Addr} {fd fd1 fd2 fd3 : FuncData} (D : Dn K mg "weight_of" s_weight_of ["holders", "world", "whole"] f fd) (B : Blt mg) (C : Cst K mg aN aO t1 t2 t3 t4 t5 t6 t7)
    (D_common_bottom : Dn K mg "common_bottom" s_common_bottom ["fractions"] f1 fd1) (G_common_bottom : FnOk P w K mg base CX0 1 f1 fd1 ["fractions"] (spCB K))
    (D_times_whole : Dn K mg "times_whole" s_times_whole ["fraction", "whole"] f2 fd2) (G_times_whole : FnOk P w K mg base CX0 1 f2 fd2 ["fraction", "whole"] (spTW K))
    (D_reduced : Dn K mg "reduced" s_reduced ["top", "bottom"] f3 fd3) (G_reduced : FnOk P w K mg base CX0 1 f3 fd3 ["top", "bottom"] (spReduced K)) : FnOk P w K mg base CX0 2 f fd ["holders", "world", "whole"] (spWof K Z m) := by
  refine D.F.ok sc_weight_of (fun vs H Q E h => ?_) (fun cdv A outer s H vs Q E hr h => ?_)
  · obtain ⟨r, us, W, j, hs, rfl, _⟩ := h
    rfl
  obtain ⟨r, us, W, j, hs, rfl, hr0, tu, hj, w5, l9, hok, z0, zL, q⟩ := h
  have nd := sc_weight_of.nd
  refine ⟨_, (pss_cons (ps_set (i := 3) nd rfl (.inr rfl) (pe_call G_common_bottom (hr.mono (by omega)) (by rfl) D_common_bottom.m D_common_bottom.F.kp D_common_bottom.b .nil pass0 (pa_cons (pe_lc (own := [("_", 4), ("weights", 5), ("_", 4), ("_", 4)]) rfl nd (k_iL (K := K) rfl (pv 0)) (blkOk_by (own := [("_", 4), ("weights", 5), ("_", 4), ("_", 4)]) (by kernel_rfl)) (fun _ _ _ _ _ => (k_tup (K := K) (n := 4) rfl rfl (pgs_cons (pg_name (i := 4) nd rfl (.inl rfl)) (pgs_cons (pg_name (i := 5) nd rfl (.inl rfl)) (pgs_cons (pg_name (i := 4) nd rfl (.inl rfl)) (pgs_cons (pg_name (i := 4) nd rfl (.inl rfl)) pgs_nil)))))) (fun _ _ _ _ _ => pts_nil) (fun _ _ _ _ _ => (pe_ix (k_ixT (K := K) rfl) (pv 5) (pv 1) (fun _ _ => rfl)))) pa_nil)))
      (pss_cons (ps_set (i := 6) nd rfl (.inl rfl) (pe_callB (k_sum (K := K) rfl rfl) (by rfl) B.sum (by decide +kernel) (pa_cons (pe_lc (own := [("share", 7), ("weights", 5), ("_", 4), ("_", 4)]) rfl nd (k_iL (K := K) rfl (pv 0)) (blkOk_by (own := [("share", 7), ("weights", 5), ("_", 4), ("_", 4)]) (by kernel_rfl)) (fun _ _ _ _ _ => (k_tup (K := K) (n := 4) rfl rfl (pgs_cons (pg_name (i := 7) nd rfl (.inl rfl)) (pgs_cons (pg_name (i := 5) nd rfl (.inl rfl)) (pgs_cons (pg_name (i := 4) nd rfl (.inl rfl)) (pgs_cons (pg_name (i := 4) nd rfl (.inl rfl)) pgs_nil)))))) (fun _ _ _ _ _ => pts_nil) (fun _ _ _ _ _ => (pe_op op_mulW (pv 7) (pe_call G_times_whole (hr.mono (by omega)) (by rfl) D_times_whole.m D_times_whole.F.kp D_times_whole.b .nil pass0 (pa_cons (pe_ix (k_ixT (K := K) rfl) (pv 5) (pv 1) (fun _ _ => rfl)) (pa_cons (pv 3) pa_nil)))))) pa_nil)))
      (pss_one (ps_ret (pe_call G_reduced (hr.mono (by omega)) (by rfl) D_reduced.m D_reduced.F.kp D_reduced.b .nil pass0 (pa_cons (pv 6) (pa_cons (pe_op op_mulW (pv 2) (pv 3)) pa_nil))))))), ?_⟩
  have lu : us.length = hs.length := by rw [tu.len, List.length_map]
  have col : ∀ x ∈ hs.map (fun h => h.ws.getD j 0), x.den ∣ LL ^ 4 ∧ x.num.natAbs ≤ LL ^ 4 := fun x hx => by
    obtain ⟨h, hh, rfl⟩ := List.mem_map.mp hx
    obtain ⟨z, _, cz, e⟩ := (hok h hh).1.at_ hj
    rw [e]
    exact ⟨cz.2.2, cz.num⟩
  have pdv : lcmL (hs.map fun h => h.ws.getD j 0) ∣ LL ^ 4 := lcmL_dvd fun x hx => (col x hx).1
  have pp : 0 < lcmL (hs.map fun h => h.ws.getD j 0) := lcmL_pos (ll_pos 4) fun x hx => (col x hx).1
  have ple := Nat.le_of_dvd (ll_pos 4) pdv
  have sum := wtJ_sum z0 pp (hs := hs) (j := j) fun h hh => ⟨(hok h hh).2, lcmL_mem (List.mem_map.mpr ⟨h, hh, rfl⟩)⟩
  refine ⟨_, rfl, r, rfl, ⟨_, SqL.of hr0⟩, fun T hT => ?_⟩
  refine lc_td (K := K) (walk_list (K := K) (a := r) (xs := us)) ((hs.map fun h => h.ws.getD j 0).map rD) (by rw [List.length_map, List.length_map, lu]) (by omega) hT (fun H' s => s.seq (SqL.of hr0)) ?_ ?_
  · rintro i x e H0 H2 Qy N he s2 ⟨rfl, e1⟩ hQ
    obtain ⟨dx, ex, tx⟩ := (tu.keep (Same.kt s2)).getV e1
    obtain ⟨h, eh, rfl⟩ := mapAt ex
    rw [List.getElem?_map, List.getElem?_map, eh] at he
    cases he
    obtain ⟨p, vws, vst, vwt, rfl, hp, tws, _, _⟩ := td_hd tx
    obtain ⟨z, ez, _, ed⟩ := (hok h (List.mem_of_getElem? eh)).1.at_ hj
    obtain ⟨pw, wxs, rfl, hpw, tpw⟩ := tws.tupE
    obtain ⟨vz, evz, tvz⟩ := tpw.get (i := j) (d := rD z) (by rw [List.getElem?_map, ez]; rfl)
    refine ⟨p, _, rfl, hp, rfl, _, _, rfl, _, _, rfl, _, _, rfl, _, _, rfl, rfl, rfl, ?_⟩
    refine iteT (B := N H2) ?_
    refine ⟨_, rfl, _, rfl, pw, wxs, (j : Int), vz, rfl, rfl, hpw, at_of (j := j) rfl evz, hQ vz H2 (Same.refl _) ?_⟩
    show Td K H2 vz (rD (h.ws.getD j 0))
    rw [ed]
    exact tvz
  intro H2 us2 h2 t2 s2
  refine ⟨T, us2, LL ^ 4, _, rfl, .inl (SqL.of h2), t2, ll_pos 4, ll_lt1500 (by decide), fun x hx => (col x hx).1, ?_⟩
  have tu2 := tu.keep (Same.kt s2)
  have hr2 := s2 _ _ hr0
  generalize lcmL (hs.map fun h => h.ws.getD j 0) = pr at pdv pp ple sum ⊢
  refine ⟨_, rfl, r, rfl, ⟨_, SqL.of hr2⟩, fun T3 hT3 => ?_⟩
  refine lc_td (K := K) (walk_list (K := K) (a := r) (xs := us)) ((hs.map fun h => frN Z h.sh * frN pr (h.ws.getD j 0)).map PyData.int) (by rw [List.length_map, List.length_map, lu]) (by omega) hT3 (fun H' s => s.seq (SqL.of hr2)) ?_ ?_
  · rintro i x e H0 H3 Qy N he s3 ⟨rfl, e1⟩ hQ
    obtain ⟨dx, ex, tx⟩ := (tu2.keep (Same.kt s3)).getV e1
    obtain ⟨h, eh, rfl⟩ := mapAt ex
    rw [List.getElem?_map, List.getElem?_map, eh] at he
    cases he
    have hk := hok h (List.mem_of_getElem? eh)
    obtain ⟨p, vws, vst, vwt, rfl, hp, tws, _, _⟩ := td_hd tx
    obtain ⟨z, ez, cz, ed⟩ := hk.1.at_ hj
    obtain ⟨pw, wxs, rfl, hpw, tpw⟩ := tws.tupE
    obtain ⟨vz, evz, tvz⟩ := tpw.get (i := j) (d := rD z) (by rw [List.getElem?_map, ez]; rfl)
    have l5 : LL ^ 4 < 2 ^ 1500 := ll_lt1500 (by decide)
    refine ⟨p, _, rfl, hp, rfl, _, _, rfl, _, _, rfl, _, _, rfl, _, _, rfl, rfl, rfl, ?_⟩
    refine iteT (B := N H3) ?_
    refine ⟨_, rfl, _, rfl, _, rfl, pw, wxs, (j : Int), vz, rfl, rfl, hpw, at_of (j := j) rfl evz, _, rfl, vz, z, pr, rfl, tvz, Nat.lt_of_le_of_lt ple l5, Nat.lt_of_le_of_lt cz.num l5, Nat.lt_of_le_of_lt cz.den l5, _, _, rfl, rfl, ?_, ?_⟩
    · have b1 : (frN Z h.sh).natAbs ≤ Z := frN_abs hk.2 hk.1.sh.1 hk.1.sh.2.1
      have b2 : (frN pr z).natAbs ≤ LL ^ 4 * LL ^ 4 := by
        unfold frN
        rw [Int.natAbs_mul, Int.natAbs_natCast]
        exact Nat.mul_le_mul cz.num (Nat.le_trans (Nat.div_le_self _ _) ple)
      rw [← Nat.pow_add] at b2
      exact wide_mul (a := 1500) (b := 1500) (Nat.lt_of_le_of_lt (Nat.le_trans b1 zL) (ll_lt1500 (by decide))) (Nat.lt_of_le_of_lt b2 (ll_lt1500 (by decide))) (by decide) (by decide) (by decide)
    · refine hQ _ H3 (Same.refl _) ?_
      show Td K H3 (.int (frN Z h.sh * frN pr z)) (.int (frN Z h.sh * frN pr (h.ws.getD j 0)))
      rw [ed]
      exact .int _
  intro H3 us3 h3 t3 s3
  have eu := tdAll_intsE t3
  subst eu
  refine ⟨T3, _, rfl, SqL.of h3, ?_⟩
  have zp : Z * pr < 2 ^ 4000 := by
    have : Z * pr ≤ LL ^ 2 * LL ^ 4 := Nat.mul_le_mul zL ple
    rw [← Nat.pow_add] at this
    exact Nat.lt_of_le_of_lt this (Nat.lt_trans (ll_lt1500 (by decide)) (Nat.pow_lt_pow_right (by decide) (by decide)))
  refine ⟨_, rfl, _, rfl, _, rfl, _, _, rfl, rfl, ?_, _, Z * pr, by rw [Int.natCast_mul]; rfl, Nat.mul_pos z0 pp, zp, fun v H4 s4 tv => ?_⟩
  · exact wide_mul (a := 1500) (b := 1500) (by rw [Int.natAbs_natCast]; exact Nat.lt_of_le_of_lt zL (ll_lt1500 (by decide))) (by rw [Int.natAbs_natCast]; exact Nat.lt_of_le_of_lt ple (ll_lt1500 (by decide))) (by decide) (by decide) (by decide)
  · rw [sum] at tv
    exact q v H4 ((s2.trans s3).trans s4) tv
end
end Tl
/-! zip of a tuple and a list -/
namespace Tl
open PySem PySem.Spec PyProof.Rows L2 RZ
/-- a tuple beside a list, the items in new pairs -/
def ItzM (K : PySem.W.Frag) (a b : Addr) : It :=
  ⟨fun i H => ∃ (xs ys : List V) (x y : V), SqT K H a xs ∧ SqL K H b ys ∧ xs[i]? = some x ∧ ys[i]? = some y,
   fun i H v H' => ∃ T x y, v = .ref T ∧ H T = none ∧ H' = upd H T (.tup [x, y]) ∧ (∀ xs, SqT K H a xs → xs[i]? = some x) ∧ ∀ ys, SqL K H b ys → ys[i]? = some y,
   fun i H => ∃ xs ys : List V, SqT K H a xs ∧ SqL K H b ys ∧ i = min xs.length ys.length⟩
theorem turn_zipM {P : Program} {w : World} {K : PySem.W.Frag} {elts : List Expr} {kk : Nat} {tpos : Pos} (N a b : Addr) (la : a < N) (lb : b < N) :
    Turn P w K (.Tuple elts kk tpos) (ItzM K a b) [(N + 4 : Nat), (N + 2 : Nat), (N + 3 : Nat), N, (N + 1 : Nat)] (N + 4 : Nat) (fun i h => IsZip h (N + 4 : Nat) (N + 2 : Nat) (N + 3 : Nat) .none ∧ IsTupOf2 h (N + 2 : Nat) (.ref N) (.ref (N + 1 : Nat)) ∧ (∃ a1 a2, IsTupOf2 h (N + 3 : Nat) a1 a2) ∧ h.IsTupleIter N a i ∧ h.IsListIter (N + 1 : Nat) b i) where
  mem := List.mem_cons_self
  obj := by
    rintro i h ⟨g1, g2, ⟨a1, a2, g3⟩, ⟨o1, e1, _, d1⟩, ⟨o2, e2, _, d2⟩⟩ q hq
    simp only [List.mem_cons, List.not_mem_nil, or_false] at hq
    rcases hq with z | z | z | z | z
    · rw [z]; exact ⟨_, g1, fun v y => nomatch y⟩
    · rw [z]; exact ⟨_, g2, fun v y => nomatch y⟩
    · rw [z]; exact ⟨_, g3, fun v y => nomatch y⟩
    · rw [z]; exact ⟨o1, e1, fun v y => by rw [d1] at y; cases y⟩
    · rw [z]; exact ⟨o2, e2, fun v y => by rw [d2] at y; cases y⟩
  keep := by
    rintro i h h' ⟨g1, g2, ⟨a1, a2, g3⟩, i1, i2⟩ k
    exact ⟨k _ (by simp) _ g1, k _ (by simp) _ g2, ⟨a1, a2, k _ (by simp) _ g3⟩, i1.at fun o y => k _ (by simp) o y, i2.at fun o y => k _ (by simp) o y⟩
  item := by
    intro X hP hw hK hcalm i pins s σ H E I hf st hg
    subst hP hw hK
    obtain ⟨g1, g2, g3, i1, i2⟩ := st
    obtain ⟨xs, ys, x, y, q1, q2, e1, e2⟩ := hg
    obtain ⟨us1, rv1, p1, _⟩ := I.tuple q1
    obtain ⟨us2, rv2, p2, _⟩ := I.list q2
    obtain ⟨u1, f1, r1⟩ := rv1.get e1
    obtain ⟨u2, f2, r2⟩ := rv2.get e2
    have n1 : i < us1.toArray.size := by rw [List.size_toArray]; exact (List.getElem?_eq_some_iff.mp f1).1
    have n2 : i < us2.toArray.size := by rw [List.size_toArray]; exact (List.getElem?_eq_some_iff.mp f2).1
    have D1 := Draws.tuple (prog := X.prog) (w := X.w) (A := X.A.in1) (I.ok.hd hcalm) N a (Nat.ne_of_lt la) us1.toArray
    have D2 := Draws.list (prog := X.prog) (w := X.w) (A := X.A.in1) (I.ok.hd hcalm) (N + 1 : Nat) b (Nat.ne_of_lt (Nat.lt_succ_of_lt lb)) us2.toArray
    have one : ∀ {t : Addr}, t < N → ∀ q ∈ [t], q < N := fun h q hq => by rw [List.mem_singleton.mp hq]; exact h
    have G := GoesN.zip2 (elts := elts) (x1 := kk) (pos := tpos) (zip_sep2 (one la) (one lb)) D1 D2
    refine G.goes i s (fun v s2 => ∃ x H', Inv X pins σ H' s2 ∧ RelV x v ∧ (ItzM X.K a b).yld i H x H' ∧ _ ∧ ∀ q ∈ [(N + 4 : Nat), (N + 2 : Nat), (N + 3 : Nat), N, (N + 1 : Nat)], H' q = none) E (by omega) ⟨g1, g2, g3, ⟨i1, p1⟩, ⟨i2, p2.isList⟩⟩ fun v h' tk hY st' hk htk => ?_
    obtain ⟨T, v1, v2, rfl, hT, w1, w2, hTt⟩ := hY
    have e1' : us1[i]? = some v1 := by simpa using w1
    have e2' : us2[i]? = some v2 := by simpa using w2
    rw [f1] at e1'
    rw [f2] at e2'
    cases e1'
    cases e2'
    obtain ⟨k1, k2, k3, ⟨k4, _⟩, ⟨k5, _⟩⟩ := st'
    have new : ObjOk X.prog X.w (upd H T (.tup [x, y])) h' T (.tup [x, y]) := ⟨by show 2 ≤ sizeLine; decide, [u1, u2], .cons r1 (.cons r2 .nil), hTt⟩
    have hlt : ∀ q ∈ [(N + 4 : Nat), (N + 2 : Nat), (N + 3 : Nat), N, (N + 1 : Nat)], q < s.heap.objs.size := fun q hq => by
      simp only [List.mem_cons, List.not_mem_nil, or_false] at hq
      obtain ⟨a1, a2, g3⟩ := g3
      rcases hq with z | z | z | z | z
      · rw [z]; exact Heap.lt_size g1
      · rw [z]; exact Heap.lt_size g2
      · rw [z]; exact Heap.lt_size g3
      · rw [z]; obtain ⟨_, y, _⟩ := i1; exact Heap.lt_size y
      · rw [z]; obtain ⟨_, y, _⟩ := i2; exact Heap.lt_size y
    refine ⟨.ref T, upd H T (.tup [x, y]), I.turnedNew (t' := tk) (ch := [(N + 4 : Nat), (N + 2 : Nat), (N + 3 : Nat), N, (N + 1 : Nat)]) (fun q o hq e => hk q o (fun m => hq ?_) e) hf hT new, rfl, ⟨T, x, y, rfl, I.hok.fresh hT, rfl, fun l hl => ?_, fun l hl => ?_⟩, ⟨k1, k2, k3, k4, k5⟩, fun q hq => ?_⟩
    · simp only [List.mem_cons, List.not_mem_nil, or_false] at m ⊢
      rcases m with m | m | m | m
      · exact .inl m
      · exact .inr (.inr (.inl m))
      · exact .inr (.inr (.inr (.inl m)))
      · exact .inr (.inr (.inr (.inr m)))
    · rw [I.tuple_inj hl q1]
      exact e1
    · rw [I.list_inj hl q2]
      exact e2
    · rw [upd_ne (Nat.ne_of_lt (Nat.lt_of_lt_of_le (hlt q hq) hT))]
      exact (hf q hq).1
  done := by
    intro X hP hw hK hcalm i pins s σ H E I hf st hg
    subst hP hw hK
    obtain ⟨g1, g2, g3, i1, i2⟩ := st
    obtain ⟨xs, ys, q1, q2, hi⟩ := hg
    obtain ⟨us1, rv1, p1, _⟩ := I.tuple q1
    obtain ⟨us2, rv2, p2, _⟩ := I.list q2
    have D1 := Draws.tuple (prog := X.prog) (w := X.w) (A := X.A.in1) (I.ok.hd hcalm) N a (Nat.ne_of_lt la) us1.toArray
    have D2 := Draws.list (prog := X.prog) (w := X.w) (A := X.A.in1) (I.ok.hd hcalm) (N + 1 : Nat) b (Nat.ne_of_lt (Nat.lt_succ_of_lt lb)) us2.toArray
    have one : ∀ {t : Addr}, t < N → ∀ q ∈ [t], q < N := fun h q hq => by rw [List.mem_singleton.mp hq]; exact h
    have G := GoesN.zip2 (elts := elts) (x1 := kk) (pos := tpos) (zip_sep2 (one la) (one lb)) D1 D2
    have hn : i = min us1.toArray.size us2.toArray.size := by
      rw [hi, rv1.length, rv2.length, List.size_toArray, List.size_toArray]
    rw [hn] at i1 i2
    refine G.stops s (fun s1 => Inv X pins σ H s1) E ⟨g1, g2, g3, ⟨i1, p1⟩, ⟨i2, p2.isList⟩⟩ fun h' tk hk htk => ?_
    refine I.turnedL (t' := tk) (ch := [(N + 4 : Nat), (N + 2 : Nat), (N + 3 : Nat), N, (N + 1 : Nat)]) (fun q o hq e => hk q o (fun m => hq ?_) e) hf
    simp only [List.mem_cons, List.not_mem_nil, or_false] at m ⊢
    rcases m with m | m | m | m
    · exact .inl m
    · exact .inr (.inr (.inl m))
    · exact .inr (.inr (.inr (.inl m)))
    · exact .inr (.inr (.inr (.inr m)))
  self := fun A i s Q E st h => wpAny_pyIter_zip st.1 h
def iZipM (K : PySem.W.Frag) (ta : TA) : TI := fun σ H R => ta σ H fun vs H1 => ∃ a b xs ys, vs = [.ref a, .ref b] ∧ SqT K H1 a xs ∧ SqL K H1 b ys ∧ R (ItzM K a b) H1
section
variable {X : Cx} {K : PySem.W.Frag} (hK : X.K = K)
include hK
theorem k_zipM {e1 e2 : Expr} {ta : TA} {p pos tpos : Pos} {elts : List Expr} {kk : Nat} (hg : Gl X "zip") (hm : X.mg "zip" = none) (ha : PA X [e1, e2] ta)
    (hs : starEach [e1, e2] X.env = (false, eval e1 X.env) :: starEach [e2] X.env := by rfl) (hpl : (backTo pos (starEach [e2] X.env)).any (·.1) = false := by rfl) :
    PI X (.Tuple elts kk tpos) (.Call (.Name "zip" p) [e1, e2] [] pos) (iZipM K ta) := by
  subst hK
  constructor
  intro pins s σ H R I want
  refine Call_ (ld_blt I hg hm PyProof.Rows.boot_zip (PyProof.Rows.callWith_type1 (thn (ha.run pos pins s σ H _ I want) fun us sa za => ?_) hs hpl))
  obtain ⟨vs, Ha, Ia, rs, a, b, xs, ys, rfl, qa, qb, want⟩ := za
  obtain ⟨u1, u2, rfl, r1, r2⟩ : ∃ u1 u2, us = [u1, u2] ∧ RelV (.ref a) u1 ∧ RelV (.ref b) u2 := by
    cases rs with
    | cons r1 rs =>
      cases rs with
      | cons r2 rs =>
        cases rs
        exact ⟨_, _, rfl, r1, r2⟩
  cases r1
  cases r2
  obtain ⟨us1, rv1, p1, _⟩ := Ia.tuple qa
  obtain ⟨us2, rv2, p2, _⟩ := Ia.list qb
  obtain ⟨o1, h1, _⟩ := id p1
  refine zip_begins2 (begins_tuple a us1.toArray) (begins_list b us2.toArray) p1 p2.isList fun h' gz gT gO g1 g2 hsz hk => wpAny_pyIter_zip gz ?_
  have Ib : Inv X pins σ Ha { sa with heap := h' } := Ia.kept (t' := sa.toks) hk
  refine ⟨_, _, _, _, Ha, rfl, Ib, turn_zipM sa.heap.objs.size a b (Heap.lt_size h1) p2.lt, ⟨gz, gT, ⟨_, _, gO⟩, ⟨_, g1, rfl, rfl⟩, ⟨_, g2, rfl, rfl⟩⟩, fun q hq => ?_, want⟩
  have hle : sa.heap.objs.size ≤ q := by
    simp only [List.mem_cons, List.not_mem_nil, or_false] at hq
    rcases hq with z | z | z | z | z
    · rw [z]; exact Nat.le_add_right _ _
    · rw [z]; exact Nat.le_add_right _ _
    · rw [z]; exact Nat.le_add_right _ _
    · rw [z]; exact Nat.le_refl _
    · rw [z]; exact Nat.le_add_right _ _
  exact Ia.fpOk hle (Ia.hok.fresh hle)
end
theorem walk_zipM {K : PySem.W.Frag} {a b : Addr} {xs ys : List V} {n : Nat} (h1 : xs.length = n) (h2 : ys.length = n) : Walk (ItzM K a b) n (fun H => SqT K H a xs ∧ SqL K H b ys) (YPair (fun i => xs[i]?) (fun i => ys[i]?)) := by
  refine ⟨fun i _ hi q => ⟨xs, ys, xs[i]'(by omega), ys[i]'(by omega), q.1, q.2, List.getElem?_eq_getElem _, List.getElem?_eq_getElem _⟩, fun _ q => ⟨xs, ys, q.1, q.2, by omega⟩, fun i H v H' _ q y => ?_⟩
  obtain ⟨T, x, y, e1, e2, e3, f1, f2⟩ := y
  exact ⟨T, x, y, e1, e2, e3, f1 xs q.1, f2 ys q.2⟩
end Tl
namespace Tl
open PySem PySem.Spec PyProof.Rows L2 RZ
/-! ### the node that is made -/
def ledN (W : Nat) : (m : Nat) → Nd m → List (Hd m) → Nd m
  | 0, _, _ => ()
  | m + 1, gs, hs => (show List (Qn m) from gs).mapIdx fun k (q : Qn m) => (show List (An m) from q).mapIdx fun a (an : An m) => ((an.1, wtsOf W (selT a (tellL k hs)), ledN W m an.2.2 (selT a (tellL k hs))) : An m)
def ledA (W m : Nat) (k : Nat) (hs : List (Hd (m + 1))) (a : Nat) (an : An m) : An m := (an.1, wtsOf W (selT a (tellL k hs)), ledN W m an.2.2 (selT a (tellL k hs)))
def ledQ (W m : Nat) (hs : List (Hd (m + 1))) (k : Nat) (q : Qn m) : Qn m := (show List (An m) from q).mapIdx (ledA W m k hs)
theorem ledN_succ (W m : Nat) (gs : List (Qn m)) (hs : List (Hd (m + 1))) : ledN W (m + 1) gs hs = (gs.mapIdx (ledQ W m hs) : List (Qn m)) := rfl
theorem tels_good {W m : Nat} {sh : Rat} {q : Qn m} (hsh : Ch 2 sh) : ∀ {n : Nat} {ws ahead : List Rat} {t : Nd n} {mv : Mv m n}, MvOk (WtOk m) n t q mv → n ≤ 6 → NdP W n ahead t → cnt n t ≤ 1500 → ws.length = W → (∀ r ∈ ws, Ch 4 r) →
    ∀ x ∈ tels sh n ws t mv, HOk W x.2 ∧ WOk W x.2 ∧ x.2.sh = sh ∧ ∃ an, q[x.1]? = some an ∧ WtOk m x.2.n x.2.t an.2.2 x.2.w
  | 0, _, _, _, mv, ⟨an, h1, h2⟩, hn, ok, c, hl, hc, x, hx => by
    rw [List.mem_singleton.mp hx]
    exact ⟨⟨hn, ⟨_, ok⟩, c⟩, ⟨hsh, hl, hc⟩, rfl, an, h1, h2⟩
  | n + 1, _, _, _, .inl mv, ⟨an, h1, h2⟩, hn, ok, c, hl, hc, x, hx => by
    rw [List.mem_singleton.mp hx]
    exact ⟨⟨hn, ⟨_, ok⟩, c⟩, ⟨hsh, hl, hc⟩, rfl, an, h1, h2⟩
  | n + 1, _, _, t, .inr y, ⟨qn, e, al⟩, hn, ok, c, hl, hc, x, hx => by
    obtain ⟨⟨qok, qsh⟩, nok⟩ := ok.2 qn (List.mem_of_getElem? e)
    have cq : cntQ n qn ≤ cnt (n + 1) t := cnt_le_of_mem (List.mem_of_getElem? e)
    have one : ∀ (q' : Qn n) (ms : List (Mv m n)), Al (fun (an : An n) (y : MvT (Wt m) n) => MvOk (WtOk m) n an.2.2 q y) q' ms → (∀ an ∈ q', an ∈ qn) → x ∈ (List.zipWith (fun (an : An n) (y : Mv m n) => if isZ an.2.1 then [] else tels sh n an.2.1 an.2.2 y) q' ms).flatten → HOk W x.2 ∧ WOk W x.2 ∧ x.2.sh = sh ∧ ∃ an, q[x.1]? = some an ∧ WtOk m x.2.n x.2.t an.2.2 x.2.w := by
      intro q' ms al
      induction al with
      | nil => exact fun _ h => absurd h List.not_mem_nil
      | cons h hal ih =>
        rename_i an y' as bs
        intro sub hx
        rw [List.zipWith_cons_cons, List.flatten_cons] at hx
        have man := sub an (List.mem_cons_self ..)
        have ca := cnt_le_ans man
        rcases List.mem_append.mp hx with hx | hx
        · split at hx
          · exact absurd hx List.not_mem_nil
          · exact tels_good hsh h (by omega) (nok an man) (by omega) (qok.wide an man) (qsh an man) x hx
        · exact ih (fun z hz => sub z (List.mem_cons_of_mem _ hz)) hx
    have hx' : x ∈ (match (show List (Qn n) from t)[y.1]? with
      | some qn => (List.zipWith (fun (an : An n) (y : Mv m n) => if isZ an.2.1 then [] else tels sh n an.2.1 an.2.2 y) qn y.2).flatten
      | none => []) := hx
    rw [e] at hx'
    exact one qn y.2 al (fun _ h => h) hx'
theorem hwS_sel {m : Nat} (a : Nat) : ∀ l : List (Nat × Hd m), hwS (selT a l) ≤ hwS (l.map fun x => x.2)
  | [] => Nat.le_refl 0
  | x :: l => by
    have ih := hwS_sel a l
    have e : selT a (x :: l) = selT a [x] ++ selT a l := selT_app a [x] l
    rw [e, selT_one, List.map_cons]
    unfold hwS at ih ⊢
    rw [List.map_append, List.sum_append, List.map_cons, List.sum_cons]
    split
    · show hw x.2 + 0 + _ ≤ _
      omega
    · show 0 + _ ≤ _
      omega
theorem tellL_hw {m k : Nat} {q : Qn m} : ∀ {hs : List (Hd (m + 1))}, (∀ h ∈ hs, ∃ mv, (show List (Mv m h.n) from h.w)[k]? = some mv ∧ MvOk (WtOk m) h.n h.t q mv) → hwS ((tellL k hs).map fun x => x.2) ≤ hwS hs
  | [], _ => Nat.le_refl 0
  | h :: hs, ok => by
    obtain ⟨mv, e1, e2⟩ := ok h (List.mem_cons_self ..)
    have i1 := tellL_hw (hs := hs) fun x hx => ok x (List.mem_cons_of_mem _ hx)
    have i2 := tels_hw (sh := h.sh) (ws := h.ws) e2
    have e : tellL k (h :: hs) = tels h.sh h.n h.ws h.t mv ++ tellL k hs := by
      show tellH k h ++ tellL k hs = _
      rw [tellH_at e1]
    rw [e, List.map_append]
    unfold hwS at i1 i2 ⊢
    rw [List.map_append, List.sum_append, List.map_cons, List.sum_cons]
    unfold hw at i1 i2 ⊢
    omega
/-- holders that are right for a node -/
structure HsL (Z W m : Nat) (gs : Nd m) (hs : List (Hd m)) : Prop where
  ok : ∀ h ∈ hs, HOk W h ∧ WOk W h ∧ h.sh.den ∣ Z ∧ WtOk m h.n h.t gs h.w
  bd : hwS hs ≤ 900
theorem HsL.len {Z W m : Nat} {gs : Nd m} {hs : List (Hd m)} (h : HsL Z W m gs hs) : hs.length ≤ 900 := by
  have : ∀ l : List (Hd m), l.length ≤ hwS l := fun l => by
    induction l with
    | nil => exact Nat.le_refl 0
    | cons x r ih =>
      unfold hwS at ih ⊢
      rw [List.map_cons, List.sum_cons, List.length_cons]
      unfold hw at ih ⊢
      omega
  exact Nat.le_trans (this hs) h.bd
theorem HsL.mv {Z W m k : Nat} {gs : List (Qn m)} {hs : List (Hd (m + 1))} {q : Qn m} (h : HsL Z W (m + 1) gs hs) (e : gs[k]? = some q) : ∀ x ∈ hs, HOk W x ∧ ∃ mv, (show List (Mv m x.n) from x.w)[k]? = some mv ∧ MvOk (WtOk m) x.n x.t q mv := fun x hx => by
  obtain ⟨h1, _, _, h3⟩ := h.ok x hx
  have al : Al (fun (q : Qn m) (y : Mv m x.n) => MvOk (WtOk m) x.n x.t q y) gs (show List (Mv m x.n) from x.w) := h3
  obtain ⟨mv, e1, e2⟩ := al.get e
  exact ⟨h1, mv, e1, e2⟩
theorem HsL.sel {Z W m k : Nat} {gs : List (Qn m)} {hs : List (Hd (m + 1))} {q : Qn m} {a : Nat} {an : An m} (h : HsL Z W (m + 1) gs hs) (e : gs[k]? = some q) (ea : q[a]? = some an) : HsL Z W m an.2.2 (selT a (tellL k hs)) := by
  have mv := h.mv e
  constructor
  · intro y hy
    unfold selT at hy
    obtain ⟨x, hx, rfl⟩ := List.mem_map.mp hy
    obtain ⟨hx1, hx2⟩ := List.mem_filter.mp hx
    have xa : x.1 = a := of_decide_eq_true hx2
    unfold tellL at hx1
    obtain ⟨l, hl, hxl⟩ := List.mem_flatten.mp hx1
    obtain ⟨z, hz, rfl⟩ := List.mem_map.mp hl
    obtain ⟨hO, mv', e1, e2⟩ := mv z hz
    obtain ⟨_, wO, zd, _⟩ := h.ok z hz
    rw [tellH_at e1] at hxl
    obtain ⟨ahd, nok⟩ := hO.ok
    obtain ⟨g1, g2, gs', an', g3, g4⟩ := tels_good wO.sh e2 hO.deep nok hO.few wO.len wO.ch x hxl
    rw [xa, ea] at g3
    cases g3
    exact ⟨g1, g2, by rw [gs']; exact zd, g4⟩
  · exact Nat.le_trans (hwS_sel a _) (Nat.le_trans (tellL_hw fun x hx => (mv x hx).2) h.bd)
end Tl
namespace Tl
open PySem PySem.Spec PyProof.Rows L2 RZ
def spLedN (K : PySem.W.Frag) (Z m : Nat) : Sp := fun vs H Q _ => ∃ (W : Nat) (vn : V) (r : Addr) (hus : List V) (ahead : List Rat) (gs : Nd m) (hs : List (Hd m)), vs = [vn, .int (W : Int), .ref r, .int (Z : Int)] ∧ Td K H vn (ndD m gs) ∧ NdOk W m ahead gs ∧ H r = some (.lst hus) ∧ TdAll K H hus (hs.map (hdD Z)) ∧ HsL Z W m gs hs ∧ 0 < Z ∧ Z ≤ LL ^ 2 ∧ 1 ≤ W ∧ W ≤ 5 ∧
  ∀ v H', Same H H' → Td K H' v (ndD m (ledN W m gs hs)) → Q v H'
theorem mapIdx_at {α β : Type} {f : Nat → α → β} {l : List α} {i : Nat} {a : α} (h : l[i]? = some a) : (l.mapIdx f)[i]? = some (f i a) := by
  rw [List.getElem?_mapIdx, h]
  rfl
section
variable {P : Program} {w : World} {K : PySem.W.Frag} {mg : Str → Option Value} {base : Heap}
theorem ok_led_node1 {Z m : Nat} {f f1 f2 : Addr} {fd fd1 fd2 : FuncData} (D : Dn K mg "led_node" s_led_node ["node", "worlds", "holders", "whole"] f fd) (B : Blt mg) (D_tellers_of : Dn K mg "tellers_of" s_tellers_of ["question", "number", "holders"] f1 fd1) {sp1 : Sp} (G_tellers_of : FnOk P w K mg base CX0 9 f1 fd1 ["question", "number", "holders"] sp1) (hsp1 : ∀ m', m = m' + 1 → sp1 = spTellers K Z m')
    (D_weight_of : Dn K mg "weight_of" s_weight_of ["holders", "world", "whole"] f2 fd2) {sp2 : Sp} (G_weight_of : FnOk P w K mg base CX0 2 f2 fd2 ["holders", "world", "whole"] sp2) (hsp2 : ∀ m', m = m' + 1 → sp2 = spWof K Z m') {sp0 : Sp} (G_led_node : FnOk P w K mg base CX0 (9 + m) f fd ["node", "worlds", "holders", "whole"] sp0) (hsp : ∀ m', m = m' + 1 → sp0 = spLedN K Z m') : FnOk P w K mg base CX0 (10 + m) f fd ["node", "worlds", "holders", "whole"] (spLedN K Z m) := by
  rw [show 10 + m = (9 + m) + 1 by omega]
  refine D.F.ok sc_led_node (fun vs H Q E h => ?_) (fun cdv A outer s H vs Q E hr h => ?_)
  · obtain ⟨W, vn, r, hus, ahead, gs, hs, rfl, _⟩ := h
    rfl
  obtain ⟨W, vn, r, hus, ahead, gs, hs, rfl, hn, gok, hr0, tu, hsl, z0, zL, w1, w5, q⟩ := h
  have nd := sc_led_node.nd
  have D_led_node := D
  refine ⟨_, (pss_one (ps_ret (pe_callTy (k_tupOf (K := K) rfl) (by rfl) B.tuple (by decide +kernel) (pa_cons (pe_lc (own := [("number", 7), ("question", 8)]) rfl nd (k_enum (K := K) rfl (by rfl) B.enumerate (pa_cons (pv 0) pa_nil)) (blkOk_by (own := [("number", 7), ("question", 8)]) (by kernel_rfl)) (fun _ _ _ _ _ => (k_tup (K := K) (n := 2) rfl rfl (pgs_cons (pg_name (i := 7) nd rfl (.inl rfl)) (pgs_cons (pg_name (i := 8) nd rfl (.inl rfl)) pgs_nil)))) (fun _ _ _ _ _ => pts_nil) (fun _ _ _ _ _ => (pe_callTy (k_tupOf (K := K) rfl) (by rfl) B.tuple (by decide +kernel) (pa_cons (pe_lc (own := [("answer", 5), ("tellers", 6)]) rfl nd (k_zipM (K := K) rfl (by rfl) B.zip (pa_cons (pv 8) (pa_cons (pe_call G_tellers_of (hr.mono (by omega)) (by rfl) D_tellers_of.m D_tellers_of.F.kp D_tellers_of.b .nil pass0 (pa_cons (pv 8) (pa_cons (pv 7) (pa_cons (pv 2) pa_nil)))) pa_nil))) (blkOk_by (own := [("answer", 5), ("tellers", 6)]) (by kernel_rfl)) (fun _ _ _ _ _ => (k_tup (K := K) (n := 2) rfl rfl (pgs_cons (pg_name (i := 5) nd rfl (.inl rfl)) (pgs_cons (pg_name (i := 6) nd rfl (.inr rfl)) pgs_nil)))) (fun _ _ _ _ _ => pts_nil) (fun _ _ _ _ _ => (pe_tup (pa_cons (pe_ix (k_ixT (K := K) rfl) (pv 5) pe_int (fun _ _ => rfl)) (pa_cons (pe_callTy (k_tupOf (K := K) rfl) (by rfl) B.tuple (by decide +kernel) (pa_cons (pe_lc (own := [("world", 4)]) rfl nd (pi_range1 (by rfl) B.range (pa_cons (pv 1) pa_nil)) (blkOk_by (own := [("world", 4)]) (by kernel_rfl)) (fun _ _ _ _ _ => (pg_name (i := 4) nd rfl (.inl rfl))) (fun _ _ _ _ _ => pts_nil) (fun _ _ _ _ _ => (pe_call G_weight_of (hr.mono (by omega)) (by rfl) D_weight_of.m D_weight_of.F.kp D_weight_of.b .nil pass0 (pa_cons (pv 6) (pa_cons (pv 4) (pa_cons (pv 3) pa_nil)))))) pa_nil)) (pa_cons (pe_call G_led_node (hr.mono (by omega)) (by rfl) D_led_node.m D_led_node.F.kp D_led_node.b .nil pass0 (pa_cons (pe_ix (k_ixT (K := K) rfl) (pv 5) pe_int (fun _ _ => rfl)) (pa_cons (pv 1) (pa_cons (pv 6) (pa_cons (pv 3) pa_nil))))) pa_nil)))))) pa_nil)))) pa_nil)))), ?_⟩
  obtain ⟨a, xs, ds, rfl, ha, ed, ta, l0⟩ := td_qs hn
  refine ⟨_, rfl, a, xs, rfl, ha, fun T hT => ?_⟩
  have sT := same_upd (o := .lst []) hT
  cases m with
  | zero =>
    have := l0 rfl
    subst this
    refine lc_it (walk_enumT (K := K) (a := a) (xs := [])) (fun i H2 => H2 = upd H T (.lst [])) rfl (fun i H2 _ h => by rw [h]; exact Same.kt sT _ _ ha) ?_ ?_
    · rintro i x H2 H3 hi
      exact absurd hi (Nat.not_lt_zero _)
    · rintro H2 rfl
      exact ⟨T, [], rfl, SqL.of upd_same, fun v H3 s3 q3 => q (.ref v) H3 (sT.trans s3) (.tup q3 .nil)⟩
  | succ m =>
    have hsp := hsp m rfl
    have hsp1 := hsp1 m rfl
    have hsp2 := hsp2 m rfl
    subst hsp hsp1 hsp2
    obtain ⟨qs, hqs⟩ : ∃ qs : List (Qn m), (qs : Nd (m + 1)) = gs := ⟨gs, rfl⟩
    subst hqs
    cases ed
    have lx : xs.length = qs.length := by rw [ta.len, List.length_map]
    have l5 : qs.length ≤ 5 := gok.1
    refine lc_it (walk_enumT (K := K) (a := a) (xs := xs)) (fun i H2 => ∃ us : List V, H2 T = some (.lst us) ∧ TdAll K H2 us (((qs.mapIdx (ledQ W m hs)).take i).map (qnD m)) ∧ Same H H2) ⟨[], upd_same, .nil, sT⟩ (fun i H2 _ h => by obtain ⟨_, _, _, s2⟩ := h; exact Same.kt s2 _ _ ha) ?_ ?_
    · rintro i x H2 H3 hi ⟨us, h2, tus, s2⟩ ⟨T3, x1, x2, rfl, n3, rfl, e1, e2⟩
      cases e1
      obtain ⟨dx, ex, tx⟩ := ta.getV e2
      obtain ⟨qn, eq, rfl⟩ := map_at ex
      obtain ⟨qok, nok⟩ := gok.2 qn (List.mem_of_getElem? eq)
      have q12 := qok.most
      have s3 : Same H2 (upd H2 T3 (.tup [.int (i : Int), x2])) := same_upd n3
      have s03 := s2.trans s3
      have h3 := s3 _ _ h2
      have t3 := tus.keep (Same.kt s3)
      have tx3 := tx.keep (Same.kt s03)
      have e3 : SqT K (upd H2 T3 (.tup [.int (i : Int), x2])) T3 [.int (i : Int), x2] := .inl (.inl upd_same)
      refine ⟨T3, _, rfl, e3, rfl, _, _, rfl, _, _, rfl, rfl, ?_⟩
      refine ⟨rfl, ?_⟩
      refine iteT (B := ∃ us : List V, (upd H2 T3 (.tup [.int (i : Int), x2])) T = some (.lst us) ∧ TdAll K (upd H2 T3 (.tup [.int (i : Int), x2])) us (((qs.mapIdx (ledQ W m hs)).take (i + 1)).map (qnD m)) ∧ Same H (upd H2 T3 (.tup [.int (i : Int), x2]))) ?_
      clear e3
      generalize upd H2 T3 (.tup [.int (i : Int), x2]) = H3 at s3 s03 h3 t3 tx3 ⊢
      obtain ⟨qa, ys, rfl, hqa, tqa⟩ := id tx3.tupE
      have ly : ys.length = qn.length := by rw [tqa.len, List.length_map]
      have hr3 := s03 _ _ hr0
      have tu3 := tu.keep (Same.kt s03)
      refine ⟨_, rfl, _, rfl, _, rfl, _, rfl, W, i, .ref qa, r, hus, qn, hs, rfl, tx3, w5, q12, hr3, tu3, hsl.mv eq, Nat.le_trans hsl.bd (by decide), fun R rs H4 s4 lr rt => ?_⟩
      have hqa4 := Same.kt (K := K) s4 _ _ hqa
      have tqa4 := tqa.keep (Same.kt s4)
      refine ⟨qa, R, ys, rs.map V.ref, rfl, hqa4, SqL.of rt.hR, fun T5 hT5 => ?_⟩
      have sT5 := same_upd (o := .lst []) hT5
      have s45 : Same H4 (upd H4 T5 (.lst [])) := sT5
      refine lc_it (walk_zipM (K := K) (a := qa) (b := R) (xs := ys) (ys := rs.map V.ref) (n := qn.length) ly (by rw [List.length_map, lr])) (fun j H6 => ∃ us6 : List V, H6 T5 = some (.lst us6) ∧ TdAll K H6 us6 (((qn.mapIdx (ledA W m i hs)).take j).map (anD m)) ∧ Same H4 H6) ⟨[], upd_same, .nil, sT5⟩ (fun j H6 _ h => by obtain ⟨_, _, _, s6⟩ := h; exact ⟨Same.kt s6 _ _ hqa4, SqL.of (s6 _ _ rt.hR)⟩) ?_ ?_
      · rintro j y H6 H7 hj ⟨us6, h6, t6, s6⟩ ⟨T7, y1, y2, rfl, n7, rfl, g1, g2⟩
        obtain ⟨dy, ey, ty⟩ := tqa4.getV g1
        obtain ⟨an, ean, rfl⟩ := map_at ey
        have man := List.mem_of_getElem? ean
        obtain ⟨rr, err, rfl⟩ := map_at g2
        obtain ⟨_, _, rus, hrus, trus⟩ := (rt.keep s6).each j rr err
        have s7 : Same H6 (upd H6 T7 (.tup [y1, .ref rr])) := same_upd n7
        have s67 := s6.trans s7
        obtain ⟨pn, vw, vz, vt, rfl, hpn, tw, tz, tt⟩ := td_an (ty.keep (Same.kt s67))
        refine ⟨T7, _, rfl, .inl (.inl upd_same), rfl, _, _, rfl, _, _, rfl, rfl, ?_⟩
        refine ⟨rfl, ?_⟩
        refine iteT (B := ∃ us6 : List V, (upd H6 T7 (.tup [.ref pn, .ref rr])) T5 = some (.lst us6) ∧ TdAll K (upd H6 T7 (.tup [.ref pn, .ref rr])) us6 (((qn.mapIdx (ledA W m i hs)).take (j + 1)).map (anD m)) ∧ Same H4 (upd H6 T7 (.tup [.ref pn, .ref rr]))) ?_
        have h7 := s7 _ _ h6
        have t7 := t6.keep (Same.kt (K := K) s7)
        have hrus7 := s7 _ _ hrus
        have trus7 := trus.keep (Same.kt s7)
        generalize upd H6 T7 (.tup [.ref pn, .ref rr]) = H7 at s7 s67 hpn tw tz tt h7 t7 hrus7 trus7 ⊢
        have sl := hsl.sel eq ean
        refine ⟨_, rfl, pn, _, 0, _, rfl, rfl, hpn, at_of (j := 0) rfl rfl, _, rfl, _, rfl, by omega, by omega, fun T8 hT8 => ?_⟩
        refine lc_td (K := K) (walk_range (lo := 0) (n := W)) ((wtsOf W (selT j (tellL i hs))).map rD) (by rw [List.length_map, wtsOf, List.length_map, List.length_range]) (by omega) hT8 (fun _ _ => trivial) ?_ ?_
        · rintro k yk e H0 H8 Qy N he s8 ⟨rfl, rfl⟩ hQ
          have hk : k < W := by
            have := (List.getElem?_eq_some_iff.mp he).1
            rw [List.length_map, wtsOf, List.length_map, List.length_range] at this
            exact this
          unfold wtsOf at he
          rw [List.getElem?_map, List.getElem?_map, List.getElem?_range hk] at he
          cases he
          refine ⟨rfl, ?_⟩
          refine iteT (B := N H8) ?_
          have ek : (0 : Int) + (k : Int) = (k : Int) := by omega
          exact ⟨_, rfl, _, rfl, _, rfl, rr, rus, W, k, selT j (tellL i hs), by show [V.ref rr, V.int (0 + (k : Int)), V.int (Z : Int)] = _; rw [ek], s8 _ _ hrus7, trus7.keep (Same.kt s8), hk, w5, sl.len, fun x hx => ⟨(sl.ok x hx).2.1, (sl.ok x hx).2.2.1⟩, z0, zL, fun v H9 s9 t9 => hQ v H9 s9 t9⟩
        intro H80 us8 h80 t80 s80
        refine ⟨T8, us8, rfl, SqL.of h80, fun l8' H8 s8' q8' => ?_⟩
        have s8 := s80.trans s8'
        have t8 : Td K H8 (.ref l8') (wsD (wtsOf W (selT j (tellL i hs)))) := .tup q8' (t80.keep (Same.kt s8'))
        have hpn8 := Same.kt (K := K) s8 _ _ hpn
        refine ⟨_, rfl, pn, _, 2, _, rfl, rfl, hpn8, at_of (j := 2) rfl rfl, _, rfl, _, rfl, _, rfl, W, vt, rr, rus, an.2.1, an.2.2, selT j (tellL i hs), rfl, tt.keep (Same.kt s8), nok an man, s8 _ _ hrus7, trus7.keep (Same.kt s8), sl, z0, zL, w1, w5, fun v9 H9 s9 t9 => ?_⟩
        refine ⟨by show 3 ≤ sizeLine; decide, fun p10 n10 => ?_⟩
        have s10 : Same H9 (upd H9 p10 (.tup [vw, .ref l8', v9])) := same_upd n10
        have s710 := (s8.trans s9).trans s10
        have h10 := s710 _ _ h7
        have kT : KT K (upd H9 p10 (.tup [vw, .ref l8', v9])) (upd (upd H9 p10 (.tup [vw, .ref l8', v9])) T5 (.lst (us6 ++ [.ref p10]))) := KT.updL h10
        refine ⟨us6, h10, ?_, us6 ++ [.ref p10], upd_same, ?_, fun c o e => ?_⟩
        · rw [t7.len, List.length_map, List.length_take]
          exact small1000 (by omega)
        · rw [List.take_add_one, mapIdx_at ean, List.map_append]
          refine (t7.keep ((Same.kt s710).trans kT)).app (.cons (.tup (kT _ _ (.inl (.inl upd_same))) (.cons (tw.keep ((Same.kt s710).trans kT)) (.cons (t8.keep ((Same.kt (s9.trans s10)).trans kT)) (.cons (t9.keep ((Same.kt s10).trans kT)) .nil)))) .nil)
        · rw [upd_ne (ne_of_none e hT5)]
          exact s710 _ _ (s67 _ _ e)
      · rintro H6 ⟨us6, h6, t6, s6⟩
        have ez : (qn.mapIdx (ledA W m i hs)).take qn.length = qn.mapIdx (ledA W m i hs) := List.take_of_length_le (by rw [List.length_mapIdx]; exact Nat.le_refl _)
        rw [ez] at t6
        refine ⟨T5, us6, rfl, SqL.of h6, fun l8 H8 s8 q8 => ?_⟩
        have s38 := s4.trans (s6.trans s8)
        have h8 := s38 _ _ h3
        have kT : KT K H8 (upd H8 T (.lst (us ++ [.ref l8]))) := KT.updL h8
        refine ⟨us, h8, ?_, us ++ [.ref l8], upd_same, ?_, fun c o e => ?_⟩
        · rw [t3.len, List.length_map, List.length_take]
          exact small1000 (by omega)
        · rw [List.take_add_one, mapIdx_at eq, List.map_append]
          exact (t3.keep ((Same.kt s38).trans kT)).app (.cons (.tup (kT _ _ q8) (t6.keep ((Same.kt s8).trans kT))) .nil)
        · rw [upd_ne (ne_of_none e hT)]
          exact s38 _ _ (s03 _ _ e)
    · rintro H2 ⟨us, h2, tus, s2⟩
      have ez : (qs.mapIdx (ledQ W m hs)).take xs.length = qs.mapIdx (ledQ W m hs) := List.take_of_length_le (by rw [List.length_mapIdx, lx]; exact Nat.le_refl _)
      rw [ez] at tus
      exact ⟨T, us, rfl, SqL.of h2, fun v H3 s3 q3 => q (.ref v) H3 (s2.trans s3) (.tup q3 (tus.keep (Same.kt s3)))⟩
end
end Tl
namespace Tl
open PySem PySem.Spec PyProof.Rows L2 RZ
theorem ledN_shp (W : Nat) : ∀ (m : Nat) (gs : Nd m) (hs : List (Hd m)), Shp m gs (ledN W m gs hs)
  | 0, _, _ => trivial
  | m + 1, gs, hs => by
    have q1 : ∀ (k : Nat) (q : Qn m), Al (fun (a a' : An m) => a.1 = a'.1 ∧ Shp m a.2.2 a'.2.2) q (ledQ W m hs k q) := fun k q => Al.of (by unfold ledQ; rw [List.length_mapIdx]) fun i a b h1 h2 => by
      have e : (ledQ W m hs k q)[i]? = some (ledA W m k hs i a) := mapIdx_at h1
      rw [h2] at e
      cases e
      exact ⟨rfl, ledN_shp W m _ _⟩
    show Al _ (show List (Qn m) from gs) ((show List (Qn m) from gs).mapIdx (ledQ W m hs))
    refine Al.of (by rw [List.length_mapIdx]) fun i a b h1 h2 => ?_
    rw [mapIdx_at h1] at h2
    cases h2
    exact q1 i a
/-- the holders at the beginning -/
def hd0 (W m n : Nat) (t : Nd n) (bs : Bw m n) : List (Hd m) := bs.map fun x => ⟨x.1, ones W, n, t, x.2⟩
theorem hsL0 {Z W m n : Nat} {ahead : List Rat} {t : Nd n} {gs : Nd m} {bs : Bw m n} (ok : BwOk m n t gs bs) (hn : n ≤ 6) (nok : NdP W n ahead t) (hc : cnt n t ≤ 199) (hZ : ∀ x ∈ bs, x.1.den ∣ Z) : HsL Z W m gs (hd0 W m n t bs) := by
  constructor
  · intro h hh
    obtain ⟨x, hx, rfl⟩ := List.mem_map.mp hh
    exact ⟨⟨hn, ⟨_, nok⟩, by show cnt n t ≤ 1500; omega⟩, ⟨(ok.ch x hx).1, List.length_replicate, ones_ch⟩, hZ x hx, ok.ok x hx⟩
  · have e : ∀ l : Bw m n, hwS (hd0 W m n t l) = l.length * (1 + cnt n t) := fun l => by
      induction l with
      | nil => exact (Nat.zero_mul _).symm
      | cons x r ih =>
        unfold hwS hd0 at ih ⊢
        rw [List.map_cons, List.map_cons, List.sum_cons, ih, List.length_cons, Nat.add_mul, Nat.one_mul]
        show 1 + cnt n t + _ = _
        omega
    rw [e]
    exact Nat.le_trans (Nat.mul_le_mul ok.most (show 1 + cnt n t ≤ 199 + 1 by omega)) (by decide)
def spLedH (K : PySem.W.Frag) (C : Addr) (m n : Nat) : Sp := fun vs H Q _ => ∃ (p p' : Addr) (W : Nat) (v v' vb : V) (t : Nd n) (gs : Nd m) (bs : Bw m n), vs = [.ref p, .ref p', vb] ∧ HsOk K C H p W n t v ∧ HsOk K C H p' W m gs v' ∧ NdP W n (ones W) t ∧ Td K H vb (bwD m n bs) ∧ BwOk m n t gs bs ∧ n ≤ 6 ∧ m ≤ 6 ∧ cnt n t ≤ 199 ∧
  ∀ (p2 : Addr) (v2 : V) (H' : Hp), Same H H' → HouseAt C H' p2 W v2 → Td K H' v2 (ndD m (ledN W m gs (hd0 W m n t bs))) → Q (.ref p2) H'
section
variable {P : Program} {w : World} {K : PySem.W.Frag} {mg : Str → Option Value} {base : Heap} {aN aO : Addr} {t1 t2 t3 t4 t5 t6 t7 : Tok}
theorem ok_led_node {Z : Nat} {f f1 f2 f3 f4 : Addr} {fd fd1 fd2 fd3 fd4 : FuncData} (D : Dn K mg "led_node" s_led_node ["node", "worlds", "holders", "whole"] f fd) (B : Blt mg) (C : Cst K mg aN aO t1 t2 t3 t4 t5 t6 t7) (D_tellers_of : Dn K mg "tellers_of" s_tellers_of ["question", "number", "holders"] f1 fd1) (D_tellings : Dn K mg "tellings" s_tellings ["share", "weights", "stand", "move"] f2 fd2) (D_are_nought : Dn K mg "are_nought" s_are_nought ["weights"] f3 fd3)
    (D_weight_of : Dn K mg "weight_of" s_weight_of ["holders", "world", "whole"] f4 fd4) (G_weight_of : ∀ m, FnOk P w K mg base CX0 2 f4 fd4 ["holders", "world", "whole"] (spWof K Z m)) : ∀ m : Nat, FnOk P w K mg base CX0 (10 + m) f fd ["node", "worlds", "holders", "whole"] (spLedN K Z m) := by
  have tel : ∀ m, FnOk P w K mg base CX0 9 f1 fd1 ["question", "number", "holders"] (spTellers K Z m) := fun m => ok_tellers_of D_tellers_of B D_tellings (FnOk.anyS (lv := fun n => 2 + n) (ok_tellings (Z := Z) (m := m) D_tellings B C D_are_nought) fun n hn => by show 2 + n ≤ 8; omega)
  intro m
  induction m with
  | zero => exact ok_led_node1 (m := 0) D B D_tellers_of (tel 0) (fun m' e => by omega) D_weight_of (G_weight_of 0) (fun m' e => by omega) (sp0 := fun _ _ _ _ => False) ⟨fun vs H Q E h => h.elim, fun A outer s H args us vs Q E _ _ _ _ h => h.elim⟩ (fun m' e => by omega)
  | succ m ih =>
    rw [show 10 + m = 9 + (m + 1) by omega] at ih
    exact ok_led_node1 (m := m + 1) D B D_tellers_of (tel m) (fun m' e => by rw [show m' = m by omega]) D_weight_of (G_weight_of m) (fun m' e => by rw [show m' = m by omega]) ih (fun m' e => by rw [show m' = m by omega])
def anyZ (sp : Nat → Sp) : Sp := fun vs H Q E => ∃ z, sp z vs H Q E
theorem FnOk.anyZ {f : Addr} {fd : FuncData} {ps : List Str} {k : Nat} {sp : Nat → Sp} (h : ∀ z, FnOk P w K mg base CX0 k f fd ps (sp z)) : FnOk P w K mg base CX0 k f fd ps (Tl.anyZ sp) :=
  ⟨fun vs H Q E ⟨z, q⟩ => (h z).len vs H Q E q, fun A outer s H args us vs Q E hr e0 hb rv ⟨z, q⟩ => (h z).run A outer s H args us vs Q E hr e0 hb rv q⟩
theorem ok_led_house {m n : Nat} {Cc fi fe f f1 f2 f3 f4 : Addr} {fd fd1 fd2 fd3 fd4 : FuncData} (D : Dn K mg "led_house" s_led_house ["house", "other", "between"] f fd) (B : Blt mg) (C : Cst K mg aN aO t1 t2 t3 t4 t5 t6 t7) (U : Hcl K mg Cc fi fe) (D_led_node : Dn K mg "led_node" s_led_node ["node", "worlds", "holders", "whole"] f1 fd1) (G_led_node : FnOk P w K mg base CX0 (10 + m) f1 fd1 ["node", "worlds", "holders", "whole"] (anyZ fun Z => spLedN K Z m))
    (D_made_house : Dn K mg "made_house" s_made_house ["worlds", "tree"] f2 fd2) {k : Nat} (G_made_house : FnOk P w K mg base CX0 k f2 fd2 ["worlds", "tree"] (spMade K Cc m)) (hk : 10 + m ≤ k)
    (D_common_bottom : Dn K mg "common_bottom" s_common_bottom ["fractions"] f3 fd3) (G_common_bottom : FnOk P w K mg base CX0 1 f3 fd3 ["fractions"] (spCB K)) (D_times_whole : Dn K mg "times_whole" s_times_whole ["fraction", "whole"] f4 fd4) (G_times_whole : FnOk P w K mg base CX0 1 f4 fd4 ["fraction", "whole"] (spTW K)) : FnOk P w K mg base CX0 (k + 1) f fd ["house", "other", "between"] (spLedH K Cc m n) := by
  refine D.F.ok sc_led_house (fun vs H Q E h => ?_) (fun cdv A outer s H vs Q E hr h => ?_)
  · obtain ⟨p, p', W, v, v', vb, t, gs, bs, rfl, _⟩ := h
    rfl
  obtain ⟨p, p', W, v, v', vb, t, gs, bs, rfl, h1, h2, hG, tb, ok, hn, hm, hc, q⟩ := h
  have nd := sc_led_house.nd
  refine ⟨_, (pss_cons (ps_set (i := 3) nd rfl (.inr rfl) (pe_call G_common_bottom (hr.mono (by omega)) (by rfl) D_common_bottom.m D_common_bottom.F.kp D_common_bottom.b .nil pass0 (pa_cons (pe_lc (own := [("share", 4), ("_", 5)]) rfl nd (k_iT (K := K) rfl (pv 2)) (blkOk_by (own := [("share", 4), ("_", 5)]) (by kernel_rfl)) (fun _ _ _ _ _ => (k_tup (K := K) (n := 2) rfl rfl (pgs_cons (pg_name (i := 4) nd rfl (.inl rfl)) (pgs_cons (pg_name (i := 5) nd rfl (.inl rfl)) pgs_nil)))) (fun _ _ _ _ _ => pts_nil) (fun _ _ _ _ _ => (pv 4))) pa_nil)))
      (pss_cons (ps_set (i := 6) nd rfl (.inr rfl) (pe_op (k_rep (K := K) rfl) (pe_tup (pa_cons (pe_glob (v := .ref _) rfl C.ONE rfl) pa_nil)) (k_fld (K := K) rfl (pv 0) rfl)))
      (pss_cons (ps_setLc (i := 7) (own := [("share", 4), ("plan", 8)]) rfl nd rfl rfl (sw_true rfl rfl rfl (by decide +kernel)) (k_iT (K := K) rfl (pv 2)) (blkOk_by (own := [("share", 4), ("plan", 8)]) (by kernel_rfl)) (fun _ _ _ _ _ => (k_tup (K := K) (n := 2) rfl rfl (pgs_cons (pg_name (i := 4) nd rfl (.inl rfl)) (pgs_cons (pg_name (i := 8) nd rfl (.inl rfl)) pgs_nil)))) (fun _ _ _ _ _ => pts_nil) (fun _ _ _ _ _ => (pe_tup (pa_cons (pe_call G_times_whole (hr.mono (by omega)) (by rfl) D_times_whole.m D_times_whole.F.kp D_times_whole.b .nil pass0 (pa_cons (pv 4) (pa_cons (pv 3) pa_nil))) (pa_cons (pv 6) (pa_cons (k_fld (K := K) rfl (pv 0) rfl) (pa_cons (pv 8) pa_nil)))))))
      (pss_one (ps_ret (pe_call G_made_house (hr.mono (by omega)) (by rfl) D_made_house.m D_made_house.F.kp D_made_house.b .nil pass0 (pa_cons (k_fld (K := K) rfl (pv 1) rfl) (pa_cons (pe_call G_led_node (hr.mono (by omega)) (by rfl) D_led_node.m D_led_node.F.kp D_led_node.b .nil pass0 (pa_cons (k_fld (K := K) rfl (pv 1) rfl) (pa_cons (k_fld (K := K) rfl (pv 1) rfl) (pa_cons (pv 7) (pa_cons (pv 3) pa_nil))))) pa_nil)))))))), ?_⟩
  obtain ⟨d, e⟩ := id h1.at_
  obtain ⟨bp, xs, rfl, hbp, tx⟩ := tb.tupE
  have lx : xs.length = bs.length := by rw [tx.len, List.length_map]
  have w1 := h1.w1
  have w5 := h1.w5
  have b3 := ok.most
  have shd : ∀ x ∈ bs.map (fun b => b.1), x.den ∣ LL ^ 2 := fun x hx => by
    obtain ⟨b, hb, rfl⟩ := List.mem_map.mp hx
    exact (ok.ch b hb).1.2.2
  have Zdv : lcmL (bs.map fun b => b.1) ∣ LL ^ 2 := lcmL_dvd shd
  have Zp : 0 < lcmL (bs.map fun b => b.1) := lcmL_pos (ll_pos 2) shd
  have ZL : lcmL (bs.map fun b => b.1) ≤ LL ^ 2 := Nat.le_of_dvd (ll_pos 2) Zdv
  have Zm : ∀ b ∈ bs, b.1.den ∣ lcmL (bs.map fun b => b.1) := fun b hb => lcmL_mem (List.mem_map.mpr ⟨b, hb, rfl⟩)
  refine ⟨_, rfl, bp, rfl, ⟨_, hbp⟩, fun T0 hT0 => ?_⟩
  refine lc_td (K := K) (walk_tup (K := K) (a := bp) (xs := xs)) ((bs.map fun b => b.1).map rD) (by rw [List.length_map, List.length_map, lx]) (by omega) hT0 (fun H' s => Same.kt s _ _ hbp) ?_ ?_
  · rintro i x e0 H0 H3 Qy N he s3 ⟨rfl, e1⟩ hQ
    obtain ⟨dx, ex, tx'⟩ := (tx.keep (Same.kt s3)).getV e1
    obtain ⟨b, eb, rfl⟩ := mapAt ex
    rw [List.getElem?_map, List.getElem?_map, eb] at he
    cases he
    obtain ⟨pb, v0, v1, rfl, hpb, t0, t1'⟩ := td_two tx'
    refine ⟨pb, _, rfl, hpb, rfl, _, _, rfl, _, _, rfl, rfl, rfl, ?_⟩
    refine iteT (B := N H3) ?_
    exact ⟨_, rfl, hQ v0 H3 (Same.refl _) t0⟩
  intro H00 us0 h00 t00 s00
  refine ⟨T0, us0, LL ^ 2, _, rfl, .inl (SqL.of h00), t00, ll_pos 2, ll_lt1500 (by decide), shd, ?_⟩
  generalize lcmL (bs.map fun b => b.1) = Z at Zdv Zp ZL Zm ⊢
  clear t00 h00 shd
  have e00 := s00 _ _ e
  refine ⟨by show 1 ≤ sizeLine; decide, fun p1 n1 => ?_⟩
  have s1 := s00.trans (same_upd (o := .tup [.ref aO]) n1)
  refine ⟨_, rfl, p, Cc, d, _, _, rfl, s1 _ _ e, U.cl, U.nw, hf_w _ _, p1, (W : Int), _, rfl, rfl, .inl (.inl upd_same), by simp, by omega, by omega, by simp, fun pa H2 s2 q2 => ?_⟩
  have s02 := s1.trans s2
  have to := ones_td (W := W) (td_inj (C.tO H2)) q2
  refine ⟨_, rfl, bp, rfl, ⟨_, Same.kt s02 _ _ hbp⟩, fun T hT => ?_⟩
  refine lc_td (K := K) (walk_tup (K := K) (a := bp) (xs := xs)) ((hd0 W m n t bs).map (hdD Z)) (by rw [List.length_map, hd0, List.length_map, lx]) (by omega) hT (fun H' s => Same.kt (s02.trans s) _ _ hbp) ?_ ?_
  · rintro i x e0 H0 H3 Qy N he s3 ⟨rfl, e1⟩ hQ
    have s03 := s02.trans s3
    obtain ⟨dx, ex, tx'⟩ := (tx.keep (Same.kt s03)).getV e1
    obtain ⟨b, eb, rfl⟩ := mapAt ex
    have he2 : ((bs.map fun (x : Rat × Wt m n) => (⟨x.1, ones W, n, t, x.2⟩ : Hd m)).map (hdD Z))[i]? = some e0 := he
    rw [List.getElem?_map, List.getElem?_map, eb] at he2
    cases he2
    obtain ⟨pb, v0, v1, rfl, hpb, t0, t1'⟩ := td_two tx'
    have c1 := (ok.ch b (List.mem_of_getElem? eb)).1
    have zb : Z < 2 ^ 1500 := Nat.lt_of_le_of_lt ZL (ll_lt1500 (by decide))
    refine ⟨pb, _, rfl, hpb, rfl, _, _, rfl, _, _, rfl, rfl, rfl, ?_⟩
    refine iteT (B := N H3) ?_
    refine ⟨_, rfl, _, rfl, v0, b.1, Z, rfl, t0, zb, Nat.lt_of_le_of_lt c1.num (ll_lt1500 (by decide)), Nat.lt_of_le_of_lt c1.den (ll_lt1500 (by decide)), ?_⟩
    refine ⟨_, rfl, _, rfl, p, Cc, d, _, _, rfl, s03 _ _ e, U.cl, U.nt, hf_t _ _, _, rfl, by show 4 ≤ sizeLine; decide, fun p4 n4 => ?_⟩
    have s4 : Same H3 (upd H3 p4 (.tup [.int (frN Z b.1), .ref pa, v, v1])) := same_upd n4
    refine hQ (.ref p4) _ s4 (.tup (.inl (.inl upd_same)) (.cons (.int _) (.cons (to.keep (Same.kt (s3.trans s4))) (.cons (h1.td.keep (Same.kt (s03.trans s4))) (.cons (t1'.keep (Same.kt s4)) .nil)))))
  · intro H3 us h3 tu s3
    have s03 := s02.trans s3
    have h2' := h2.keep s03
    obtain ⟨d', e'⟩ := id h2'.at_
    have cs := cnt_shp (ledN_shp W m gs (hd0 W m n t bs))
    have few := h2.few
    exact ⟨_, rfl, p', Cc, d', _, _, rfl, e', U.cl, U.nw, hf_w _ _, _, rfl, p', Cc, d', _, _, rfl, e', U.cl, U.nt, hf_t _ _, _, rfl, p', Cc, d', _, _, rfl, e', U.cl, U.nw, hf_w _ _, _, rfl, _, rfl, Z, W, v', T, us, ones W, gs, hd0 W m n t bs, rfl, h2'.td, h2'.ok, h3, tu, hsL0 ok hn hG hc Zm, Zp, ZL, w1, w5, fun v9 H9 s9 t9 => ⟨W, v9, _, rfl, t9, by omega, by omega, fun p2 H10 s10 hA => q p2 v9 H10 (s03.trans (s9.trans s10)) hA (t9.keep (Same.kt s10))⟩⟩
end
end Tl
namespace Tl
open PySem PySem.Spec PyProof.Rows L2 RZ
/-! ### outlines -/
def olD : (m : Nat) → Nd m → PyData
  | 0, _ => .tuple []
  | m + 1, gs => .tuple ((show List (Qn m) from gs).map fun q => .tuple ((show List (An m) from q).map fun a => .tuple [wdD a.1, olD m a.2.2]))
def olA (m : Nat) (a : An m) : PyData := .tuple [wdD a.1, olD m a.2.2]
def olQ (m : Nat) (q : Qn m) : PyData := .tuple ((show List (An m) from q).map (olA m))
theorem olD_succ (m : Nat) (gs : List (Qn m)) : olD (m + 1) gs = .tuple (gs.map (olQ m)) := rfl
theorem good_olD : ∀ (m : Nat) (gs : Nd m), Good (3 * m + 2) (olD m gs)
  | 0, _ => (good_tup (k := 1) (xs := []) fun x hx => absurd hx List.not_mem_nil).mono (by omega)
  | m + 1, gs => by
    have h : Good (3 * m + 4 + 1) (olD (m + 1) gs) := good_tup fun x hx => by
      obtain ⟨q, _, rfl⟩ := List.mem_map.mp hx
      refine (good_tup (k := 3 * m + 3) fun y hy => ?_).mono (by omega)
      obtain ⟨a, _, rfl⟩ := List.mem_map.mp hy
      refine (good_tup (k := 3 * m + 2) fun z hz => ?_).mono (by omega)
      rcases List.mem_cons.mp hz with rfl | hz
      · exact (good_wdD a.1).mono (by omega)
      · rw [List.mem_singleton.mp hz]
        exact good_olD m a.2.2
    exact h.mono (by omega)
theorem olD_shp : ∀ {m : Nat} {t t' : Nd m}, Shp m t t' → olD m t = olD m t'
  | 0, _, _, _ => rfl
  | m + 1, qs, qs', sh => by
    have one : ∀ {q q' : Qn m}, Al (fun (a a' : An m) => a.1 = a'.1 ∧ Shp m a.2.2 a'.2.2) q q' → (show List (An m) from q).map (olA m) = (show List (An m) from q').map (olA m) := fun {q q'} h => by
      induction h with
      | nil => rfl
      | cons h _ ih =>
        rw [List.map_cons, List.map_cons, ih]
        unfold olA
        rw [h.1, olD_shp h.2]
    have all : ∀ {l l' : List (Qn m)}, Al (fun (q q' : Qn m) => Al (fun (a a' : An m) => a.1 = a'.1 ∧ Shp m a.2.2 a'.2.2) q q') l l' → l.map (olQ m) = l'.map (olQ m) := fun {l l'} h => by
      induction h with
      | nil => rfl
      | cons h _ ih =>
        rw [List.map_cons, List.map_cons, ih]
        unfold olQ
        rw [one h]
    exact congrArg PyData.tuple (all sh)
def spOl (K : PySem.W.Frag) (m : Nat) : Sp := fun vs H Q _ => ∃ (W : Nat) (v : V) (ahead : List Rat) (gs : Nd m), vs = [v] ∧ Td K H v (ndD m gs) ∧ NdOk W m ahead gs ∧ ∀ v' H', Same H H' → Td K H' v' (olD m gs) → Q v' H'
section
variable {P : Program} {w : World} {K : PySem.W.Frag} {mg : Str → Option Value} {base : Heap}
end
end Tl
namespace Tl
open PySem PySem.Spec PyProof.Rows L2 RZ
def spShaped (K : PySem.W.Frag) (C : Addr) (m : Nat) : Sp := fun vs H Q _ => ∃ (p p' : Addr) (W : Nat) (v v' : V) (t t' : Nd m), vs = [.ref p, .ref p'] ∧ HsOk K C H p W m t v ∧ HsOk K C H p' W m t' v' ∧ Shp m t t' ∧ ∀ H', Same H H' → Q (.bl true) H'
section
variable {P : Program} {w : World} {K : PySem.W.Frag} {mg : Str → Option Value} {base : Heap} {aN aO : Addr} {t1 t2 t3 t4 t5 t6 t7 : Tok}
theorem ok_led {m n : Nat} {Cc fi fe f f1 f2 f3 : Addr} {fd fd1 fd2 fd3 : FuncData} {k : Nat} (D : Dn K mg "led" s_led ["house", "other", "between"] f fd) (U : Hcl K mg Cc fi fe) (D_check_alike : Dn K mg "check_alike" s_check_alike ["house", "other"] f1 fd1) (D_check_between : Dn K mg "check_between" s_check_between ["house", "other", "thing"] f2 fd2) (G_check_between : FnOk P w K mg base CX0 k f2 fd2 ["house", "other", "thing"] (spCkB K Cc m n))
    (D_led_house : Dn K mg "led_house" s_led_house ["house", "other", "between"] f3 fd3) (G_led_house : FnOk P w K mg base CX0 k f3 fd3 ["house", "other", "between"] (spLedH K Cc m n)) (hk : 1 ≤ k) : FnOk P w K mg base CX0 (k + 1) f fd ["house", "other", "between"] (spLedH K Cc m n) := by
  have G_check_alike : FnOk P w K mg base CX0 1 f1 fd1 ["house", "other"] (spAlike Cc) := ok_check_alike D_check_alike U
  refine D.F.ok sc_led (fun vs H Q E h => ?_) (fun cdv A outer s H vs Q E hr h => ?_)
  · obtain ⟨p, p', W, v, v', vb, t, gs, bs, rfl, _⟩ := h
    rfl
  obtain ⟨p, p', W, v, v', vb, t, gs, bs, rfl, h1, h2, hG, tb, ok, hn, hm, hc, q⟩ := h
  have nd := sc_led.nd
  refine ⟨_, (pss_cons (ps_expr (pe_call G_check_alike (hr.mono (by omega)) (by rfl) D_check_alike.m D_check_alike.F.kp D_check_alike.b .nil pass0 (pa_cons (pv 0) (pa_cons (pv 1) pa_nil))))
      (pss_cons (ps_expr (pe_call G_check_between (hr.mono (by omega)) (by rfl) D_check_between.m D_check_between.F.kp D_check_between.b .nil pass0 (pa_cons (pv 0) (pa_cons (pv 1) (pa_cons (pv 2) pa_nil)))))
      (pss_one (ps_ret (pe_call G_led_house (hr.mono (by omega)) (by rfl) D_led_house.m D_led_house.F.kp D_led_house.b .nil pass0 (pa_cons (pv 0) (pa_cons (pv 1) (pa_cons (pv 2) pa_nil)))))))), ?_⟩
  exact ⟨_, rfl, _, rfl, p, p', W, v, v', rfl, h1.at_, h2.at_, _, rfl, _, rfl, _, rfl, p, p', W, v, v', vb, t, gs, bs, rfl, h1, h2, tb, ok, hn, fun H1 s1 => ⟨_, rfl, _, rfl, _, rfl, p, p', W, v, v', vb, t, gs, bs, rfl, h1.keep s1, h2.keep s1, hG, tb.keep (Same.kt s1), ok, hn, hm, hc, fun p2 v2 H2 s2 hA t2 => q p2 v2 H2 (s1.trans s2) hA t2⟩⟩
end
end Tl
namespace Tl
open PySem PySem.Spec PyProof.Rows L2 RZ
/-! ### sums at a path -/
theorem fsum_apd (a b : List Rat) : fsum (a ++ b) = fsum a + fsum b := by
  unfold fsum
  rw [List.foldl_append, foldl_add]
  rfl
theorem fsum_nn : ∀ {rs : List Rat}, (∀ r ∈ rs, 0 ≤ r) → 0 ≤ fsum rs
  | [], _ => by rw [fsum_nil]; decide
  | r :: rs, h => by
    rw [fsum_cons]
    exact Rat.add_nonneg (h r (List.mem_cons_self ..)) (fsum_nn fun x hx => h x (List.mem_cons_of_mem _ hx))
theorem rat_le_add {a b : Rat} (h : 0 ≤ b) : a ≤ a + b := by
  have z := Rat.add_le_add_left (c := a) |>.mpr h
  rwa [Rat.add_zero] at z
theorem rat_le_addl {a b : Rat} (h : 0 ≤ a) : b ≤ a + b := by
  rw [Rat.add_comm]
  exact rat_le_add h
theorem fsum_ge : ∀ {rs : List Rat} {r : Rat}, (∀ x ∈ rs, 0 ≤ x) → r ∈ rs → r ≤ fsum rs
  | x :: rs, r, h, m => by
    rw [fsum_cons]
    rcases List.mem_cons.mp m with rfl | m
    · exact rat_le_add (fsum_nn fun y hy => h y (List.mem_cons_of_mem _ hy))
    · exact Rat.le_trans (fsum_ge (fun y hy => h y (List.mem_cons_of_mem _ hy)) m) (rat_le_addl (h x (List.mem_cons_self ..)))
theorem fsum_den {D : Nat} (hD : 0 < D) : ∀ {rs : List Rat}, (∀ r ∈ rs, r.den ∣ D) → (fsum rs).den ∣ D
  | [], _ => by
    rw [fsum_nil]
    exact Nat.one_dvd _
  | r :: rs, h => by
    rw [fsum_cons]
    exact add_den_dvd (h r (List.mem_cons_self ..)) (fsum_den hD fun x hx => h x (List.mem_cons_of_mem _ hx)) hD
theorem fsum_map_add {α : Type} (f g : α → Rat) : ∀ l : List α, fsum (l.map fun a => f a + g a) = fsum (l.map f) + fsum (l.map g)
  | [] => by
    show (0 : Rat) = 0 + 0
    rw [Rat.add_zero]
  | a :: l => by
    rw [List.map_cons, List.map_cons, List.map_cons, fsum_cons, fsum_cons, fsum_cons, fsum_map_add f g l]
    rw [Rat.add_assoc, Rat.add_assoc, ← Rat.add_assoc (g a), Rat.add_comm (g a), Rat.add_assoc]
theorem fsum_map_zero {α : Type} : ∀ l : List α, fsum (l.map fun _ => (0 : Rat)) = 0
  | [] => rfl
  | a :: l => by rw [List.map_cons, fsum_cons, fsum_map_zero l, Rat.add_zero]
/-- one of the numbers below n is a -/
theorem fsum_pick (c : Rat) : ∀ {n a : Nat}, a < n → fsum ((List.range n).map fun i => if a = i then c else 0) = c
  | n + 1, a, h => by
    rw [List.range_succ, List.map_append, fsum_apd, List.map_cons, List.map_nil, fsum_cons, fsum_nil, Rat.add_zero]
    by_cases e : a = n
    · subst e
      rw [if_pos rfl]
      have z : fsum ((List.range a).map fun i => if a = i then c else 0) = 0 := by
        have e2 : ((List.range a).map fun i => if a = i then c else 0) = ((List.range a).map fun _ => (0 : Rat)) := List.map_congr_left fun i hi => by
          have := List.mem_range.mp hi
          rw [if_neg (by omega)]
        rw [e2, fsum_map_zero]
      rw [z, Rat.zero_add]
    · rw [if_neg e, Rat.add_zero]
      exact fsum_pick c (by omega)
/-- what a move tells of the answer a -/
def smv {A : Nat → Type} (F : (n : Nat) → List Rat → Nd n → A n → Rat) : (n : Nat) → List Rat → Nd n → MvT A n → Nat → Rat
  | 0, ws, t, x, a => if x.1 = a then F 0 ws t x.2 else 0
  | n + 1, ws, t, .inl x, a => if x.1 = a then F (n + 1) ws t x.2 else 0
  | n + 1, _, t, .inr x, a => match (show List (Qn n) from t)[x.1]? with
    | some qn => fsum (List.zipWith (fun (an : An n) (y : MvT A n) => smv F n an.2.1 an.2.2 y a) qn x.2)
    | none => 0
def aftF (j : Nat) : (m : Nat) → List (Nat × Nat) → (n : Nat) → List Rat → Nd n → Wt m n → Rat
  | 0, [], _, ws, _, _ => ws.getD j 0
  | _ + 1, [], _, ws, _, _ => ws.getD j 0
  | 0, _ :: _, _, _, _, _ => 0
  | m + 1, x :: r, n, ws, t, w => match (show List (Mv m n) from w)[x.1]? with
    | some mv => smv (aftF j m r) n ws t mv x.2
    | none => 0
theorem aftF_nil {j m n : Nat} {ws : List Rat} {t : Nd n} {w : Wt m n} : aftF j m [] n ws t w = ws.getD j 0 := by cases m <;> rfl
theorem aftF_at {j m n : Nat} {ws : List Rat} {t : Nd n} {w : List (Mv m n)} {mv : Mv m n} {k a : Nat} {r : List (Nat × Nat)} (e : w[k]? = some mv) : aftF j (m + 1) ((k, a) :: r) n ws t w = smv (aftF j m r) n ws t mv a := by
  show (match w[k]? with | some mv => smv (aftF j m r) n ws t mv a | none => 0) = _
  rw [e]
theorem smv_inr {A : Nat → Type} {F : (n : Nat) → List Rat → Nd n → A n → Rat} {n : Nat} {ws : List Rat} {t : List (Qn n)} {x : Nat × List (MvT A n)} {a : Nat} {qn : Qn n} (e : t[x.1]? = some qn) : smv F (n + 1) ws t (.inr x) a = fsum (List.zipWith (fun (an : An n) (y : MvT A n) => smv F n an.2.1 an.2.2 y a) qn x.2) := by
  show (match t[x.1]? with | some qn => fsum (List.zipWith (fun (an : An n) (y : MvT A n) => smv F n an.2.1 an.2.2 y a) qn x.2) | none => 0) = _
  rw [e]
/-- it tells nothing where all is nought -/
def Nil0 {A : Nat → Type} (W : Nat) (F : (n : Nat) → List Rat → Nd n → A n → Rat) : Prop := ∀ n ws t w, isZ ws = true → NdOk W n ws t → F n ws t w = 0
theorem zip_all {α β : Type} {f : α → β → Rat} : ∀ {as : List α} {bs : List β}, (∀ a ∈ as, ∀ b, f a b = 0) → fsum (List.zipWith f as bs) = 0
  | [], _, _ => rfl
  | a :: as, [], _ => rfl
  | a :: as, b :: bs, h => by
    rw [List.zipWith_cons_cons, fsum_cons, h a (List.mem_cons_self ..), zip_all fun x hx => h x (List.mem_cons_of_mem _ hx), Rat.add_zero]
theorem isZ_below {W n : Nat} {ws : List Rat} {q : Qn n} (z : isZ ws = true) (ok : QnOk W ws q) : ∀ an ∈ q, isZ an.2.1 = true := fun an h => by
  refine isZ_of (ok.wide an h) fun j hj => ?_
  have w := ok.whole j hj
  rw [isZ_false z] at w
  have nn : ∀ r ∈ col q j, 0 ≤ r := fun r hr => by
    obtain ⟨b, hb, rfl⟩ := List.mem_map.mp hr
    exact mem_getD0 (P := fun r => 0 ≤ r) (fun r hr => (ok.chs b hb r hr).1) (by rw [ok.wide b hb]; exact hj)
  have hm : an.2.1.getD j 0 ∈ col q j := List.mem_map.mpr ⟨an, h, rfl⟩
  have u := fsum_ge nn hm
  rw [w] at u
  exact Rat.le_antisymm u (nn _ hm)
theorem smv_nil0 {A : Nat → Type} {W : Nat} {F : (n : Nat) → List Rat → Nd n → A n → Rat} (h0 : Nil0 W F) (a : Nat) : Nil0 W (fun n ws t (mv : MvT A n) => smv F n ws t mv a) := by
  intro n
  induction n with
  | zero =>
    intro ws t x z ok
    show (if x.1 = a then F 0 ws t x.2 else 0) = 0
    rw [h0 0 ws t x.2 z ok]
    split <;> rfl
  | succ n ih =>
    intro ws t mv z ok
    rcases mv with x | x
    · show (if x.1 = a then F (n + 1) ws t x.2 else 0) = 0
      rw [h0 (n + 1) ws t x.2 z ok]
      split <;> rfl
    · show (match (show List (Qn n) from t)[x.1]? with | some qn => fsum (List.zipWith (fun (an : An n) (y : MvT A n) => smv F n an.2.1 an.2.2 y a) qn x.2) | none => 0) = 0
      cases e : (show List (Qn n) from t)[x.1]? with
      | none => rfl
      | some qn =>
        obtain ⟨qok, nok⟩ := ok.2 qn (List.mem_of_getElem? e)
        exact zip_all fun an han y => ih an.2.1 an.2.2 y (isZ_below z qok an han) (nok an han)
theorem aft_nil0 (W j : Nat) : ∀ (m : Nat) (r : List (Nat × Nat)), Nil0 W (aftF j m r)
  | _, [] => fun n ws t w z ok => by rw [aftF_nil, isZ_false z]
  | 0, _ :: _ => fun _ _ _ _ _ _ => rfl
  | m + 1, x :: r => fun n ws t w z ok => by
    show (match (show List (Mv m n) from w)[x.1]? with | some mv => smv (aftF j m r) n ws t mv x.2 | none => 0) = 0
    cases e : (show List (Mv m n) from w)[x.1]? with
    | none => rfl
    | some mv => exact smv_nil0 (aft_nil0 W j m r) x.2 n ws t mv z ok
/-- told one by one -/
theorem smv_tels {m W : Nat} {F : (n : Nat) → List Rat → Nd n → Wt m n → Rat} (h0 : Nil0 W F) (sh : Rat) (a : Nat) : ∀ (n : Nat) (ws : List Rat) (t : Nd n) (mv : Mv m n), NdOk W n ws t → fsum ((selT a (tels sh n ws t mv)).map fun h => h.sh * F h.n h.ws h.t h.w) = sh * smv F n ws t mv a
  | 0, ws, t, x, _ => by
    show fsum ((selT a [(x.1, ⟨sh, ws, 0, t, x.2⟩)]).map _) = sh * (if x.1 = a then F 0 ws t x.2 else 0)
    rw [selT_one]
    by_cases e : x.1 = a
    · rw [if_pos e, if_pos e, List.map_cons, List.map_nil, fsum_cons, fsum_nil, Rat.add_zero]
    · rw [if_neg e, if_neg e, List.map_nil, fsum_nil, Rat.mul_zero]
  | n + 1, ws, t, .inl x, _ => by
    show fsum ((selT a [(x.1, ⟨sh, ws, n + 1, t, x.2⟩)]).map _) = sh * (if x.1 = a then F (n + 1) ws t x.2 else 0)
    rw [selT_one]
    by_cases e : x.1 = a
    · rw [if_pos e, if_pos e, List.map_cons, List.map_nil, fsum_cons, fsum_nil, Rat.add_zero]
    · rw [if_neg e, if_neg e, List.map_nil, fsum_nil, Rat.mul_zero]
  | n + 1, ws, t, .inr x, ok => by
    cases e : (show List (Qn n) from t)[x.1]? with
    | none =>
      show fsum ((selT a (match (show List (Qn n) from t)[x.1]? with | some qn => (List.zipWith (fun (an : An n) (y : Mv m n) => if isZ an.2.1 then [] else tels sh n an.2.1 an.2.2 y) qn x.2).flatten | none => [])).map _) = sh * (match (show List (Qn n) from t)[x.1]? with | some qn => fsum (List.zipWith (fun (an : An n) (y : Mv m n) => smv F n an.2.1 an.2.2 y a) qn x.2) | none => 0)
      rw [e]
      show (0 : Rat) = sh * 0
      rw [Rat.mul_zero]
    | some qn =>
      obtain ⟨qok, nok⟩ := ok.2 qn (List.mem_of_getElem? e)
      rw [smv_inr e]
      show fsum ((selT a (match (show List (Qn n) from t)[x.1]? with | some qn => (List.zipWith (fun (an : An n) (y : Mv m n) => if isZ an.2.1 then [] else tels sh n an.2.1 an.2.2 y) qn x.2).flatten | none => [])).map _) = _
      rw [e]
      show fsum ((selT a (List.zipWith (fun (an : An n) (y : Mv m n) => if isZ an.2.1 then [] else tels sh n an.2.1 an.2.2 y) qn x.2).flatten).map _) = _
      have one : ∀ (q' : Qn n) (ms : List (Mv m n)), (∀ an ∈ q', an ∈ qn) → fsum ((selT a (List.zipWith (fun (an : An n) (y : Mv m n) => if isZ an.2.1 then [] else tels sh n an.2.1 an.2.2 y) q' ms).flatten).map fun h => h.sh * F h.n h.ws h.t h.w) = sh * fsum (List.zipWith (fun (an : An n) (y : Mv m n) => smv F n an.2.1 an.2.2 y a) q' ms) := by
        intro q'
        induction q' with
        | nil =>
          intro ms _
          show (0 : Rat) = sh * 0
          rw [Rat.mul_zero]
        | cons an q' ih =>
          intro ms sub
          cases ms with
          | nil =>
            show (0 : Rat) = sh * 0
            rw [Rat.mul_zero]
          | cons y ms =>
            have man := sub an (List.mem_cons_self ..)
            rw [List.zipWith_cons_cons, List.flatten_cons, selT_app, List.map_append, fsum_apd, ih ms fun z hz => sub z (List.mem_cons_of_mem _ hz), List.zipWith_cons_cons, fsum_cons, Rat.mul_add]
            congr 1
            by_cases z : isZ an.2.1 = true
            · have zz : smv F n an.2.1 an.2.2 y a = 0 := smv_nil0 h0 a n an.2.1 an.2.2 y z (nok an man)
              rw [if_pos z, zz, Rat.mul_zero]
              rfl
            · rw [if_neg z]
              exact smv_tels h0 sh a n an.2.1 an.2.2 y (nok an man)
      exact one qn x.2 fun _ h => h
/-- what holders have at the path r behind them -/
def sumH (j : Nat) {m : Nat} (hs : List (Hd m)) (r : List (Nat × Nat)) : Rat := fsum (hs.map fun h => h.sh * aftF j m r h.n h.ws h.t h.w)
theorem sumH_nil {j m : Nat} {hs : List (Hd m)} : sumH j hs [] = wtJ j hs := by
  unfold sumH wtJ
  congr 1
  refine List.map_congr_left fun h _ => ?_
  rw [aftF_nil]
def HN (W : Nat) {m : Nat} (h : Hd m) : Prop := NdOk W h.n h.ws h.t
theorem sumH_cons {j m W k a : Nat} {r : List (Nat × Nat)} {q : Qn m} : ∀ {hs : List (Hd (m + 1))}, (∀ h ∈ hs, HN W h ∧ ∃ mv, (show List (Mv m h.n) from h.w)[k]? = some mv ∧ MvOk (WtOk m) h.n h.t q mv) → sumH j hs ((k, a) :: r) = sumH j (selT a (tellL k hs)) r
  | [], _ => rfl
  | h :: hs, ok => by
    obtain ⟨hn, mv, e, _⟩ := ok h (List.mem_cons_self ..)
    have ih := sumH_cons (j := j) (a := a) (r := r) (hs := hs) fun x hx => ok x (List.mem_cons_of_mem _ hx)
    have et : tellL k (h :: hs) = tels h.sh h.n h.ws h.t mv ++ tellL k hs := by
      show tellH k h ++ tellL k hs = _
      rw [tellH_at e]
    rw [et, selT_app]
    unfold sumH at ih ⊢
    rw [List.map_cons, fsum_cons, ih, List.map_append, fsum_apd]
    congr 1
    rw [show aftF j (m + 1) ((k, a) :: r) h.n h.ws h.t h.w = smv (aftF j m r) h.n h.ws h.t mv a from aftF_at e]
    exact (smv_tels (aft_nil0 W j m r) h.sh a h.n h.ws h.t mv hn).symm
/-! ### each move tells all -/
theorem smv_all {j m W : Nat} {q : Qn m} (hj : j < W) : ∀ {n : Nat} {ws : List Rat} {t : Nd n} {mv : Mv m n}, NdOk W n ws t → MvOk (WtOk m) n t q mv → fsum ((List.range q.length).map fun a => smv (aftF j m []) n ws t mv a) = ws.getD j 0
  | 0, ws, t, x, _, ⟨an, h, _⟩ => by
    show fsum ((List.range q.length).map fun a => if x.1 = a then aftF j m [] 0 ws t x.2 else 0) = _
    rw [fsum_pick _ (List.getElem?_eq_some_iff.mp h).1, aftF_nil]
  | n + 1, ws, t, .inl x, _, ⟨an, h, _⟩ => by
    show fsum ((List.range q.length).map fun a => if x.1 = a then aftF j m [] (n + 1) ws t x.2 else 0) = _
    rw [fsum_pick _ (List.getElem?_eq_some_iff.mp h).1, aftF_nil]
  | n + 1, ws, t, .inr x, ok, ⟨qn, e, al⟩ => by
    obtain ⟨qok, nok⟩ := ok.2 qn (List.mem_of_getElem? e)
    have e1 : ((List.range q.length).map fun a => smv (aftF j m []) (n + 1) ws t (.inr x) a) = ((List.range q.length).map fun a => fsum (List.zipWith (fun (an : An n) (y : Mv m n) => smv (aftF j m []) n an.2.1 an.2.2 y a) qn x.2)) := List.map_congr_left fun a _ => smv_inr e
    rw [e1, ← qok.whole j hj]
    have one : ∀ (q' : Qn n) (ms : List (Mv m n)), Al (fun (an : An n) (y : MvT (Wt m) n) => MvOk (WtOk m) n an.2.2 q y) q' ms → (∀ an ∈ q', an ∈ qn) → fsum ((List.range q.length).map fun a => fsum (List.zipWith (fun (an : An n) (y : Mv m n) => smv (aftF j m []) n an.2.1 an.2.2 y a) q' ms)) = fsum (col q' j) := by
      intro q' ms al
      induction al with
      | nil =>
        intro _
        exact fsum_map_zero _
      | cons h hal ih =>
        rename_i an y as bs
        intro sub
        have man := sub an (List.mem_cons_self ..)
        have e2 : ((List.range q.length).map fun a => fsum (List.zipWith (fun (an : An n) (y : Mv m n) => smv (aftF j m []) n an.2.1 an.2.2 y a) (an :: as) (y :: bs))) = ((List.range q.length).map fun a => smv (aftF j m []) n an.2.1 an.2.2 y a + fsum (List.zipWith (fun (an : An n) (y : Mv m n) => smv (aftF j m []) n an.2.1 an.2.2 y a) as bs)) := List.map_congr_left fun a _ => by rw [List.zipWith_cons_cons, fsum_cons]
        rw [e2, fsum_map_add, ih fun z hz => sub z (List.mem_cons_of_mem _ hz), smv_all hj (nok an man) h, col_cons, fsum_cons]
    exact one qn x.2 al fun _ h => h
theorem sumH_all {j m W k : Nat} {q : Qn m} (hj : j < W) : ∀ {hs : List (Hd (m + 1))}, (∀ h ∈ hs, HN W h ∧ ∃ mv, (show List (Mv m h.n) from h.w)[k]? = some mv ∧ MvOk (WtOk m) h.n h.t q mv) → fsum ((List.range q.length).map fun a => sumH j hs [(k, a)]) = wtJ j hs
  | [], _ => fsum_map_zero _
  | h :: hs, ok => by
    obtain ⟨hn, mv, e, mok⟩ := ok h (List.mem_cons_self ..)
    have ih := sumH_all hj (hs := hs) fun x hx => ok x (List.mem_cons_of_mem _ hx)
    have e2 : ((List.range q.length).map fun a => sumH j (h :: hs) [(k, a)]) = ((List.range q.length).map fun a => h.sh * smv (aftF j m []) h.n h.ws h.t mv a + sumH j hs [(k, a)]) := List.map_congr_left fun a _ => by
      unfold sumH
      rw [List.map_cons, fsum_cons]
      congr 2
      exact aftF_at e
    rw [e2, fsum_map_add, ih]
    have e3 : ((List.range q.length).map fun a => h.sh * smv (aftF j m []) h.n h.ws h.t mv a) = (((List.range q.length).map fun a => smv (aftF j m []) h.n h.ws h.t mv a).map fun x => h.sh * x) := by
      rw [List.map_map]
      rfl
    rw [e3, fsum_mul, smv_all hj hn mok]
    unfold wtJ
    rw [List.map_cons, fsum_cons]
end Tl
namespace Tl
open PySem PySem.Spec PyProof.Rows L2 RZ
/-! ### the tree that is made, by its paths; it is right -/
theorem mapIdx_congr {α β : Type} {f g : Nat → α → β} {l : List α} (h : ∀ i a, l[i]? = some a → f i a = g i a) : l.mapIdx f = l.mapIdx g := by
  refine List.ext_getElem? fun i => ?_
  rw [List.getElem?_mapIdx, List.getElem?_mapIdx]
  cases e : l[i]? with
  | none => rfl
  | some a =>
    show some (f i a) = some (g i a)
    rw [h i a e]
def shA (W : Nat) (G : Nat → List (Nat × Nat) → Rat) (m : Nat) (rec_ : Nd m → List (Nat × Nat) → Nd m) (path : List (Nat × Nat)) (k a : Nat) (an : An m) : An m := (an.1, (List.range W).map (fun j => G j (path ++ [(k, a)])), rec_ an.2.2 (path ++ [(k, a)]))
def shN (W : Nat) (G : Nat → List (Nat × Nat) → Rat) : (m : Nat) → Nd m → List (Nat × Nat) → Nd m
  | 0, _, _ => ()
  | m + 1, gs, path => (show List (Qn m) from gs).mapIdx fun k (q : Qn m) => (show List (An m) from q).mapIdx (shA W G m (shN W G m) path k)
def shQ (W : Nat) (G : Nat → List (Nat × Nat) → Rat) (m : Nat) (path : List (Nat × Nat)) (k : Nat) (q : Qn m) : Qn m := (show List (An m) from q).mapIdx (shA W G m (shN W G m) path k)
theorem shN_succ (W : Nat) (G : Nat → List (Nat × Nat) → Rat) (m : Nat) (gs : List (Qn m)) (path : List (Nat × Nat)) : shN W G (m + 1) gs path = (gs.mapIdx (shQ W G m path) : List (Qn m)) := rfl
theorem tels_hn {W m : Nat} {sh : Rat} : ∀ {n : Nat} {ws : List Rat} {t : Nd n} {mv : Mv m n}, NdOk W n ws t → ∀ x ∈ tels sh n ws t mv, HN W x.2
  | 0, _, _, _, ok, x, hx => by
    rw [List.mem_singleton.mp hx]
    exact ok
  | n + 1, _, _, .inl mv, ok, x, hx => by
    rw [List.mem_singleton.mp hx]
    exact ok
  | n + 1, _, t, .inr y, ok, x, hx => by
    have hx' : x ∈ (match (show List (Qn n) from t)[y.1]? with
      | some qn => (List.zipWith (fun (an : An n) (y : Mv m n) => if isZ an.2.1 then [] else tels sh n an.2.1 an.2.2 y) qn y.2).flatten
      | none => []) := hx
    cases e : (show List (Qn n) from t)[y.1]? with
    | none =>
      rw [e] at hx'
      exact absurd hx' List.not_mem_nil
    | some qn =>
      rw [e] at hx'
      obtain ⟨_, nok⟩ := ok.2 qn (List.mem_of_getElem? e)
      have one : ∀ (q' : Qn n) (ms : List (Mv m n)), (∀ an ∈ q', an ∈ qn) → x ∈ (List.zipWith (fun (an : An n) (y : Mv m n) => if isZ an.2.1 then [] else tels sh n an.2.1 an.2.2 y) q' ms).flatten → HN W x.2 := by
        intro q'
        induction q' with
        | nil => exact fun _ _ h => absurd h List.not_mem_nil
        | cons an q' ih =>
          intro ms sub h
          cases ms with
          | nil => exact absurd h List.not_mem_nil
          | cons y' ms =>
            rw [List.zipWith_cons_cons, List.flatten_cons] at h
            rcases List.mem_append.mp h with h | h
            · split at h
              · exact absurd h List.not_mem_nil
              · exact tels_hn (nok an (sub an (List.mem_cons_self ..))) x h
            · exact ih ms (fun z hz => sub z (List.mem_cons_of_mem _ hz)) h
      exact one qn y.2 (fun _ h => h) hx'
theorem hn_sel {W m k a : Nat} {hs : List (Hd (m + 1))} (h : ∀ x ∈ hs, HN W x) : ∀ x ∈ selT a (tellL k hs), HN W x := fun y hy => by
  unfold selT at hy
  obtain ⟨x, hx, rfl⟩ := List.mem_map.mp hy
  obtain ⟨hx1, _⟩ := List.mem_filter.mp hx
  unfold tellL at hx1
  obtain ⟨l, hl, hxl⟩ := List.mem_flatten.mp hx1
  obtain ⟨z, hz, rfl⟩ := List.mem_map.mp hl
  unfold tellH at hxl
  split at hxl
  · exact tels_hn (h z hz) x hxl
  · exact absurd hxl List.not_mem_nil
theorem HsL.one {Z W m k : Nat} {gs : List (Qn m)} {hs : List (Hd (m + 1))} {q : Qn m} (h : HsL Z W (m + 1) gs hs) (hn : ∀ x ∈ hs, HN W x) (e : gs[k]? = some q) : ∀ x ∈ hs, HN W x ∧ ∃ mv, (show List (Mv m x.n) from x.w)[k]? = some mv ∧ MvOk (WtOk m) x.n x.t q mv := fun x hx => ⟨hn x hx, (h.mv e x hx).2⟩
theorem shN_led {Z W : Nat} {G : Nat → List (Nat × Nat) → Rat} : ∀ {m : Nat} {gs : Nd m} {hs : List (Hd m)} {path : List (Nat × Nat)}, HsL Z W m gs hs → (∀ x ∈ hs, HN W x) → (∀ j, j < W → ∀ x r, G j (path ++ x :: r) = sumH j hs (x :: r)) → shN W G m gs path = ledN W m gs hs
  | 0, _, _, _, _, _, _ => rfl
  | m + 1, gs, hs, path, ok, hn, hG => by
    obtain ⟨qs, hqs⟩ : ∃ qs : List (Qn m), (qs : Nd (m + 1)) = gs := ⟨gs, rfl⟩
    subst hqs
    rw [shN_succ, ledN_succ]
    refine mapIdx_congr fun k q ek => ?_
    refine mapIdx_congr fun a an ea => ?_
    have e1 := ok.one hn ek
    have e2 : (List.range W).map (fun j => G j (path ++ [(k, a)])) = wtsOf W (selT a (tellL k hs)) := List.map_congr_left fun j hj => by
      rw [hG j (List.mem_range.mp hj), sumH_cons e1, sumH_nil]
    have e3 : shN W G m an.2.2 (path ++ [(k, a)]) = ledN W m an.2.2 (selT a (tellL k hs)) := shN_led (ok.sel ek ea) (hn_sel hn) fun j hj x r => by
      rw [List.append_assoc, List.singleton_append, hG j hj, sumH_cons e1]
    show (an.1, _, _) = (an.1, _, _)
    rw [e2, e3]
theorem wtJ_nn {W m j : Nat} {hs : List (Hd m)} (ok : ∀ h ∈ hs, WOk W h) (hj : j < W) : 0 ≤ wtJ j hs := fsum_nn fun r hr => by
  obtain ⟨h, hh, rfl⟩ := List.mem_map.mp hr
  obtain ⟨z, _, cz, ez⟩ := (ok h hh).at_ hj
  rw [ez]
  exact Rat.mul_nonneg (ok h hh).sh.1 cz.1
theorem wtJ_den {W m j : Nat} {hs : List (Hd m)} (ok : ∀ h ∈ hs, WOk W h) (hj : j < W) : (wtJ j hs).den ∣ LL ^ 6 := fsum_den (ll_pos 6) fun r hr => by
  obtain ⟨h, hh, rfl⟩ := List.mem_map.mp hr
  obtain ⟨z, _, cz, ez⟩ := (ok h hh).at_ hj
  rw [ez]
  exact ((ok h hh).sh.prod cz).2.2
theorem led_col {W m k : Nat} {hs : List (Hd (m + 1))} {q : Qn m} (j : Nat) (hj : j < W) (one : ∀ x ∈ hs, HN W x ∧ ∃ mv, (show List (Mv m x.n) from x.w)[k]? = some mv ∧ MvOk (WtOk m) x.n x.t q mv) : col (ledQ W m hs k q) j = (List.range q.length).map fun a => sumH j hs [(k, a)] := by
  refine List.ext_getElem? fun i => ?_
  unfold col ledQ
  rw [List.getElem?_map, List.getElem?_mapIdx, List.getElem?_map]
  by_cases hi : i < q.length
  · have hi' : i < (show List (An m) from q).length := hi
    rw [List.getElem?_eq_getElem hi', List.getElem?_range hi]
    show some ((wtsOf W (selT i (tellL k hs))).getD j 0) = some (sumH j hs [(k, i)])
    rw [sumH_cons one, sumH_nil]
    congr 1
    refine getD_of ?_
    unfold wtsOf
    rw [List.getElem?_map, List.getElem?_range hj]
    rfl
  · have hi' : (show List (An m) from q).length ≤ i := Nat.le_of_not_lt hi
    rw [List.getElem?_eq_none hi', List.getElem?_eq_none (by rw [List.length_range]; exact hi')]
    rfl
theorem ledN_ok {Z W : Nat} : ∀ {m : Nat} {gs : Nd m} {hs : List (Hd m)} {ahead ahead' : List Rat}, NdOk W m ahead gs → HsL Z W m gs hs → (∀ x ∈ hs, HN W x) → (∀ j, j < W → wtJ j hs ≤ 1 ∧ ahead'.getD j 0 = wtJ j hs) → NdOk W m ahead' (ledN W m gs hs)
  | 0, _, _, _, _, _, _, _, _ => trivial
  | m + 1, gs, hs, ahead, ahead', gok, ok, hn, hA => by
    obtain ⟨qs, hqs⟩ : ∃ qs : List (Qn m), (qs : Nd (m + 1)) = gs := ⟨gs, rfl⟩
    subst hqs
    refine ⟨by show (qs.mapIdx (ledQ W m hs)).length ≤ 5; rw [List.length_mapIdx]; exact gok.1, fun q' hq' => ?_⟩
    have hq'' : q' ∈ qs.mapIdx (ledQ W m hs) := hq'
    obtain ⟨k, hk, rfl⟩ := List.mem_mapIdx.mp hq''
    have ek : qs[k]? = some qs[k] := List.getElem?_eq_getElem hk
    generalize qs[k] = q at ek
    obtain ⟨qok, nok⟩ := gok.2 q (List.mem_of_getElem? ek)
    have one := ok.one hn ek
    have an_ : ∀ an' ∈ ledQ W m hs k q, ∃ a an, q[a]? = some an ∧ an' = ledA W m k hs a an := fun an' h => by
      unfold ledQ at h
      obtain ⟨a, ha, rfl⟩ := List.mem_mapIdx.mp h
      exact ⟨a, _, List.getElem?_eq_getElem ha, rfl⟩
    have whole : ∀ j, j < W → fsum (col (ledQ W m hs k q) j) = wtJ j hs := fun j hj => by rw [led_col j hj one, sumH_all hj one]
    have wok : ∀ {a an}, q[a]? = some an → ∀ h ∈ selT a (tellL k hs), WOk W h := fun ea h hh => ((ok.sel ek ea).ok h hh).2.1
    have le1 : ∀ {a an}, q[a]? = some an → ∀ j, j < W → wtJ j (selT a (tellL k hs)) ≤ 1 := fun {a an} ea j hj => by
      refine Rat.le_trans ?_ (hA j hj).1
      rw [← whole j hj, led_col j hj one]
      refine fsum_ge (fun r hr => ?_) (List.mem_map.mpr ⟨a, List.mem_range.mpr (List.getElem?_eq_some_iff.mp ea).1, by rw [sumH_cons one, sumH_nil]⟩)
      obtain ⟨b, hb, rfl⟩ := List.mem_map.mp hr
      have hb' := List.mem_range.mp hb
      rw [sumH_cons one, sumH_nil]
      exact wtJ_nn (wok (List.getElem?_eq_getElem hb')) hj
    refine ⟨⟨by show 1 ≤ (q.mapIdx _).length; rw [List.length_mapIdx]; exact qok.one, by show (q.mapIdx _).length ≤ 12; rw [List.length_mapIdx]; exact qok.most, fun an' h => ?_, fun i x y h1 h2 => ?_, fun an' h => ?_, fun an' h r hr => ?_, fun j hj => by rw [whole j hj, (hA j hj).2]⟩, fun an' h => ?_⟩
    · obtain ⟨a, an, ea, rfl⟩ := an_ an' h
      exact qok.words an (List.mem_of_getElem? ea)
    · unfold ledQ at h1 h2
      rw [List.getElem?_mapIdx] at h1 h2
      obtain ⟨x', e1, rfl⟩ := Option.map_eq_some_iff.mp h1
      obtain ⟨y', e2, rfl⟩ := Option.map_eq_some_iff.mp h2
      exact qok.asc i x' y' e1 e2
    · obtain ⟨a, an, ea, rfl⟩ := an_ an' h
      show (wtsOf W _).length = W
      unfold wtsOf
      rw [List.length_map, List.length_range]
    · obtain ⟨a, an, ea, rfl⟩ := an_ an' h
      have hr' : r ∈ wtsOf W (selT a (tellL k hs)) := hr
      unfold wtsOf at hr'
      obtain ⟨j, hj, rfl⟩ := List.mem_map.mp hr'
      have hj := List.mem_range.mp hj
      exact ⟨wtJ_nn (wok ea) hj, le1 ea j hj, wtJ_den (wok ea) hj⟩
    · obtain ⟨a, an, ea, rfl⟩ := an_ an' h
      refine ledN_ok (nok an (List.mem_of_getElem? ea)) (ok.sel ek ea) (hn_sel hn) fun j hj => ⟨le1 ea j hj, getD_of ?_⟩
      show (wtsOf W (selT a (tellL k hs)))[j]? = _
      unfold wtsOf
      rw [List.getElem?_map, List.getElem?_range hj]
      rfl
/-! ### at the beginning -/
theorem ones_gD {W j : Nat} (h : j < W) : (ones W).getD j 0 = 1 := by
  unfold ones
  exact getD_of (by rw [List.getElem?_replicate, if_pos h])
theorem hd0_hn {W m n : Nat} {t : Nd n} {bs : Bw m n} (h : NdOk W n (ones W) t) : ∀ x ∈ hd0 W m n t bs, HN W x := fun x hx => by
  obtain ⟨b, _, rfl⟩ := List.mem_map.mp hx
  exact h
theorem hd0_one {W m n : Nat} {t : Nd n} {gs : Nd m} {bs : Bw m n} (ok : BwOk m n t gs bs) (j : Nat) (hj : j < W) : wtJ j (hd0 W m n t bs) = 1 := by
  unfold wtJ hd0
  rw [List.map_map, ← ok.sum]
  congr 1
  refine List.map_congr_left fun b _ => ?_
  show b.1 * (ones W).getD j 0 = b.1
  rw [ones_gD hj, Rat.mul_one]
theorem made_ok {W m n : Nat} {t : Nd n} {gs : Nd m} {bs : Bw m n} {ahead : List Rat} (ok : BwOk m n t gs bs) (hn : n ≤ 6) (nok : NdP W n (ones W) t) (hc : cnt n t ≤ 199) (gok : NdOk W m ahead gs) : NdOk W m (ones W) (ledN W m gs (hd0 W m n t bs)) :=
  ledN_ok (Z := LL ^ 2) gok (hsL0 ok hn nok hc fun x hx => (ok.ch x hx).1.2.2) (hd0_hn nok.ok) fun j hj => ⟨by rw [hd0_one ok j hj]; decide, by rw [hd0_one ok j hj, ones_gD hj]⟩
/-- the law's tree is the made one -/
theorem law_made {W m n : Nat} {t : Nd n} {gs : Nd m} {bs : Bw m n} {G : Nat → List (Nat × Nat) → Rat} (ok : BwOk m n t gs bs) (hn : n ≤ 6) (nok : NdP W n (ones W) t) (hc : cnt n t ≤ 199) (hG : ∀ j, j < W → ∀ x r, G j (x :: r) = sumH j (hd0 W m n t bs) (x :: r)) : shN W G m gs [] = ledN W m gs (hd0 W m n t bs) :=
  shN_led (Z := LL ^ 2) (hsL0 ok hn nok hc fun x hx => (ok.ch x hx).1.2.2) (hd0_hn nok.ok) fun j hj x r => hG j hj x r
end Tl
namespace Tl
open PySem PySem.Spec PyProof.Rows L2 RZ
/-! ### keys of paths and worlds -/
def pairK (x : Nat × Nat) : NestedKey := .tup [.num (x.1 : Int), .num (x.2 : Int)]
def keyP (p : List (Nat × Nat)) (k : Nat) : NestedKey := .tup [.tup (p.map pairK), .num (k : Int)]
theorem datas_pairs : ∀ p : List (Nat × Nat), NestedKey.datas (p.map pairK) = p.map pairD
  | [] => rfl
  | x :: r => by
    show NestedKey.data (pairK x) :: NestedKey.datas (r.map pairK) = pairD x :: r.map pairD
    rw [datas_pairs r]
    rfl
theorem keyP_data (p : List (Nat × Nat)) (k : Nat) : (keyP p k).data = .tuple [pathD p, .int (k : Int)] := by
  show PyData.tuple [.tuple (NestedKey.datas (p.map pairK)), .int (k : Int)] = _
  rw [datas_pairs]
  rfl
theorem depth_pairs : ∀ p : List (Nat × Nat), NestedKey.depthAll (p.map pairK) ≤ 1
  | [] => Nat.zero_le _
  | x :: r => by
    show max (NestedKey.depth (pairK x)) (NestedKey.depthAll (r.map pairK)) ≤ 1
    exact Nat.max_le.mpr ⟨Nat.le_refl 1, depth_pairs r⟩
theorem keyP_depth (p : List (Nat × Nat)) (k : Nat) : (keyP p k).depth ≤ 8 := by
  have := depth_pairs p
  show max (NestedKey.depthAll (p.map pairK) + 1) (max 0 0) + 1 ≤ 8
  omega
theorem pairK_inj : ∀ {p q : List (Nat × Nat)}, p.map pairK = q.map pairK → p = q
  | [], [], _ => rfl
  | [], _ :: _, h => by simp at h
  | _ :: _, [], h => by simp at h
  | (a, b) :: p, (c, e) :: q, h => by
    rw [List.map_cons, List.map_cons] at h
    injection h with h1 h2
    unfold pairK at h1
    injection h1 with h1
    injection h1 with h3 h4
    injection h3 with h3
    injection h4 with h4 _
    injection h4 with h4
    have e1 : a = c := by have : (a : Int) = (c : Int) := h3; omega
    have e2 : b = e := by have : (b : Int) = (e : Int) := h4; omega
    rw [pairK_inj h2, e1, e2]
theorem keyP_inj {p q : List (Nat × Nat)} {k j : Nat} (h : keyP p k = keyP q j) : p = q ∧ k = j := by
  unfold keyP at h
  injection h with h
  injection h with h1 h2
  injection h1 with h1
  injection h2 with h2 _
  injection h2 with h2
  exact ⟨pairK_inj h1, by omega⟩
/-! ### what stands at a path of a table -/
def look : (n : Nat) → Tb n → Rat → List (Nat × Nat) → Option (Rat × List Rat)
  | 0, _, _, _ => none
  | _ + 1, _, _, [] => none
  | n + 1, xs, ah, x :: rest => ((show List (Ask n) from xs)[x.1]?).bind fun (k : Ask n) => (k.2[x.2]?).bind fun (r : Rw n) => if rest = [] then some (ah * k.1, r.1) else look n r.2 (ah * k.1) rest
theorem look_nil : ∀ {n : Nat} {t : Tb n} {ah : Rat}, look n t ah [] = none
  | 0, _, _ => rfl
  | _ + 1, _, _ => rfl
theorem look_cons {n : Nat} {xs : List (Ask n)} {ah : Rat} {x : Nat × Nat} {rest : List (Nat × Nat)} : look (n + 1) xs ah (x :: rest) = (xs[x.1]?).bind fun (k : Ask n) => (k.2[x.2]?).bind fun (r : Rw n) => if rest = [] then some (ah * k.1, r.1) else look n r.2 (ah * k.1) rest := rfl
theorem look_at {n : Nat} {xs : List (Ask n)} {ah : Rat} {q a : Nat} {rest : List (Nat × Nat)} {k : Ask n} {r : Rw n} (h1 : xs[q]? = some k) (h2 : k.2[a]? = some r) : look (n + 1) xs ah ((q, a) :: rest) = if rest = [] then some (ah * k.1, r.1) else look n r.2 (ah * k.1) rest := by
  rw [look_cons]
  show (xs[q]?).bind _ = _
  rw [h1]
  show (k.2[a]?).bind _ = _
  rw [h2]
  rfl
theorem look_some {n : Nat} {xs : List (Ask n)} {ah : Rat} {q a : Nat} {rest : List (Nat × Nat)} (h : (look (n + 1) xs ah ((q, a) :: rest)).isSome = true) : ∃ k r, xs[q]? = some k ∧ k.2[a]? = some r := by
  rw [look_cons] at h
  cases e : xs[q]? with
  | none =>
    rw [show xs[((q, a) : Nat × Nat).1]? = xs[q]? from rfl, e] at h
    cases h
  | some k =>
    rw [show xs[((q, a) : Nat × Nat).1]? = xs[q]? from rfl, e] at h
    cases e2 : k.2[a]? with
    | none =>
      rw [show (some k).bind _ = (k.2[a]?).bind _ from rfl, e2] at h
      cases h
    | some r => exact ⟨k, r, rfl, e2⟩
/-- how many rows -/
def sz : (n : Nat) → Tb n → Nat
  | 0, _ => 0
  | n + 1, xs => ((show List (Ask n) from xs).map fun x => (x.2.map fun r => 1 + sz n r.2).sum).sum
def szR (n : Nat) (r : Rw n) : Nat := 1 + sz n r.2
def szQ (n : Nat) (x : Ask n) : Nat := (x.2.map (szR n)).sum
theorem sz_succ (n : Nat) (xs : List (Ask n)) : sz (n + 1) xs = (xs.map (szQ n)).sum := rfl
def TbV (W : Nat) : (n : Nat) → Tb n → Prop
  | 0, _ => True
  | n + 1, xs => ∀ x ∈ (show List (Ask n) from xs), Ch 1 x.1 ∧ ∀ r ∈ x.2, PaysOk W r.1 ∧ TbV W n r.2
/-- a part of the stack -/
structure SE where
  pre : List (Nat × Nat)
  ah : Rat
  m : Nat
  tb : Tb m
def seD (e : SE) : PyData := .tuple [pathD e.pre, rD e.ah, tbD e.m e.tb]
def Ssz (es : List SE) : Nat := (es.map fun e => sz e.m e.tb).sum
theorem ssz_snoc (es : List SE) (e : SE) : Ssz (es ++ [e]) = Ssz es + sz e.m e.tb := by
  unfold Ssz
  rw [List.map_append, List.sum_append]
  rfl
structure SeOk (W N : Nat) (tb0 : Tb N) (e : SE) : Prop where
  tv : TbV W e.m e.tb
  ch : Ch e.pre.length e.ah
  len : e.pre.length + e.m ≤ 6
  lk : ∀ rest y, look e.m e.tb e.ah rest = some y → look N tb0 1 (e.pre ++ rest) = some y
def InE (e : SE) (p : List (Nat × Nat)) : Prop := ∃ rest, p = e.pre ++ rest ∧ (look e.m e.tb e.ah rest).isSome = true
def PS_ (es : List SE) (p : List (Nat × Nat)) (_ : Nat) : Prop := ∃ e ∈ es, InE e p
def PL_ (es : List SE) (e : SE) (cond : Nat → Nat → List (Nat × Nat) → Nat → Prop) (p : List (Nat × Nat)) (k : Nat) : Prop := PS_ es p k ∨ ∃ q a rest, p = e.pre ++ (q, a) :: rest ∧ (look e.m e.tb e.ah ((q, a) :: rest)).isSome = true ∧ cond q a rest k
def numV (prior : List Rat) (h : Rat) (ps : List Rat) (k : Nat) : Rat := h * prior.getD k 0 * ps.getD k 0
/-- all that stands at right paths is in the dict, or pending -/
def Gd (K : PySem.W.Frag) (W N : Nat) (tb0 : Tb N) (prior : List Rat) (H : Hp) (f : NestedKey → Option V) (Pd : List (Nat × Nat) → Nat → Prop) : Prop := ∀ p h ps, look N tb0 1 p = some (h, ps) → ∀ k, k < W → (∃ v, f (keyP p k) = some v ∧ Td K H v (rD (numV prior h ps k))) ∨ Pd p k
theorem Gd.keep {K : PySem.W.Frag} {W N : Nat} {tb0 : Tb N} {prior : List Rat} {H H' : Hp} {f : NestedKey → Option V} {Pd : List (Nat × Nat) → Nat → Prop} (g : Gd K W N tb0 prior H f Pd) (k : KT K H H') : Gd K W N tb0 prior H' f Pd := fun p h ps e j hj => by
  rcases g p h ps e j hj with ⟨v, h1, h2⟩ | z
  · exact .inl ⟨v, h1, h2.keep k⟩
  · exact .inr z
theorem Gd.imp {K : PySem.W.Frag} {W N : Nat} {tb0 : Tb N} {prior : List Rat} {H : Hp} {f : NestedKey → Option V} {Pd Pd' : List (Nat × Nat) → Nat → Prop} (g : Gd K W N tb0 prior H f Pd) (i : ∀ p k, k < W → Pd p k → Pd' p k) : Gd K W N tb0 prior H f Pd' := fun p h ps e j hj => by
  rcases g p h ps e j hj with z | z
  · exact .inl z
  · exact .inr (i p j hj z)
theorem Gd.put {K : PySem.W.Frag} {W N : Nat} {tb0 : Tb N} {prior : List Rat} {H H' : Hp} {f : NestedKey → Option V} {Pd : List (Nat × Nat) → Nat → Prop} {p0 : List (Nat × Nat)} {k0 : Nat} {h0 : Rat} {ps0 : List Rat} {v : V} (g : Gd K W N tb0 prior H f (fun p k => Pd p k ∨ (p = p0 ∧ k = k0))) (kt : KT K H H') (hl : look N tb0 1 p0 = some (h0, ps0)) (tv : Td K H' v (rD (numV prior h0 ps0 k0))) : Gd K W N tb0 prior H' (fun j => if j = keyP p0 k0 then some v else f j) Pd := fun p h ps e k hk => by
  by_cases z : keyP p k = keyP p0 k0
  · obtain ⟨rfl, rfl⟩ := keyP_inj z
    rw [hl] at e
    cases e
    exact .inl ⟨v, if_pos rfl, tv⟩
  · rcases g p h ps e k hk with ⟨u, h1, h2⟩ | y | ⟨rfl, rfl⟩
    · exact .inl ⟨u, (if_neg z).trans h1, h2.keep kt⟩
    · exact .inr y
    · exact absurd rfl z
structure Num (K : PySem.W.Frag) (w : World) (W N : Nat) (tb0 : Tb N) (prior : List Rat) (H0 : Hp) (d l : Addr) (es : List SE) (rem x : Nat) (Pd : List (Nat × Nat) → Nat → Prop) (H : Hp) : Prop where
  sm : Same H0 H
  st : ∃ us, H l = some (.lst us) ∧ TdAll K H us (es.map seD)
  dc : ∃ f n, NDc K w H d n f ∧ n + x + 3 * (Ssz es + rem) ≤ 4500 ∧ Gd K W N tb0 prior H f Pd
  ok : ∀ e ∈ es, SeOk W N tb0 e
section
variable {K : PySem.W.Frag} {w : World} {W N : Nat} {tb0 : Tb N} {prior : List Rat} {H0 H H' : Hp} {d l : Addr} {es : List SE} {rem x rem' x' : Nat} {Pd Pd' : List (Nat × Nat) → Nat → Prop}
theorem Num.keep (h : Num K w W N tb0 prior H0 d l es rem x Pd H) (s : Same H H') : Num K w W N tb0 prior H0 d l es rem x Pd H' := by
  obtain ⟨h1, ⟨us, h2, h3⟩, ⟨f, n, h4, h5, h6⟩, h7⟩ := h
  exact ⟨h1.trans s, ⟨us, s _ _ h2, h3.keep (Same.kt s)⟩, ⟨f, n, h4.keep (Same.kt s) fun o e => s _ _ e, h5, h6.keep (Same.kt s)⟩, h7⟩
theorem Num.imp (h : Num K w W N tb0 prior H0 d l es rem x Pd H) (a : x' + 3 * rem' ≤ x + 3 * rem) (i : ∀ p k, k < W → Pd p k → Pd' p k) : Num K w W N tb0 prior H0 d l es rem' x' Pd' H := by
  obtain ⟨h1, h2, ⟨f, n, h4, h5, h6⟩, h7⟩ := h
  exact ⟨h1, h2, ⟨f, n, h4, by omega, h6.imp i⟩, h7⟩
/-- another list at l -/
theorem Num.list {us : List V} {es' : List SE} (h : Num K w W N tb0 prior H0 d l es rem x Pd H) (n0 : H0 l = none) (t : TdAll K H us (es'.map seD)) (ok : ∀ e ∈ es', SeOk W N tb0 e) (a : x' + 3 * (Ssz es' + rem') ≤ x + 3 * (Ssz es + rem)) (i : ∀ p k, k < W → Pd p k → Pd' p k) : Num K w W N tb0 prior H0 d l es' rem' x' Pd' (upd H l (.lst us)) := by
  obtain ⟨h1, ⟨us0, h2, h3⟩, ⟨f, n, h4, h5, h6⟩, h7⟩ := h
  have kt : KT K H (upd H l (.lst us)) := KT.updL h2
  obtain ⟨φ, hd⟩ := h4.at_
  have ne : d ≠ l := ne_of hd h2 (fun e => by cases e)
  exact ⟨fun c o z => by rw [upd_ne (ne_of_none z n0)]; exact h1 _ _ z, ⟨us, upd_same, t.keep kt⟩, ⟨f, n, h4.keep kt fun o e => by rw [upd_ne ne]; exact e, by omega, (h6.imp i).keep kt⟩, ok⟩
end
theorem sum_drop {α : Type} {g : α → Nat} {l : List α} {i : Nat} {a : α} (h : l[i]? = some a) : ((l.drop i).map g).sum = g a + ((l.drop (i + 1)).map g).sum := by
  obtain ⟨hi, e⟩ := List.getElem?_eq_some_iff.mp h
  rw [List.drop_eq_getElem_cons hi, e, List.map_cons, List.sum_cons]
theorem TdAll.snocE {K : PySem.W.Frag} {H : Hp} : ∀ {us : List V} {ds : List PyData} {d : PyData}, TdAll K H us (ds ++ [d]) → ∃ us' v, us = us' ++ [v] ∧ TdAll K H us' ds ∧ Td K H v d
  | _, [], _, .cons h .nil => ⟨[], _, rfl, .nil, h⟩
  | _, _ :: ds, d, .cons h t => by
    obtain ⟨us', v, rfl, h1, h2⟩ := TdAll.snocE (ds := ds) (d := d) t
    exact ⟨_ :: us', v, rfl, .cons h h1, h2⟩
theorem snoc_or {α : Type} (l : List α) (h : 0 < l.length) : ∃ l' a, l = l' ++ [a] := ⟨l.dropLast, l.getLast (fun e => by rw [e] at h; exact absurd h (Nat.lt_irrefl 0)), (List.dropLast_concat_getLast _).symm⟩
/-! from one state to the next -/
section
variable {es : List SE} {pre : List (Nat × Nat)} {ah : Rat} {n : Nat} {xs : List (Ask n)}
theorem pend_pop {e : SE} {p : List (Nat × Nat)} {k : Nat} (h : PS_ (es ++ [e]) p k) : PL_ es e (fun q _ _ _ => 0 ≤ q) p k := by
  obtain ⟨e', he, h⟩ := h
  rcases List.mem_append.mp he with he | he
  · exact .inl ⟨e', he, h⟩
  · rw [List.mem_singleton.mp he] at h
    obtain ⟨rest, e1, e2⟩ := h
    cases rest with
    | nil =>
      rw [look_nil] at e2
      cases e2
    | cons x rest => exact .inr ⟨x.1, x.2, rest, e1, e2, Nat.zero_le _⟩
theorem pend_q0 {i : Nat} {e : SE} {p : List (Nat × Nat)} {k : Nat} (h : PL_ es e (fun q _ _ _ => i ≤ q) p k) : PL_ es e (fun q a _ _ => i < q ∨ (q = i ∧ 0 ≤ a)) p k := by
  rcases h with h | ⟨q, a, rest, e1, e2, e3⟩
  · exact .inl h
  · exact .inr ⟨q, a, rest, e1, e2, by omega⟩
theorem pend_q1 {i : Nat} {x : Ask n} (hx : xs[i]? = some x) {p : List (Nat × Nat)} {k : Nat} (h : PL_ es ⟨pre, ah, n + 1, xs⟩ (fun q a _ _ => i < q ∨ (q = i ∧ x.2.length ≤ a)) p k) : PL_ es ⟨pre, ah, n + 1, xs⟩ (fun q _ _ _ => i + 1 ≤ q) p k := by
  rcases h with h | ⟨q, a, rest, e1, e2, e3⟩
  · exact .inl h
  · refine .inr ⟨q, a, rest, e1, e2, ?_⟩
    rcases e3 with e3 | ⟨rfl, e3⟩
    · exact e3
    · obtain ⟨y, r, h1, h2⟩ := look_some e2
      rw [hx] at h1
      cases h1
      have := (List.getElem?_eq_some_iff.mp h2).1
      omega
theorem pend_end {p : List (Nat × Nat)} {k : Nat} (h : PL_ es ⟨pre, ah, n + 1, xs⟩ (fun q _ _ _ => xs.length ≤ q) p k) : PS_ es p k := by
  rcases h with h | ⟨q, a, rest, e1, e2, e3⟩
  · exact h
  · obtain ⟨y, r, h1, h2⟩ := look_some e2
    have h1' : xs[q]? = some y := h1
    have := (List.getElem?_eq_some_iff.mp h1').1
    omega
def cW (i j k : Nat) (q a : Nat) (rest : List (Nat × Nat)) (w : Nat) : Prop := i < q ∨ (q = i ∧ (j < a ∨ (a = j ∧ (rest ≠ [] ∨ k ≤ w))))
theorem pend_a0 {i j : Nat} {e : SE} {p : List (Nat × Nat)} {k : Nat} (h : PL_ es e (fun q a _ _ => i < q ∨ (q = i ∧ j ≤ a)) p k) : PL_ es e (cW i j 0) p k := by
  rcases h with h | ⟨q, a, rest, e1, e2, e3⟩
  · exact .inl h
  · refine .inr ⟨q, a, rest, e1, e2, ?_⟩
    rcases e3 with e3 | ⟨e3, e4⟩
    · exact .inl e3
    · by_cases z : a = j
      · exact .inr ⟨e3, .inr ⟨z, .inr (Nat.zero_le _)⟩⟩
      · exact .inr ⟨e3, .inl (by omega)⟩
theorem pend_w {i j k0 : Nat} {e : SE} {p : List (Nat × Nat)} {k : Nat} (h : PL_ es e (cW i j k0) p k) : PL_ es e (cW i j (k0 + 1)) p k ∨ (p = e.pre ++ [(i, j)] ∧ k = k0) := by
  rcases h with h | ⟨q, a, rest, e1, e2, e3⟩
  · exact .inl (.inl h)
  · rcases e3 with e3 | ⟨e3, e4 | ⟨e4, e5 | e5⟩⟩
    · exact .inl (.inr ⟨q, a, rest, e1, e2, .inl e3⟩)
    · exact .inl (.inr ⟨q, a, rest, e1, e2, .inr ⟨e3, .inl e4⟩⟩)
    · exact .inl (.inr ⟨q, a, rest, e1, e2, .inr ⟨e3, .inr ⟨e4, .inl e5⟩⟩⟩)
    · by_cases z : k = k0
      · by_cases y : rest = []
        · subst y e3 e4
          exact .inr ⟨e1, z⟩
        · exact .inl (.inr ⟨q, a, rest, e1, e2, .inr ⟨e3, .inr ⟨e4, .inl y⟩⟩⟩)
      · exact .inl (.inr ⟨q, a, rest, e1, e2, .inr ⟨e3, .inr ⟨e4, .inr (by omega)⟩⟩⟩)
theorem pend_a1 {i j W : Nat} {x : Ask n} {r : Rw n} (hx : xs[i]? = some x) (hr : x.2[j]? = some r) {p : List (Nat × Nat)} {k : Nat} (hk : k < W) (h : PL_ es ⟨pre, ah, n + 1, xs⟩ (cW i j W) p k) : PL_ (es ++ [⟨pre ++ [(i, j)], ah * x.1, n, r.2⟩]) ⟨pre, ah, n + 1, xs⟩ (fun q a _ _ => i < q ∨ (q = i ∧ j + 1 ≤ a)) p k := by
  have up : ∀ {p : List (Nat × Nat)} {k : Nat}, PS_ es p k → PS_ (es ++ [⟨pre ++ [(i, j)], ah * x.1, n, r.2⟩]) p k := fun ⟨e, he, z⟩ => ⟨e, List.mem_append_left _ he, z⟩
  rcases h with h | ⟨q, a, rest, e1, e2, e3⟩
  · exact .inl (up h)
  · rcases e3 with e3 | ⟨rfl, e4 | ⟨rfl, e5 | e5⟩⟩
    · exact .inr ⟨q, a, rest, e1, e2, .inl e3⟩
    · exact .inr ⟨q, a, rest, e1, e2, .inr ⟨rfl, e4⟩⟩
    · refine .inl ⟨_, List.mem_append_right _ (List.mem_singleton.mpr rfl), rest, ?_, ?_⟩
      · show p = (pre ++ [(q, a)]) ++ rest
        rw [List.append_assoc]
        exact e1
      · show (look n r.2 (ah * x.1) rest).isSome = true
        have e2' : (look (n + 1) xs ah ((q, a) :: rest)).isSome = true := e2
        rw [look_at hx hr, if_neg e5] at e2'
        exact e2'
    · omega
theorem SeOk.child {W N : Nat} {tb0 : Tb N} {i j : Nat} {x : Ask n} {r : Rw n} (hx : xs[i]? = some x) (hr : x.2[j]? = some r) (h : SeOk W N tb0 ⟨pre, ah, n + 1, xs⟩) : SeOk W N tb0 ⟨pre ++ [(i, j)], ah * x.1, n, r.2⟩ := by
  have tv : ∀ x ∈ xs, Ch 1 x.1 ∧ ∀ r ∈ x.2, PaysOk W r.1 ∧ TbV W n r.2 := h.tv
  obtain ⟨c1, c2⟩ := tv x (List.mem_of_getElem? hx)
  have l : pre.length + (n + 1) ≤ 6 := h.len
  refine ⟨(c2 r (List.mem_of_getElem? hr)).2, ?_, ?_, fun rest y e => ?_⟩
  · show Ch (pre ++ [(i, j)]).length (ah * x.1)
    rw [List.length_append]
    exact Ch.prod h.ch c1
  · show (pre ++ [(i, j)]).length + n ≤ 6
    rw [List.length_append]
    show pre.length + 1 + n ≤ 6
    omega
  · have e' : look n r.2 (ah * x.1) rest = some y := e
    have ne : rest ≠ [] := fun z => by
      rw [z, look_nil] at e'
      cases e'
    have := h.lk ((i, j) :: rest) y (by
      show look (n + 1) xs ah ((i, j) :: rest) = some y
      rw [look_at hx hr, if_neg ne]
      exact e')
    show look N tb0 1 ((pre ++ [(i, j)]) ++ rest) = some y
    rw [List.append_assoc]
    exact this
theorem SeOk.here {W N : Nat} {tb0 : Tb N} {i j : Nat} {x : Ask n} {r : Rw n} (hx : xs[i]? = some x) (hr : x.2[j]? = some r) (h : SeOk W N tb0 ⟨pre, ah, n + 1, xs⟩) : look N tb0 1 (pre ++ [(i, j)]) = some (ah * x.1, r.1) := by
  refine h.lk [(i, j)] _ ?_
  show look (n + 1) xs ah [(i, j)] = _
  rw [look_at hx hr, if_pos rfl]
end
def NInv (K : PySem.W.Frag) (w : World) (W N : Nat) (tb0 : Tb N) (prior : List Rat) (H0 : Hp) (tp d l : Addr) (m : Nat) (σ : L2.St) (H2 : Hp) : Prop := m ≤ 1501 ∧ ∃ (es : List SE) (o4 o5 o6 o7 o8 o9 o10 o11 o12 o13 o14 o15 : Option V), σ = [some (.int (W : Int)), some (.ref tp), some (.ref d), some (.ref l), o4, o5, o6, o7, o8, o9, o10, o11, o12, o13, o14, o15] ∧ Ssz es + es.length ≤ m ∧ Num K w W N tb0 prior H0 d l es 0 0 (PS_ es) H2
def spNums (K : PySem.W.Frag) (w : World) (N : Nat) : Sp := fun vs H Q _ => ∃ (W : Nat) (v : V) (prior : List Rat) (tb : Tb N), vs = [.int (W : Int), v] ∧ Td K H v (tsD N prior tb) ∧ W ≤ 3 ∧ PriorOk W prior ∧ TbV W N tb ∧ N ≤ 6 ∧ sz N tb ≤ 1500 ∧
  ∀ (d : Addr) (H' : Hp) (n : Nat) (f : NestedKey → Option V), Same H H' → NDc K w H' d n f → Gd K W N tb prior H' f (fun _ _ => False) → Q (.ref d) H'
section
variable {P : Program} {w : World} {K : PySem.W.Frag} {mg : Str → Option Value} {base : Heap}
end
end Tl
/-! dicts whose keys are tuples of tuples: get with a default, a walk over items() -/
namespace Tl
open PySem PySem.Spec PyProof.Rows L2 RZ
def tDGet2N (K : PySem.W.Frag) (w : World) (td ty tx : TE) : TE := fun σ H Q => td σ H fun x H1 => ∃ d n f, x = .ref d ∧ NDc K w H1 d n f ∧ ty σ H1 fun y H2 => tx σ H2 fun z H3 => ∃ k n3, NDc K w H3 d n3 f ∧ Td K H3 y (NestedKey.data k) ∧ (∃ b, y = .ref b) ∧ k.depth ≤ 8 ∧ Q ((f k).getD z) H3
section
variable {X : Cx} {K : PySem.W.Frag} {w : World} (hK : X.K = K) (hw : X.w = w)
include hK hw
theorem k_dget2N {o e e2 : Expr} {td ty tx : TE} {apos cpos : Pos} (hu : X.A.units + 64 < cLine) (ho : PE X o td) (he : PE X e ty) (hf : PE X e2 tx) (m : M2 X o "get" apos e e2 cpos) : PE X (.Call (.Attribute o "get" apos) [e, e2] [] cpos) (tDGet2N K w td ty tx) := by
  subst hK hw
  refine ⟨fun pins s σ H Q I h => ?_⟩
  refine wpAny_Call_method m.base m.few m.line PySem.F.plainAttrs_dict PySem.F.slot_dict_get PySem.F.type_dict_get (thn (ho.run pins s σ H _ I h) fun u s1 ⟨x, H1, I1, rx, d, n, f, ex, D, q1⟩ => ?_)
  subst ex
  obtain rfl : u = Value.ref d := rx
  obtain ⟨xs, dd, _, hsm, _⟩ := D.of I1
  refine ⟨dd.typeIs, fun b q => ?_, ?_⟩
  · cases q
    obtain ⟨ob, _, _, h1, h2, _⟩ := dd
    exact ⟨ob, h1, h2.2.1⟩
  rw [m.trees]
  refine Calls.callWith_builtin rfl (Calls.evalArgs_plain (Calls.spliced_cons (thn (he.run pins s1 σ H1 _ I1 q1) fun iv s2 ⟨y, H2, I2, ry, q2⟩ =>
    Calls.spliced_cons (thn (hf.run pins s2 σ H2 _ I2 q2) fun fv s3 ⟨z, H3, I3, rz, k, n3, D3, tk, hb, hd, q3⟩ => Calls.spliced_nil ?_))))
  obtain ⟨b, rfl⟩ := hb
  cases (show iv = Value.ref b from ry)
  obtain ⟨xs3, dd3, _, hsm3, _, _, _, h6⟩ := D3.of I3
  refine call_meetsIn PySem.F.slot_dict_get dd3.typeIs PySem.F.entry_dict_get (PySem.F.args_dict_get_3 _ _ _) (meetsH_dict_get_default (nestedKind X.prog X.w) d b hsm3 fv) ⟨?_, k, xs3, ⟨nested_is I3 k _ _ tk rfl, hd⟩, dd3, ?_⟩
  · show X.A.in1.units + 8 < cLine
    have : X.A.in1.units = X.A.units + 1 := rfl
    omega
  · exact ⟨_, H3, I3.tok _, (h6 k).getD rz, q3⟩
end
/-- the pairs of the locked dict at d, each a new tuple -/
def ItN (w : World) (d : Addr) (od : Obj) (xs : List (NestedKey × Addr × Value)) (f : NestedKey → Option V) : It :=
  ⟨fun i H => H d = some (.frz od (ndo w d xs)) ∧ i < xs.length, fun i H x H' => ∃ T y v, xs[i]? = some y ∧ f y.1 = some v ∧ x = .ref T ∧ H T = none ∧ H' = upd H T (.tup [.ref y.2.1, v]), fun i H => H d = some (.frz od (ndo w d xs)) ∧ xs.length ≤ i⟩
theorem walk_itemsN {w : World} {d : Addr} {od : Obj} {xs : List (NestedKey × Addr × Value)} {f : NestedKey → Option V} : Walk (ItN w d od xs f) xs.length (fun H => H d = some (.frz od (ndo w d xs))) (fun i H x H' => ∃ T y v, xs[i]? = some y ∧ f y.1 = some v ∧ x = .ref T ∧ H T = none ∧ H' = upd H T (.tup [.ref y.2.1, v])) :=
  ⟨fun i H hi h => ⟨h, hi⟩, fun H h => ⟨h, Nat.le_refl _⟩, fun i H x H' _ _ y => y⟩
theorem atKey_mem {xs : List (NestedKey × Addr × Value)} (nd : (xs.map (·.1)).Nodup) : ∀ {y}, y ∈ xs → atKey xs y.1 = some y.2 := by
  induction xs with
  | nil => intro y h; exact absurd h List.not_mem_nil
  | cons x r ih =>
    intro y h
    rw [List.map_cons, List.nodup_cons] at nd
    rw [atKey_cons]
    rcases List.mem_cons.mp h with rfl | h
    · rw [if_pos rfl]
    · rw [if_neg (fun z : x.1 = y.1 => nd.1 (by rw [z]; exact List.mem_map.mpr ⟨y, h, rfl⟩))]
      exact ih nd.2 h
theorem inv_frzN {X : Cx} {pins : List (Addr × Obj)} {σ : L2.St} {H : Hp} {s : Shared} {d : Addr} {od : Obj} {xs : List (NestedKey × Addr × Value)} (I : Inv X pins σ H s) (h : H d = some (.frz od (ndo X.w d xs))) :
    s.heap.get? d = some od ∧ od.ExactDict ∧ ∃ es ep, od.data = .dict es ep ∧ es.size = xs.length ∧ ∀ i y, xs[i]? = some y → ∃ hi : i < es.size, es[i].key = .ref y.2.1 ∧ es[i].val = y.2.2 := by
  obtain ⟨hd, ⟨o, es, ep, e1, e2, e3, e4⟩, _⟩ := I.hok d _ h
  rw [hd] at e1
  cases e1
  have hl : es.size = xs.length := by rw [← Array.length_toList, e4, List.length_map]
  refine ⟨hd, e2, es, ep, e3, hl, fun i y hy => ?_⟩
  have hi : i < es.size := by rw [hl]; exact (List.getElem?_eq_some_iff.mp hy).1
  have e := congrArg (fun l => l[i]?) e4
  simp only [List.getElem?_map, hy, Option.map_some, Array.getElem?_toList, Array.getElem?_eq_getElem hi] at e
  have e' := Option.some.inj e
  exact ⟨hi, by rw [e'], by rw [e']⟩
theorem turn_itemsN {P : Program} {w : World} {K : PySem.W.Frag} {d : Addr} {od : Obj} {xs : List (NestedKey × Addr × Value)} {f : NestedKey → Option V} {elts : List Expr} {kk : Nat} {tpos : Pos} {es : Array DictEntry} {ep : Nat} (it : Addr) (hod : od.data = .dict es ep) (nd : (xs.map (·.1)).Nodup) (hf6 : ∀ k, RelO (f k) ((atKey xs k).map (·.2))) :
    Turn P w K (.Tuple elts kk tpos) (ItN w d od xs f) [it] it (fun i h => ∃ ok ov, IsItemIter h it d i xs.length ep ok ov) where
  mem := by simp
  obj := fun i h st b hb => by
    have e : b = it := by simpa using hb
    subst e
    obtain ⟨ok, ov, e⟩ := st
    exact ⟨_, e, fun v z => nomatch z⟩
  keep := fun i h h' st k => let ⟨ok, ov, e⟩ := st; ⟨ok, ov, k it (by simp) _ e⟩
  item := by
    intro X hP hw hK hc i pins s σ H E I hf st hg
    subst hP hw hK
    obtain ⟨hd, hi⟩ := hg
    obtain ⟨hgd, hx, es', ep', hdt, hsz, ent⟩ := inv_frzN I hd
    obtain ⟨rfl, rfl⟩ := dict_ep hod hdt
    obtain ⟨y, hy⟩ : ∃ p, xs[i]? = some p := ⟨xs[i], List.getElem?_eq_getElem hi⟩
    obtain ⟨hi2, ek, ev⟩ := ent i y hy
    obtain ⟨v, hv, ru⟩ : ∃ v, f y.1 = some v ∧ RelV v y.2.2 := by
      have z := hf6 y.1
      rw [atKey_mem nd (List.mem_of_getElem? hy)] at z
      cases e : f y.1 with
      | none =>
        rw [e] at z
        exact absurd z id
      | some v =>
        rw [e] at z
        exact ⟨v, rfl, z⟩
    obtain ⟨ok, ov, he⟩ := st
    rw [← hsz] at he
    have hlt : it < s.heap.objs.size := Heap.lt_size he
    refine wpAny_pyNext_items_item_raw he ⟨od, hgd, hx, hod⟩ hi2 fun h' ho hT hz hk => ?_
    rw [ek, ev] at ho hT
    refine ⟨_, rfl, wpAny_letOwnedTupleGo_items (s := { s with heap := h' }) ho fun h'' he' sb => ?_⟩
    have hT2 : h''.get? s.heap.objs.size = some { cls := .type "tuple", data := .seq #[.ref y.2.1, y.2.2] } := (sb.2 _ (Nat.ne_of_gt hlt)).trans hT
    have new : ObjOk X.prog X.w (upd H s.heap.objs.size (.tup [.ref y.2.1, v])) h'' s.heap.objs.size (.tup [.ref y.2.1, v]) :=
      ⟨by show 2 ≤ sizeLine; decide, [.ref y.2.1, y.2.2], .cons rfl (.cons ru .nil), ⟨_, hT2, rfl, _, rfl⟩⟩
    have I1 : Inv X pins σ (upd H s.heap.objs.size (.tup [.ref y.2.1, v])) { s with heap := h'' } :=
      I.turnedNew (t' := s.toks) (ch := [it]) (fun b ob hb e => (sb.2 b (by simpa using hb)).trans (hk b ob (by simpa using hb) e)) hf (Nat.le_refl _) new
    refine ⟨.ref s.heap.objs.size, _, I1, rfl, ⟨_, y, v, hy, hv, rfl, I.hok.fresh (Nat.le_refl _), rfl⟩, ⟨.ref y.2.1, y.2.2, ?_⟩, fun b hb => ?_⟩
    · rw [← hsz]; exact he'
    · have e : b = it := by simpa using hb
      rw [e, upd_ne (Nat.ne_of_lt hlt)]
      exact (hf it (by simp)).1
  done := by
    intro X hP hw hK hc i pins s σ H E I hf st hg
    subst hP hw hK
    obtain ⟨hd, hi⟩ := hg
    obtain ⟨f0, f1, f2, f3, f4, f5⟩ := hf it (by simp)
    obtain ⟨hgd, hx, es', ep', hdt, hsz, ent⟩ := inv_frzN I hd
    obtain ⟨rfl, rfl⟩ := dict_ep hod hdt
    obtain ⟨ok, ov, he⟩ := st
    rw [← hsz] at he
    exact wpAny_pyNext_items_end_raw (I.ok.hd hc) he ⟨od, hgd, hx, hod⟩ (by omega) fun h' eb => ⟨rfl, I.turned (t' := s.toks) (fun b ob hb e => eb b ob hb e) f0 f1 f3 f4 f5⟩
  self := fun A i s Q E st h => let ⟨_, _, e⟩ := st; PySem.W.kcp_self e h
def iItemsN (w : World) (td : TE) : TI := fun σ H R => td σ H fun x H1 => ∃ d xs f, x = .ref d ∧ H1 d = some (ndo w d xs) ∧ (d == sysModules) = false ∧ (xs.map (·.1)).Nodup ∧ (∀ k, RelO (f k) ((atKey xs k).map (·.2))) ∧ ∀ od, R (ItN w d od xs f) (upd H1 d (.frz od (ndo w d xs)))
section
variable {X : Cx} {K : PySem.W.Frag} {w : World} (hK : X.K = K) (hw : X.w = w)
include hK hw
theorem k_itemsN {e : Expr} {td : TE} {apos cpos : Pos} {elts : List Expr} {kk : Nat} {tpos : Pos} (he : PE X e td) (hbase : attributeBase e "items" X.env (eval e X.env) = eval e X.env := by rfl) (hline : (apos.endLine == cpos.line) = true := by rfl) :
    PI X (.Tuple elts kk tpos) (.Call (.Attribute e "items" apos) [] [] cpos) (iItemsN w td) := by
  subst hK hw
  refine ⟨fun pins s σ H R I h => ?_⟩
  refine wpAny_Call_method (T := "dict") (id := "dict.items") hbase rfl hline F.plainAttrs_dict F.slot_dict_items F.type_dict_items (thn (he.run pins s σ H _ I h) fun u s1 ⟨x, H0, I0, rx, d, xs, f, ex, hd0, hs, nd, hf6, q0⟩ => ?_)
  subst ex
  obtain rfl : u = Value.ref d := rx
  obtain ⟨o, I1⟩ := I0.lock hd0 True.intro
  have q := q0 o
  have hd : upd H0 d (.frz o (ndo X.w d xs)) d = some (.frz o (ndo X.w d xs)) := upd_same
  generalize upd H0 d (.frz o (ndo X.w d xs)) = H1 at I1 q hd
  obtain ⟨hgd, hx, es, ep, hdt, hsz, ent⟩ := inv_frzN I1 hd
  have raw : s1.heap.DictRaw d es ep := ⟨o, hgd, hx, hdt⟩
  refine ⟨raw.typeIs, fun b q => by cases q; exact ⟨o, hgd, hx.2.1⟩, ?_⟩
  have I2 : Inv X pins σ H1 { s1 with heap := s1.heap.push { cls := .type "dict_items", data := .fields #[.ref d] } } := I1.kept (t' := s1.toks) fun b ob q => Heap.get?_push_of_some _ q
  have fin : wpAny (model X.prog X.w) X.A (pyIter (.ref s1.heap.objs.size)) (PIE X pins σ (.Tuple elts kk tpos) R) X.xe { s1 with heap := s1.heap.push { cls := .type "dict_items", data := .fields #[.ref d] } } := by
    refine wpAny_pyIter_items_raw (d := d) ⟨_, Heap.get?_push_size _ rfl, rfl, rfl⟩ (raw.at fun o q => Heap.get?_push_of_some _ q) (pi_one (tk := s1.toks) I2 _ (turn_itemsN _ hdt nd hf6) ⟨.none, .none, ?_⟩ q)
    rw [← hsz]
    exact Heap.get?_push_size _ rfl
  show wpAny _ _ (callWith cpos (.builtin "dict.items") [.ref d] [] []) _ X.xe s1
  exact method_meetsIn F.slot_dict_items F.entry_dict_items rfl (PySem.evalArgs_none ⟨rfl, raw.typeIs, F.args_dict_items_1 _, _, meets_dict_items_raw d hs, ⟨es, ep, raw⟩, fin⟩)
end
end Tl
namespace Tl
open PySem PySem.Spec PyProof.Rows L2 RZ
/-! ### the dict of the law: sums by paths -/
def keyQ (p : List (Nat × Nat)) : NestedKey := .tup (p.map pairK)
theorem keyQ_data (p : List (Nat × Nat)) : (keyQ p).data = pathD p := by
  show PyData.tuple (NestedKey.datas (p.map pairK)) = _
  rw [datas_pairs]
  rfl
theorem keyQ_depth (p : List (Nat × Nat)) : (keyQ p).depth ≤ 8 := by
  have := depth_pairs p
  show NestedKey.depthAll (p.map pairK) + 1 ≤ 8
  omega
theorem keyQ_inj {p q : List (Nat × Nat)} (h : keyQ p = keyQ q) : p = q := by
  unfold keyQ at h
  injection h with h
  exact pairK_inj h
abbrev Gm : Type := List (Nat × Nat) → Option (List Rat)
def gW (W : Nat) (g : Gm) (p : List (Nat × Nat)) : List Rat := (g p).getD (zer W)
def gV (W : Nat) (g : Gm) (j : Nat) (p : List (Nat × Nat)) : Rat := (gW W g p).getD j 0
def GmOk (K : PySem.W.Frag) (H : Hp) (f : NestedKey → Option V) (g : Gm) : Prop := (∀ p, (g p = none → f (keyQ p) = none) ∧ ∀ ws, g p = some ws → ∃ v, f (keyQ p) = some v ∧ Td K H v (wsD ws)) ∧ ∀ k v, f k = some v → ∃ p, k = keyQ p
structure SG (K : PySem.W.Frag) (w : World) (H : Hp) (d : Addr) (W e N B : Nat) (g : Gm) : Prop where
  dc : ∃ f, NDc K w H d N f ∧ GmOk K H f g
  ws : ∀ p ws, g p = some ws → ws.length = W ∧ ∀ r ∈ ws, Fd e B r
def setG (g : Gm) (p : List (Nat × Nat)) (ws : List Rat) : Gm := fun p' => if p' = p then some ws else g p'
theorem setG_same {g : Gm} {p : List (Nat × Nat)} {ws : List Rat} : setG g p ws p = some ws := if_pos rfl
theorem setG_ne {g : Gm} {p p' : List (Nat × Nat)} {ws : List Rat} (h : ¬ p' = p) : setG g p ws p' = g p' := if_neg h
/-- all but d is as it was -/
def Frd (d : Addr) (H H' : Hp) : Prop := ∀ a o, H a = some o → a ≠ d → H' a = some o
theorem Frd.refl {d : Addr} (H : Hp) : Frd d H H := fun _ _ e _ => e
theorem Frd.trans {d : Addr} {H1 H2 H3 : Hp} (f : Frd d H1 H2) (g : Frd d H2 H3) : Frd d H1 H3 := fun a o e n => g a o (f a o e n) n
theorem Frd.of {d : Addr} {H H' : Hp} (s : Same H H') : Frd d H H' := fun a o e _ => s a o e
section
variable {K : PySem.W.Frag} {w : World} {H H' : Hp} {d : Addr} {W e N M B B' : Nat} {g : Gm}
theorem SG.kt (h : SG K w H d W e N B g) (fr : Frd d H H') : KT K H H' := fun a ys z => by
  obtain ⟨f, nd, _⟩ := h.dc
  obtain ⟨φ, hd⟩ := nd.at_
  rcases z with (z | ⟨oo, z⟩) | z
  · exact .inl (.inl (fr _ _ z (ne_of z hd (fun e => by cases e))))
  · exact .inl (.inr ⟨oo, fr _ _ z (ne_of z hd (fun e => by cases e))⟩)
  · exact .inr z
theorem GmOk.keep {f : NestedKey → Option V} (h : GmOk K H f g) (k : KT K H H') : GmOk K H' f g := ⟨fun p => ⟨(h.1 p).1, fun ws e => let ⟨v, h1, h2⟩ := (h.1 p).2 ws e; ⟨v, h1, h2.keep k⟩⟩, h.2⟩
theorem SG.keep (h : SG K w H d W e N B g) (s : Same H H') : SG K w H' d W e N B g := by
  obtain ⟨⟨f, nd, ok⟩, ws⟩ := h
  exact ⟨⟨f, nd.keep (Same.kt s) fun o e => s _ _ e, ok.keep (Same.kt s)⟩, ws⟩
theorem SG.mono (h : SG K w H d W e N B g) (l : N ≤ M) (l' : B ≤ B') : SG K w H d W e M B' g := by
  obtain ⟨⟨f, nd, ok⟩, ws⟩ := h
  exact ⟨⟨f, nd.mono l, ok⟩, fun p x e => ⟨(ws p x e).1, fun r hr => ((ws p x e).2 r hr).mono (Nat.le_refl _) l'⟩⟩
theorem SG.wlen (h : SG K w H d W e N B g) (p : List (Nat × Nat)) : (gW W g p).length = W := by
  unfold gW
  cases z : g p with
  | none => exact List.length_replicate
  | some x => exact (h.ws p x z).1
theorem SG.wfd (h : SG K w H d W e N B g) (p : List (Nat × Nat)) : ∀ r ∈ gW W g p, Fd e B r := by
  unfold gW
  cases z : g p with
  | none =>
    intro r hr
    rw [(List.mem_replicate.mp hr).2]
    exact fd_zero
  | some x => exact (h.ws p x z).2
/-- what stands at p, or noughts -/
theorem SG.got (h : SG K w H d W e N B g) {f : NestedKey → Option V} (ok : GmOk K H f g) (p : List (Nat × Nat)) {z : V} (tz : Td K H z (wsD (zer W))) : Td K H ((f (keyQ p)).getD z) (wsD (gW W g p)) := by
  unfold gW
  cases e : g p with
  | none =>
    rw [(ok.1 p).1 e]
    exact tz
  | some x =>
    obtain ⟨v, e1, tv⟩ := (ok.1 p).2 x e
    rw [e1]
    exact tv
theorem sg_put {f : NestedKey → Option V} (ok : GmOk K H f g) (hws : ∀ p ws, g p = some ws → ws.length = W ∧ ∀ r ∈ ws, Fd e B r) (lB : B ≤ B') (kt : KT K H H') {p : List (Nat × Nat)} {v : V} {ws : List Rat} (nd : NDc K w H' d (N + 1) (fun j => if j = keyQ p then some v else f j)) (tv : Td K H' v (wsD ws)) (hl : ws.length = W) (hr : ∀ r ∈ ws, Fd e B' r) : SG K w H' d W e (N + 1) B' (setG g p ws) := by
  refine ⟨⟨_, nd, fun p' => ?_, fun k u hk => ?_⟩, fun p' x hx => ?_⟩
  · by_cases z : p' = p
    · subst z
      refine ⟨fun h => ?_, fun x hx => ?_⟩
      · rw [setG_same] at h
        cases h
      · rw [setG_same] at hx
        cases hx
        exact ⟨v, if_pos rfl, tv⟩
    · have z' : keyQ p' ≠ keyQ p := fun h => z (keyQ_inj h)
      refine ⟨fun h => ?_, fun x hx => ?_⟩
      · rw [setG_ne z] at h
        show (if keyQ p' = keyQ p then some v else f (keyQ p')) = none
        rw [if_neg z']
        exact (ok.1 p').1 h
      · rw [setG_ne z] at hx
        obtain ⟨u, h1, h2⟩ := (ok.1 p').2 x hx
        exact ⟨u, (if_neg z').trans h1, h2.keep kt⟩
  · by_cases z : k = keyQ p
    · exact ⟨p, z⟩
    · have hk' : (if k = keyQ p then some v else f k) = some u := hk
      rw [if_neg z] at hk'
      exact ok.2 k u hk'
  · by_cases z : p' = p
    · subst z
      rw [setG_same] at hx
      cases hx
      exact ⟨hl, hr⟩
    · rw [setG_ne z] at hx
      exact ⟨(hws p' x hx).1, fun r hr => ((hws p' x hx).2 r hr).mono (Nat.le_refl _) lB⟩
theorem gV_put {p : List (Nat × Nat)} {ws : List Rat} {j : Nat} {p' : List (Nat × Nat)} : gV W (setG g p ws) j p' = if p' = p then ws.getD j 0 else gV W g j p' := by
  unfold gV gW
  by_cases z : p' = p
  · subst z
    rw [if_pos rfl, setG_same]
    rfl
  · rw [if_neg z, setG_ne z]
end
theorem zer_td1 {K : PySem.W.Frag} {H : Hp} {p q : Addr} {W : Nat} (hq : Td K H (.ref q) (rD 0)) (hp : SqT K H p (List.replicate (W : Int).toNat [V.ref q]).flatten) : Td K H (.ref p) (wsD (zer W)) := zer_td hq hp
/-- at path + (qi, a) + r: S j a r more; elsewhere as it was -/
def Upd (W : Nat) (g g' : Gm) (path : List (Nat × Nat)) (qi : Nat) (S : Nat → Nat → List (Nat × Nat) → Rat) : Prop := ∀ j, j < W → (∀ a r, gV W g' j (path ++ (qi, a) :: r) = gV W g j (path ++ (qi, a) :: r) + S j a r) ∧ ∀ p, (∀ a r, p ≠ path ++ (qi, a) :: r) → gV W g' j p = gV W g j p
/-- the same for all qi below i -/
def PrI (W : Nat) (g1 g2 : Gm) (told : List (Nat × Nat)) (i : Nat) (S : Nat → Nat → Nat → List (Nat × Nat) → Rat) : Prop := ∀ j, j < W → (∀ k a r, k < i → gV W g2 j (told ++ (k, a) :: r) = gV W g1 j (told ++ (k, a) :: r) + S j k a r) ∧ ∀ p, (∀ k a r, k < i → p ≠ told ++ (k, a) :: r) → gV W g2 j p = gV W g1 j p
theorem prI_zero {W : Nat} {g : Gm} {told : List (Nat × Nat)} {S : Nat → Nat → Nat → List (Nat × Nat) → Rat} : PrI W g g told 0 S := fun j _ => ⟨fun k a r h => absurd h (Nat.not_lt_zero _), fun p _ => rfl⟩
theorem told_inj {told : List (Nat × Nat)} {k k' a a' : Nat} {r r' : List (Nat × Nat)} (h : told ++ (k, a) :: r = told ++ (k', a') :: r') : k = k' ∧ a = a' ∧ r = r' := by
  have h := List.append_cancel_left h
  injection h with h1 h2
  injection h1 with h3 h4
  exact ⟨h3, h4, h2⟩
theorem prI_step {W : Nat} {g1 g2 g3 : Gm} {told : List (Nat × Nat)} {i : Nat} {S : Nat → Nat → Nat → List (Nat × Nat) → Rat} (pr : PrI W g1 g2 told i S) (up : Upd W g2 g3 told i (fun j a r => S j i a r)) : PrI W g1 g3 told (i + 1) S := fun j hj => by
  obtain ⟨p1, p2⟩ := pr j hj
  obtain ⟨u1, u2⟩ := up j hj
  refine ⟨fun k a r hk => ?_, fun p hp => ?_⟩
  · by_cases e : k = i
    · subst e
      rw [u1, p2 _ fun k' a' r' hk' z => by have := (told_inj z).1; omega]
    · rw [u2 _ fun a' r' z => e (told_inj z).1, p1 k a r (by omega)]
  · rw [u2 p fun a' r' => hp i a' r' (by omega), p2 p fun k a r hk => hp k a r (by omega)]
theorem told_end {W m n a0 qi L : Nat} {g g1 g2 : Gm} {path told : List (Nat × Nat)} {ws : List Rat} {t : Nd n} {w' : Wt m n} (ht : told = path ++ [(qi, a0)]) (gv1 : ∀ j, j < W → ∀ p', gV W g1 j p' = if p' = told then gV W g j told + ws.getD j 0 else gV W g j p') (pr : PrI W g1 g2 told L (fun j k a r => aftF j m ((k, a) :: r) n ws t w'))
    (hz : ∀ j k a r, L ≤ k → aftF j m ((k, a) :: r) n ws t w' = 0) : Upd W g g2 path qi (fun j a r => if a0 = a then aftF j m r n ws t w' else 0) := fun j hj => by
  obtain ⟨p1, p2⟩ := pr j hj
  have app : ∀ x, told ++ x = path ++ (qi, a0) :: x := fun x => by rw [ht, List.append_assoc]; rfl
  have self : ∀ k a r, told ≠ told ++ (k, a) :: r := fun k a r z => by
    have := congrArg List.length z
    rw [List.length_append, List.length_cons] at this
    omega
  refine ⟨fun a r => ?_, fun p hp => ?_⟩
  · show gV W g2 j _ = gV W g j _ + (if a0 = a then aftF j m r n ws t w' else 0)
    by_cases e : a0 = a
    · subst e
      rw [if_pos rfl]
      cases r with
      | nil =>
        have et : path ++ [(qi, a0)] = told := ht.symm
        rw [et, p2 told fun k a r _ => self k a r, gv1 j hj, if_pos rfl, aftF_nil]
      | cons x r =>
        obtain ⟨k, a1⟩ := x
        rw [← app]
        have ne : told ++ (k, a1) :: r ≠ told := fun z => self k a1 r z.symm
        by_cases hk : k < L
        · rw [p1 k a1 r hk, gv1 j hj, if_neg ne]
        · rw [p2 _ fun k' a' r' hk' z => by have := (told_inj z).1; omega, gv1 j hj, if_neg ne, hz j k a1 r (by omega), Rat.add_zero]
    · rw [if_neg e, Rat.add_zero, p2 _ fun k' a' r' _ z => by rw [app] at z; exact e (told_inj z).2.1.symm, gv1 j hj, if_neg fun z => by rw [ht] at z; exact e (told_inj z).2.1.symm]
  · rw [p2 p fun k a r _ z => by rw [app] at z; exact hp _ _ z, gv1 j hj, if_neg fun z => by rw [ht] at z; exact hp _ _ z]
theorem cnt_takeS {m : Nat} {l : List (Qn m)} {i : Nat} {q : Qn m} (e : l[i]? = some q) : cnt (m + 1) (l.take (i + 1) : List (Qn m)) = cnt (m + 1) (l.take i : List (Qn m)) + cntQ m q := by
  rw [List.take_add_one, e, cnt_succ, cnt_succ, List.map_append, List.sum_append]
  show _ + (cntQ m q + 0) = _
  rw [Nat.add_zero]
theorem cnt_takeL {m : Nat} {l : List (Qn m)} (i : Nat) : cnt (m + 1) (l.take i : List (Qn m)) ≤ cnt (m + 1) (l : List (Qn m)) := by
  have e : cnt (m + 1) (l.take i ++ l.drop i : List (Qn m)) = cnt (m + 1) (l.take i : List (Qn m)) + cnt (m + 1) (l.drop i : List (Qn m)) := by rw [cnt_succ, cnt_succ, cnt_succ, List.map_append, List.sum_append]
  rw [List.take_append_drop] at e
  omega
theorem cntQ_takeS {n : Nat} {l : Qn n} {i : Nat} {a : An n} (e : l[i]? = some a) : cntQ n (l.take (i + 1)) = cntQ n (l.take i) + (1 + cnt n a.2.2) := by
  unfold cntQ
  rw [List.take_add_one, e, List.map_append, List.sum_append]
  show _ + (1 + cnt n a.2.2 + 0) = _
  rw [Nat.add_zero]
theorem cntQ_takeL {n : Nat} {l : Qn n} (i : Nat) : cntQ n (l.take i) ≤ cntQ n l := by
  have e : cntQ n (l.take i ++ l.drop i) = cntQ n (l.take i) + cntQ n (l.drop i) := by
    unfold cntQ
    rw [List.map_append, List.sum_append]
  rw [List.take_append_drop] at e
  omega
theorem al_getR {α β : Type} {R : α → β → Prop} {as : List α} {bs : List β} {i : Nat} {b : β} (h : Al R as bs) (e : bs[i]? = some b) : ∃ a, as[i]? = some a ∧ R a b := by
  have hi : i < as.length := by
    rw [h.len]
    exact (List.getElem?_eq_some_iff.mp e).1
  have ea : as[i]? = some as[i] := List.getElem?_eq_getElem hi
  obtain ⟨b', e1, r⟩ := h.get ea
  rw [e] at e1
  cases e1
  exact ⟨_, ea, r⟩
theorem aftF_none {j m n : Nat} {ws : List Rat} {t : Nd n} {w : List (Mv m n)} {k a : Nat} {r : List (Nat × Nat)} (e : w[k]? = none) : aftF j (m + 1) ((k, a) :: r) n ws t w = 0 := by
  show (match w[k]? with | some mv => smv (aftF j m r) n ws t mv a | none => 0) = _
  rw [e]
theorem upd_zero {W : Nat} {g : Gm} {path : List (Nat × Nat)} {qi : Nat} : Upd W g g path qi (fun _ _ _ => 0) := fun j _ => ⟨fun a r => (Rat.add_zero _).symm, fun p _ => rfl⟩
theorem upd_add {W : Nat} {g g2 g3 : Gm} {path : List (Nat × Nat)} {qi : Nat} {S S' S2 : Nat → Nat → List (Nat × Nat) → Rat} (u : Upd W g g2 path qi S) (u' : Upd W g2 g3 path qi S') (e : ∀ j a r, S2 j a r = S j a r + S' j a r) : Upd W g g3 path qi S2 := fun j hj => by
  obtain ⟨a1, a2⟩ := u j hj
  obtain ⟨b1, b2⟩ := u' j hj
  exact ⟨fun a r => by rw [b1, a1, e, Rat.add_assoc], fun p hp => by rw [b2 p hp, a2 p hp]⟩
theorem mv_casesS {m n : Nat} {t : Nd n} {q : Qn m} {mv : Mv m n} {ws : List Rat} (h : MvOk (WtOk m) n t q mv) : (∃ (a : Nat) (w : Wt m n) (an : An m), mvD (waitD m) n mv = tellD a (waitD m n w) ∧ q[a]? = some an ∧ WtOk m n t an.2.2 w ∧ ∀ (F : (n : Nat) → List Rat → Nd n → Wt m n → Rat) b, smv F n ws t mv b = if a = b then F n ws t w else 0) ∨
    (∃ (n' : Nat) (e : n = n' + 1) (i : Nat) (ms : List (Mv m n')) (qs : List (Qn n')) (qn : Qn n'), HEq t qs ∧ mvD (waitD m) n mv = askD2 i (ms.map (mvD (waitD m) n')) ∧ ndD n t = .tuple (qs.map (qnD n')) ∧ qs[i]? = some qn ∧ Al (fun (an : An n') (y : Mv m n') => MvOk (WtOk m) n' an.2.2 q y) qn ms ∧
      ∀ (F : (n : Nat) → List Rat → Nd n → Wt m n → Rat) b, smv F n ws t mv b = fsum (List.zipWith (fun (an : An n') (y : Mv m n') => smv F n' an.2.1 an.2.2 y b) qn ms)) := by
  cases n with
  | zero =>
    obtain ⟨an, h1, h2⟩ := h
    exact .inl ⟨mv.1, mv.2, an, rfl, h1, h2, fun F b => rfl⟩
  | succ n =>
    rcases mv with mv | mv
    · obtain ⟨an, h1, h2⟩ := h
      exact .inl ⟨mv.1, mv.2, an, rfl, h1, h2, fun F b => rfl⟩
    · obtain ⟨qn, e, al⟩ := h
      exact .inr ⟨n, rfl, mv.1, mv.2, t, qn, HEq.rfl, rfl, rfl, e, al, fun F b => smv_inr e⟩
def spTold (K : PySem.W.Frag) (w : World) (m n : Nat) : Sp := fun vs H Q _ => ∃ (W N : Nat) (vm vt vw vp : V) (d : Addr) (path : List (Nat × Nat)) (qi : Nat) (ws : List Rat) (t : Nd n) (q : Qn m) (mv : Mv m n) (g : Gm), vs = [vm, .int (W : Int), vt, vw, vp, .int (qi : Int), .ref d] ∧ Td K H vm (mvD (waitD m) n mv) ∧ Td K H vt (ndD n t) ∧ Td K H vw (wsD ws) ∧ Td K H vp (pathD path) ∧ MvOk (WtOk m) n t q mv ∧ NdP W n ws t ∧ ws.length = W ∧ (∀ r ∈ ws, Ch 4 r) ∧ 1 ≤ W ∧ W ≤ 5 ∧ path.length + m ≤ 100 ∧ SG K w H d W 4 N N g ∧ N + (1 + cnt n t) * cntQ m q ≤ 100000 ∧
  ∀ (H' : Hp) (g' : Gm), Frd d H H' → SG K w H' d W 4 (N + (1 + cnt n t) * cntQ m q) (N + (1 + cnt n t) * cntQ m q) g' → Upd W g g' path qi (fun j a r => smv (aftF j m r) n ws t mv a) → Q .non H'
def spPrev (K : PySem.W.Frag) (w : World) (m n : Nat) : Sp := fun vs H Q E => (∃ m', m = m' + 1 ∧ spTold K w m' n vs H Q E) ∨ (∃ n', n = n' + 1 ∧ spTold K w m n' vs H Q E)
section
variable {P : Program} {w : World} {K : PySem.W.Frag} {mg : Str → Option Value} {base : Heap}
theorem ok_law_told1 {m n k : Nat} {f f1 : Addr} {fd fd1 : FuncData} (D : Dn K mg "_law_told" s_law_told ["move", "worlds", "here", "weights", "path", "q", "found"] f fd) (B : Blt mg) (G_law_told : FnOk P w K mg base CX0 k f fd ["move", "worlds", "here", "weights", "path", "q", "found"] (spPrev K w m n))
    (D_law_plus : Dn K mg "_law_plus" s_law_plus ["one", "other"] f1 fd1) (G_law_plus : FnOk P w K mg base CX0 3 f1 fd1 ["one", "other"] (spPlus K)) (hk : 3 ≤ k) : FnOk P w K mg base CX0 (k + 1) f fd ["move", "worlds", "here", "weights", "path", "q", "found"] (spTold K w m n) := by
  refine D.F.ok sc_law_told (fun vs H Q E h => ?_) (fun cdv A outer s H vs Q E hr h => ?_)
  · obtain ⟨W, N, vm, vt, vw, vp, d, path, qi, ws, t, q, mv, g, rfl, _⟩ := h
    rfl
  obtain ⟨W, N, vm, vt, vw, vp, d, path, qi, ws, t, qn, mv, g, rfl, tm, tt, tw, tp, mok, hok, hl, hch, w1, w5, pl, sg, hN, q⟩ := h
  have nd := sc_law_told.nd
  have D_law_told := D
  refine ⟨_, (pss_cons (ps_if (pt_cmpR op_eq (pe_ix (k_ixT (K := K) rfl) (pv 0) pe_int (fun _ _ => rfl)) pe_str (nomark _)) (pss_cons (ps_for PassesOwn.never rfl (k_enum (K := K) rfl (by rfl) B.enumerate (pa_cons (pe_ix (k_ixT (K := K) rfl) (pv 2) (pe_ix (k_ixT (K := K) rfl) (pv 0) pe_int (fun _ _ => rfl)) (fun _ _ => rfl)) pa_nil)) (k_tup (K := K) (n := 2) rfl rfl (pgs_cons (pg_name (i := 7) nd rfl (.inl rfl)) (pgs_cons (k_tup (K := K) (n := 3) rfl rfl (pgs_cons (pg_name (i := 8) nd rfl (.inl rfl)) (pgs_cons (pg_name (i := 9) nd rfl (.inl rfl)) (pgs_cons (pg_name (i := 10) nd rfl (.inl rfl)) pgs_nil)))) pgs_nil))) (pss_one (ps_expr (pe_call G_law_told (hr.mono (by omega)) (by rfl) D_law_told.m D_law_told.F.kp D_law_told.b .nil pass0 (pa_cons (pe_ix (k_ixT (K := K) rfl) (pe_ix (k_ixT (K := K) rfl) (pv 0) pe_int (fun _ _ => rfl)) (pv 7) (fun _ _ => rfl)) (pa_cons (pv 1) (pa_cons (pv 10) (pa_cons (pv 9) (pa_cons (pv 4) (pa_cons (pv 5) (pa_cons (pv 6) pa_nil)))))))))))
      (pss_one ps_retN)) pss_nil)
      (pss_cons (ps_set (i := 11) nd rfl (.inl rfl) (pe_op (k_cat (K := K) rfl) (pv 4) (pe_tup (pa_cons (pe_tup (pa_cons (pv 5) (pa_cons (pe_ix (k_ixT (K := K) rfl) (pv 0) pe_int (fun _ _ => rfl)) pa_nil))) pa_nil))))
      (pss_cons (ps_set (i := 12) nd rfl (.inr rfl) (k_dget2N (K := K) (w := w) rfl rfl hr.units (pv 6) (pv 11) (pe_op (k_rep (K := K) rfl) (pe_tup (pa_cons (pe_tup (pa_cons pe_int (pa_cons pe_int pa_nil))) pa_nil)) (pv 1)) ⟨rfl, rfl, rfl, rfl⟩))
      (pss_cons (k_dputN (K := K) (w := w) rfl rfl hr.units (pv 6) (pv 11) (pe_callTy (k_tupOf (K := K) rfl) (by rfl) B.tuple (by decide +kernel) (pa_cons (pe_lc (own := [("k", 7)]) rfl nd (pi_range1 (by rfl) B.range (pa_cons (pv 1) pa_nil)) (blkOk_by (own := [("k", 7)]) (by kernel_rfl)) (fun _ _ _ _ _ => (pg_name (i := 7) nd rfl (.inl rfl))) (fun _ _ _ _ _ => pts_nil) (fun _ _ _ _ _ => (pe_call G_law_plus (hr.mono (by omega)) (by rfl) D_law_plus.m D_law_plus.F.kp D_law_plus.b .nil pass0 (pa_cons (pe_ix (k_ixT (K := K) rfl) (pv 12) (pv 7) (fun _ _ => rfl)) (pa_cons (pe_ix (k_ixT (K := K) rfl) (pv 3) (pv 7) (fun _ _ => rfl)) pa_nil))))) pa_nil)) rfl)
      (pss_one (ps_for PassesOwn.never rfl (k_enum (K := K) rfl (by rfl) B.enumerate (pa_cons (pe_ix (k_ixT (K := K) rfl) (pv 0) pe_int (fun _ _ => rfl)) pa_nil)) (k_tup (K := K) (n := 2) rfl rfl (pgs_cons (pg_name (i := 13) nd rfl (.inl rfl)) (pgs_cons (pg_name (i := 14) nd rfl (.inl rfl)) pgs_nil))) (pss_one (ps_expr (pe_call G_law_told (hr.mono (by omega)) (by rfl) D_law_told.m D_law_told.F.kp D_law_told.b .nil pass0 (pa_cons (pv 14) (pa_cons (pv 1) (pa_cons (pv 2) (pa_cons (pv 3) (pa_cons (pv 11) (pa_cons (pv 13) (pa_cons (pv 6) pa_nil)))))))))))))))), ?_⟩
  rcases mv_casesS (ws := ws) mok with ⟨a0, w', an0, em, ean0, wok, es⟩ | ⟨n', en, j, ms, qs, qj, ht, em, ent, eq, al, es⟩
  · rw [em] at tm
    obtain ⟨a, xs, rfl, ha, tx⟩ := tm.tupE
    cases tx with
    | cons t0 ta1 =>
    rename_i v0 xs
    cases ta1 with
    | cons t1 ta2 =>
    rename_i v1 xs
    cases ta2 with
    | cons t2 ta3 =>
    rename_i v2 xs
    cases ta3
    cases t0
    cases t1
    obtain ⟨pp, pxs, rfl, hpp, tpp⟩ := id tp.tupE
    have lpx : pxs.length = path.length := by rw [tpp.len, List.length_map]
    obtain ⟨pw, wxs, rfl, hpw, tpw⟩ := id tw.tupE
    obtain ⟨f0, ndc, gok⟩ := id sg.dc
    have man0 := List.mem_of_getElem? ean0
    have hC : (1 + cnt n t) * (1 + cnt m an0.2.2) ≤ (1 + cnt n t) * cntQ m qn := Nat.mul_le_mul_left _ (by
      have : ∀ q' : Qn m, an0 ∈ q' → 1 + cnt m an0.2.2 ≤ cntQ m q' := fun q' => by
        induction q' with
        | nil => exact fun h => absurd h List.not_mem_nil
        | cons x r ih =>
          intro h
          rw [cntQ_cons]
          rcases List.mem_cons.mp h with rfl | h
          · omega
          · have := ih h
            omega
      exact this qn man0)
    rw [Nat.mul_add, Nat.mul_one] at hC
    refine ⟨_, rfl, a, _, 0, _, rfl, rfl, ha, at_of (j := 0) rfl rfl, rfl, _, rfl, ite2 (fun c => absurd c (by decide)) (fun _ => ?_)⟩
    -- told
    refine ⟨_, rfl, _, rfl, _, rfl, a, _, 1, _, rfl, rfl, ha, at_of (j := 1) rfl rfl, by show 2 ≤ sizeLine; decide, fun p1 n1 => ⟨by show 1 ≤ sizeLine; decide, fun p2 n2 => ?_⟩⟩
    have s2 := (same_upd (o := .tup [.int (qi : Int), .int (a0 : Int)]) n1).trans (same_upd (o := .tup [.ref p1]) n2)
    have tp1 : Td K (upd (upd H p1 (.tup [.int (qi : Int), .int (a0 : Int)])) p2 (.tup [.ref p1])) (.ref p1) (pairD (qi, a0)) := .tup (Same.kt (same_upd n2) _ _ (.inl (.inl upd_same))) (.cons (.int _) (.cons (.int _) .nil))
    refine ⟨pp, p2, pxs, _, rfl, rfl, Same.kt s2 _ _ hpp, .inl (.inl upd_same), by rw [lpx]; exact Nat.le_of_lt (small1000 (by simp; omega)), fun p3 H3 s3 q3 => ?_⟩
    have s03 := s2.trans s3
    have tpath : Td K H3 (.ref p3) (pathD (path ++ [(qi, a0)])) := by
      unfold pathD
      rw [List.map_append]
      exact .tup q3 ((tpp.keep (Same.kt s03)).app (.cons (tp1.keep (Same.kt s3)) .nil))
    obtain ⟨told, htold⟩ : ∃ told, told = path ++ [(qi, a0)] := ⟨_, rfl⟩
    rw [← htold] at tpath
    clear tp1 q3
    -- elder
    refine ⟨_, rfl, d, N, f0, rfl, ndc.keep (Same.kt s03) fun o e => s03 _ _ e, _, rfl, by show 2 ≤ sizeLine; decide, fun p4 n4 => ⟨by show 1 ≤ sizeLine; decide, fun p5 n5 => ?_⟩⟩
    have s45 := (same_upd (o := .tup [.int 0, .int 1]) n4).trans (same_upd (o := .tup [.ref p4]) n5)
    have s05 := s03.trans s45
    have t4 : Td K (upd (upd H3 p4 (.tup [.int 0, .int 1])) p5 (.tup [.ref p4])) (.ref p4) (rD 0) := .tup (Same.kt (same_upd n5) _ _ (.inl (.inl upd_same))) (.cons (.int _) (.cons (.int _) .nil))
    refine ⟨_, rfl, p5, (W : Int), _, rfl, rfl, .inl (.inl upd_same), by simp, by omega, by omega, by simp, fun p6 H6 s6 q6 => ?_⟩
    have s06 := s05.trans s6
    have s36 := s45.trans s6
    have tz6 := zer_td1 (t4.keep (Same.kt s6)) q6
    refine ⟨keyQ told, N, ndc.keep (Same.kt s06) fun o e => s06 _ _ e, by rw [keyQ_data]; exact tpath.keep (Same.kt s36), ⟨p3, rfl⟩, keyQ_depth _, ?_⟩
    have tel := (sg.keep s06).got (gok.keep (Same.kt s06)) told tz6
    generalize (f0 (keyQ told)).getD (.ref p6) = vel at tel ⊢
    obtain ⟨pe, exs, rfl, hpe, tpe⟩ := id tel.tupE
    have el := sg.wlen told
    have efd := sg.wfd told
    clear tel tz6 q6 t4
    -- the new sums
    refine ⟨_, rfl, _, rfl, by omega, by omega, fun T8 hT8 => ?_⟩
    refine lc_td (K := K) (walk_range (lo := 0) (n := W)) (((List.range W).map fun j => (gW W g told).getD j 0 + ws.getD j 0).map rD) (by rw [List.length_map, List.length_map, List.length_range]) (by omega) hT8 (fun _ _ => trivial) ?_ ?_
    · rintro i y e H0 H8 Qy N' he s8 ⟨rfl, rfl⟩ hQ
      have hi : i < W := by
        have := (List.getElem?_eq_some_iff.mp he).1
        rw [List.length_map, List.length_map, List.length_range] at this
        exact this
      rw [List.getElem?_map, List.getElem?_map, List.getElem?_range hi] at he
      cases he
      refine ⟨rfl, ?_⟩
      refine iteT (B := N' H8) ?_
      have ek : (0 : Int) + (i : Int) = (i : Int) := by omega
      have e1 : (gW W g told)[i]? = some ((gW W g told).getD i 0) := by rw [List.getD_eq_getElem?_getD, List.getElem?_eq_getElem (by rw [el]; exact hi)]; rfl
      have e2 : ws[i]? = some (ws.getD i 0) := by rw [List.getD_eq_getElem?_getD, List.getElem?_eq_getElem (by rw [hl]; exact hi)]; rfl
      obtain ⟨v1, ev1, tv1⟩ := (tpe.keep (Same.kt s8)).get (i := i) (d := rD ((gW W g told).getD i 0)) (by rw [List.getElem?_map, e1]; rfl)
      obtain ⟨v2, ev2, tv2⟩ := (tpw.keep (Same.kt (s06.trans s8))).get (i := i) (d := rD (ws.getD i 0)) (by rw [List.getElem?_map, e2]; rfl)
      have c2 : Ch 4 (ws.getD i 0) := hch _ (List.mem_of_getElem? e2)
      refine ⟨_, rfl, _, rfl, pe, exs, _, v1, rfl, rfl, Same.kt s8 _ _ hpe, (by rw [ek]; exact atI_nat ev1), _, rfl, _, rfl, pw, wxs, _, v2, rfl, rfl, Same.kt (s06.trans s8) _ _ hpw, (by rw [ek]; exact atI_nat ev2), v1, v2, _, _, rfl, tv1, tv2, (efd _ (List.mem_of_getElem? e1)).sm (by omega) (by omega), c2.fd.sm (by omega) (by decide), fun v9 H9 s9 t9 => hQ v9 H9 s9 t9⟩
    intro H8 us8 h8 t8 s8
    refine ⟨T8, us8, rfl, SqL.of h8, fun p9 H9 s9 q9 => ?_⟩
    have s69 := s8.trans s9
    have s09 := s06.trans s69
    have tn : Td K H9 (.ref p9) (wsD ((List.range W).map fun j => (gW W g told).getD j 0 + ws.getD j 0)) := .tup q9 (t8.keep (Same.kt s9))
    have hCN : N ≤ 100000 := by omega
    refine ⟨_, rfl, _, rfl, d, N, f0, keyQ told, rfl, ndc.keep (Same.kt s09) fun o e => s09 _ _ e, hCN, by rw [keyQ_data]; exact tpath.keep (Same.kt (s36.trans s69)), ⟨p3, rfl⟩, keyQ_depth _, fun H10 fr10 kt10 nd10 => ?_⟩
    have fr0 : Frd d H H10 := (Frd.of s09).trans fr10
    have sg1 := sg_put (W := W) (e := 4) (gok.keep (Same.kt s09)) sg.ws (Nat.le_succ N) kt10 nd10 (tn.keep kt10) (by rw [List.length_map, List.length_range]) (fun r hr => by
      obtain ⟨j, hj, rfl⟩ := List.mem_map.mp hr
      have hj := List.mem_range.mp hj
      have e1 : (gW W g told)[j]? = some ((gW W g told).getD j 0) := by rw [List.getD_eq_getElem?_getD, List.getElem?_eq_getElem (by rw [el]; exact hj)]; rfl
      have e2 : ws[j]? = some (ws.getD j 0) := by rw [List.getD_eq_getElem?_getD, List.getElem?_eq_getElem (by rw [hl]; exact hj)]; rfl
      exact (efd _ (List.mem_of_getElem? e1)).add (hch _ (List.mem_of_getElem? e2)).fd)
    have gv1 : ∀ j, j < W → ∀ p', gV W (setG g told ((List.range W).map fun j => (gW W g told).getD j 0 + ws.getD j 0)) j p' = if p' = told then gV W g j told + ws.getD j 0 else gV W g j p' := fun j hj p' => by
      rw [gV_put]
      by_cases z : p' = told
      · rw [if_pos z, if_pos z]
        exact getD_of (by rw [List.getElem?_map, List.getElem?_range hj]; rfl)
      · rw [if_neg z, if_neg z]
    generalize (setG g told ((List.range W).map fun j => (gW W g told).getD j 0 + ws.getD j 0)) = g1 at sg1 gv1
    have k010 := (Same.kt (K := K) s09).trans kt10
    have tpath10 := tpath.keep ((Same.kt (s36.trans s69)).trans kt10)
    clear tn q9 t8 h8 nd10 s9 s8 hT8 us8 hpe tpe s6 s45 s2 s3 n1 n2 n4 n5
    have ha10 := k010 _ _ ha
    cases m with
    | zero =>
      obtain ⟨pq, qxs, rfl, hpq, tpq⟩ := Td.tupE (show Td K H v2 (.tuple []) from t2)
      cases tpq
      refine ⟨_, rfl, a, _, 2, _, rfl, rfl, ha10, at_of (j := 2) rfl rfl, pq, [], rfl, k010 _ _ hpq, for_it (walk_enumT (K := K) (a := pq) (xs := [])) (fun i σ H4 => H4 = H10) rfl (fun i σ H4 _ h => by rw [h]; exact k010 _ _ hpq) ?_ ?_⟩
      · rintro i x σ H4 H5 hi
        exact absurd hi (Nat.not_lt_zero _)
      · rintro σ H4 rfl
        refine q H4 g1 fr0 (sg1.mono (by omega) (by omega)) ?_
        have := told_end (w' := w') (t := t) (n := n) (m := 0) (L := 0) htold gv1 prI_zero (fun j k a r _ => rfl)
        rw [show (fun j a r => smv (aftF j 0 r) n ws t mv a) = (fun j a r => if a0 = a then aftF j 0 r n ws t w' else 0) from funext fun j => funext fun a => funext fun r => es _ _]
        exact this
    | succ m =>
      obtain ⟨gsl, hgsl⟩ : ∃ gsl : List (Qn m), (gsl : Nd (m + 1)) = an0.2.2 := ⟨an0.2.2, rfl⟩
      obtain ⟨wl, hwl⟩ : ∃ wl : List (Mv m n), (wl : Wt (m + 1) n) = w' := ⟨w', rfl⟩
      subst hwl
      rw [← hgsl] at wok hC
      have al : Al (fun (q : Qn m) (y : Mv m n) => MvOk (WtOk m) n t q y) gsl wl := wok
      obtain ⟨pq, qxs, rfl, hpq, tpq⟩ := Td.tupE (show Td K H v2 (.tuple (wl.map (mvD (waitD m) n))) from t2)
      have lqx : qxs.length = wl.length := by rw [tpq.len, List.length_map]
      have lal := al.len
      refine ⟨_, rfl, a, _, 2, _, rfl, rfl, ha10, at_of (j := 2) rfl rfl, pq, qxs, rfl, k010 _ _ hpq, for_it (walk_enumT (K := K) (a := pq) (xs := qxs)) (fun i σ H4 => ∃ (o13 o14 : Option V) (g2 : Gm), σ = [some (.ref a), some (.int (W : Int)), some vt, some (.ref pw), some (.ref pp), some (.int (qi : Int)), some (.ref d), none, none, none, none, some (.ref p3), some (.ref pe), o13, o14] ∧ Frd d H10 H4 ∧ SG K w H4 d W 4 (N + 1 + (1 + cnt n t) * cnt (m + 1) (gsl.take i : List (Qn m))) (N + 1 + (1 + cnt n t) * cnt (m + 1) (gsl.take i : List (Qn m))) g2 ∧ PrI W g1 g2 told i (fun j k a r => aftF j (m + 1) ((k, a) :: r) n ws t wl)) ⟨none, none, g1, rfl, Frd.refl _, sg1.mono (Nat.le_add_right _ _) (Nat.le_add_right _ _), prI_zero⟩ (fun i σ H4 _ h => ?_) ?_ ?_⟩
      · obtain ⟨_, _, _, _, fr4, _, _⟩ := h
        exact sg1.kt fr4 _ _ (k010 _ _ hpq)
      · rintro i x σ H4 H5 hi ⟨o13, o14, g2, rfl, fr4, sg4, pr⟩ ⟨T3, x1, x2, rfl, n3, rfl, e1, e2⟩
        cases e1
        obtain ⟨dx, ex, tx⟩ := tpq.getV e2
        obtain ⟨mvi, eq, rfl⟩ := mapAt ex
        obtain ⟨qi_, eqi, okm⟩ := al_getR al eq
        have s5 : Same H4 (upd H4 T3 (.tup [.int (i : Int), x2])) := same_upd n3
        have k5 := k010.trans ((sg1.kt fr4).trans (Same.kt s5))
        have k105 := (sg1.kt fr4).trans (Same.kt s5)
        have sg5 := sg4.keep s5
        have fr5 := fr4.trans (Frd.of s5)
        have e5 : SqT K (upd H4 T3 (.tup [.int (i : Int), x2])) T3 [.int (i : Int), x2] := .inl (.inl upd_same)
        generalize upd H4 T3 (.tup [.int (i : Int), x2]) = H5 at k5 k105 sg5 fr5 e5 ⊢
        refine ⟨T3, _, rfl, e5, rfl, _, _, rfl, _, _, rfl, rfl, ?_⟩
        have c1 := cnt_takeS eqi
        have c2 := cnt_takeL (l := gsl) (i + 1)
        have c3 := Nat.mul_le_mul_left (1 + cnt n t) c2
        rw [c1, Nat.mul_add] at c3
        refine ⟨_, rfl, _, rfl, _, rfl, _, rfl, _, rfl, _, rfl, _, rfl, .inl ⟨m, rfl, W, _, x2, vt, .ref pw, .ref p3, d, told, i, ws, t, qi_, mvi, g2, rfl, tx.keep k5, tt.keep k5, tw.keep k5, tpath10.keep k105, okm, hok, hl, hch, w1, w5, by rw [htold, List.length_append]; show path.length + 1 + m ≤ 100; omega, sg5, ?_, fun H6 g6 fr6 sg6 up6 => ?_⟩⟩
        · have c4 : (1 + cnt n t) * cnt (m + 1) (gsl : List (Qn m)) = (1 + cnt n t) * cnt (m + 1) (gsl : Nd (m + 1)) := rfl
          omega
        · refine ⟨_, _, g6, rfl, fr5.trans fr6, ?_, prI_step pr ?_⟩
          · rw [c1, Nat.mul_add, ← Nat.add_assoc]
            exact sg6
          · have eS : (fun j a r => aftF j (m + 1) ((i, a) :: r) n ws t wl) = (fun j a r => smv (aftF j m r) n ws t mvi a) := funext fun j => funext fun a => funext fun r => aftF_at eq
            rw [eS]
            exact up6
      · rintro σ H4 ⟨o13, o14, g2, rfl, fr4, sg4, pr⟩
        refine q H4 g2 (fr0.trans fr4) (have hb : _ := ?_; sg4.mono hb hb) ?_
        · have c2 := Nat.mul_le_mul_left (1 + cnt n t) (cnt_takeL (l := gsl) qxs.length)
          have c4 : (1 + cnt n t) * cnt (m + 1) (gsl : List (Qn m)) = (1 + cnt n t) * cnt (m + 1) (gsl : Nd (m + 1)) := rfl
          omega
        · have := told_end (w' := (wl : Wt (m + 1) n)) (t := t) (n := n) (m := m + 1) (L := qxs.length) htold gv1 pr (fun j k a r hk => by
            exact aftF_none (List.getElem?_eq_none (by omega)))
          rw [show (fun j a r => smv (aftF j (m + 1) r) n ws t mv a) = (fun j a r => if a0 = a then aftF j (m + 1) r n ws t wl else 0) from funext fun j => funext fun a => funext fun r => es _ _]
          exact this
  · subst en
    cases ht
    rw [em] at tm
    rw [ent] at tt
    obtain ⟨a, xs, rfl, ha, tx⟩ := tm.tupE
    cases tx with
    | cons t0 ta1 =>
    rename_i v0 xs
    cases ta1 with
    | cons t1 ta2 =>
    rename_i v1 xs
    cases ta2 with
    | cons t2 ta3 =>
    rename_i v2 xs
    cases ta3
    cases t0
    cases t1
    obtain ⟨pb, bs, rfl, hpb, tbs⟩ := t2.tupE
    obtain ⟨c, zs, rfl, hzc, tz⟩ := tt.tupE
    have lz : zs.length = qs.length := by rw [tz.len, List.length_map]
    have lbs : bs.length = ms.length := by rw [tbs.len, List.length_map]
    have lal := al.len
    have hj : j < zs.length := by
      rw [lz]
      exact (List.getElem?_eq_some_iff.mp eq).1
    obtain ⟨⟨qjok, qsh⟩, njok⟩ := hok.2 qj (List.mem_of_getElem? eq)
    have cq : cntQ n' qj ≤ cnt (n' + 1) (qs : Nd (n' + 1)) := cnt_le_of_mem (List.mem_of_getElem? eq)
    have hC : cntQ n' qj * cntQ m qn ≤ (1 + cnt (n' + 1) (qs : Nd (n' + 1))) * cntQ m qn := Nat.mul_le_mul_right _ (by omega)
    obtain ⟨dx, ex, tx⟩ := tz.getV (List.getElem?_eq_getElem hj)
    obtain ⟨qj', eq', rfl⟩ := mapAt ex
    rw [eq] at eq'
    cases eq'
    obtain ⟨pj, js, evj, hpj, tpj⟩ := tx.tupE
    have ljs : js.length = qj.length := by rw [tpj.len, List.length_map]
    have gj : zs[j]? = some (.ref pj) := by rw [List.getElem?_eq_getElem hj, evj]
    refine ⟨_, rfl, a, _, 0, _, rfl, rfl, ha, at_of (j := 0) rfl rfl, rfl, _, rfl, ite2 (fun _ => ?_) (fun c => absurd (decide_eq_true rfl) c)⟩
    refine ⟨_, rfl, _, rfl, a, _, 1, _, rfl, rfl, ha, at_of (j := 1) rfl rfl, c, zs, (j : Int), _, rfl, rfl, hzc, at_of (j := j) rfl gj, pj, js, rfl, hpj, for_it (walk_enumT (K := K) (a := pj) (xs := js)) (fun i σ H4 => ∃ (o7 o8 o9 o10 : Option V) (g2 : Gm), σ = [some (.ref a), some (.int (W : Int)), some (.ref c), some vw, some vp, some (.int (qi : Int)), some (.ref d), o7, o8, o9, o10, none, none, none, none] ∧ Frd d H H4 ∧ SG K w H4 d W 4 (N + cntQ n' (qj.take i) * cntQ m qn) (N + cntQ n' (qj.take i) * cntQ m qn) g2 ∧ Upd W g g2 path qi (fun j a r => fsum ((List.zipWith (fun (an : An n') (y : Mv m n') => smv (aftF j m r) n' an.2.1 an.2.2 y a) qj ms).take i))) ⟨none, none, none, none, g, rfl, Frd.refl _, sg.mono (Nat.le_add_right _ _) (Nat.le_add_right _ _), upd_zero⟩ (fun i σ H4 _ h => ?_) ?_ ?_⟩
    · obtain ⟨_, _, _, _, _, _, fr4, _, _⟩ := h
      exact sg.kt fr4 _ _ hpj
    · rintro i x σ H4 H5 hi ⟨o7, o8, o9, o10, g2, rfl, fr4, sg4, up⟩ ⟨T3, x1, x2, rfl, n3, rfl, e1, e2⟩
      cases e1
      obtain ⟨dx, ex, tx⟩ := tpj.getV e2
      obtain ⟨an, ean, rfl⟩ := mapAt ex
      obtain ⟨mvi, emi, okm⟩ := al.get ean
      have man := List.mem_of_getElem? ean
      have s5 : Same H4 (upd H4 T3 (.tup [.int (i : Int), x2])) := same_upd n3
      have k5 := (sg.kt fr4).trans (Same.kt s5)
      have sg5 := sg4.keep s5
      have fr5 := fr4.trans (Frd.of s5)
      have e5 : SqT K (upd H4 T3 (.tup [.int (i : Int), x2])) T3 [.int (i : Int), x2] := .inl (.inl upd_same)
      generalize upd H4 T3 (.tup [.int (i : Int), x2]) = H5 at k5 sg5 fr5 e5 ⊢
      obtain ⟨pa, vw', vz, vt', rfl, hpa, tw', tz', tt'⟩ := td_an (tx.keep k5)
      obtain ⟨vb, evb, tvb⟩ := (tbs.keep k5).get (i := i) (d := mvD (waitD m) n' mvi) (by rw [List.getElem?_map, emi]; rfl)
      refine ⟨T3, _, rfl, e5, rfl, _, _, rfl, _, _, rfl, pa, _, rfl, hpa, rfl, _, _, rfl, _, _, rfl, _, _, rfl, rfl, rfl, ?_⟩
      have c1 := cntQ_takeS ean
      have c2 := Nat.mul_le_mul_right (cntQ m qn) (cntQ_takeL (l := qj) (i + 1))
      rw [c1, Nat.add_mul] at c2
      refine ⟨_, rfl, a, _, 2, _, rfl, rfl, k5 _ _ ha, at_of (j := 2) rfl rfl, _, rfl, pb, bs, (i : Int), vb, rfl, rfl, k5 _ _ hpb, atI_nat evb, _, rfl, _, rfl, _, rfl, _, rfl, _, rfl, _, rfl, .inr ⟨n', rfl, W, _, vb, vt', vz, vp, d, path, qi, an.2.1, an.2.2, qn, mvi, g2, rfl, tvb, tt', tz', tp.keep k5, okm, njok an man, qjok.wide an man, qsh an man, w1, w5, pl, sg5, ?_, fun H6 g6 fr6 sg6 up6 => ?_⟩⟩
      · omega
      · refine ⟨_, _, _, _, g6, rfl, fr5.trans fr6, ?_, upd_add up up6 fun j a r => ?_⟩
        · rw [c1, Nat.add_mul, ← Nat.add_assoc]
          exact sg6
        · have ez : (List.zipWith (fun (an : An n') (y : Mv m n') => smv (aftF j m r) n' an.2.1 an.2.2 y a) qj ms)[i]? = some (smv (aftF j m r) n' an.2.1 an.2.2 mvi a) := zip_at ean emi
          rw [List.take_add_one, ez]
          exact fsum_snoc _ _
    · rintro σ H4 ⟨o7, o8, o9, o10, g2, rfl, fr4, sg4, up⟩
      refine q H4 g2 fr4 (have hb : _ := ?_; sg4.mono hb hb) ?_
      · have c2 := Nat.mul_le_mul_right (cntQ m qn) (cntQ_takeL (l := qj) js.length)
        omega
      · have eS : (fun j a r => smv (aftF j m r) (n' + 1) ws (qs : Nd (n' + 1)) mv a) = (fun j a r => fsum ((List.zipWith (fun (an : An n') (y : Mv m n') => smv (aftF j m r) n' an.2.1 an.2.2 y a) qj ms).take js.length)) := funext fun j => funext fun a => funext fun r => by
          rw [es, List.take_of_length_le (by rw [List.length_zipWith]; omega)]
        rw [eS]
        exact up
end
end Tl
namespace Tl
open PySem PySem.Spec PyProof.Rows L2 RZ
def spMB (K : PySem.W.Frag) (w : World) (m n : Nat) : Sp := fun vs H Q _ => ∃ (W : Nat) (vt vp : V) (t : Nd n) (gs : Nd m) (wt : Wt m n), vs = [.int (W : Int), vt, vp] ∧ Td K H vt (ndD n t) ∧ Td K H vp (waitD m n wt) ∧ WtOk m n t gs wt ∧ NdP W n (ones W) t ∧ 1 ≤ W ∧ W ≤ 5 ∧ m ≤ 90 ∧ (1 + cnt n t) * cnt m gs ≤ 100000 ∧
  ∀ (d : Addr) (H' : Hp) (g : Gm), Same H H' → H d = none → SG K w H' d W 4 ((1 + cnt n t) * cnt m gs) ((1 + cnt n t) * cnt m gs) g → (∀ j, j < W → ∀ x r, gV W g j (x :: r) = aftF j m (x :: r) n (ones W) t wt) → Q (.ref d) H'
def nilG : Gm := fun _ => none
theorem nilG_sg {K : PySem.W.Frag} {w : World} {H : Hp} {d : Addr} {W e N B : Nat} (h : NDc K w H d N (fun _ => none)) : SG K w H d W e N B nilG := ⟨⟨_, h, fun p => ⟨fun _ => rfl, fun ws e => by cases e⟩, fun k v e => by cases e⟩, fun p ws e => by cases e⟩
theorem nilG_v {W j : Nat} {p : List (Nat × Nat)} : gV W nilG j p = 0 := zer_at W j
section
variable {P : Program} {w : World} {K : PySem.W.Frag} {mg : Str → Option Value} {base : Heap} {aN aO : Addr} {t1 t2 t3 t4 t5 t6 t7 : Tok}
theorem ok_told_all {f f1 : Addr} {fd fd1 : FuncData} (D : Dn K mg "_law_told" s_law_told ["move", "worlds", "here", "weights", "path", "q", "found"] f fd) (B : Blt mg) (D_law_plus : Dn K mg "_law_plus" s_law_plus ["one", "other"] f1 fd1) (G_law_plus : FnOk P w K mg base CX0 3 f1 fd1 ["one", "other"] (spPlus K)) :
    ∀ m n : Nat, FnOk P w K mg base CX0 (5 + m + n) f fd ["move", "worlds", "here", "weights", "path", "q", "found"] (spTold K w m n) := by
  have prev : ∀ {k m n : Nat}, (∀ m', m = m' + 1 → FnOk P w K mg base CX0 k f fd ["move", "worlds", "here", "weights", "path", "q", "found"] (spTold K w m' n)) → (∀ n', n = n' + 1 → FnOk P w K mg base CX0 k f fd ["move", "worlds", "here", "weights", "path", "q", "found"] (spTold K w m n')) → FnOk P w K mg base CX0 k f fd ["move", "worlds", "here", "weights", "path", "q", "found"] (spPrev K w m n) := fun {k m n} hm hn =>
    ⟨fun vs H Q E q => q.elim (fun ⟨m', e, q⟩ => (hm m' e).len vs H Q E q) (fun ⟨n', e, q⟩ => (hn n' e).len vs H Q E q), fun A outer s H args us vs Q E hr e0 hb rv q => q.elim (fun ⟨m', e, q⟩ => (hm m' e).run A outer s H args us vs Q E hr e0 hb rv q) (fun ⟨n', e, q⟩ => (hn n' e).run A outer s H args us vs Q E hr e0 hb rv q)⟩
  intro m
  induction m with
  | zero =>
    intro n
    induction n with
    | zero => exact ok_law_told1 (k := 4) D B (prev (fun m' e => by omega) (fun n' e => by omega)) D_law_plus G_law_plus (by omega)
    | succ n ih =>
      have := ok_law_told1 (m := 0) (n := n + 1) (k := 5 + 0 + n) D B (prev (fun m' e => by omega) (fun n' e => by rw [show n' = n by omega]; exact ih)) D_law_plus G_law_plus (by omega)
      rw [show 5 + 0 + (n + 1) = 5 + 0 + n + 1 by omega]
      exact this
  | succ m ihm =>
    intro n
    induction n with
    | zero =>
      have := ok_law_told1 (m := m + 1) (n := 0) (k := 5 + m + 0) D B (prev (fun m' e => by rw [show m' = m by omega]; exact ihm 0) (fun n' e => by omega)) D_law_plus G_law_plus (by omega)
      rw [show 5 + (m + 1) + 0 = 5 + m + 0 + 1 by omega]
      exact this
    | succ n ih =>
      have := ok_law_told1 (m := m + 1) (n := n + 1) (k := 5 + (m + 1) + n) D B (prev (fun m' e => by rw [show m' = m by omega]; exact (ihm (n + 1)).mono (by omega)) (fun n' e => by rw [show n' = n by omega]; exact ih)) D_law_plus G_law_plus (by omega)
      rw [show 5 + (m + 1) + (n + 1) = 5 + (m + 1) + n + 1 by omega]
      exact this
theorem ok_law_made_by {m n : Nat} {f f1 : Addr} {fd fd1 : FuncData} (D : Dn K mg "_law_made_by" s_law_made_by ["worlds", "tree", "plan"] f fd) (B : Blt mg) (D_law_told : Dn K mg "_law_told" s_law_told ["move", "worlds", "here", "weights", "path", "q", "found"] f1 fd1) (G_told : ∀ m n : Nat, FnOk P w K mg base CX0 (5 + m + n) f1 fd1 ["move", "worlds", "here", "weights", "path", "q", "found"] (spTold K w m n)) :
    FnOk P w K mg base CX0 (6 + m + n) f fd ["worlds", "tree", "plan"] (spMB K w m n) := by
  rw [show 6 + m + n = (5 + m + n) + 1 by omega]
  obtain ⟨sp0, G_law_told, hsp⟩ : ∃ sp0, FnOk P w K mg base CX0 (5 + m + n) f1 fd1 ["move", "worlds", "here", "weights", "path", "q", "found"] sp0 ∧ (∀ m', m = m' + 1 → sp0 = spTold K w m' n) := by
    cases m with
    | zero => exact ⟨fun _ _ _ _ => False, ⟨fun vs H Q E h => h.elim, fun A outer s H args us vs Q E _ _ _ _ h => h.elim⟩, fun m e => by omega⟩
    | succ m => exact ⟨_, (G_told m n).mono (by omega), fun m' e => by rw [show m' = m by omega]⟩
  refine D.F.ok sc_law_made_by (fun vs H Q E h => ?_) (fun cdv A outer s H vs Q E hr h => ?_)
  · obtain ⟨W, vt, vp, t, gs, wt, rfl, _⟩ := h
    rfl
  obtain ⟨W, vt, vp, t, gs, wt, rfl, tt, tp, wok, hok, w1, w5, hm, hN, q⟩ := h
  have nd := sc_law_made_by.nd
  refine ⟨_, (pss_cons (ps_set (i := 3) nd rfl (.inl rfl) (k_dnewN (K := K) (w := w) rfl rfl))
      (pss_cons (ps_for PassesOwn.never rfl (k_enum (K := K) rfl (by rfl) B.enumerate (pa_cons (pv 2) pa_nil)) (k_tup (K := K) (n := 2) rfl rfl (pgs_cons (pg_name (i := 4) nd rfl (.inl rfl)) (pgs_cons (pg_name (i := 5) nd rfl (.inl rfl)) pgs_nil))) (pss_one (ps_expr (pe_call G_law_told (hr.mono (by omega)) (by rfl) D_law_told.m D_law_told.F.kp D_law_told.b .nil pass0 (pa_cons (pv 5) (pa_cons (pv 0) (pa_cons (pv 1) (pa_cons (pe_op (k_rep (K := K) rfl) (pe_tup (pa_cons (pe_tup (pa_cons pe_int (pa_cons pe_int pa_nil))) pa_nil)) (pv 0)) (pa_cons (pe_tup pa_nil) (pa_cons (pv 4) (pa_cons (pv 3) pa_nil)))))))))))
      (pss_one (ps_ret (pv 3))))), ?_⟩
  intro d H1 n1 s1 d1
  have sg0 : SG K w H1 d W 4 0 0 nilG := nilG_sg d1
  cases m with
  | zero =>
    obtain ⟨pq, qxs, rfl, hpq, tpq⟩ := Td.tupE (show Td K H vp (.tuple []) from tp)
    cases tpq
    refine ⟨_, rfl, pq, [], rfl, Same.kt s1 _ _ hpq, for_it (walk_enumT (K := K) (a := pq) (xs := [])) (fun i σ H4 => H4 = H1 ∧ ∃ o4 o5 : Option V, σ = [some (.int (W : Int)), some vt, some (.ref pq), some (.ref d), o4, o5]) ⟨rfl, none, none, rfl⟩ (fun i σ H4 _ h => by rw [h.1]; exact Same.kt s1 _ _ hpq) ?_ ?_⟩
    · rintro i x σ H4 H5 hi
      exact absurd hi (Nat.not_lt_zero _)
    · rintro σ H4 ⟨rfl, o4, o5, rfl⟩
      exact ⟨_, rfl, q d H4 nilG s1 n1 (sg0.mono (Nat.zero_le _) (Nat.zero_le _)) fun j hj x r => nilG_v⟩
  | succ m =>
    have hsp := hsp m rfl
    subst hsp
    obtain ⟨gsl, hgsl⟩ : ∃ gsl : List (Qn m), (gsl : Nd (m + 1)) = gs := ⟨gs, rfl⟩
    obtain ⟨wl, hwl⟩ : ∃ wl : List (Mv m n), (wl : Wt (m + 1) n) = wt := ⟨wt, rfl⟩
    subst hwl hgsl
    have al : Al (fun (q : Qn m) (y : Mv m n) => MvOk (WtOk m) n t q y) gsl wl := wok
    obtain ⟨pq, qxs, rfl, hpq, tpq⟩ := Td.tupE (show Td K H vp (.tuple (wl.map (mvD (waitD m) n))) from tp)
    have lqx : qxs.length = wl.length := by rw [tpq.len, List.length_map]
    have lal := al.len
    refine ⟨_, rfl, pq, qxs, rfl, Same.kt s1 _ _ hpq, for_it (walk_enumT (K := K) (a := pq) (xs := qxs)) (fun i σ H4 => ∃ (o4 o5 : Option V) (g2 : Gm), σ = [some (.int (W : Int)), some vt, some (.ref pq), some (.ref d), o4, o5] ∧ Frd d H1 H4 ∧ SG K w H4 d W 4 ((1 + cnt n t) * cnt (m + 1) (gsl.take i : List (Qn m))) ((1 + cnt n t) * cnt (m + 1) (gsl.take i : List (Qn m))) g2 ∧ PrI W nilG g2 [] i (fun j k a r => aftF j (m + 1) ((k, a) :: r) n (ones W) t wl)) ⟨none, none, nilG, rfl, Frd.refl _, sg0.mono (Nat.zero_le _) (Nat.zero_le _), prI_zero⟩ (fun i σ H4 _ h => ?_) ?_ ?_⟩
    · obtain ⟨_, _, _, _, fr4, _, _⟩ := h
      exact sg0.kt fr4 _ _ (Same.kt s1 _ _ hpq)
    · rintro i x σ H4 H5 hi ⟨o4, o5, g2, rfl, fr4, sg4, pr⟩ ⟨T3, x1, x2, rfl, n3, rfl, e1, e2⟩
      cases e1
      obtain ⟨dx, ex, tx⟩ := tpq.getV e2
      obtain ⟨mvi, eq, rfl⟩ := mapAt ex
      obtain ⟨qi_, eqi, okm⟩ := al_getR al eq
      have s5 : Same H4 (upd H4 T3 (.tup [.int (i : Int), x2])) := same_upd n3
      have k5 := (Same.kt (K := K) s1).trans ((sg0.kt fr4).trans (Same.kt s5))
      have sg5 := sg4.keep s5
      have fr5 := fr4.trans (Frd.of s5)
      have e5 : SqT K (upd H4 T3 (.tup [.int (i : Int), x2])) T3 [.int (i : Int), x2] := .inl (.inl upd_same)
      generalize upd H4 T3 (.tup [.int (i : Int), x2]) = H5 at k5 sg5 fr5 e5 ⊢
      refine ⟨T3, _, rfl, e5, rfl, _, _, rfl, _, _, rfl, rfl, ?_⟩
      have c1 := cnt_takeS eqi
      have c2 := cnt_takeL (l := gsl) (i + 1)
      have c3 := Nat.mul_le_mul_left (1 + cnt n t) c2
      rw [c1, Nat.mul_add] at c3
      refine ⟨_, rfl, _, rfl, _, rfl, by show 2 ≤ sizeLine; decide, fun p4 n4 => ⟨by show 1 ≤ sizeLine; decide, fun p5 n5 => ?_⟩⟩
      have s55 := (same_upd (o := .tup [.int 1, .int 1]) n4).trans (same_upd (o := .tup [.ref p4]) n5)
      have t4 : Td K (upd (upd H5 p4 (.tup [.int 1, .int 1])) p5 (.tup [.ref p4])) (.ref p4) (rD 1) := .tup (Same.kt (same_upd n5) _ _ (.inl (.inl upd_same))) (.cons (.int _) (.cons (.int _) .nil))
      refine ⟨_, rfl, p5, (W : Int), _, rfl, rfl, .inl (.inl upd_same), by simp, by omega, by omega, by simp, fun p6 H6 s6 q6 => ?_⟩
      have to := ones_td (W := W) (t4.keep (Same.kt s6)) q6
      refine ⟨by show 0 ≤ sizeLine; decide, fun p7 n7 => ?_⟩
      have s7 := same_upd (o := .tup []) n7
      have s57 := (s55.trans s6).trans s7
      have k7 := k5.trans (Same.kt s57)
      refine ⟨_, rfl, _, rfl, W, _, x2, vt, .ref p6, .ref p7, d, [], i, ones W, t, qi_, mvi, g2, rfl, tx.keep k7, tt.keep k7, to.keep (Same.kt s7), .tup (.inl (.inl upd_same)) .nil, okm, hok, List.length_replicate, ones_ch, w1, w5, by show 0 + m ≤ 100; omega, sg5.keep s57, ?_, fun H8 g8 fr8 sg8 up8 => ?_⟩
      · have c4 : (1 + cnt n t) * cnt (m + 1) (gsl : List (Qn m)) = (1 + cnt n t) * cnt (m + 1) (gsl : Nd (m + 1)) := rfl
        omega
      · refine ⟨_, _, g8, rfl, (fr5.trans (Frd.of s57)).trans fr8, ?_, prI_step pr ?_⟩
        · rw [c1, Nat.mul_add]
          exact sg8
        · have eS : (fun j a r => aftF j (m + 1) ((i, a) :: r) n (ones W) t wl) = (fun j a r => smv (aftF j m r) n (ones W) t mvi a) := funext fun j => funext fun a => funext fun r => aftF_at eq
          rw [eS]
          exact up8
    · rintro σ H4 ⟨o4, o5, g2, rfl, fr4, sg4, pr⟩
      have c2 := Nat.mul_le_mul_left (1 + cnt n t) (cnt_takeL (l := gsl) qxs.length)
      refine ⟨_, rfl, q d H4 g2 (fun c o e => fr4 _ _ (s1 _ _ e) (ne_of_none e n1)) n1 (sg4.mono c2 c2) fun j hj x r => ?_⟩
      obtain ⟨p1, p2⟩ := pr j hj
      obtain ⟨k, a⟩ := x
      by_cases hk : k < qxs.length
      · have := p1 k a r hk
        rw [nilG_v, Rat.zero_add] at this
        exact this
      · rw [p2 _ fun k' a' r' hk' z => by have := (told_inj (told := []) z).1; omega, nilG_v, aftF_none (List.getElem?_eq_none (by omega))]
end
end Tl
namespace Tl
open PySem PySem.Spec PyProof.Rows L2 RZ
def spLL (K : PySem.W.Frag) (w : World) (m n : Nat) : Sp := fun vs H Q _ => ∃ (W : Nat) (vt vb : V) (t : Nd n) (gs : Nd m) (bs : Bw m n), vs = [.int (W : Int), vt, vb] ∧ Td K H vt (ndD n t) ∧ Td K H vb (bwD m n bs) ∧ BwOk m n t gs bs ∧ NdP W n (ones W) t ∧ 1 ≤ W ∧ W ≤ 5 ∧ m ≤ 90 ∧ 4 * ((1 + cnt n t) * cnt m gs) ≤ 100000 ∧
  ∀ (d : Addr) (H' : Hp) (g : Gm) (N B : Nat), Same H H' → SG K w H' d W 6 N B g → (∀ j, j < W → ∀ x r, gV W g j (x :: r) = sumH j (hd0 W m n t bs) (x :: r)) → Q (.ref d) H'
theorem SG.keep2 {K : PySem.W.Frag} {w : World} {H H' : Hp} {d : Addr} {W e N B : Nat} {g : Gm} (h : SG K w H d W e N B g) (k : KT K H H') (s : ∀ o, H d = some o → H' d = some o) : SG K w H' d W e N B g := by
  obtain ⟨⟨f, nd, ok⟩, ws⟩ := h
  exact ⟨⟨f, nd.keep k s, ok.keep k⟩, ws⟩
def hasK (xs : List (NestedKey × Addr × Value)) (p : List (Nat × Nat)) : Bool := xs.any fun y => decide (y.1 = keyQ p)
theorem hasK_snoc (xs : List (NestedKey × Addr × Value)) (y : NestedKey × Addr × Value) (p : List (Nat × Nat)) : hasK (xs ++ [y]) p = (hasK xs p || decide (y.1 = keyQ p)) := by
  unfold hasK
  rw [List.any_append]
  congr 1
  show (decide (y.1 = keyQ p) || false) = _
  rw [Bool.or_false]
theorem hasK_no {xs : List (NestedKey × Addr × Value)} {i : Nat} {y : NestedKey × Addr × Value} {p : List (Nat × Nat)} (nd : (xs.map (·.1)).Nodup) (e : xs[i]? = some y) (ey : y.1 = keyQ p) : hasK (xs.take i) p = false := by
  cases z : hasK (xs.take i) p with
  | false => rfl
  | true =>
    exfalso
    obtain ⟨u, hu, eu⟩ := List.any_eq_true.mp z
    have eu := of_decide_eq_true eu
    obtain ⟨k, hk, rfl⟩ := List.getElem_of_mem hu
    rw [List.length_take] at hk
    have hi := (List.getElem?_eq_some_iff.mp e).1
    have hl : ∀ {k}, k < xs.length → k < (xs.map (·.1)).length := fun h => by rw [List.length_map]; exact h
    have := (List.pairwise_iff_getElem.mp nd) k i (hl (by omega)) (hl hi) (by omega)
    rw [List.getElem_map, List.getElem_map] at this
    rw [List.getElem_take] at eu
    have e2 : xs[i] = y := (List.getElem?_eq_some_iff.mp e).2
    rw [e2, ey] at this
    exact this eu
theorem hasK_none {K : PySem.W.Frag} {H : Hp} {xs : List (NestedKey × Addr × Value)} {f : NestedKey → Option V} {g : Gm} {p : List (Nat × Nat)} (h6 : ∀ k, RelO (f k) ((atKey xs k).map (·.2))) (ok : GmOk K H f g) (h : hasK xs p = false) : g p = none := by
  cases e : g p with
  | none => rfl
  | some x =>
    exfalso
    obtain ⟨v, e1, _⟩ := (ok.1 p).2 x e
    have r := h6 (keyQ p)
    rw [e1] at r
    obtain ⟨u, eu, _⟩ := RelO.some_of r
    obtain ⟨y, ey, _⟩ := Option.map_eq_some_iff.mp eu
    unfold atKey at ey
    obtain ⟨z, ez, _⟩ := Option.map_eq_some_iff.mp ey
    have m1 := List.mem_of_find?_eq_some ez
    have m2 := List.find?_some ez
    have : hasK xs p = true := List.any_eq_true.mpr ⟨z, m1, m2⟩
    rw [h] at this
    cases this
section
variable {P : Program} {w : World} {K : PySem.W.Frag} {mg : Str → Option Value} {base : Heap} {aN aO : Addr} {t1 t2 t3 t4 t5 t6 t7 : Tok}
theorem ok_law_led {m n k : Nat} {f f1 f2 f3 : Addr} {fd fd1 fd2 fd3 : FuncData} (D : Dn K mg "_law_led" s_law_led ["worlds", "tree", "between"] f fd) (B : Blt mg) (D_law_made_by : Dn K mg "_law_made_by" s_law_made_by ["worlds", "tree", "plan"] f1 fd1) (G_law_made_by : FnOk P w K mg base CX0 k f1 fd1 ["worlds", "tree", "plan"] (spMB K w m n))
    (D_law_plus : Dn K mg "_law_plus" s_law_plus ["one", "other"] f2 fd2) (G_law_plus : FnOk P w K mg base CX0 3 f2 fd2 ["one", "other"] (spPlus K)) (D_law_times : Dn K mg "_law_times" s_law_times ["one", "other"] f3 fd3) (G_law_times : FnOk P w K mg base CX0 3 f3 fd3 ["one", "other"] (spTimes K)) (hk : 3 ≤ k) :
    FnOk P w K mg base CX0 (k + 1) f fd ["worlds", "tree", "between"] (spLL K w m n) := by
  refine D.F.ok sc_law_led (fun vs H Q E h => ?_) (fun cdv A outer s H vs Q E hr h => ?_)
  · obtain ⟨W, vt, vb, t, gs, bs, rfl, _⟩ := h
    rfl
  obtain ⟨W, vt, vb, t, gs, bs, rfl, tt, tb, bok, hok, w1, w5, hm, hN, q⟩ := h
  have nd := sc_law_led.nd
  refine ⟨_, (pss_cons (ps_set (i := 3) nd rfl (.inl rfl) (k_dnewN (K := K) (w := w) rfl rfl))
      (pss_cons (ps_for PassesOwn.never rfl (k_iT (K := K) rfl (pv 2)) (k_tup (K := K) (n := 2) rfl rfl (pgs_cons (pg_name (i := 4) nd rfl (.inr rfl)) (pgs_cons (pg_name (i := 5) nd rfl (.inl rfl)) pgs_nil))) (pss_one (ps_for PassesOwn.never rfl (k_itemsN (K := K) (w := w) rfl rfl (pe_call G_law_made_by (hr.mono (by omega)) (by rfl) D_law_made_by.m D_law_made_by.F.kp D_law_made_by.b .nil pass0 (pa_cons (pv 0) (pa_cons (pv 1) (pa_cons (pv 5) pa_nil))))) (k_tup (K := K) (n := 2) rfl rfl (pgs_cons (pg_name (i := 6) nd rfl (.inl rfl)) (pgs_cons (pg_name (i := 7) nd rfl (.inr rfl)) pgs_nil))) (pss_cons (ps_set (i := 8) nd rfl (.inr rfl) (k_dget2N (K := K) (w := w) rfl rfl hr.units (pv 3) (pv 6) (pe_op (k_rep (K := K) rfl) (pe_tup (pa_cons (pe_tup (pa_cons pe_int (pa_cons pe_int pa_nil))) pa_nil)) (pv 0)) ⟨rfl, rfl, rfl, rfl⟩))
      (pss_one (k_dputN (K := K) (w := w) rfl rfl hr.units (pv 3) (pv 6) (pe_callTy (k_tupOf (K := K) rfl) (by rfl) B.tuple (by decide +kernel) (pa_cons (pe_lc (own := [("k", 9)]) rfl nd (pi_range1 (by rfl) B.range (pa_cons (pv 0) pa_nil)) (blkOk_by (own := [("k", 9)]) (by kernel_rfl)) (fun _ _ _ _ _ => (pg_name (i := 9) nd rfl (.inl rfl))) (fun _ _ _ _ _ => pts_nil) (fun _ _ _ _ _ => (pe_call G_law_plus (hr.mono (by omega)) (by rfl) D_law_plus.m D_law_plus.F.kp D_law_plus.b .nil pass0 (pa_cons (pe_ix (k_ixT (K := K) rfl) (pv 8) (pv 9) (fun _ _ => rfl)) (pa_cons (pe_call G_law_times (hr.mono (by omega)) (by rfl) D_law_times.m D_law_times.F.kp D_law_times.b .nil pass0 (pa_cons (pv 4) (pa_cons (pe_ix (k_ixT (K := K) rfl) (pv 7) (pv 9) (fun _ _ => rfl)) pa_nil))) pa_nil))))) pa_nil)) rfl))))))
      (pss_one (ps_ret (pv 3))))), ?_⟩
  obtain ⟨bp, xs, rfl, hbp, tx⟩ := tb.tupE
  have lx : xs.length = bs.length := by rw [tx.len, List.length_map]
  have b3 := bok.most
  obtain ⟨Nn, hNn⟩ : ∃ Nn, Nn = (1 + cnt n t) * cnt m gs := ⟨_, rfl⟩
  obtain ⟨MM, hMM⟩ : ∃ MM, MM = Nn * Nn := ⟨_, rfl⟩
  have hN1 : Nn ≤ 25000 := by omega
  have hM1 : MM ≤ 625000000 := by
    rw [hMM]
    exact Nat.mul_le_mul hN1 hN1
  intro d H1 n1 s1 d1
  have sg0 : SG K w H1 d W 6 0 0 nilG := nilG_sg d1
  refine ⟨_, rfl, bp, rfl, ⟨_, Same.kt s1 _ _ hbp⟩, for_it (walk_tup (K := K) (a := bp) (xs := xs)) (fun i σ H4 => ∃ (o4 o5 o6 o7 o8 o9 : Option V) (g2 : Gm), σ = [some (.int (W : Int)), some vt, some (.ref bp), some (.ref d), o4, o5, o6, o7, o8, o9] ∧ Same H H4 ∧ SG K w H4 d W 6 (i * Nn) (i * MM) g2 ∧ ∀ j, j < W → ∀ x r, gV W g2 j (x :: r) = fsum ((bs.take i).map fun b => b.1 * aftF j m (x :: r) n (ones W) t b.2))
    ⟨none, none, none, none, none, none, nilG, rfl, s1, sg0.mono (Nat.zero_le _) (Nat.zero_le _), fun j hj x r => nilG_v⟩ (fun i σ H4 _ h => ?_) ?_ ?_⟩
  · obtain ⟨_, _, _, _, _, _, _, _, s4, _, _⟩ := h
    exact Same.kt s4 _ _ hbp
  · rintro i x σ H4 H5 hi ⟨o4, o5, o6, o7, o8, o9, g2, rfl, s4, sg4, hv⟩ ⟨rfl, e1⟩
    obtain ⟨dx, ex, tx'⟩ := (tx.keep (Same.kt s4)).getV e1
    obtain ⟨b, eb, rfl⟩ := mapAt ex
    obtain ⟨pb, v0, v1, rfl, hpb, t0, t1'⟩ := td_two tx'
    have mb := List.mem_of_getElem? eb
    have c1 := (bok.ch b mb).1
    have hi3 : i ≤ 3 := by
      have := (List.getElem?_eq_some_iff.mp eb).1
      omega
    have hiN : i * Nn ≤ 75000 := Nat.le_trans (Nat.mul_le_mul hi3 hN1) (by decide)
    have hiM : i * MM ≤ 1875000000 := Nat.le_trans (Nat.mul_le_mul hi3 hM1) (by decide)
    refine ⟨pb, _, rfl, hpb, rfl, _, _, rfl, _, _, rfl, rfl, ?_⟩
    refine ⟨_, rfl, _, rfl, _, rfl, W, vt, v1, t, gs, b.2, rfl, tt.keep (Same.kt s4), t1', bok.ok b mb, hok, w1, w5, hm, by omega, fun d' H6 g' s6 n6 sg' hv' => ?_⟩
    rw [← hNn] at sg'
    obtain ⟨f', ⟨ys, h1, h2, h3, h4, h5, h6⟩, gok'⟩ := id sg'.dc
    refine ⟨d', ys, f', rfl, h1, h2, h4, h6, fun od => ?_⟩
    obtain ⟨f4, nd4, _⟩ := id sg4.dc
    obtain ⟨φ4, hd4⟩ := nd4.at_
    have ndd : d ≠ d' := ne_of_none hd4 n6
    have n0' : H d' = none := s4.free n6
    have fr7 : Frd d' H6 (upd H6 d' (.frz od (ndo w d' ys))) := fun c o e ne => by rw [upd_ne ne]; exact e
    have k7 := sg'.kt fr7
    have s7 : Same H (upd H6 d' (.frz od (ndo w d' ys))) := fun c o e => fr7 _ _ (s6 _ _ (s4 _ _ e)) (ne_of_none e n0')
    have sg7 := (sg4.keep s6).keep2 k7 fun o e => fr7 _ _ e ndd
    have hd7 : upd H6 d' (.frz od (ndo w d' ys)) d' = some (.frz od (ndo w d' ys)) := upd_same
    have t07 := t0.keep ((Same.kt s6).trans k7)
    generalize upd H6 d' (.frz od (ndo w d' ys)) = H7 at k7 s7 sg7 hd7 t07 ⊢
    refine for_it walk_itemsN (fun i' σ H8 => ∃ (o6 o7 o8 o9 : Option V) (g6 : Gm), σ = [some (.int (W : Int)), some vt, some (.ref bp), some (.ref d), some v0, some v1, o6, o7, o8, o9] ∧ Same H H8 ∧ H8 d' = some (.frz od (ndo w d' ys)) ∧ KT K H7 H8 ∧ SG K w H8 d W 6 (i * Nn + i') (i * MM + i' * Nn) g6 ∧ ∀ j, j < W → ∀ p, gV W g6 j p = gV W g2 j p + (if hasK (ys.take i') p = true then b.1 * gV W g' j p else 0))
      ⟨_, _, _, _, g2, rfl, s7, hd7, KT.refl H7, sg7.mono (Nat.le_refl _) (Nat.le_add_right _ _), fun j hj p => (Rat.add_zero _).symm⟩ (fun i' σ H8 _ h => ?_) ?_ ?_
    · obtain ⟨_, _, _, _, _, _, _, h, _⟩ := h
      exact h
    · rintro i' x σ H8 H9 hi' ⟨o6, o7, o8, o9, g6, rfl, s8, hd8, k8, sg8, hv8⟩ ⟨T, y, v, ey, ev, rfl, nT, rfl⟩
      have my := List.mem_of_getElem? ey
      obtain ⟨p0, ep0⟩ := gok'.2 _ _ ev
      obtain ⟨ws0, eg0⟩ : ∃ ws0, g' p0 = some ws0 := by
        cases z : g' p0 with
        | some ws0 => exact ⟨_, rfl⟩
        | none =>
          have := (gok'.1 p0).1 z
          rw [← ep0, ev] at this
          cases this
      obtain ⟨v', ev', tv'⟩ := (gok'.1 p0).2 ws0 eg0
      rw [← ep0, ev] at ev'
      cases ev'
      obtain ⟨l0, fd0⟩ := sg'.ws p0 ws0 eg0
      have tk0 := (h5 y my).1
      rw [ep0, keyQ_data] at tk0
      have s9 : Same H8 (upd H8 T (.tup [.ref y.2.1, v])) := same_upd nT
      have k79 := k8.trans (Same.kt s9)
      have k69 := k7.trans k79
      have s09 := s8.trans s9
      have sg9 := sg8.keep s9
      have hd9 := s9 _ _ hd8
      have e9 : SqT K (upd H8 T (.tup [.ref y.2.1, v])) T [.ref y.2.1, v] := .inl (.inl upd_same)
      generalize upd H8 T (.tup [.ref y.2.1, v]) = H9 at s9 k79 k69 s09 sg9 hd9 e9 ⊢
      obtain ⟨pw, wxs, rfl, hpw, tpw⟩ := (tv'.keep k69).tupE
      have tpath := tk0.keep k69
      obtain ⟨f0, ndc, gok⟩ := id sg9.dc
      refine ⟨T, _, rfl, e9, rfl, _, _, rfl, _, _, rfl, rfl, ?_⟩
      refine ⟨_, rfl, d, _, f0, rfl, ndc, _, rfl, by show 2 ≤ sizeLine; decide, fun p4 n4 => ⟨by show 1 ≤ sizeLine; decide, fun p5 n5 => ?_⟩⟩
      have s45 := (same_upd (o := .tup [.int 0, .int 1]) n4).trans (same_upd (o := .tup [.ref p4]) n5)
      have t4 : Td K (upd (upd H9 p4 (.tup [.int 0, .int 1])) p5 (.tup [.ref p4])) (.ref p4) (rD 0) := .tup (Same.kt (same_upd n5) _ _ (.inl (.inl upd_same))) (.cons (.int _) (.cons (.int _) .nil))
      refine ⟨_, rfl, p5, (W : Int), _, rfl, rfl, .inl (.inl upd_same), by simp, by omega, by omega, by simp, fun p6 H10 s10 q10 => ?_⟩
      have s910 := s45.trans s10
      have tz := zer_td1 (t4.keep (Same.kt s10)) q10
      refine ⟨keyQ p0, _, ndc.keep (Same.kt s910) fun o e => s910 _ _ e, by rw [keyQ_data]; exact tpath.keep (Same.kt s910), ⟨_, rfl⟩, keyQ_depth _, ?_⟩
      have tel := (sg9.keep s910).got (gok.keep (Same.kt s910)) p0 tz
      generalize (f0 (keyQ p0)).getD (.ref p6) = vel at tel ⊢
      obtain ⟨pe, exs, rfl, hpe, tpe⟩ := id tel.tupE
      have el := sg9.wlen p0
      have efd := sg9.wfd p0
      clear tel tz q10 t4
      refine ⟨_, rfl, _, rfl, by omega, by omega, fun T8 hT8 => ?_⟩
      refine lc_td (K := K) (walk_range (lo := 0) (n := W)) (((List.range W).map fun j => (gW W g6 p0).getD j 0 + b.1 * ws0.getD j 0).map rD) (by rw [List.length_map, List.length_map, List.length_range]) (by omega) hT8 (fun _ _ => trivial) ?_ ?_
      · rintro j y' e H0 H11 Qy N' he s11 ⟨rfl, rfl⟩ hQ
        have hj : j < W := by
          have := (List.getElem?_eq_some_iff.mp he).1
          rw [List.length_map, List.length_map, List.length_range] at this
          exact this
        rw [List.getElem?_map, List.getElem?_map, List.getElem?_range hj] at he
        cases he
        refine ⟨rfl, ?_⟩
        refine iteT (B := N' H11) ?_
        have ek : (0 : Int) + (j : Int) = (j : Int) := by omega
        have e1 : (gW W g6 p0)[j]? = some ((gW W g6 p0).getD j 0) := by rw [List.getD_eq_getElem?_getD, List.getElem?_eq_getElem (by rw [el]; exact hj)]; rfl
        have e2 : ws0[j]? = some (ws0.getD j 0) := by rw [List.getD_eq_getElem?_getD, List.getElem?_eq_getElem (by rw [l0]; exact hj)]; rfl
        obtain ⟨u1, ev1, tv1⟩ := (tpe.keep (Same.kt s11)).get (i := j) (d := rD ((gW W g6 p0).getD j 0)) (by rw [List.getElem?_map, e1]; rfl)
        have k911 : KT K H9 H11 := Same.kt (s910.trans s11)
        obtain ⟨u2, ev2, tv2⟩ := (tpw.keep k911).get (i := j) (d := rD (ws0.getD j 0)) (by rw [List.getElem?_map, e2]; rfl)
        have f2 : Fd 4 Nn (ws0.getD j 0) := fd0 _ (List.mem_of_getElem? e2)
        have smc : Sm b.1 := c1.fd.sm (by omega) (by decide)
        have smw : Sm (ws0.getD j 0) := f2.sm (by omega) (by omega)
        have smp : Sm (b.1 * ws0.getD j 0) := (Fd.mul c1 f2).sm (by omega) (by omega)
        have hle : i * MM + i' * Nn ≤ 2 ^ 100 := by
          have h1' : i' * Nn ≤ Nn * Nn := Nat.mul_le_mul_right _ (by omega)
          rw [← hMM] at h1'
          have : (10 : Nat) ^ 10 ≤ 2 ^ 100 := by decide
          omega
        refine ⟨_, rfl, _, rfl, pe, exs, _, u1, rfl, rfl, Same.kt s11 _ _ hpe, (by rw [ek]; exact atI_nat ev1), _, rfl, _, rfl, _, rfl, pw, wxs, _, u2, rfl, rfl, k911 _ _ hpw, (by rw [ek]; exact atI_nat ev2), v0, u2, _, _, rfl, t07.keep (k79.trans k911), tv2, smc.big.1, smw.big.1, smc.big.2, smw.big.2, fun u3 H12 s12 t12 => ?_⟩
        exact ⟨u1, u3, _, _, rfl, tv1.keep (Same.kt s12), t12, (efd _ (List.mem_of_getElem? e1)).sm (by omega) hle, smp, fun u4 H13 s13 t13 => hQ u4 H13 (s12.trans s13) t13⟩
      intro H11 us11 h11 t11 s11
      refine ⟨T8, us11, rfl, SqL.of h11, fun p9 H12 s12 q12 => ?_⟩
      have s912 := s910.trans (s11.trans s12)
      have tn : Td K H12 (.ref p9) (wsD ((List.range W).map fun j => (gW W g6 p0).getD j 0 + b.1 * ws0.getD j 0)) := .tup q12 (t11.keep (Same.kt s12))
      have hlen : i * Nn + i' ≤ 100000 := by omega
      refine ⟨_, rfl, _, rfl, d, _, f0, keyQ p0, rfl, ndc.keep (Same.kt s912) fun o e => s912 _ _ e, hlen, by rw [keyQ_data]; exact tpath.keep (Same.kt s912), ⟨_, rfl⟩, keyQ_depth _, fun H13 fr13 kt13 nd13 => ?_⟩
      have eB : i * MM + i' * Nn + Nn = i * MM + (i' + 1) * Nn := by rw [Nat.succ_mul]; omega
      have sg13 := sg_put (W := W) (e := 6) (B' := i * MM + (i' + 1) * Nn) (gok.keep (Same.kt s912)) sg9.ws (by omega) kt13 nd13 (tn.keep kt13) (by rw [List.length_map, List.length_range]) (fun r hr => by
        obtain ⟨j, hj, rfl⟩ := List.mem_map.mp hr
        have hj := List.mem_range.mp hj
        have e1 : (gW W g6 p0)[j]? = some ((gW W g6 p0).getD j 0) := by rw [List.getD_eq_getElem?_getD, List.getElem?_eq_getElem (by rw [el]; exact hj)]; rfl
        have e2 : ws0[j]? = some (ws0.getD j 0) := by rw [List.getD_eq_getElem?_getD, List.getElem?_eq_getElem (by rw [l0]; exact hj)]; rfl
        rw [← eB]
        exact (efd _ (List.mem_of_getElem? e1)).add (Fd.mul c1 (fd0 _ (List.mem_of_getElem? e2))))
      have hdN : H d = none := n1
      refine ⟨_, _, _, _, _, rfl, fun c o e => fr13 _ _ ((s09.trans s912) _ _ e) (ne_of_none e hdN), fr13 _ _ (s912 _ _ hd9) (Ne.symm ndd), (k79.trans (Same.kt s912)).trans kt13, sg13, fun j hj p => ?_⟩
      rw [gV_put]
      have et : ys.take (i' + 1) = ys.take i' ++ [y] := by rw [List.take_add_one, ey]; rfl
      rw [et, hasK_snoc]
      by_cases z : p = p0
      · subst z
        rw [if_pos rfl, decide_eq_true ep0, Bool.or_true, if_pos rfl]
        have e1 : ((List.range W).map fun j => (gW W g6 p).getD j 0 + b.1 * ws0.getD j 0).getD j 0 = gV W g6 j p + b.1 * ws0.getD j 0 := getD_of (by rw [List.getElem?_map, List.getElem?_range hj]; rfl)
        rw [e1, hv8 j hj p, hasK_no h4 ey ep0, if_neg (by decide), Rat.add_zero]
        have e2 : gV W g' j p = ws0.getD j 0 := by
          unfold gV gW
          rw [eg0]
          rfl
        rw [e2]
      · have z' : ¬ y.1 = keyQ p := fun h => z (keyQ_inj (h.symm.trans ep0))
        rw [if_neg z, decide_eq_false z', Bool.or_false, hv8 j hj p]
    · rintro σ H8 ⟨o6, o7, o8, o9, g6, rfl, s8, hd8, k8, sg8, hv8⟩
      refine ⟨_, _, _, _, _, _, g6, rfl, s8, sg8.mono ?_ ?_, fun j hj x r => ?_⟩
      · rw [Nat.succ_mul]
        omega
      · have h1' : ys.length * Nn ≤ Nn * Nn := Nat.mul_le_mul_right _ h3
        rw [Nat.succ_mul]
        omega
      · have e0 : (bs.take (i + 1)).map (fun b => b.1 * aftF j m (x :: r) n (ones W) t b.2) = (bs.take i).map (fun b => b.1 * aftF j m (x :: r) n (ones W) t b.2) ++ [b.1 * aftF j m (x :: r) n (ones W) t b.2] := by
          rw [List.take_add_one, eb, List.map_append]
          rfl
        rw [e0, fsum_snoc, ← hv j hj x r, hv8 j hj, List.take_length, ← hv' j hj x r]
        congr 1
        cases z : hasK ys (x :: r) with
        | true => rw [if_pos rfl]
        | false =>
          rw [if_neg (by decide)]
          have : gV W g' j (x :: r) = 0 := by
            unfold gV gW
            rw [hasK_none h6 gok' z]
            exact zer_at W j
          rw [this, Rat.mul_zero]
  · rintro σ H4 ⟨o4, o5, o6, o7, o8, o9, g2, rfl, s4, sg4, hv⟩
    refine ⟨_, rfl, q d H4 g2 _ _ s4 sg4 fun j hj x r => ?_⟩
    rw [hv j hj x r, lx, List.take_length]
    unfold sumH hd0
    rw [List.map_map]
    rfl
end
end Tl
namespace Tl
open PySem PySem.Spec PyProof.Rows L2 RZ
theorem range_getD {l : List Rat} {W : Nat} (h : l.length = W) : (List.range W).map (fun j => l.getD j 0) = l := by
  refine List.ext_getElem? fun i => ?_
  rw [List.getElem?_map]
  by_cases hi : i < W
  · rw [List.getElem?_range hi, List.getElem?_eq_getElem (by rw [h]; exact hi)]
    show some (l.getD i 0) = _
    rw [List.getD_eq_getElem?_getD, List.getElem?_eq_getElem (by rw [h]; exact hi)]
    rfl
  · rw [List.getElem?_eq_none (by rw [List.length_range]; omega), List.getElem?_eq_none (by omega)]
    rfl
def spShd (K : PySem.W.Frag) (w : World) (m : Nat) : Sp := fun vs H Q _ => ∃ (W e N B : Nat) (vn vp : V) (d : Addr) (ahead : List Rat) (gs : Nd m) (path : List (Nat × Nat)) (g : Gm), vs = [vn, vp, .int (W : Int), .ref d] ∧ Td K H vn (ndD m gs) ∧ Td K H vp (pathD path) ∧ NdOk W m ahead gs ∧ path.length + m ≤ 100 ∧ SG K w H d W e N B g ∧ 1 ≤ W ∧ W ≤ 5 ∧
  ∀ v H', Same H H' → Td K H' v (ndD m (shN W (gV W g) m gs path)) → Q v H'
section
variable {P : Program} {w : World} {K : PySem.W.Frag} {mg : Str → Option Value} {base : Heap} {aN aO : Addr} {t1 t2 t3 t4 t5 t6 t7 : Tok}
theorem ok_law_shaped {f : Addr} {fd : FuncData} (D : Dn K mg "_law_shaped" s_law_shaped ["node", "path", "worlds", "found"] f fd) (B : Blt mg) : ∀ m : Nat, FnOk P w K mg base CX0 (1 + m) f fd ["node", "path", "worlds", "found"] (spShd K w m) := by
  intro m
  obtain ⟨sp0, G_law_shaped, hsp⟩ : ∃ sp0, FnOk P w K mg base CX0 m f fd ["node", "path", "worlds", "found"] sp0 ∧ (∀ m', m = m' + 1 → sp0 = spShd K w m') := by
    cases m with
    | zero => exact ⟨fun _ _ _ _ => False, ⟨fun vs H Q E h => h.elim, fun A outer s H args us vs Q E _ _ _ _ h => h.elim⟩, fun m e => by omega⟩
    | succ m' =>
      have G := ok_law_shaped D B m'
      rw [show 1 + m' = m' + 1 by omega] at G
      exact ⟨_, G, fun m2 e => by rw [show m2 = m' by omega]⟩
  rw [show 1 + m = m + 1 by omega]
  refine D.F.ok sc_law_shaped (fun vs H Q E h => ?_) (fun cdv A outer s H vs Q E hr h => ?_)
  · obtain ⟨W, e, N, B, vn, vp, d, ahead, gs, path, g, rfl, _⟩ := h
    rfl
  obtain ⟨W, e, N, B', vn, vp, d, ahead, gs, path, g, rfl, hv, tp, gok, pl, sg, w1, w5, q⟩ := h
  have nd := sc_law_shaped.nd
  have D_law_shaped := D
  refine ⟨_, (pss_cons (ps_set (i := 4) nd rfl (.inl rfl) (pe_lst pa_nil))
      (pss_cons (ps_for PassesOwn.never rfl (k_enum (K := K) rfl (by rfl) B.enumerate (pa_cons (pv 0) pa_nil)) (k_tup (K := K) (n := 2) rfl rfl (pgs_cons (pg_name (i := 5) nd rfl (.inl rfl)) (pgs_cons (pg_name (i := 6) nd rfl (.inl rfl)) pgs_nil))) (pss_cons (ps_set (i := 7) nd rfl (.inl rfl) (pe_lst pa_nil))
      (pss_cons (ps_for PassesOwn.never rfl (k_enum (K := K) rfl (by rfl) B.enumerate (pa_cons (pv 6) pa_nil)) (k_tup (K := K) (n := 2) rfl rfl (pgs_cons (pg_name (i := 8) nd rfl (.inl rfl)) (pgs_cons (k_tup (K := K) (n := 3) rfl rfl (pgs_cons (pg_name (i := 9) nd rfl (.inl rfl)) (pgs_cons (pg_name (i := 10) nd rfl (.inl rfl)) (pgs_cons (pg_name (i := 11) nd rfl (.inl rfl)) pgs_nil)))) pgs_nil))) (pss_cons (ps_set (i := 12) nd rfl (.inl rfl) (pe_op (k_cat (K := K) rfl) (pv 1) (pe_tup (pa_cons (pe_tup (pa_cons (pv 5) (pa_cons (pv 8) pa_nil))) pa_nil))))
      (pss_one (ps_expr (pe_bm PySem.F.plainAttrs_list PySem.F.slot_list_append PySem.F.type_list_append mt_append (pv 7) (pa_cons (pe_tup (pa_cons (pv 9) (pa_cons (k_dget2N (K := K) (w := w) rfl rfl hr.units (pv 3) (pv 12) (pe_op (k_rep (K := K) rfl) (pe_tup (pa_cons (pe_tup (pa_cons pe_int (pa_cons pe_int pa_nil))) pa_nil)) (pv 2)) ⟨rfl, rfl, rfl, rfl⟩) (pa_cons (pe_call G_law_shaped (hr.mono (by omega)) (by rfl) D_law_shaped.m D_law_shaped.F.kp D_law_shaped.b .nil pass0 (pa_cons (pv 11) (pa_cons (pv 12) (pa_cons (pv 2) (pa_cons (pv 3) pa_nil))))) pa_nil)))) pa_nil))))))
      (pss_one (ps_expr (pe_bm PySem.F.plainAttrs_list PySem.F.slot_list_append PySem.F.type_list_append mt_append (pv 4) (pa_cons (pe_callTy (k_tupOf (K := K) rfl) (by rfl) B.tuple (by decide +kernel) (pa_cons (pv 7) pa_nil)) pa_nil)))))))
      (pss_one (ps_ret (pe_callTy (k_tupOf (K := K) rfl) (by rfl) B.tuple (by decide +kernel) (pa_cons (pv 4) pa_nil)))))), ?_⟩
  obtain ⟨a, xs, ds, rfl, ha, ed, ta, l0⟩ := td_qs hv
  obtain ⟨pp, pxs, rfl, hpp, tpp⟩ := id tp.tupE
  have lpx : pxs.length = path.length := by rw [tpp.len, List.length_map]
  refine ⟨by show 0 ≤ sizeLine; decide, fun T hT => ?_⟩
  have sT := same_upd (o := .lst []) hT
  cases m with
  | zero =>
    have := l0 rfl
    subst this
    refine ⟨_, rfl, a, [], rfl, Same.kt sT _ _ ha, for_it (walk_enumT (K := K) (a := a) (xs := [])) (fun i σ H2 => H2 = upd H T (.lst []) ∧ ∃ o5 o6 o7 o8 o9 o10 o11 o12 : Option V, σ = [some (.ref a), some (.ref pp), some (.int (W : Int)), some (.ref d), some (.ref T), o5, o6, o7, o8, o9, o10, o11, o12]) ⟨rfl, none, none, none, none, none, none, none, none, rfl⟩ (fun i σ H2 _ h => by rw [h.1]; exact Same.kt sT _ _ ha) ?_ ?_⟩
    · rintro i x σ H2 H3 hi
      exact absurd hi (Nat.not_lt_zero _)
    · rintro σ H2 ⟨rfl, o5, o6, o7, o8, o9, o10, o11, o12, rfl⟩
      exact ⟨_, rfl, T, [], rfl, SqL.of upd_same, fun v H3 s3 q3 => q (.ref v) H3 (sT.trans s3) (.tup q3 .nil)⟩
  | succ m =>
    have hsp := hsp m rfl
    subst hsp
    obtain ⟨qs, hqs⟩ : ∃ qs : List (Qn m), (qs : Nd (m + 1)) = gs := ⟨gs, rfl⟩
    subst hqs
    cases ed
    have lx : xs.length = qs.length := by rw [ta.len, List.length_map]
    have l5 : qs.length ≤ 5 := gok.1
    rw [shN_succ] at q
    refine ⟨_, rfl, a, xs, rfl, Same.kt sT _ _ ha, for_it (walk_enumT (K := K) (a := a) (xs := xs)) (fun i σ H2 => ∃ (us : List V) (o5 o6 o7 o8 o9 o10 o11 o12 : Option V), σ = [some (.ref a), some (.ref pp), some (.int (W : Int)), some (.ref d), some (.ref T), o5, o6, o7, o8, o9, o10, o11, o12] ∧ H2 T = some (.lst us) ∧ TdAll K H2 us (((qs.mapIdx (shQ W (gV W g) m path)).take i).map (qnD m)) ∧ Same H H2) ⟨[], none, none, none, none, none, none, none, none, rfl, upd_same, .nil, sT⟩ (fun i σ H2 _ h => ?_) ?_ ?_⟩
    · obtain ⟨_, _, _, _, _, _, _, _, _, _, _, _, s2⟩ := h
      exact Same.kt s2 _ _ ha
    · rintro i x σ H2 H3 hi ⟨us, o5, o6, o7, o8, o9, o10, o11, o12, rfl, h2, t2, s2⟩ ⟨T3, x1, x2, rfl, n3, rfl, e1, e2⟩
      cases e1
      obtain ⟨dx, ex, tx⟩ := ta.getV e2
      obtain ⟨qn, eq, rfl⟩ := map_at ex
      obtain ⟨qok, nok⟩ := gok.2 qn (List.mem_of_getElem? eq)
      have q12 := qok.most
      have s3 : Same H2 (upd H2 T3 (.tup [.int (i : Int), x2])) := same_upd n3
      have s03 := s2.trans s3
      have h3 := s3 _ _ h2
      have t3 := t2.keep (Same.kt s3)
      have tx3 := tx.keep (Same.kt s03)
      have e3 : SqT K (upd H2 T3 (.tup [.int (i : Int), x2])) T3 [.int (i : Int), x2] := .inl (.inl upd_same)
      generalize upd H2 T3 (.tup [.int (i : Int), x2]) = H3 at s3 s03 h3 t3 tx3 e3 ⊢
      refine ⟨T3, _, rfl, e3, rfl, _, _, rfl, _, _, rfl, rfl, ?_⟩
      refine ⟨by show 0 ≤ sizeLine; decide, fun T4 hT4 => ?_⟩
      have s4 := same_upd (o := .lst []) hT4
      obtain ⟨p0, ys, rfl, hp0, tp0⟩ := id tx3.tupE
      have ly : ys.length = qn.length := by rw [tp0.len, List.length_map]
      refine ⟨_, rfl, p0, ys, rfl, Same.kt s4 _ _ hp0, for_it (walk_enumT (K := K) (a := p0) (xs := ys)) (fun j σ H4 => ∃ (ws : List V) (o8 o9 o10 o11 o12 : Option V), σ = [some (.ref a), some (.ref pp), some (.int (W : Int)), some (.ref d), some (.ref T), some (.int (i : Int)), some (.ref p0), some (.ref T4), o8, o9, o10, o11, o12] ∧ H4 T4 = some (.lst ws) ∧ TdAll K H4 ws (((qn.mapIdx (shA W (gV W g) m (shN W (gV W g) m) path i)).take j).map (anD m)) ∧ Same H3 H4) ⟨[], _, _, _, _, _, rfl, upd_same, .nil, s4⟩ (fun j σ H4 _ h => ?_) ?_ ?_⟩
      · obtain ⟨_, _, _, _, _, _, _, _, _, s34⟩ := h
        exact Same.kt s34 _ _ hp0
      · rintro j y σ H4 H5 hj ⟨ws, o8, o9, o10, o11, o12, rfl, h4, t4, s34⟩ ⟨T5, y1, y2, rfl, n5, rfl, g1, g2⟩
        cases g1
        obtain ⟨dy, ey, ty⟩ := tp0.getV g2
        obtain ⟨an, ea, rfl⟩ := map_at ey
        have man := List.mem_of_getElem? ea
        have s5 : Same H4 (upd H4 T5 (.tup [.int (j : Int), y2])) := same_upd n5
        have s35 := s34.trans s5
        have s05 := s03.trans s35
        have h5 := s5 _ _ h4
        have t5 := t4.keep (Same.kt s5)
        have tan := ty.keep (Same.kt s35)
        have e5 : SqT K (upd H4 T5 (.tup [.int (j : Int), y2])) T5 [.int (j : Int), y2] := .inl (.inl upd_same)
        generalize upd H4 T5 (.tup [.int (j : Int), y2]) = H5 at s5 s35 s05 h5 t5 tan e5 ⊢
        obtain ⟨pa, vw, vz, vt, rfl, hpa, tw, tz, tt⟩ := td_an tan
        refine ⟨T5, _, rfl, e5, rfl, _, _, rfl, _, _, rfl, pa, _, rfl, hpa, rfl, _, _, rfl, _, _, rfl, _, _, rfl, rfl, rfl, ?_⟩
        -- here
        refine ⟨_, rfl, _, rfl, _, rfl, by show 2 ≤ sizeLine; decide, fun p1 n1 => ⟨by show 1 ≤ sizeLine; decide, fun p2 n2 => ?_⟩⟩
        have s56 := (same_upd (o := .tup [.int (i : Int), .int (j : Int)]) n1).trans (same_upd (o := .tup [.ref p1]) n2)
        have tp1 : Td K (upd (upd H5 p1 (.tup [.int (i : Int), .int (j : Int)])) p2 (.tup [.ref p1])) (.ref p1) (pairD (i, j)) := .tup (Same.kt (same_upd n2) _ _ (.inl (.inl upd_same))) (.cons (.int _) (.cons (.int _) .nil))
        refine ⟨pp, p2, pxs, _, rfl, rfl, Same.kt (s05.trans s56) _ _ hpp, .inl (.inl upd_same), by rw [lpx]; exact Nat.le_of_lt (small1000 (by simp; omega)), fun p3 H6 s6 q6 => ?_⟩
        have s57 := s56.trans s6
        have s07 := s05.trans s57
        have tpath : Td K H6 (.ref p3) (pathD (path ++ [(i, j)])) := by
          unfold pathD
          rw [List.map_append]
          exact .tup q6 ((tpp.keep (Same.kt s07)).app (.cons (tp1.keep (Same.kt s6)) .nil))
        have h7 := s57 _ _ h5
        have sg7 := sg.keep s07
        obtain ⟨f0, ndc, gok0⟩ := id sg7.dc
        refine ⟨_, rfl, .inl ⟨rfl, _, SqL.of h7⟩, _, rfl, _, rfl, d, N, f0, rfl, ndc, _, rfl, by show 2 ≤ sizeLine; decide, fun p4 n4 => ⟨by show 1 ≤ sizeLine; decide, fun p5 n5 => ?_⟩⟩
        have s45 := (same_upd (o := .tup [.int 0, .int 1]) n4).trans (same_upd (o := .tup [.ref p4]) n5)
        have tz4 : Td K (upd (upd H6 p4 (.tup [.int 0, .int 1])) p5 (.tup [.ref p4])) (.ref p4) (rD 0) := .tup (Same.kt (same_upd n5) _ _ (.inl (.inl upd_same))) (.cons (.int _) (.cons (.int _) .nil))
        refine ⟨_, rfl, p5, (W : Int), _, rfl, rfl, .inl (.inl upd_same), by simp, by omega, by omega, by simp, fun p6 H8 s8 q8 => ?_⟩
        have s78 := s45.trans s8
        have tz8 := zer_td1 (tz4.keep (Same.kt s8)) q8
        refine ⟨keyQ (path ++ [(i, j)]), N, ndc.keep (Same.kt s78) fun o e => s78 _ _ e, by rw [keyQ_data]; exact tpath.keep (Same.kt s78), ⟨p3, rfl⟩, keyQ_depth _, ?_⟩
        have tel := (sg7.keep s78).got (gok0.keep (Same.kt s78)) (path ++ [(i, j)]) tz8
        generalize (f0 (keyQ (path ++ [(i, j)]))).getD (.ref p6) = vel at tel ⊢
        have ew : (List.range W).map (fun j' => gV W g j' (path ++ [(i, j)])) = gW W g (path ++ [(i, j)]) := range_getD (sg.wlen _)
        refine ⟨_, rfl, _, rfl, _, rfl, _, rfl, W, e, N, B', vt, .ref p3, d, an.2.1, an.2.2, path ++ [(i, j)], g, rfl, tt.keep (Same.kt (s57.trans s78)), tpath.keep (Same.kt s78), nok an man, by rw [List.length_append]; show path.length + 1 + m ≤ 100; omega, sg7.keep s78, w1, w5, fun v9 H9 s9 t9 => ?_⟩
        refine ⟨by show 3 ≤ sizeLine; decide, fun p10 n10 => ?_⟩
        have s10 := same_upd (o := .tup [vw, vel, v9]) n10
        have s510 := s57.trans (s78.trans (s9.trans s10))
        have h10 := s510 _ _ h5
        have kT : KT K (upd H9 p10 (.tup [vw, vel, v9])) (upd (upd H9 p10 (.tup [vw, vel, v9])) T4 (.lst (ws ++ [.ref p10]))) := KT.updL h10
        refine ⟨T4, ws, _, rfl, rfl, h10, ?_, ws ++ [.ref p10], _, _, _, _, _, rfl, upd_same, ?_, fun c o z => ?_⟩
        · rw [t5.len, List.length_map, List.length_take]
          exact small1000 (by omega)
        · rw [List.take_add_one, mapIdx_at ea, List.map_append]
          refine (t5.keep ((Same.kt s510).trans kT)).app (.cons (.tup (kT _ _ (.inl (.inl upd_same))) (.cons (tw.keep ((Same.kt s510).trans kT)) (.cons ?_ (.cons (t9.keep ((Same.kt s10).trans kT)) .nil)))) .nil)
          show Td K _ vel (wsD ((List.range W).map (fun j' => gV W g j' (path ++ [(i, j)]))))
          rw [ew]
          exact tel.keep ((Same.kt (s9.trans s10)).trans kT)
        · rw [upd_ne (ne_of_none z hT4)]
          exact s510 _ _ (s35 _ _ z)
      · rintro σ H4 ⟨ws, o8, o9, o10, o11, o12, rfl, h4, t4, s34⟩
        have ez : (qn.mapIdx (shA W (gV W g) m (shN W (gV W g) m) path i)).take ys.length = qn.mapIdx (shA W (gV W g) m (shN W (gV W g) m) path i) := List.take_of_length_le (by rw [List.length_mapIdx, ly]; exact Nat.le_refl _)
        rw [ez] at t4
        have h4' := s34 _ _ h3
        refine ⟨_, rfl, .inl ⟨rfl, _, SqL.of h4'⟩, _, rfl, T4, ws, rfl, SqL.of h4, fun l8 H8 s8 q8 => ?_⟩
        have s38 := s34.trans s8
        have h8 := s38 _ _ h3
        have kT : KT K H8 (upd H8 T (.lst (us ++ [.ref l8]))) := KT.updL h8
        refine ⟨T, us, _, rfl, rfl, h8, ?_, us ++ [.ref l8], _, _, _, _, _, _, _, _, rfl, upd_same, ?_, fun c o z => ?_⟩
        · rw [t3.len, List.length_map, List.length_take]
          exact small1000 (by omega)
        · rw [List.take_add_one, mapIdx_at eq, List.map_append]
          exact (t3.keep ((Same.kt s38).trans kT)).app (.cons (.tup (kT _ _ q8) (t4.keep ((Same.kt s8).trans kT))) .nil)
        · rw [upd_ne (ne_of_none z hT)]
          exact s38 _ _ (s03 _ _ z)
    · rintro σ H2 ⟨us, o5, o6, o7, o8, o9, o10, o11, o12, rfl, h2, t2, s2⟩
      have ez : (qs.mapIdx (shQ W (gV W g) m path)).take xs.length = qs.mapIdx (shQ W (gV W g) m path) := List.take_of_length_le (by rw [List.length_mapIdx, lx]; exact Nat.le_refl _)
      rw [ez] at t2
      exact ⟨_, rfl, T, us, rfl, SqL.of h2, fun v H3 s3 q3 => q (.ref v) H3 (s2.trans s3) (.tup q3 (t2.keep (Same.kt s3)))⟩
end
end Tl
/-! x == y of two objects of one class with its own ==, equal or not -/
namespace Tl
open PySem PySem.Spec PyProof.Rows L2 RZ
def spEqB (R : Addr → Addr → Hp → Bool → Prop) : Sp := fun vs H Q _ => ∃ a b r, vs = [.ref a, .ref b] ∧ R a b H r ∧ ∀ H', Ext H H' → Q (.bl r) H'
def rEqB (C : Addr) (R : Addr → Addr → Hp → Bool → Prop) : R2 := fun x y H Q => ∃ a b dx dy fs gs r, x = .ref a ∧ y = .ref b ∧ H a = some (.ins C dx fs) ∧ H b = some (.ins C dy gs) ∧ R a b H r ∧ ∀ H', Ext H H' → Q (.bl r) H'
section
variable {X : Cx} {n : Nat}
theorem op_eqB {CX : CXT} {C f : Addr} {fd : FuncData} {ps : List Str} {R : Addr → Addr → Hp → Bool → Prop} {E : XK} (F : FnOk X.prog X.w X.K X.mg X.base CX n f fd ps (spEqB R))
    (hs : PySem.W.findIn X.K (.ref C) "__eq__" = some (some (.ref f))) (hf : PySem.W.isFn X.K (.ref f) = true) (hb : Binds X.K fd ps []) (hx : Passes CX X E) (hr0 : Room n X.A) : OpR X (compareOp .Eq) (rEqB C R) := by
  intro pins s σ H x y v u Q I rx ry hq
  obtain ⟨a, b, dx, dy, fs, gs, r, rfl, rfl, ha, hb', hr, q⟩ := hq
  cases rx
  cases ry
  show wpAny (model X.prog X.w) X.A (richCompare .Eq (.ref a) (.ref b)) (EP X pins σ Q) X.xe s
  obtain ⟨mA, J, _⟩ := ins_get I.hok ha
  obtain ⟨mB, J', _⟩ := ins_get I.hok hb'
  obtain ⟨od, J, _⟩ := J.look
  obtain ⟨od', J', _⟩ := J'.look
  obtain ⟨m, hF⟩ := I.fr
  refine PySem.W.cmp_K (op := .Eq) (tb := .ref C) hr0.units0 hF I.ok.mod.kin J J'.type (by simp [PySem.W.notFirst]) hs hf ?_
  have hsp : spEqB R [.ref a, .ref b] H (fun v H' => v = .bl r ∧ Ext H H') E := ⟨a, b, r, rfl, hr, fun H' e => ⟨rfl, e⟩⟩
  have e0 : Env0 X.prog X.w X.K X.mg X.base X.A X.stack s H := I.env0
  have hl := F.len _ _ _ _ hsp
  have r2 : Vals [V.ref a, V.ref b] [Value.ref a, Value.ref b] := .cons rfl (.cons rfl .nil)
  refine wpAny_call (codeAny_mono (F.run X.A X.stack s H ⟨[.ref a, .ref b], []⟩ [.ref a, .ref b] [.ref a, .ref b] _ E hr0 e0 (by
    have := hb s [.ref a, .ref b] I.kIn (by simpa using hl)
    simpa using this) r2 hsp) fun rr s' hq => ?_)
  cases rr with
  | error e => exact hx pins σ H s e s' I hq
  | ok fl =>
    cases fl with
    | ret w =>
      obtain ⟨z, H', I', rz, ez, ex⟩ := I.after hq
      subst ez
      cases rz
      exact ⟨.bl r, H', I', rfl, q H' ex⟩
    | next => exact False.elim hq
    | brk => exact False.elim hq
    | cont => exact False.elim hq
end
end Tl
namespace Tl
open PySem PySem.Spec PyProof.Rows L2 RZ
/-! ### trees of one shape -/
theorem mapIdx_al {α β γ : Type} {R : α → β → Prop} {f : Nat → α → γ} {g : Nat → β → γ} {as : List α} {bs : List β} (h : Al R as bs) (e : ∀ i a b, R a b → f i a = g i b) : as.mapIdx f = bs.mapIdx g := by
  refine List.ext_getElem? fun i => ?_
  rw [List.getElem?_mapIdx, List.getElem?_mapIdx]
  cases e1 : as[i]? with
  | none =>
    have hb : bs[i]? = none := List.getElem?_eq_none (by rw [← h.len]; exact List.getElem?_eq_none_iff.mp e1)
    rw [hb]
    rfl
  | some a =>
    obtain ⟨b, e2, r⟩ := h.get e1
    rw [e2]
    show some (f i a) = some (g i b)
    rw [e i a b r]
theorem ledN_shape {W : Nat} : ∀ {m : Nat} {gs gs' : Nd m}, Shp m gs gs' → ∀ hs : List (Hd m), ledN W m gs hs = ledN W m gs' hs
  | 0, _, _, _, _ => rfl
  | m + 1, gs, gs', sh, hs => by
    have sh' : Al (fun (q q' : Qn m) => Al (fun (a a' : An m) => a.1 = a'.1 ∧ Shp m a.2.2 a'.2.2) q q') (show List (Qn m) from gs) (show List (Qn m) from gs') := sh
    show ((show List (Qn m) from gs).mapIdx (ledQ W m hs) : List (Qn m)) = (show List (Qn m) from gs').mapIdx (ledQ W m hs)
    refine mapIdx_al sh' fun k q q' al => ?_
    show (show List (An m) from q).mapIdx (ledA W m k hs) = (show List (An m) from q').mapIdx (ledA W m k hs)
    refine mapIdx_al al fun a an an' r => ?_
    show (an.1, _, ledN W m an.2.2 _) = (an'.1, _, ledN W m an'.2.2 _)
    rw [r.1, ledN_shape r.2]
theorem mvOk_shape {m : Nat} {A : Nat → Type} {wOk : (n : Nat) → Nd n → Nd m → A n → Prop} {R : An m → An m → Prop} (hR : ∀ n (t : Nd n) an an' w, R an an' → wOk n t an.2.2 w → wOk n t an'.2.2 w) {q q' : Qn m} (al : Al R q q') : ∀ {n : Nat} {t : Nd n} {x : MvT A n}, MvOk wOk n t q x → MvOk wOk n t q' x
  | 0, _, _, ⟨an, e, h⟩ => by
    obtain ⟨an', e', r⟩ := al.get e
    exact ⟨an', e', hR _ _ _ _ _ r h⟩
  | n + 1, _, .inl x, ⟨an, e, h⟩ => by
    obtain ⟨an', e', r⟩ := al.get e
    exact ⟨an', e', hR _ _ _ _ _ r h⟩
  | n + 1, _, .inr x, ⟨qn, e, al2⟩ => ⟨qn, e, al2.imp fun an y h => mvOk_shape hR al h⟩
theorem wtOk_shape : ∀ {m n : Nat} {t : Nd n} {gs gs' : Nd m} {w' : Wt m n}, Shp m gs gs' → WtOk m n t gs w' → WtOk m n t gs' w'
  | 0, _, _, _, _, _, _, _ => trivial
  | m + 1, n, t, gs, gs', w', sh, h => by
    have sh' : Al (fun (q q' : Qn m) => Al (fun (a a' : An m) => a.1 = a'.1 ∧ Shp m a.2.2 a'.2.2) q q') (show List (Qn m) from gs) (show List (Qn m) from gs') := sh
    have h' : Al (fun (q : Qn m) (y : Mv m n) => MvOk (WtOk m) n t q y) (show List (Qn m) from gs) (show List (Mv m n) from w') := h
    show Al (fun (q : Qn m) (y : Mv m n) => MvOk (WtOk m) n t q y) (show List (Qn m) from gs') (show List (Mv m n) from w')
    exact sh'.join h' fun q q' y al ok => mvOk_shape (R := fun (a a' : An m) => a.1 = a'.1 ∧ Shp m a.2.2 a'.2.2) (fun n t an an' w r h => wtOk_shape r.2 h) al ok
theorem bwOk_shape {m n : Nat} {t : Nd n} {gs gs' : Nd m} {bs : Bw m n} (sh : Shp m gs gs') (h : BwOk m n t gs bs) : BwOk m n t gs' bs := ⟨h.one, h.most, h.ch, h.sum, fun x hx => wtOk_shape sh (h.ok x hx)⟩
/-! ### houses compared -/
def HEqB (K : PySem.W.Frag) (C : Addr) : Addr → Addr → Hp → Bool → Prop := fun a b H r => ∃ (W : Nat) (v v' : V) (d d' : PyData) (k : Nat), HouseAt C H a W v ∧ HouseAt C H b W v' ∧ Td K H v d ∧ Td K H v' d' ∧ Good k d ∧ Good k d' ∧ k ≤ 64 ∧ r = PyData.eqv d d'
def spIsB (K : PySem.W.Frag) (C : Addr) (m n : Nat) : Sp := fun vs H Q _ => ∃ (p p' : Addr) (W : Nat) (v v' vb : V) (t : Nd n) (gs : Nd m) (bs : Bw m n), vs = [.ref p, .ref p', vb] ∧ HsOk K C H p W n t v ∧ HsOk K C H p' W m gs v' ∧ NdP W n (ones W) t ∧ Td K H vb (bwD m n bs) ∧ BwOk m n t gs bs ∧ n ≤ 6 ∧ m ≤ 6 ∧ cnt n t ≤ 199 ∧
  ∀ (H' : Hp), Same H H' → Q (.bl (PyData.eqv (ndD m (ledN W m gs (hd0 W m n t bs))) (ndD m gs))) H'
section
variable {P : Program} {w : World} {K : PySem.W.Frag} {mg : Str → Option Value} {base : Heap} {aN aO : Addr} {t1 t2 t3 t4 t5 t6 t7 : Tok}
theorem ok_House_eqB {Cc fi f : Addr} {fd : FuncData} (D : Dm K "__eq__" "House.__eq__" s_House_eq ["self", "other"] f fd) (B : Blt mg) (U : Hcl K mg Cc fi f) : FnOk P w K mg base CX0 1 f fd ["self", "other"] (spEqB (HEqB K Cc)) := by
  refine D.F.ok sc_House_eq (fun vs H Q E h => ?_) (fun cdv A outer s H vs Q E hr h => ?_)
  · obtain ⟨a, b, r, rfl, _⟩ := h
    rfl
  obtain ⟨a, b, r, rfl, ⟨W, v, v', d, d', k, ⟨dx, h1⟩, ⟨dy, h2⟩, e1, e2, g, g', hk, er⟩, q⟩ := h
  have nd := sc_House_eq.nd
  refine ⟨_, (pss_one (ps_ret (pe_and (pe_callB (k_isi (K := K) rfl) (by rfl) B.isinstance (by decide +kernel) (pa_cons (pv 1) (pa_cons (pe_glob (v := .ref _) rfl U.gHouse rfl) pa_nil))) (pe_and (pe_cmpR op_eq (k_fld (K := K) rfl (pv 0) rfl) (k_fld (K := K) rfl (pv 1) rfl) (nomark _)) (pe_one (pe_cmpR (k_eqD (K := K) rfl hr.units) (k_fld (K := K) rfl (pv 0) rfl) (k_fld (K := K) rfl (pv 1) rfl) (nomark _))))))), ?_⟩
  have kk : PySem.W.kitOne K (.ref Cc) (.ref Cc) = some true := by
    unfold PySem.W.kitOne
    rw [if_pos (beq_self_eq_true _)]
  refine ⟨_, rfl, _, .ref Cc, .ref Cc, .ref Cc, true, rfl, .own Cc, .base (.ins h2 U.cl U.ha U.hn U.htk U.hm), kk, _, rfl, iteT ?_⟩
  refine ⟨_, rfl, a, Cc, dx, _, _, rfl, h1, U.cl, U.nw, hf_w _ _, _, rfl, b, Cc, dy, _, _, rfl, h2, U.cl, U.nw, hf_w _ _, rfl, _, rfl, ?_⟩
  rw [decide_eq_true rfl]
  refine iteT ?_
  refine ⟨_, rfl, a, Cc, dx, _, _, rfl, h1, U.cl, U.nt, hf_t _ _, _, rfl, b, Cc, dy, _, _, rfl, h2, U.cl, U.nt, hf_t _ _, d, d', e1.dp, e2.dp, g.shaped hk, g'.shaped hk, ?_⟩
  rw [← er]
  exact q H Ext.rfl'
theorem ok_is_between {m n : Nat} {Cc fi fe f f1 f2 f3 : Addr} {fd fd1 fd2 fd3 fde : FuncData} {k : Nat} (D : Dn K mg "is_between" s_is_between ["house", "other", "thing"] f fd) (U : Hcl K mg Cc fi fe) (D_check_alike : Dn K mg "check_alike" s_check_alike ["house", "other"] f1 fd1) (D_is_go_between : Dn K mg "is_go_between" s_is_go_between ["house", "other", "thing"] f2 fd2) (G_is_go_between : FnOk P w K mg base CX0 k f2 fd2 ["house", "other", "thing"] (spIsGB K Cc m n))
    (D_led_house : Dn K mg "led_house" s_led_house ["house", "other", "between"] f3 fd3) (G_led_house : FnOk P w K mg base CX0 k f3 fd3 ["house", "other", "between"] (spLedH K Cc m n)) (D_House_eq : Dm K "__eq__" "House.__eq__" s_House_eq ["self", "other"] fe fde) (G_House_eqB : FnOk P w K mg base CX0 1 fe fde ["self", "other"] (spEqB (HEqB K Cc))) (hk : 1 ≤ k) : FnOk P w K mg base CX0 (k + 1) f fd ["house", "other", "thing"] (spIsB K Cc m n) := by
  have G_check_alike : FnOk P w K mg base CX0 1 f1 fd1 ["house", "other"] (spAlike Cc) := ok_check_alike D_check_alike U
  refine D.F.ok sc_is_between (fun vs H Q E h => ?_) (fun cdv A outer s H vs Q E hr h => ?_)
  · obtain ⟨p, p', W, v, v', vb, t, gs, bs, rfl, _⟩ := h
    rfl
  obtain ⟨p, p', W, v, v', vb, t, gs, bs, rfl, h1, h2, hG, tb, ok, hn, hm, hc, q⟩ := h
  have nd := sc_is_between.nd
  refine ⟨_, (pss_cons (ps_expr (pe_call G_check_alike (hr.mono (by omega)) (by rfl) D_check_alike.m D_check_alike.F.kp D_check_alike.b .nil pass0 (pa_cons (pv 0) (pa_cons (pv 1) pa_nil))))
      (pss_one (ps_ret (pe_and (pe_call G_is_go_between (hr.mono (by omega)) (by rfl) D_is_go_between.m D_is_go_between.F.kp D_is_go_between.b .nil pass0 (pa_cons (pv 0) (pa_cons (pv 1) (pa_cons (pv 2) pa_nil)))) (pe_one (pe_cmpR (op_eqB (R := HEqB K Cc) (E := E0) G_House_eqB U.eq U.eqf D_House_eq.b pass0 (hr.mono (by omega))) (pe_call G_led_house (hr.mono (by omega)) (by rfl) D_led_house.m D_led_house.F.kp D_led_house.b .nil pass0 (pa_cons (pv 0) (pa_cons (pv 1) (pa_cons (pv 2) pa_nil)))) (pv 1) (nomark _))))))), ?_⟩
  refine ⟨_, rfl, _, rfl, p, p', W, v, v', rfl, h1.at_, h2.at_, _, rfl, _, rfl, _, rfl, p, p', W, v, v', vb, t, gs, bs, rfl, h1, h2, tb, ok, hn, fun H1 s1 => ⟨_, rfl, iteT ?_⟩⟩
  refine ⟨_, rfl, _, rfl, _, rfl, p, p', W, v, v', vb, t, gs, bs, rfl, h1.keep s1, h2.keep s1, hG, tb.keep (Same.kt s1), ok, hn, hm, hc, fun p2 v2 H2 s2 hA t2 => ?_⟩
  have h2' := h2.keep (s1.trans s2)
  obtain ⟨dx, ex⟩ := id hA
  obtain ⟨dy, ey⟩ := id h2'.at_
  exact ⟨_, rfl, p2, p', dx, dy, _, _, _, rfl, rfl, ex, ey, ⟨W, v2, v', _, _, 3 * m + 2, hA, h2'.at_, t2, h2'.td, good_ndD m _, good_ndD m _, by omega, rfl⟩, fun H3 s3 => q H3 ((s1.trans s2).trans s3)⟩
end
end Tl
namespace Tl
open PySem PySem.Spec PyProof.Rows L2 RZ
theorem ndD_short {W n : Nat} (hW : W ≤ 5) {ahead : List Rat} {t : Nd n} (h : NdOk W n ahead t) (hc : cnt n t ≤ 400) : (ndD n t).showable = true ∧ (ndD n t).shown.length ≤ sizeLine := by
  have h1 := shw_ndD hW h
  have hb : (ndD n t).bulk ≤ 11202 := by
    have := h1.bk
    omega
  refine ⟨h1.sh, ?_⟩
  have := PyData.shown_le_bulk 602 (by decide) (ndD n t) h1.lv
  rw [sizeLine_eq]
  omega
def spIsT (K : PySem.W.Frag) : Sp := fun vs H Q _ => ∃ (a b : V) (W n : Nat) (ahead : List Rat) (t : Nd n), vs = [a, b] ∧ Td K H a (ndD n t) ∧ Td K H b (ndD n t) ∧ W ≤ 5 ∧ NdOk W n ahead t ∧ cnt n t ≤ 400 ∧ n ≤ 6 ∧ Q (.bl true) H
def spIs2 (K : PySem.W.Frag) : Sp := fun vs H Q E => spIs K vs H Q E ∨ spIsT K vs H Q E
def spTwo (K : PySem.W.Frag) : Sp := fun vs H Q _ => ∃ (b g : Addr) (n A : Nat), vs = [.ref b, .int ((n + 1 : Nat) : Int), .int (A : Int)] ∧ Bag H b g ∧ n ≤ 2 ∧ A ≤ 8 ∧
  ∀ (p : Addr) (W : Nat) (v v' : V) (t t' : Nd (n + 1)) (H' : Hp), 1 ≤ W → W ≤ 3 → SqT K H' p [.int (W : Int), v, v'] → Td K H' v (ndD (n + 1) t) → Td K H' v' (ndD (n + 1) t') → NdF W (n + 1) (ones W) t → NdF W (n + 1) (ones W) t' → cnt (n + 1) t ≤ 22 → cnt (n + 1) t' ≤ 22 → Bag H' b g → Frm b g H H' → Q (.ref p) H'
def spFlag (K : PySem.W.Frag) : Sp := fun vs H Q _ => ∃ r : Bool, vs = [.bl r, .bl r] ∧ Q (.bl true) H
section
variable {P : Program} {w : World} {K : PySem.W.Frag} {mg : Str → Option Value} {base : Heap}
theorem FnOk.anyS2 {f : Addr} {fd : FuncData} {ps : List Str} {M N k : Nat} {sp : Nat → Nat → Sp} {lv : Nat → Nat → Nat} (h : ∀ m n, FnOk P w K mg base CX0 (lv m n) f fd ps (sp m n)) (hk : ∀ m n, m ≤ M → n ≤ N → lv m n ≤ k) : FnOk P w K mg base CX0 k f fd ps (Tl.anyS M fun m => Tl.anyS N (sp m)) :=
  ⟨fun vs H Q E ⟨m, _, n, _, q⟩ => (h m n).len vs H Q E q, fun A outer s H args us vs Q E hr e0 hb rv ⟨m, hm, n, hn, q⟩ => ((h m n).mono (hk m n hm hn)).run A outer s H args us vs Q E hr e0 hb rv q⟩
theorem ok_law_is2 {f : Addr} {fd : FuncData} (D : Dn K mg "_law_is" s_law_is ["found", "due"] f fd) (B : Blt mg) : FnG P w K mg base CX0 1 f fd ["found", "due"] (spIs2 K) := by
  refine okG D.F sc_law_is (fun vs H Q E h => ?_) (fun cdv A outer s H vs Q E hr hgu h => ?_)
  · rcases h with ⟨a, b, W, n, ahead, t, rfl, _⟩ | ⟨a, b, W, n, ahead, t, rfl, _⟩ <;> rfl
  have nd := sc_law_is.nd
  rcases h with ⟨a, b, W, n, ahead, t, rfl, ta, tb, hW, hok, hc, hn, q⟩ | ⟨va, vb, W, n, ahead, t, rfl, ta, tb, hW, hok, hc, hn, q⟩
  · refine ⟨_, (pss_one (ps_ret (pe_and (pe_cmpR (k_eqD (K := K) rfl hr.units) (pv 0) (pv 1) (nomark _)) (pe_one (pe_cmpR op_eq (pe_callB (k_repr (K := K) rfl hr.units hgu) (by rfl) B.repr (by decide +kernel) (pa_cons (pv 0) pa_nil)) (pe_callB (k_repr (K := K) rfl hr.units hgu) (by rfl) B.repr (by decide +kernel) (pa_cons (pv 1) pa_nil)) (nomark _)))))), ?_⟩
    have gd := (good_wtD W n t).mono (show 3 * n + 3 ≤ 60 by omega)
    obtain ⟨h1, h2⟩ := wtD_short hW hok hc
    refine ⟨_, rfl, _, rfl, wtD W n t, wtD W n t, ta.dp, tb.dp, gd.shaped (by decide), gd.shaped (by decide), ?_⟩
    rw [gd.refl]
    refine ⟨_, rfl, iteT ?_⟩
    refine ⟨_, rfl, a, wtD W n t, rfl, ta.dp, h1, gd.dict, gd.deep, h2, _, rfl, b, wtD W n t, rfl, tb.dp, h1, gd.dict, gd.deep, h2, rfl, ?_⟩
    rw [decide_eq_true rfl]
    exact q
  · refine ⟨_, (pss_one (ps_ret (pe_and (pe_cmpR (k_eqD (K := K) rfl hr.units) (pv 0) (pv 1) (nomark _)) (pe_one (pe_cmpR op_eq (pe_callB (k_repr (K := K) rfl hr.units hgu) (by rfl) B.repr (by decide +kernel) (pa_cons (pv 0) pa_nil)) (pe_callB (k_repr (K := K) rfl hr.units hgu) (by rfl) B.repr (by decide +kernel) (pa_cons (pv 1) pa_nil)) (nomark _)))))), ?_⟩
    have gd := (good_ndD n t).mono (show 3 * n + 2 ≤ 60 by omega)
    obtain ⟨h1, h2⟩ := ndD_short hW hok hc
    obtain ⟨a, xa, ea, rfl, _⟩ := td_qs (id ta)
    obtain ⟨b, xb, eb, rfl, _⟩ := td_qs (id tb)
    refine ⟨_, rfl, _, rfl, ndD n t, ndD n t, ta.dp, tb.dp, gd.shaped (by decide), gd.shaped (by decide), ?_⟩
    rw [gd.refl]
    refine ⟨_, rfl, iteT ?_⟩
    refine ⟨_, rfl, a, ndD n t, rfl, ta.dp, h1, gd.dict, gd.deep, h2, _, rfl, b, ndD n t, rfl, tb.dp, h1, gd.dict, gd.deep, h2, rfl, ?_⟩
    rw [decide_eq_true rfl]
    exact q
theorem ok_law_two {f f1 f2 : Addr} {fd fd1 fd2 : FuncData} (D : Dn K mg "_law_two" s_law_two ["bag", "levels", "answers"] f fd) (B : Blt mg) (D_law_pick : Dn K mg "_law_pick" s_law_pick ["bag", "many"] f1 fd1)
    (D_law_tree : Dn K mg "_law_tree" s_law_tree ["bag", "worlds", "levels", "answers"] f2 fd2) (G_law_tree : FnOk P w K mg base CX0 30 f2 fd2 ["bag", "worlds", "levels", "answers"] (anyS 3 (spTree K))) : FnOk P w K mg base CX0 31 f fd ["bag", "levels", "answers"] (spTwo K) := by
  have G_law_pick : FnOk P w K mg base CX0 1 f1 fd1 ["bag", "many"] spPick := ok_law_pick D_law_pick B
  refine D.F.ok sc_law_two (fun vs H Q E h => ?_) (fun cdv A outer s H vs Q E hr h => ?_)
  · obtain ⟨b, g, n, A, rfl, _⟩ := h
    rfl
  obtain ⟨b, g, n, A', rfl, hB, hn, hA, q⟩ := h
  have nd := sc_law_two.nd
  refine ⟨_, (pss_cons (ps_set (i := 3) nd rfl (.inl rfl) (pe_op op_add pe_int (pe_call G_law_pick (hr.mono (by omega)) (by rfl) D_law_pick.m D_law_pick.F.kp D_law_pick.b .nil pass0 (pa_cons (pv 0) (pa_cons pe_int pa_nil)))))
      (pss_one (ps_ret (pe_tup (pa_cons (pv 3) (pa_cons (pe_call G_law_tree (hr.mono (by omega)) (by rfl) D_law_tree.m D_law_tree.F.kp D_law_tree.b .nil pass0 (pa_cons (pv 0) (pa_cons (pv 3) (pa_cons (pv 1) (pa_cons (pv 2) pa_nil))))) (pa_cons (pe_call G_law_tree (hr.mono (by omega)) (by rfl) D_law_tree.m D_law_tree.F.kp D_law_tree.b .nil pass0 (pa_cons (pv 0) (pa_cons (pv 3) (pa_cons (pv 1) (pa_cons (pv 2) pa_nil))))) pa_nil))))))), ?_⟩
  refine ⟨_, rfl, b, g, 3, rfl, hB, by decide, by decide, fun r H1 r0 r1 B1 F1 => ⟨_, _, rfl, rfl, ?_⟩⟩
  obtain ⟨W, eW⟩ : ∃ W : Nat, 1 + r = (W : Int) := ⟨(1 + r).toNat, by omega⟩
  have w1 : 1 ≤ W := by omega
  have w3 : W ≤ 3 := by omega
  show gName 3 (V.int (1 + r)) _ _ _
  rw [eW]
  refine ⟨_, rfl, _, rfl, _, rfl, _, rfl, _, rfl, n, by omega, b, g, W, A', rfl, B1, by omega, w1, by omega, fun v t H2 tv ok cn B2 F2 => ?_⟩
  refine ⟨_, rfl, _, rfl, _, rfl, _, rfl, n, by omega, b, g, W, A', rfl, B2, by omega, w1, by omega, fun v' t' H3 tv' ok' cn' B3 F3 => ?_⟩
  refine ⟨by show 3 ≤ sizeLine; decide, fun p np => ?_⟩
  have s4 := same_upd (o := .tup [.int (W : Int), v, v']) np
  exact q p W v v' t t' _ w1 w3 (.inl (.inl upd_same)) ((tv.keep (B2.kt F3)).keep (Same.kt s4)) (tv'.keep (Same.kt s4)) ok ok' (by omega) (by omega) (B3.keep s4) ((F1.trans (F2.trans F3)).trans (.of s4))
end
end Tl
namespace Tl
open PySem PySem.Spec PyProof.Rows L2 RZ
/-! ### plans joined -/
def dflW : (l n : Nat) → Wt l n
  | 0, _ => ()
  | _ + 1, _ => ([] : List _)
def dflM (l n : Nat) : Mv l n := tellM n 0 (dflW l n)
/-- what answers a question by the moves: mv tells the other house's question, ms go on by its answers -/
def answF {l m : Nat} (jm : (n : Nat) → Wt m n → Mv l m → Mv l n) : (n : Nat) → Mv m n → List (Mv l m) → Mv l n
  | 0, x, ms => match ms[x.1]? with
    | some y => jm 0 x.2 y
    | none => dflM l 0
  | n + 1, .inl x, ms => match ms[x.1]? with
    | some y => jm (n + 1) x.2 y
    | none => dflM l (n + 1)
  | n + 1, .inr x, ms => .inr (x.1, x.2.map fun y => answF jm n y ms)
def joinM {l : Nat} (jw : (m n : Nat) → Wt m n → Wt l m → Wt l n) : (m n : Nat) → Wt m n → Mv l m → Mv l n
  | 0, n, w, x => tellM n x.1 (jw 0 n w x.2)
  | m + 1, n, w, .inl x => tellM n x.1 (jw (m + 1) n w x.2)
  | m + 1, n, w, .inr x => match (show List (Mv m n) from w)[x.1]? with
    | some mv => answF (joinM jw m) n mv x.2
    | none => dflM l n
def joinW : (l m n : Nat) → Wt m n → Wt l m → Wt l n
  | 0, _, _, _, _ => ()
  | l + 1, m, n, w, v => ((show List (Mv l m) from v).map fun y => joinM (joinW l) m n w y : List (Mv l n))
theorem tellM_smv {l n a b : Nat} {F : (n : Nat) → List Rat → Nd n → Wt l n → Rat} {ws : List Rat} {t : Nd n} {w : Wt l n} : smv F n ws t (tellM n a w) b = if a = b then F n ws t w else 0 := by cases n <;> rfl
theorem joinM_tell {l m n a : Nat} {jw : (m n : Nat) → Wt m n → Wt l m → Wt l n} {w : Wt m n} {v : Wt l m} : joinM jw m n w (tellM m a v) = tellM n a (jw m n w v) := by cases m <;> rfl
theorem joinM_ask {l m n i : Nat} {jw : (m n : Nat) → Wt m n → Wt l m → Wt l n} {w : List (Mv m n)} {ms : List (Mv l m)} {mv : Mv m n} (e : w[i]? = some mv) : joinM jw (m + 1) n w (.inr (i, ms)) = answF (joinM jw m) n mv ms := by
  show (match w[i]? with | some mv => answF (joinM jw m) n mv ms | none => dflM l n) = _
  rw [e]
theorem answF_tell {l m n b : Nat} {jm : (n : Nat) → Wt m n → Mv l m → Mv l n} {w : Wt m n} {ms : List (Mv l m)} {y : Mv l m} (e : ms[b]? = some y) : answF jm n (tellM n b w) ms = jm n w y := by
  cases n with
  | zero =>
    show (match ms[b]? with | some y => jm 0 w y | none => dflM l 0) = _
    rw [e]
  | succ n =>
    show (match ms[b]? with | some y => jm (n + 1) w y | none => dflM l (n + 1)) = _
    rw [e]
/-! joined plans are right -/
theorem answ_ok {l m : Nat} {jm : (n : Nat) → Wt m n → Mv l m → Mv l n} {q : Qn l} {qi : Qn m} {ms : List (Mv l m)} (al : Al (fun (an : An m) (y : Mv l m) => MvOk (WtOk l) m an.2.2 q y) qi ms)
    (hj : ∀ n (t : Nd n) (an : An m) w y, an ∈ qi → WtOk m n t an.2.2 w → MvOk (WtOk l) m an.2.2 q y → MvOk (WtOk l) n t q (jm n w y)) : ∀ {n : Nat} {t : Nd n} {mv : Mv m n}, MvOk (WtOk m) n t qi mv → MvOk (WtOk l) n t q (answF jm n mv ms)
  | 0, t, x, ⟨an, e, h⟩ => by
    obtain ⟨y, ey, oy⟩ := al.get e
    have : answF jm 0 x ms = jm 0 x.2 y := answF_tell (n := 0) ey
    rw [this]
    exact hj 0 t an x.2 y (List.mem_of_getElem? e) h oy
  | n + 1, t, .inl x, ⟨an, e, h⟩ => by
    obtain ⟨y, ey, oy⟩ := al.get e
    have : answF jm (n + 1) (.inl x) ms = jm (n + 1) x.2 y := answF_tell (n := n + 1) ey
    rw [this]
    exact hj (n + 1) t an x.2 y (List.mem_of_getElem? e) h oy
  | n + 1, t, .inr x, ⟨qn, e, al2⟩ => by
    refine ⟨qn, e, ?_⟩
    show Al (fun (an : An n) (y : Mv l n) => MvOk (WtOk l) n an.2.2 q y) qn (x.2.map fun y => answF jm n y ms)
    have one : ∀ {q' : Qn n} {ys : List (Mv m n)}, Al (fun (an : An n) (y : MvT (Wt m) n) => MvOk (WtOk m) n an.2.2 qi y) q' ys → Al (fun (an : An n) (y : Mv l n) => MvOk (WtOk l) n an.2.2 q y) q' (ys.map fun y => answF jm n y ms) := fun h => by
      induction h with
      | nil => exact .nil
      | cons h _ ih => exact .cons (answ_ok al hj h) ih
    exact one al2
theorem joinM_ok {l : Nat} {jw : (m n : Nat) → Wt m n → Wt l m → Wt l n} (hw : ∀ m n (t : Nd n) (gs : Nd m) (ho : Nd l) w v, WtOk m n t gs w → WtOk l m gs ho v → WtOk l n t ho (jw m n w v)) : ∀ {m n : Nat} {t : Nd n} {gs : Nd m} {q : Qn l} {w : Wt m n} {y : Mv l m}, WtOk m n t gs w → MvOk (WtOk l) m gs q y → MvOk (WtOk l) n t q (joinM jw m n w y)
  | 0, n, t, gs, q, w, x, h1, ⟨an, e, h⟩ => tellM_ok e (hw 0 n t gs an.2.2 w x.2 h1 h)
  | m + 1, n, t, gs, q, w, .inl x, h1, ⟨an, e, h⟩ => tellM_ok e (hw (m + 1) n t gs an.2.2 w x.2 h1 h)
  | m + 1, n, t, gs, q, w, .inr x, h1, ⟨qi, e, al⟩ => by
    have h1' : Al (fun (q : Qn m) (y : Mv m n) => MvOk (WtOk m) n t q y) (show List (Qn m) from gs) (show List (Mv m n) from w) := h1
    obtain ⟨mv, emv, okm⟩ := h1'.get e
    have : joinM jw (m + 1) n w (.inr x) = answF (joinM jw m) n mv x.2 := joinM_ask emv
    rw [this]
    exact answ_ok al (fun n t an w y _ h1 h2 => joinM_ok hw h1 h2) okm
theorem joinW_ok : ∀ {l m n : Nat} {t : Nd n} {gs : Nd m} {ho : Nd l} {w : Wt m n} {v : Wt l m}, WtOk m n t gs w → WtOk l m gs ho v → WtOk l n t ho (joinW l m n w v)
  | 0, _, _, _, _, _, _, _, _, _ => trivial
  | l + 1, m, n, t, gs, ho, w, v, h1, h2 => by
    have h2' : Al (fun (q : Qn l) (y : Mv l m) => MvOk (WtOk l) m gs q y) (show List (Qn l) from ho) (show List (Mv l m) from v) := h2
    show Al (fun (q : Qn l) (y : Mv l n) => MvOk (WtOk l) n t q y) (show List (Qn l) from ho) ((show List (Mv l m) from v).map fun y => joinM (joinW l) m n w y)
    have one : ∀ {qs : List (Qn l)} {ys : List (Mv l m)}, Al (fun (q : Qn l) (y : Mv l m) => MvOk (WtOk l) m gs q y) qs ys → Al (fun (q : Qn l) (y : Mv l n) => MvOk (WtOk l) n t q y) qs (ys.map fun y => joinM (joinW l) m n w y) := fun h => by
      induction h with
      | nil => exact .nil
      | cons h _ ih => exact .cons (joinM_ok (fun m n t gs ho w v h1 h2 => joinW_ok h1 h2) h1 h) ih
    exact one h2'
end Tl
namespace Tl
open PySem PySem.Spec PyProof.Rows L2 RZ
/-! ### what a joined plan makes is what the second makes of what the first makes -/
theorem tels_wt {m : Nat} {sh : Rat} {q : Qn m} : ∀ {n : Nat} {ws : List Rat} {t : Nd n} {mv : Mv m n}, MvOk (WtOk m) n t q mv → ∀ x ∈ tels sh n ws t mv, ∃ an, q[x.1]? = some an ∧ WtOk m x.2.n x.2.t an.2.2 x.2.w
  | 0, _, _, _, ⟨an, e, h⟩, x, hx => by
    rw [List.mem_singleton.mp hx]
    exact ⟨an, e, h⟩
  | n + 1, _, _, .inl mv, ⟨an, e, h⟩, x, hx => by
    rw [List.mem_singleton.mp hx]
    exact ⟨an, e, h⟩
  | n + 1, _, t, .inr y, ⟨qn, e, al⟩, x, hx => by
    have hx' : x ∈ (match (show List (Qn n) from t)[y.1]? with
      | some qn => (List.zipWith (fun (an : An n) (y : Mv m n) => if isZ an.2.1 then [] else tels sh n an.2.1 an.2.2 y) qn y.2).flatten
      | none => []) := hx
    rw [e] at hx'
    have one : ∀ {q' : Qn n} {ms : List (Mv m n)}, Al (fun (an : An n) (y : MvT (Wt m) n) => MvOk (WtOk m) n an.2.2 q y) q' ms → x ∈ (List.zipWith (fun (an : An n) (y : Mv m n) => if isZ an.2.1 then [] else tels sh n an.2.1 an.2.2 y) q' ms).flatten → ∃ an, q[x.1]? = some an ∧ WtOk m x.2.n x.2.t an.2.2 x.2.w := fun al => by
      induction al with
      | nil => exact fun h => absurd h List.not_mem_nil
      | cons h hal ih =>
        intro hx
        rw [List.zipWith_cons_cons, List.flatten_cons] at hx
        rcases List.mem_append.mp hx with hx | hx
        · split at hx
          · exact absurd hx List.not_mem_nil
          · exact tels_wt h x hx
        · exact ih hx
    exact one al hx'
/-- holders that fit a node -/
def HsC (W : Nat) {m : Nat} (gs : Nd m) (hs : List (Hd m)) : Prop := ∀ h ∈ hs, HN W h ∧ WtOk m h.n h.t gs h.w
theorem HsC.mv {W m k : Nat} {gs : List (Qn m)} {hs : List (Hd (m + 1))} {q : Qn m} (h : HsC W (m := m + 1) gs hs) (e : gs[k]? = some q) : ∀ x ∈ hs, HN W x ∧ ∃ mv, (show List (Mv m x.n) from x.w)[k]? = some mv ∧ MvOk (WtOk m) x.n x.t q mv := fun x hx => by
  obtain ⟨h1, h3⟩ := h x hx
  have al : Al (fun (q : Qn m) (y : Mv m x.n) => MvOk (WtOk m) x.n x.t q y) gs (show List (Mv m x.n) from x.w) := h3
  obtain ⟨mv, e1, e2⟩ := al.get e
  exact ⟨h1, mv, e1, e2⟩
theorem HsC.tell {W m k : Nat} {gs : List (Qn m)} {hs : List (Hd (m + 1))} {q : Qn m} (h : HsC W (m := m + 1) gs hs) (e : gs[k]? = some q) : ∀ x ∈ tellL k hs, HN W x.2 ∧ ∃ an, q[x.1]? = some an ∧ WtOk m x.2.n x.2.t an.2.2 x.2.w := fun x hx => by
  unfold tellL at hx
  obtain ⟨l, hl, hxl⟩ := List.mem_flatten.mp hx
  obtain ⟨z, hz, rfl⟩ := List.mem_map.mp hl
  obtain ⟨hn, mv, e1, e2⟩ := h.mv e z hz
  rw [tellH_at e1] at hxl
  exact ⟨tels_hn hn x hxl, tels_wt e2 x hxl⟩
theorem HsC.sel {W m k a : Nat} {gs : List (Qn m)} {hs : List (Hd (m + 1))} {q : Qn m} {an : An m} (h : HsC W (m := m + 1) gs hs) (e : gs[k]? = some q) (ea : q[a]? = some an) : HsC W an.2.2 (selT a (tellL k hs)) := fun y hy => by
  unfold selT at hy
  obtain ⟨x, hx, rfl⟩ := List.mem_map.mp hy
  obtain ⟨hx1, hx2⟩ := List.mem_filter.mp hx
  have xa : x.1 = a := of_decide_eq_true hx2
  obtain ⟨hn, an', g3, g4⟩ := h.tell e x hx1
  rw [xa, ea] at g3
  cases g3
  exact ⟨hn, g4⟩
section
variable {W l m : Nat} {F : (n : Nat) → List Rat → Nd n → Wt l n → Rat} {jm : (n : Nat) → Wt m n → Mv l m → Mv l n} {ms : List (Mv l m)}
def ansV (F : (n : Nat) → List Rat → Nd n → Wt l n → Rat) (jm : (n : Nat) → Wt m n → Mv l m → Mv l n) (ms : List (Mv l m)) (a : Nat) (x : Nat × Hd m) : Rat := match ms[x.1]? with
  | some y => x.2.sh * smv F x.2.n x.2.ws x.2.t (jm x.2.n x.2.w y) a
  | none => 0
theorem ansV_at {a : Nat} {x : Nat × Hd m} {y : Mv l m} (e : ms[x.1]? = some y) : ansV F jm ms a x = x.2.sh * smv F x.2.n x.2.ws x.2.t (jm x.2.n x.2.w y) a := by
  unfold ansV
  rw [e]
theorem answ_val (h0 : Nil0 W F) (a : Nat) (sh : Rat) {qi : Qn m} (hl : qi.length = ms.length) : ∀ {n : Nat} {ws : List Rat} {t : Nd n} {mv : Mv m n}, NdOk W n ws t → MvOk (WtOk m) n t qi mv → sh * smv F n ws t (answF jm n mv ms) a = fsum ((tels sh n ws t mv).map (ansV F jm ms a))
  | 0, ws, t, x, _, ⟨an, e, _⟩ => by
    obtain ⟨y, ey⟩ : ∃ y, ms[x.1]? = some y := ⟨_, List.getElem?_eq_getElem (by rw [← hl]; exact (List.getElem?_eq_some_iff.mp e).1)⟩
    have e1 : answF jm 0 x ms = jm 0 x.2 y := answF_tell (n := 0) ey
    show _ = fsum ([((x.1, ⟨sh, ws, 0, t, x.2⟩) : Nat × Hd m)].map (ansV F jm ms a))
    rw [e1, List.map_cons, List.map_nil, fsum_cons, fsum_nil, Rat.add_zero]
    exact (ansV_at (x := ((x.1, ⟨sh, ws, 0, t, x.2⟩) : Nat × Hd m)) ey).symm
  | n + 1, ws, t, .inl x, _, ⟨an, e, _⟩ => by
    obtain ⟨y, ey⟩ : ∃ y, ms[x.1]? = some y := ⟨_, List.getElem?_eq_getElem (by rw [← hl]; exact (List.getElem?_eq_some_iff.mp e).1)⟩
    have e1 : answF jm (n + 1) (.inl x) ms = jm (n + 1) x.2 y := answF_tell (n := n + 1) ey
    show _ = fsum ([((x.1, ⟨sh, ws, n + 1, t, x.2⟩) : Nat × Hd m)].map (ansV F jm ms a))
    rw [e1, List.map_cons, List.map_nil, fsum_cons, fsum_nil, Rat.add_zero]
    exact (ansV_at (x := ((x.1, ⟨sh, ws, n + 1, t, x.2⟩) : Nat × Hd m)) ey).symm
  | n + 1, ws, t, .inr x, ok, ⟨qn, e, al⟩ => by
    obtain ⟨qok, nok⟩ := ok.2 qn (List.mem_of_getElem? e)
    have e1 : smv F (n + 1) ws t (answF jm (n + 1) (.inr x) ms) a = fsum (List.zipWith (fun (an : An n) (y : Mv l n) => smv F n an.2.1 an.2.2 y a) qn (x.2.map fun y => answF jm n y ms)) := smv_inr (x := (x.1, x.2.map fun y => answF jm n y ms)) e
    rw [e1]
    show _ = fsum ((match (show List (Qn n) from t)[x.1]? with | some qn => (List.zipWith (fun (an : An n) (y : Mv m n) => if isZ an.2.1 then [] else tels sh n an.2.1 an.2.2 y) qn x.2).flatten | none => []).map _)
    rw [e]
    show _ = fsum (((List.zipWith (fun (an : An n) (y : Mv m n) => if isZ an.2.1 then [] else tels sh n an.2.1 an.2.2 y) qn x.2).flatten).map _)
    have one : ∀ {q' : Qn n} {ys : List (Mv m n)}, Al (fun (an : An n) (y : MvT (Wt m) n) => MvOk (WtOk m) n an.2.2 qi y) q' ys → (∀ an ∈ q', an ∈ qn) → sh * fsum (List.zipWith (fun (an : An n) (y : Mv l n) => smv F n an.2.1 an.2.2 y a) q' (ys.map fun y => answF jm n y ms)) = fsum (((List.zipWith (fun (an : An n) (y : Mv m n) => if isZ an.2.1 then [] else tels sh n an.2.1 an.2.2 y) q' ys).flatten).map (ansV F jm ms a)) := fun al => by
      induction al with
      | nil =>
        intro _
        exact Rat.mul_zero sh
      | cons h hal ih =>
        rename_i an y as bs
        intro sub
        have man := sub an (List.mem_cons_self ..)
        rw [List.map_cons, List.zipWith_cons_cons, fsum_cons, Rat.mul_add, ih fun z hz => sub z (List.mem_cons_of_mem _ hz), List.zipWith_cons_cons, List.flatten_cons, List.map_append, fsum_apd]
        congr 1
        by_cases z : isZ an.2.1 = true
        · have zz : smv F n an.2.1 an.2.2 (answF jm n y ms) a = 0 := smv_nil0 h0 a n an.2.1 an.2.2 (answF jm n y ms) z (nok an man)
          rw [if_pos z, zz, Rat.mul_zero]
          rfl
        · rw [if_neg z]
          exact answ_val h0 a sh hl (nok an man) h
    exact one al fun _ h => h
/-- parted by their answers -/
theorem sel_part (V : Nat × Hd m → Rat) {N : Nat} : ∀ {L : List (Nat × Hd m)}, (∀ x ∈ L, x.1 < N) → fsum ((List.range N).map fun b => fsum ((selT b L).map fun h => V (b, h))) = fsum (L.map V)
  | [], _ => fsum_map_zero _
  | x :: L, h => by
    have ih := sel_part V (L := L) fun y hy => h y (List.mem_cons_of_mem _ hy)
    have e : ((List.range N).map fun b => fsum ((selT b (x :: L)).map fun h => V (b, h))) = ((List.range N).map fun b => (if x.1 = b then V x else 0) + fsum ((selT b L).map fun h => V (b, h))) := List.map_congr_left fun b _ => by
      have e2 : selT b (x :: L) = selT b [x] ++ selT b L := selT_app b [x] L
      rw [e2, selT_one, List.map_append, fsum_apd]
      congr 1
      by_cases z : x.1 = b
      · rw [if_pos z, if_pos z, List.map_cons, List.map_nil, fsum_cons, fsum_nil, Rat.add_zero, ← z]
      · rw [if_neg z, if_neg z]
        rfl
    rw [e, fsum_map_add, ih, fsum_pick _ (h x (List.mem_cons_self ..)), List.map_cons, fsum_cons]
end
theorem joinM_val {W l : Nat} {F : (n : Nat) → List Rat → Nd n → Wt l n → Rat} {jw : (m n : Nat) → Wt m n → Wt l m → Wt l n} (h0 : Nil0 W F) (a : Nat) {q : Qn l}
    (hA : ∀ m (gs : Nd m) (hs : List (Hd m)) (ho : Nd l) v, HsC W gs hs → WtOk l m gs ho v → F m (wtsOf W hs) (ledN W m gs hs) v = fsum (hs.map fun h => h.sh * F h.n h.ws h.t (jw m h.n h.w v))) :
    ∀ {m : Nat} {gs : Nd m} {hs : List (Hd m)} {y : Mv l m}, HsC W gs hs → MvOk (WtOk l) m gs q y → smv F m (wtsOf W hs) (ledN W m gs hs) y a = fsum (hs.map fun h => h.sh * smv F h.n h.ws h.t (joinM jw m h.n h.w y) a)
  | m, gs, hs, y, hc, ok => by
    have tell : ∀ a0 v an, y = tellM m a0 v → WtOk l m gs an v → smv F m (wtsOf W hs) (ledN W m gs hs) y a = fsum (hs.map fun h => h.sh * smv F h.n h.ws h.t (joinM jw m h.n h.w y) a) := fun a0 v an e wok => by
      subst e
      rw [tellM_smv]
      have e2 : (hs.map fun h => h.sh * smv F h.n h.ws h.t (joinM jw m h.n h.w (tellM m a0 v)) a) = (hs.map fun h => h.sh * (if a0 = a then F h.n h.ws h.t (jw m h.n h.w v) else 0)) := List.map_congr_left fun h _ => by rw [joinM_tell, tellM_smv]
      rw [e2]
      by_cases z : a0 = a
      · rw [if_pos z, hA m gs hs an v hc wok]
        simp only [z, if_true]
      · rw [if_neg z]
        simp only [z, if_false, Rat.mul_zero]
        exact (fsum_map_zero _).symm
    cases m with
    | zero =>
      obtain ⟨an, e, h⟩ := ok
      exact tell y.1 y.2 an.2.2 rfl h
    | succ m =>
      rcases y with x | x
      · obtain ⟨an, e, h⟩ := ok
        exact tell x.1 x.2 an.2.2 rfl h
      · obtain ⟨qi, e, al⟩ := ok
        obtain ⟨gl, hgl⟩ : ∃ gl : List (Qn m), (gl : Nd (m + 1)) = gs := ⟨gs, rfl⟩
        subst hgl
        have e' : gl[x.1]? = some qi := e
        have ms := hc.mv e'
        have hl : qi.length = x.2.length := al.len
        have eL : (show List (Qn m) from ledN W (m + 1) gl hs)[x.1]? = some (ledQ W m hs x.1 qi) := mapIdx_at e'
        rw [smv_inr eL]
        -- the left side, answer by answer
        have eZ : List.zipWith (fun (an : An m) (y : Mv l m) => smv F m an.2.1 an.2.2 y a) (ledQ W m hs x.1 qi) x.2 = (List.range qi.length).map fun b => fsum ((selT b (tellL x.1 hs)).map fun h => ansV F (joinM jw m) x.2 a (b, h)) := by
          refine List.ext_getElem? fun b => ?_
          rw [List.getElem?_map]
          by_cases hb : b < qi.length
          · obtain ⟨an, ean⟩ : ∃ an, (show List (An m) from qi)[b]? = some an := ⟨_, List.getElem?_eq_getElem hb⟩
            obtain ⟨yb, eyb, okb⟩ := al.get ean
            have e1 : (ledQ W m hs x.1 qi)[b]? = some (ledA W m x.1 hs b an) := mapIdx_at ean
            rw [zip_at e1 eyb, List.getElem?_range hb]
            show some (smv F m (wtsOf W (selT b (tellL x.1 hs))) (ledN W m an.2.2 (selT b (tellL x.1 hs))) yb a) = some _
            rw [joinM_val h0 a hA (hc.sel e' ean) okb]
            congr 2
            exact List.map_congr_left fun h _ => (ansV_at (x := (b, h)) eyb).symm
          · rw [List.getElem?_eq_none (by rw [List.length_zipWith]; omega), List.getElem?_eq_none (by rw [List.length_range]; omega)]
            rfl
        rw [eZ, sel_part (ansV F (joinM jw m) x.2 a) (fun z hz => by
          obtain ⟨_, an, g, _⟩ := hc.tell e' z hz
          exact (List.getElem?_eq_some_iff.mp g).1)]
        -- the right side, holder by holder
        have right : ∀ {hs' : List (Hd (m + 1))}, (∀ h ∈ hs', HN W h ∧ ∃ mv, (show List (Mv m h.n) from h.w)[x.1]? = some mv ∧ MvOk (WtOk m) h.n h.t qi mv) → fsum ((tellL x.1 hs').map (ansV F (joinM jw m) x.2 a)) = fsum (hs'.map fun h => h.sh * smv F h.n h.ws h.t (joinM jw (m + 1) h.n h.w (.inr x)) a) := fun {hs'} => by
          induction hs' with
          | nil => exact fun _ => rfl
          | cons h hs' ih =>
            intro ok
            obtain ⟨hn, mv, em, okm⟩ := ok h (List.mem_cons_self ..)
            have et : tellL x.1 (h :: hs') = tels h.sh h.n h.ws h.t mv ++ tellL x.1 hs' := by
              show tellH x.1 h ++ tellL x.1 hs' = _
              rw [tellH_at em]
            have ej : joinM jw (m + 1) h.n h.w (.inr x) = answF (joinM jw m) h.n mv x.2 := joinM_ask em
            rw [et, List.map_append, fsum_apd, ih fun z hz => ok z (List.mem_cons_of_mem _ hz), List.map_cons, fsum_cons, ej, answ_val h0 a h.sh hl hn okm]
        exact right ms
theorem aftF_none0 {j m n : Nat} {ws : List Rat} {t : Nd n} {w : List (Mv m n)} {k a : Nat} {r : List (Nat × Nat)} (e : w[k]? = none) : aftF j (m + 1) ((k, a) :: r) n ws t w = 0 := by
  show (match w[k]? with | some mv => smv (aftF j m r) n ws t mv a | none => 0) = _
  rw [e]
theorem al_getR0 {α β : Type} {R : α → β → Prop} {as : List α} {bs : List β} {i : Nat} {b : β} (h : Al R as bs) (e : bs[i]? = some b) : ∃ a, as[i]? = some a ∧ R a b := by
  have hi : i < as.length := by
    rw [h.len]
    exact (List.getElem?_eq_some_iff.mp e).1
  have ea : as[i]? = some as[i] := List.getElem?_eq_getElem hi
  obtain ⟨b', e1, r⟩ := h.get ea
  rw [e] at e1
  cases e1
  exact ⟨_, ea, r⟩
theorem joinW_val {W j : Nat} (hj : j < W) : ∀ (l : Nat) (r : List (Nat × Nat)) (m : Nat) (gs : Nd m) (hs : List (Hd m)) (ho : Nd l) (v : Wt l m), HsC W gs hs → WtOk l m gs ho v → aftF j l r m (wtsOf W hs) (ledN W m gs hs) v = fsum (hs.map fun h => h.sh * aftF j l r h.n h.ws h.t (joinW l m h.n h.w v))
  | l, [], m, gs, hs, ho, v, hc, ok => by
    rw [aftF_nil]
    have e : (hs.map fun h => h.sh * aftF j l [] h.n h.ws h.t (joinW l m h.n h.w v)) = hs.map fun h => h.sh * h.ws.getD j 0 := List.map_congr_left fun h _ => by rw [aftF_nil]
    rw [e]
    refine getD_of ?_
    unfold wtsOf
    rw [List.getElem?_map, List.getElem?_range hj]
    rfl
  | 0, x :: r, m, gs, hs, ho, v, hc, ok => by
    have e : (hs.map fun h => h.sh * aftF j 0 (x :: r) h.n h.ws h.t (joinW 0 m h.n h.w v)) = hs.map fun _ => (0 : Rat) := List.map_congr_left fun h _ => Rat.mul_zero h.sh
    rw [e, fsum_map_zero]
    rfl
  | l + 1, (k, a) :: r, m, gs, hs, ho, v, hc, ok => by
    obtain ⟨vl, hvl⟩ : ∃ vl : List (Mv l m), (vl : Wt (l + 1) m) = v := ⟨v, rfl⟩
    subst hvl
    have ok' : Al (fun (q : Qn l) (y : Mv l m) => MvOk (WtOk l) m gs q y) (show List (Qn l) from ho) vl := ok
    cases ey : vl[k]? with
    | none =>
      rw [aftF_none0 ey]
      have e : (hs.map fun h => h.sh * aftF j (l + 1) ((k, a) :: r) h.n h.ws h.t (joinW (l + 1) m h.n h.w vl)) = hs.map fun _ => (0 : Rat) := List.map_congr_left fun h _ => by
        have e2 : (vl.map fun y => joinM (joinW l) m h.n h.w y)[k]? = none := by rw [List.getElem?_map, ey]; rfl
        show h.sh * aftF j (l + 1) ((k, a) :: r) h.n h.ws h.t (vl.map fun y => joinM (joinW l) m h.n h.w y) = 0
        rw [aftF_none0 e2, Rat.mul_zero]
      rw [e, fsum_map_zero]
    | some y =>
      obtain ⟨q, _, oky⟩ := al_getR0 ok' ey
      rw [aftF_at ey, joinM_val (aft_nil0 W j l r) a (fun m gs hs ho v h1 h2 => joinW_val hj l r m gs hs ho v h1 h2) hc oky]
      congr 1
      refine List.map_congr_left fun h _ => ?_
      have e2 : (vl.map fun y => joinM (joinW l) m h.n h.w y)[k]? = some (joinM (joinW l) m h.n h.w y) := by rw [List.getElem?_map, ey]; rfl
      congr 1
      exact (aftF_at e2).symm
end Tl
namespace Tl
open PySem PySem.Spec PyProof.Rows L2 RZ
/-! ### go-betweens joined, and the one that passes -/
theorem shN_ledC {W : Nat} {G : Nat → List (Nat × Nat) → Rat} : ∀ {m : Nat} {gs : Nd m} {hs : List (Hd m)} {path : List (Nat × Nat)}, HsC W gs hs → (∀ j, j < W → ∀ x r, G j (path ++ x :: r) = sumH j hs (x :: r)) → shN W G m gs path = ledN W m gs hs
  | 0, _, _, _, _, _ => rfl
  | m + 1, gs, hs, path, ok, hG => by
    obtain ⟨qs, hqs⟩ : ∃ qs : List (Qn m), (qs : Nd (m + 1)) = gs := ⟨gs, rfl⟩
    subst hqs
    rw [shN_succ, ledN_succ]
    refine mapIdx_congr fun k q ek => ?_
    refine mapIdx_congr fun a an ea => ?_
    have e1 := ok.mv ek
    have e2 : (List.range W).map (fun j => G j (path ++ [(k, a)])) = wtsOf W (selT a (tellL k hs)) := List.map_congr_left fun j hj => by
      rw [hG j (List.mem_range.mp hj), sumH_cons e1, sumH_nil]
    have e3 : shN W G m an.2.2 (path ++ [(k, a)]) = ledN W m an.2.2 (selT a (tellL k hs)) := shN_ledC (ok.sel ek ea) fun j hj x r => by
      rw [List.append_assoc, List.singleton_append, hG j hj, sumH_cons e1]
    show (an.1, _, _) = (an.1, _, _)
    rw [e2, e3]
theorem led_congr {W m : Nat} {gs : Nd m} {hs hs' : List (Hd m)} (h : HsC W gs hs) (h' : HsC W gs hs') (e : ∀ j, j < W → ∀ x r, sumH j hs (x :: r) = sumH j hs' (x :: r)) : ledN W m gs hs = ledN W m gs hs' := by
  rw [← shN_ledC (G := fun j p => sumH j hs' p) (path := []) h fun j hj x r => (e j hj x r).symm]
  exact shN_ledC (path := []) h' fun j hj x r => rfl
theorem fsum_swap {α β : Type} (f : α → β → Rat) (ys : List β) : ∀ xs : List α, fsum (xs.map fun x => fsum (ys.map fun y => f x y)) = fsum (ys.map fun y => fsum (xs.map fun x => f x y))
  | [] => (fsum_map_zero ys).symm
  | x :: xs => by
    rw [List.map_cons, fsum_cons, fsum_swap f ys xs, ← fsum_map_add]
    exact congrArg fsum (List.map_congr_left fun y _ => by rw [List.map_cons, fsum_cons])
theorem fsum_flat {α β : Type} (φ : α → Rat) (g : β → List α) : ∀ xs : List β, fsum ((xs.map g).flatten.map φ) = fsum (xs.map fun x => fsum ((g x).map φ))
  | [] => rfl
  | x :: xs => by rw [List.map_cons, List.flatten_cons, List.map_append, fsum_apd, fsum_flat φ g xs, List.map_cons, fsum_cons]
def joinB {l m n : Nat} (first : Bw m n) (second : Bw l m) : Bw l n := (first.map fun x => second.map fun y => (x.1 * y.1, joinW l m n x.2 y.2)).flatten
theorem hsC0 {W m n : Nat} {t : Nd n} {gs : Nd m} {bs : Bw m n} (nok : NdOk W n (ones W) t) (ok : ∀ x ∈ bs, WtOk m n t gs x.2) : HsC W gs (hd0 W m n t bs) := fun h hh => by
  obtain ⟨x, hx, rfl⟩ := List.mem_map.mp hh
  exact ⟨nok, ok x hx⟩
theorem joinB_ok {l m n : Nat} {t : Nd n} {gs : Nd m} {ho : Nd l} {first : Bw m n} {second : Bw l m} (h1 : ∀ x ∈ first, WtOk m n t gs x.2) (h2 : ∀ y ∈ second, WtOk l m gs ho y.2) : ∀ z ∈ joinB first second, WtOk l n t ho z.2 := fun z hz => by
  obtain ⟨zs, hzs, hz⟩ := List.mem_flatten.mp hz
  obtain ⟨x, hx, rfl⟩ := List.mem_map.mp hzs
  obtain ⟨y, hy, rfl⟩ := List.mem_map.mp hz
  exact joinW_ok (h1 x hx) (h2 y hy)
theorem wtsOf_ones {W m n : Nat} {t : Nd n} {gs : Nd m} {bs : Bw m n} (sum : fsum (bs.map (·.1)) = 1) : wtsOf W (hd0 W m n t bs) = ones W := by
  refine List.ext_getElem? fun j => ?_
  unfold wtsOf ones
  rw [List.getElem?_map, List.getElem?_replicate]
  by_cases hj : j < W
  · rw [List.getElem?_range hj, if_pos hj]
    show some (wtJ j (hd0 W m n t bs)) = some 1
    congr 1
    unfold wtJ hd0
    rw [List.map_map, ← sum]
    congr 1
    refine List.map_congr_left fun b _ => ?_
    show b.1 * (ones W).getD j 0 = b.1
    rw [ones_gD hj, Rat.mul_one]
  · rw [List.getElem?_eq_none (by rw [List.length_range]; omega), if_neg hj]
    rfl
/-- a plan that is right at a stand is right at one of the same shape -/
theorem mv_stand {l : Nat} {A : Nat → Type} {wOk : (n : Nat) → Nd n → Nd l → A n → Prop} (hw : ∀ n (t t' : Nd n) an w, Shp n t t' → wOk n t an w → wOk n t' an w) {q : Qn l} : ∀ {n : Nat} {t t' : Nd n} {x : MvT A n}, Shp n t t' → MvOk wOk n t q x → MvOk wOk n t' q x
  | 0, _, _, _, sh, ⟨an, e, h⟩ => ⟨an, e, hw _ _ _ _ _ sh h⟩
  | n + 1, _, _, .inl x, sh, ⟨an, e, h⟩ => ⟨an, e, hw _ _ _ _ _ sh h⟩
  | n + 1, t, t', .inr x, sh, ⟨qn, e, al⟩ => by
    have sh' : Al (fun (q q' : Qn n) => Al (fun (a a' : An n) => a.1 = a'.1 ∧ Shp n a.2.2 a'.2.2) q q') (show List (Qn n) from t) (show List (Qn n) from t') := sh
    obtain ⟨qn', e', al'⟩ := sh'.get e
    refine ⟨qn', e', al'.join al fun a a' y r h => ?_⟩
    exact mv_stand hw r.2 h
theorem wt_stand : ∀ {l m : Nat} {t t' : Nd m} {ho : Nd l} {v : Wt l m}, Shp m t t' → WtOk l m t ho v → WtOk l m t' ho v
  | 0, _, _, _, _, _, _, _ => trivial
  | l + 1, m, t, t', ho, v, sh, h => by
    have h' : Al (fun (q : Qn l) (y : Mv l m) => MvOk (WtOk l) m t q y) (show List (Qn l) from ho) (show List (Mv l m) from v) := h
    show Al (fun (q : Qn l) (y : Mv l m) => MvOk (WtOk l) m t' q y) (show List (Qn l) from ho) (show List (Mv l m) from v)
    exact h'.imp fun q y ok => mv_stand (wOk := WtOk l) (fun n t t' an w sh h => wt_stand sh h) sh ok
/-- joined: what the second makes of what the first makes -/
theorem led_join {W l m n : Nat} {t : Nd n} {gs : Nd m} {ho : Nd l} {first : Bw m n} {second : Bw l m} (nok : NdOk W n (ones W) t) (mok : NdOk W m (ones W) (ledN W m gs (hd0 W m n t first))) (h1 : ∀ x ∈ first, WtOk m n t gs x.2) (sum : fsum (first.map (·.1)) = 1) (h2 : ∀ y ∈ second, WtOk l m gs ho y.2) :
    ledN W l ho (hd0 W l n t (joinB first second)) = ledN W l ho (hd0 W l m (ledN W m gs (hd0 W m n t first)) second) := by
  refine led_congr (hsC0 nok (joinB_ok h1 h2)) (hsC0 mok fun y hy => ?_) fun j hj x r => ?_
  · -- the same plans, at the made tree
    exact wt_stand (ledN_shp W m gs _) (h2 y hy)
  · unfold sumH hd0
    rw [List.map_map, List.map_map]
    show fsum ((joinB first second).map fun z => z.1 * aftF j l (x :: r) n (ones W) t z.2) = fsum (second.map fun y => y.1 * aftF j l (x :: r) m (ones W) (ledN W m gs (hd0 W m n t first)) y.2)
    unfold joinB
    rw [fsum_flat]
    have e1 : (first.map fun b => fsum ((second.map fun y => (b.1 * y.1, joinW l m n b.2 y.2)).map fun z => z.1 * aftF j l (x :: r) n (ones W) t z.2)) = (first.map fun b => fsum (second.map fun y => b.1 * y.1 * aftF j l (x :: r) n (ones W) t (joinW l m n b.2 y.2))) := List.map_congr_left fun b _ => by
      rw [List.map_map]
      rfl
    rw [e1, fsum_swap]
    congr 1
    refine List.map_congr_left fun y hy => ?_
    have v := joinW_val hj l (x :: r) m gs (hd0 W m n t first) ho y.2 (hsC0 nok h1) (h2 y hy)
    rw [wtsOf_ones (gs := gs) sum] at v
    rw [v, ← fsum_mul]
    unfold hd0
    rw [List.map_map, List.map_map]
    congr 1
    refine List.map_congr_left fun b _ => ?_
    show b.1 * y.1 * aftF j l (x :: r) n (ones W) t (joinW l m n b.2 y.2) = y.1 * (b.1 * aftF j l (x :: r) n (ones W) t (joinW l m n b.2 y.2))
    rw [← Rat.mul_assoc, Rat.mul_comm y.1]
/-! the plan that passes -/
def idW : (m : Nat) → Nd m → Wt m m
  | 0, _ => ()
  | m + 1, gs => ((show List (Qn m) from gs).mapIdx fun k (q : Qn m) => (.inr (k, (show List (An m) from q).mapIdx fun a (an : An m) => tellM m a (idW m an.2.2)) : Mv m (m + 1)) : List (Mv m (m + 1)))
def idA (m a : Nat) (an : An m) : Mv m m := tellM m a (idW m an.2.2)
def idQ (m k : Nat) (q : Qn m) : Mv m (m + 1) := .inr (k, (show List (An m) from q).mapIdx (idA m))
theorem idW_succ (m : Nat) (gs : List (Qn m)) : idW (m + 1) gs = (gs.mapIdx (idQ m) : List (Mv m (m + 1))) := rfl
theorem idW_ok : ∀ (m : Nat) (gs : Nd m), WtOk m m gs gs (idW m gs)
  | 0, _ => trivial
  | m + 1, gs => by
    show Al (fun (q : Qn m) (y : Mv m (m + 1)) => MvOk (WtOk m) (m + 1) gs q y) (show List (Qn m) from gs) ((show List (Qn m) from gs).mapIdx (idQ m))
    refine Al.of (by rw [List.length_mapIdx]) fun k q y h1 h2 => ?_
    rw [mapIdx_at h1] at h2
    cases h2
    refine ⟨q, h1, ?_⟩
    refine Al.of (by rw [List.length_mapIdx]) fun a an y h1 h2 => ?_
    rw [mapIdx_at h1] at h2
    cases h2
    exact tellM_ok h1 (idW_ok m an.2.2)
theorem fsum_at {α : Type} (f : α → Rat) (a : Nat) : ∀ {l : List α} {s : Nat} {x : α}, l[a]? = some x → fsum (l.mapIdx fun i y => if s + i = s + a then f y else 0) = f x
  | l, s, x, h => by
    have e : (l.mapIdx fun i y => if s + i = s + a then f y else 0) = (List.range l.length).map fun i => if a = i then f x else 0 := by
      refine List.ext_getElem? fun i => ?_
      rw [List.getElem?_mapIdx, List.getElem?_map]
      by_cases hi : i < l.length
      · rw [List.getElem?_range hi, List.getElem?_eq_getElem hi]
        show some (if s + i = s + a then f l[i] else 0) = some (if a = i then f x else 0)
        by_cases z : a = i
        · subst z
          rw [if_pos rfl, if_pos rfl, (List.getElem?_eq_some_iff.mp h).2]
        · rw [if_neg (by omega), if_neg z]
      · rw [List.getElem?_eq_none (by omega), List.getElem?_eq_none (by rw [List.length_range]; omega)]
        rfl
    rw [e, fsum_pick _ (List.getElem?_eq_some_iff.mp h).1]
theorem idW_val {j m k a : Nat} {r : List (Nat × Nat)} {ws : List Rat} {gs : List (Qn m)} {q : Qn m} {an : An m} (e : gs[k]? = some q) (ea : q[a]? = some an) : aftF j (m + 1) ((k, a) :: r) (m + 1) ws gs (idW (m + 1) gs) = aftF j m r m an.2.1 an.2.2 (idW m an.2.2) := by
  have e1 : (gs.mapIdx (idQ m))[k]? = some (idQ m k q) := mapIdx_at e
  have e2 : aftF j (m + 1) ((k, a) :: r) (m + 1) ws gs (idW (m + 1) gs) = smv (aftF j m r) (m + 1) ws gs (idQ m k q) a := aftF_at e1
  rw [e2]
  have e3 : smv (aftF j m r) (m + 1) ws gs (idQ m k q) a = fsum (List.zipWith (fun (an : An m) (y : Mv m m) => smv (aftF j m r) m an.2.1 an.2.2 y a) q ((show List (An m) from q).mapIdx (idA m))) := smv_inr (x := (k, (show List (An m) from q).mapIdx (idA m))) e
  rw [e3]
  have e4 : List.zipWith (fun (an : An m) (y : Mv m m) => smv (aftF j m r) m an.2.1 an.2.2 y a) q ((show List (An m) from q).mapIdx (idA m)) = (show List (An m) from q).mapIdx fun i (y : An m) => if 0 + i = 0 + a then aftF j m r m y.2.1 y.2.2 (idW m y.2.2) else 0 := by
    refine List.ext_getElem? fun i => ?_
    rw [List.getElem?_mapIdx]
    by_cases hi : i < q.length
    · have hi' : (show List (An m) from q)[i]? = some q[i] := List.getElem?_eq_getElem hi
      rw [zip_at hi' (mapIdx_at hi'), hi']
      show some (smv (aftF j m r) m q[i].2.1 q[i].2.2 (tellM m i (idW m q[i].2.2)) a) = some _
      rw [tellM_smv]
      congr 1
      show _ = (if 0 + i = 0 + a then aftF j m r m q[i].2.1 q[i].2.2 (idW m q[i].2.2) else 0)
      by_cases z : i = a
      · rw [if_pos z, if_pos (by omega)]
      · rw [if_neg z, if_neg (by omega)]
    · rw [List.getElem?_eq_none (by rw [List.length_zipWith, List.length_mapIdx]; omega)]
      have hn : (show List (An m) from q)[i]? = none := List.getElem?_eq_none (Nat.le_of_not_lt hi)
      rw [hn]
      rfl
  rw [e4]
  exact fsum_at (fun y : An m => aftF j m r m y.2.1 y.2.2 (idW m y.2.2)) a ea
theorem shN_id {W : Nat} {G : Nat → List (Nat × Nat) → Rat} : ∀ {m : Nat} {t : Nd m} {ws : List Rat} {path : List (Nat × Nat)}, NdOk W m ws t → (∀ j, j < W → ∀ x r, G j (path ++ x :: r) = aftF j m (x :: r) m ws t (idW m t)) → shN W G m t path = t
  | 0, _, _, _, _, _ => rfl
  | m + 1, t, ws, path, ok, hG => by
    obtain ⟨qs, hqs⟩ : ∃ qs : List (Qn m), (qs : Nd (m + 1)) = t := ⟨t, rfl⟩
    subst hqs
    rw [shN_succ]
    have same : ∀ {α : Type} {f : Nat → α → α} {l : List α}, (∀ i a, l[i]? = some a → f i a = a) → l.mapIdx f = l := fun {α f l} h => by
      refine List.ext_getElem? fun i => ?_
      rw [List.getElem?_mapIdx]
      cases e : l[i]? with
      | none => rfl
      | some a =>
        show some (f i a) = some a
        rw [h i a e]
    refine same fun k q ek => ?_
    obtain ⟨qok, nok⟩ := ok.2 q (List.mem_of_getElem? ek)
    refine same fun a an ea => ?_
    have man := List.mem_of_getElem? ea
    have e2 : (List.range W).map (fun j => G j (path ++ [(k, a)])) = an.2.1 := by
      rw [← range_getD (qok.wide an man)]
      refine List.map_congr_left fun j hj => ?_
      rw [hG j (List.mem_range.mp hj), idW_val ek ea, aftF_nil]
    have e3 : shN W G m an.2.2 (path ++ [(k, a)]) = an.2.2 := shN_id (nok an man) fun j hj x r => by
      rw [List.append_assoc, List.singleton_append, hG j hj, idW_val ek ea]
    show (an.1, _, _) = an
    rw [e2, e3]
/-- the one plan that passes makes the house itself -/
theorem led_id {W m : Nat} {t : Nd m} (ok : NdOk W m (ones W) t) : ledN W m t (hd0 W m m t [(1, idW m t)]) = t := by
  have hc : HsC W t (hd0 W m m t [(1, idW m t)]) := hsC0 ok fun x hx => by
    rw [List.mem_singleton.mp hx]
    exact idW_ok m t
  rw [← shN_ledC (G := fun j p => sumH j (hd0 W m m t [(1, idW m t)]) p) (path := []) hc fun j hj x r => rfl]
  refine shN_id ok fun j hj x r => ?_
  show fsum [1 * aftF j m (x :: r) m (ones W) t (idW m t)] = _
  rw [fsum_cons, fsum_nil, Rat.add_zero, Rat.one_mul]
end Tl
namespace Tl
open PySem PySem.Spec PyProof.Rows L2 RZ
def spPW (K : PySem.W.Frag) (m : Nat) : Sp := fun vs H Q _ => ∃ (W : Nat) (v : V) (ahead : List Rat) (gs : Nd m), vs = [v] ∧ Td K H v (ndD m gs) ∧ NdOk W m ahead gs ∧ ∀ v' H', Same H H' → Td K H' v' (waitD m m (idW m gs)) → Q v' H'
def spPass (K : PySem.W.Frag) (C : Addr) (m : Nat) : Sp := fun vs H Q _ => ∃ (p : Addr) (W : Nat) (v : V) (t : Nd m), vs = [.ref p] ∧ HsOk K C H p W m t v ∧ ∀ v' H', Same H H' → Td K H' v' (bwD m m [(1, idW m t)]) → Q v' H'
def spJW (K : PySem.W.Frag) (l m n : Nat) : Sp := fun vs H Q _ => ∃ (W : Nat) (va vb : V) (t : Nd n) (gs : Nd m) (ho : Nd l) (w : Wt m n) (v : Wt l m) (ah ah' ah2 : List Rat), vs = [va, vb] ∧ Td K H va (waitD m n w) ∧ Td K H vb (waitD l m v) ∧ WtOk m n t gs w ∧ WtOk l m gs ho v ∧ NdOk W n ah t ∧ NdOk W m ah' gs ∧ NdOk W l ah2 ho ∧ ∀ r H', Same H H' → Td K H' r (waitD l n (joinW l m n w v)) → Q r H'
def spJM (K : PySem.W.Frag) (l m n : Nat) : Sp := fun vs H Q _ => ∃ (W : Nat) (va vb : V) (t : Nd n) (gs : Nd m) (q : Qn l) (w : Wt m n) (y : Mv l m) (ah ah' ah2 : List Rat), vs = [va, vb] ∧ Td K H va (waitD m n w) ∧ Td K H vb (mvD (waitD l) m y) ∧ WtOk m n t gs w ∧ MvOk (WtOk l) m gs q y ∧ NdOk W n ah t ∧ NdOk W m ah' gs ∧ QnOk W ah2 q ∧ (∀ an ∈ q, NdOk W l an.2.1 an.2.2) ∧ ∀ r H', Same H H' → Td K H' r (mvD (waitD l) n (joinM (joinW l) m n w y)) → Q r H'
def spAM (K : PySem.W.Frag) (l m n : Nat) : Sp := fun vs H Q _ => ∃ (W : Nat) (va vb : V) (t : Nd n) (qi : Qn m) (q : Qn l) (mv : Mv m n) (ms : List (Mv l m)) (ah ah' ah2 : List Rat), vs = [va, vb] ∧ Td K H va (mvD (waitD m) n mv) ∧ Td K H vb (.tuple (ms.map (mvD (waitD l) m))) ∧ MvOk (WtOk m) n t qi mv ∧ Al (fun (an : An m) (y : Mv l m) => MvOk (WtOk l) m an.2.2 q y) qi ms ∧ NdOk W n ah t ∧ QnOk W ah' qi ∧ (∀ an ∈ qi, NdOk W m an.2.1 an.2.2) ∧ QnOk W ah2 q ∧ (∀ an ∈ q, NdOk W l an.2.1 an.2.2) ∧ ∀ r H', Same H H' → Td K H' r (mvD (waitD l) n (answF (joinM (joinW l) m) n mv ms)) → Q r H'
section
variable {P : Program} {w : World} {K : PySem.W.Frag} {mg : Str → Option Value} {base : Heap} {aN aO : Addr} {t1 t2 t3 t4 t5 t6 t7 : Tok}
theorem ok_passing_wait {f : Addr} {fd : FuncData} (D : Dn K mg "passing_wait" s_passing_wait ["node"] f fd) (B : Blt mg) (C : Cst K mg aN aO t1 t2 t3 t4 t5 t6 t7) : ∀ n : Nat, FnOk P w K mg base CX0 (1 + n) f fd ["node"] ((spPW K) n) := by
  intro n
  obtain ⟨sp0, G_passing_wait, hsp⟩ : ∃ sp0, FnOk P w K mg base CX0 (0 + n) f fd ["node"] sp0 ∧ (∀ m, n = m + 1 → sp0 = (spPW K) m) := by
    cases n with
    | zero => exact ⟨fun _ _ _ _ => False, ⟨fun vs H Q E h => h.elim, fun A outer s H args us vs Q E _ _ _ _ h => h.elim⟩, fun m e => by omega⟩
    | succ m =>
      have G := ok_passing_wait D B C m
      rw [show 1 + m = 0 + (m + 1) by omega] at G
      exact ⟨_, G, fun m' e => by rw [show m' = m by omega]⟩
  rw [show 1 + n = (0 + n) + 1 by omega]
  refine D.F.ok sc_passing_wait (fun vs H Q E h => ?_) (fun cdv A outer s H vs Q E hr h => ?_)
  · obtain ⟨W, v, ahead, gs, rfl, _⟩ := h
    rfl
  obtain ⟨W, v, ahead, gs, rfl, hv, gok, q⟩ := h
  have nd := sc_passing_wait.nd
  have D_passing_wait := D
  refine ⟨_, (pss_one (ps_ret (pe_callTy (k_tupOf (K := K) rfl) (by rfl) B.tuple (by decide +kernel) (pa_cons (pe_lc (own := [("number", 3), ("question", 4)]) rfl nd (k_enum (K := K) rfl (by rfl) B.enumerate (pa_cons (pv 0) pa_nil)) (blkOk_by (own := [("number", 3), ("question", 4)]) (by kernel_rfl)) (fun _ _ _ _ _ => (k_tup (K := K) (n := 2) rfl rfl (pgs_cons (pg_name (i := 3) nd rfl (.inl rfl)) (pgs_cons (pg_name (i := 4) nd rfl (.inl rfl)) pgs_nil)))) (fun _ _ _ _ _ => pts_nil) (fun _ _ _ _ _ => (pe_tup (pa_cons pe_str (pa_cons (pv 3) (pa_cons (pe_callTy (k_tupOf (K := K) rfl) (by rfl) B.tuple (by decide +kernel) (pa_cons (pe_lc (own := [("place", 1), ("answer", 2)]) rfl nd (k_enum (K := K) rfl (by rfl) B.enumerate (pa_cons (pv 4) pa_nil)) (blkOk_by (own := [("place", 1), ("answer", 2)]) (by kernel_rfl)) (fun _ _ _ _ _ => (k_tup (K := K) (n := 2) rfl rfl (pgs_cons (pg_name (i := 1) nd rfl (.inl rfl)) (pgs_cons (pg_name (i := 2) nd rfl (.inl rfl)) pgs_nil)))) (fun _ _ _ _ _ => pts_nil) (fun _ _ _ _ _ => (pe_tup (pa_cons pe_str (pa_cons (pv 1) (pa_cons (pe_call G_passing_wait (hr.mono (by omega)) (by rfl) D_passing_wait.m D_passing_wait.F.kp D_passing_wait.b .nil pass0 (pa_cons (pe_ix (k_ixT (K := K) rfl) (pv 2) pe_int (fun _ _ => rfl)) pa_nil)) pa_nil)))))) pa_nil)) pa_nil)))))) pa_nil)))), ?_⟩
  obtain ⟨a, xs, ds, rfl, ha, ed, ta, l0⟩ := td_qs hv
  refine ⟨_, rfl, a, xs, rfl, ha, fun T hT => ?_⟩
  cases n with
  | zero =>
    have := l0 rfl
    subst this
    refine lc_td (K := K) (walk_enumT (K := K) (a := a) (xs := [])) [] rfl (by decide) hT (fun H' s => Same.kt s _ _ ha) ?_ ?_
    · rintro i x e H0 H3 Qy N he
      cases he
    intro H2 us h2 t2 s2
    exact ⟨T, us, rfl, SqL.of h2, fun v H3 s3 q3 => q (.ref v) H3 (s2.trans s3) (.tup q3 (t2.keep (Same.kt s3)))⟩
  | succ n =>
    have hsp := hsp n rfl
    subst hsp
    obtain ⟨qs, hqs⟩ : ∃ qs : List (Qn n), (qs : Nd (n + 1)) = gs := ⟨gs, rfl⟩
    subst hqs
    cases ed
    have lx : xs.length = qs.length := by rw [ta.len, List.length_map]
    have l5 : qs.length ≤ 5 := gok.1
    refine lc_td (K := K) (walk_enumT (K := K) (a := a) (xs := xs)) ((qs.mapIdx (idQ n)).map (mvD (waitD n) (n + 1))) (by rw [List.length_map, List.length_mapIdx, lx]) (by omega) hT (fun H' s => Same.kt s _ _ ha) ?_ ?_
    · rintro i x e H0 H3 Qy N he s0 ⟨T3, x1, x2, rfl, n3, rfl, e1, e2⟩ hQ
      cases e1
      obtain ⟨dx, ex, tx⟩ := ta.getV e2
      obtain ⟨qn, eq, rfl⟩ := map_at ex
      obtain ⟨qok, nok⟩ := gok.2 qn (List.mem_of_getElem? eq)
      have q12 := qok.most
      rw [List.getElem?_map, mapIdx_at eq] at he
      cases he
      have s3 : Same H0 (upd H0 T3 (.tup [.int (i : Int), x2])) := same_upd n3
      have s03 := s0.trans s3
      have tx3 := tx.keep (Same.kt s03)
      have e3 : SqT K (upd H0 T3 (.tup [.int (i : Int), x2])) T3 [.int (i : Int), x2] := .inl (.inl upd_same)
      generalize upd H0 T3 (.tup [.int (i : Int), x2]) = H3 at s3 s03 tx3 e3 ⊢
      refine ⟨T3, _, rfl, e3, rfl, _, _, rfl, _, _, rfl, rfl, ?_⟩
      refine ⟨rfl, ?_⟩
      refine iteT (B := N H3) ?_
      obtain ⟨qa, ys, rfl, hqa, tqa⟩ := id tx3.tupE
      have ly : ys.length = qn.length := by rw [tqa.len, List.length_map]
      refine ⟨_, rfl, _, rfl, qa, ys, rfl, hqa, fun T5 hT5 => ?_⟩
      refine lc_td (K := K) (walk_enumT (K := K) (a := qa) (xs := ys)) (((show List (An n) from qn).mapIdx (idA n)).map (mvD (waitD n) n)) (by rw [List.length_map, List.length_mapIdx, ly]) (by omega) hT5 (fun H' s => Same.kt s _ _ hqa) ?_ ?_
      · rintro j y e H5 H6 Qy' N' he s5 ⟨T6, y1, y2, rfl, n6, rfl, g1, g2⟩ hQ'
        cases g1
        obtain ⟨dy, ey, ty⟩ := tqa.getV g2
        obtain ⟨an, ean, rfl⟩ := map_at ey
        have man := List.mem_of_getElem? ean
        rw [List.getElem?_map, mapIdx_at ean] at he
        cases he
        have s6 : Same H5 (upd H5 T6 (.tup [.int (j : Int), y2])) := same_upd n6
        have s36 := s5.trans s6
        have ty6 := ty.keep (Same.kt s36)
        have e6 : SqT K (upd H5 T6 (.tup [.int (j : Int), y2])) T6 [.int (j : Int), y2] := .inl (.inl upd_same)
        generalize upd H5 T6 (.tup [.int (j : Int), y2]) = H6 at s6 s36 ty6 e6 ⊢
        obtain ⟨pn, vw, vz, vt, rfl, hpn, tw, tz, tt⟩ := td_an ty6
        refine ⟨T6, _, rfl, e6, rfl, _, _, rfl, _, _, rfl, rfl, ?_⟩
        refine ⟨rfl, ?_⟩
        refine iteT (B := N' H6) ?_
        refine ⟨_, rfl, _, rfl, pn, _, 2, _, rfl, rfl, hpn, at_of (j := 2) rfl rfl, W, vt, an.2.1, an.2.2, rfl, tt, nok an man, fun v9 H9 s9 t9 => ?_⟩
        refine ⟨by show 3 ≤ sizeLine; decide, fun p10 n10 => ?_⟩
        have s10 : Same H9 (upd H9 p10 (.tup [.str "tell", .int (j : Int), v9])) := same_upd n10
        refine hQ' (.ref p10) _ (s6.trans (s9.trans s10)) ?_
        show Td K _ (.ref p10) (mvD (waitD n) n (tellM n j (idW n an.2.2)))
        rw [tellM_D]
        exact .tup (.inl (.inl upd_same)) (.cons (.str _) (.cons (.int _) (.cons (t9.keep (Same.kt s10)) .nil)))
      intro H7 us7 h7 t7 s7
      refine ⟨T5, us7, rfl, SqL.of h7, fun l8 H8 s8 q8 => ?_⟩
      refine ⟨by show 3 ≤ sizeLine; decide, fun p10 n10 => ?_⟩
      have s10 : Same H8 (upd H8 p10 (.tup [.str "ask", .int (i : Int), .ref l8])) := same_upd n10
      refine hQ (.ref p10) _ (s3.trans (s7.trans (s8.trans s10))) ?_
      exact .tup (.inl (.inl upd_same)) (.cons (.str _) (.cons (.int _) (.cons (.tup (Same.kt s10 _ _ q8) (t7.keep (Same.kt (s8.trans s10)))) .nil)))
    intro H2 us h2 t2 s2
    exact ⟨T, us, rfl, SqL.of h2, fun v H3 s3 q3 => q (.ref v) H3 (s2.trans s3) (.tup q3 (t2.keep (Same.kt s3)))⟩
theorem ok_passing {m : Nat} {f f1 : Addr} {fd fd1 : FuncData} {Cc fi fe : Addr} (D : Dn K mg "passing" s_passing ["house"] f fd) (B : Blt mg) (C : Cst K mg aN aO t1 t2 t3 t4 t5 t6 t7) (U : Hcl K mg Cc fi fe)
    (D_passing_wait : Dn K mg "passing_wait" s_passing_wait ["node"] f1 fd1) (G_passing_wait : FnOk P w K mg base CX0 (1 + m) f1 fd1 ["node"] (spPW K m)) : FnOk P w K mg base CX0 (2 + m) f fd ["house"] (spPass K Cc m) := by
  rw [show 2 + m = (1 + m) + 1 by omega]
  refine D.F.ok sc_passing (fun vs H Q E h => ?_) (fun cdv A outer s H vs Q E hr h => ?_)
  · obtain ⟨p, W, v, t, rfl, _⟩ := h
    rfl
  obtain ⟨p, W, v, t, rfl, h, q⟩ := h
  have nd := sc_passing.nd
  refine ⟨_, (pss_one (ps_ret (pe_tup (pa_cons (pe_tup (pa_cons (pe_glob (v := .ref _) rfl C.ONE rfl) (pa_cons (pe_call G_passing_wait (hr.mono (by omega)) (by rfl) D_passing_wait.m D_passing_wait.F.kp D_passing_wait.b .nil pass0 (pa_cons (k_fld (K := K) rfl (pv 0) rfl) pa_nil)) pa_nil))) pa_nil)))), ?_⟩
  obtain ⟨d, e⟩ := id h.at_
  refine ⟨_, rfl, p, Cc, d, _, _, rfl, e, U.cl, U.nt, hf_t _ _, W, v, ones W, t, rfl, h.td, h.ok, fun v8 H8 s8 t8 => ?_⟩
  refine ⟨by show 2 ≤ sizeLine; decide, fun p1 n1 => ⟨by show 1 ≤ sizeLine; decide, fun p2 n2 => ?_⟩⟩
  have z1 := same_upd (o := .tup [.ref aO, v8]) n1
  have z2 := same_upd (o := .tup [.ref p1]) n2
  refine q (.ref p2) _ (s8.trans (z1.trans z2)) ?_
  have tO : Td K (upd (upd H8 p1 (.tup [.ref aO, v8])) p2 (.tup [.ref p1])) (.ref aO) (rD 1) := by
    rw [rD_one]
    exact .tup (C.tO _) (tdAll_ints [1, 1])
  exact .tup (.inl (.inl upd_same)) (.cons (.tup (Same.kt z2 _ _ (.inl (.inl upd_same))) (.cons tO (.cons (t8.keep (Same.kt (z1.trans z2))) .nil))) .nil)
end
end Tl
namespace Tl
open PySem PySem.Spec PyProof.Rows L2 RZ
theorem td_tell {K : PySem.W.Frag} {H : Hp} {v : V} {a : Nat} {d : PyData} (h : Td K H v (tellD a d)) : ∃ p v2, v = .ref p ∧ SqT K H p [.str "tell", .int (a : Int), v2] ∧ Td K H v2 d := by
  obtain ⟨p, xs, rfl, hp, tx⟩ := h.tupE
  cases tx with
  | cons t0 ta1 =>
  rename_i v0 xs
  cases ta1 with
  | cons t1 ta2 =>
  rename_i v1 xs
  cases ta2 with
  | cons t2 ta3 =>
  rename_i v2 xs
  cases ta3
  cases t0
  cases t1
  exact ⟨p, v2, rfl, hp, t2⟩
theorem td_ask {K : PySem.W.Frag} {H : Hp} {v : V} {a : Nat} {ds : List PyData} (h : Td K H v (askD2 a ds)) : ∃ p v2, v = .ref p ∧ SqT K H p [.str "ask", .int (a : Int), v2] ∧ Td K H v2 (.tuple ds) := by
  obtain ⟨p, xs, rfl, hp, tx⟩ := h.tupE
  cases tx with
  | cons t0 ta1 =>
  rename_i v0 xs
  cases ta1 with
  | cons t1 ta2 =>
  rename_i v1 xs
  cases ta2 with
  | cons t2 ta3 =>
  rename_i v2 xs
  cases ta3
  cases t0
  cases t1
  exact ⟨p, v2, rfl, hp, t2⟩
def isAsk {l : Nat} : (m : Nat) → Mv l m → Prop
  | 0, _ => False
  | _ + 1, .inl _ => False
  | _ + 1, .inr _ => True
theorem tell_or_ask {l m : Nat} {gs : Nd m} {q : Qn l} {y : Mv l m} (h : MvOk (WtOk l) m gs q y) : (∃ a v an, y = tellM m a v ∧ q[a]? = some an ∧ WtOk l m gs an.2.2 v) ∨ isAsk m y := by
  cases m with
  | zero =>
    obtain ⟨an, e, h⟩ := h
    exact .inl ⟨y.1, y.2, an, rfl, e, h⟩
  | succ m =>
    rcases y with x | x
    · obtain ⟨an, e, h⟩ := h
      exact .inl ⟨x.1, x.2, an, rfl, e, h⟩
    · exact .inr trivial
section
variable {P : Program} {w : World} {K : PySem.W.Frag} {mg : Str → Option Value} {base : Heap}
theorem ok_joined_wait1 {l m n k : Nat} {f f1 : Addr} {fd fd1 : FuncData} (D : Dn K mg "joined_wait" s_joined_wait ["first", "second"] f fd) (B : Blt mg) (D_joined_move : Dn K mg "joined_move" s_joined_move ["first", "move"] f1 fd1) {sp0 : Sp} (G_joined_move : FnOk P w K mg base CX0 k f1 fd1 ["first", "move"] sp0) (hsp : ∀ l', l = l' + 1 → sp0 = spJM K l' m n) :
    FnOk P w K mg base CX0 (k + 1) f fd ["first", "second"] (spJW K l m n) := by
  refine D.F.ok sc_joined_wait (fun vs H Q E h => ?_) (fun cdv A outer s H vs Q E hr h => ?_)
  · obtain ⟨W, va, vb, t, gs, ho, w', v, ah, ah', ah2, rfl, _⟩ := h
    rfl
  obtain ⟨W, va, vb, t, gs, ho, w', v, ah, ah', ah2, rfl, ta, tb, ok1, ok2, nt, ng, nh, q⟩ := h
  have nd := sc_joined_wait.nd
  refine ⟨_, (pss_one (ps_ret (pe_callTy (k_tupOf (K := K) rfl) (by rfl) B.tuple (by decide +kernel) (pa_cons (pe_lc (own := [("move", 2)]) rfl nd (k_iT (K := K) rfl (pv 1)) (blkOk_by (own := [("move", 2)]) (by kernel_rfl)) (fun _ _ _ _ _ => (pg_name (i := 2) nd rfl (.inl rfl))) (fun _ _ _ _ _ => pts_nil) (fun _ _ _ _ _ => (pe_call G_joined_move (hr.mono (by omega)) (by rfl) D_joined_move.m D_joined_move.F.kp D_joined_move.b .nil pass0 (pa_cons (pv 0) (pa_cons (pv 2) pa_nil))))) pa_nil)))), ?_⟩
  cases l with
  | zero =>
    obtain ⟨b, xs, rfl, hb, tx⟩ := Td.tupE (show Td K H vb (.tuple []) from tb)
    cases tx
    refine ⟨_, rfl, b, rfl, ⟨_, hb⟩, fun T hT => ?_⟩
    refine lc_td (K := K) (walk_tup (K := K) (a := b) (xs := [])) [] rfl (by decide) hT (fun H' s => Same.kt s _ _ hb) ?_ ?_
    · rintro i x e H0 H3 Qy N he
      cases he
    intro H2 us h2 t2 s2
    exact ⟨T, us, rfl, SqL.of h2, fun v H3 s3 q3 => q (.ref v) H3 (s2.trans s3) (.tup q3 (t2.keep (Same.kt s3)))⟩
  | succ l =>
    have hsp := hsp l rfl
    subst hsp
    obtain ⟨vl, hvl⟩ : ∃ vl : List (Mv l m), (vl : Wt (l + 1) m) = v := ⟨v, rfl⟩
    obtain ⟨hl, hhl⟩ : ∃ hl : List (Qn l), (hl : Nd (l + 1)) = ho := ⟨ho, rfl⟩
    subst hvl hhl
    obtain ⟨b, xs, rfl, hb, tx⟩ := Td.tupE (show Td K H vb (.tuple (vl.map (mvD (waitD l) m))) from tb)
    have ok2' : Al (fun (q : Qn l) (y : Mv l m) => MvOk (WtOk l) m gs q y) hl vl := ok2
    have lx : xs.length = vl.length := by rw [tx.len, List.length_map]
    have l5 : hl.length ≤ 5 := nh.1
    have ll := ok2'.len
    refine ⟨_, rfl, b, rfl, ⟨_, hb⟩, fun T hT => ?_⟩
    refine lc_td (K := K) (walk_tup (K := K) (a := b) (xs := xs)) ((vl.map fun y => joinM (joinW l) m n w' y).map (mvD (waitD l) n)) (by rw [List.length_map, List.length_map, lx]) (by omega) hT (fun H' s => Same.kt s _ _ hb) ?_ ?_
    · rintro i x e H0 H3 Qy N he s3 ⟨rfl, e1⟩ hQ
      obtain ⟨dx, ex, tx'⟩ := (tx.keep (Same.kt s3)).getV e1
      obtain ⟨y, ey, rfl⟩ := mapAt ex
      rw [List.getElem?_map, List.getElem?_map, ey] at he
      cases he
      obtain ⟨q_, eq, oky⟩ := al_getR0 ok2' ey
      obtain ⟨qok, nok⟩ := nh.2 q_ (List.mem_of_getElem? eq)
      refine ⟨rfl, ?_⟩
      refine iteT (B := N H3) ?_
      exact ⟨_, rfl, _, rfl, W, va, x, t, gs, q_, w', y, ah, ah', ah2, rfl, ta.keep (Same.kt s3), tx', ok1, oky, nt, ng, qok, nok, fun r H4 s4 t4 => hQ r H4 s4 t4⟩
    intro H2 us h2 t2 s2
    exact ⟨T, us, rfl, SqL.of h2, fun v H3 s3 q3 => q (.ref v) H3 (s2.trans s3) (.tup q3 (t2.keep (Same.kt s3)))⟩
theorem ok_joined_move1 {l m n k : Nat} {f f1 f2 : Addr} {fd fd1 fd2 : FuncData} (D : Dn K mg "joined_move" s_joined_move ["first", "move"] f fd) (B : Blt mg) (D_joined_wait : Dn K mg "joined_wait" s_joined_wait ["first", "second"] f1 fd1) (G_joined_wait : FnOk P w K mg base CX0 k f1 fd1 ["first", "second"] (spJW K l m n))
    (D_answered_move : Dn K mg "answered_move" s_answered_move ["move", "moves"] f2 fd2) {sp0 : Sp} (G_answered_move : FnOk P w K mg base CX0 k f2 fd2 ["move", "moves"] sp0) (hsp : ∀ m', m = m' + 1 → sp0 = spAM K l m' n) : FnOk P w K mg base CX0 (k + 1) f fd ["first", "move"] (spJM K l m n) := by
  refine D.F.ok sc_joined_move (fun vs H Q E h => ?_) (fun cdv A outer s H vs Q E hr h => ?_)
  · obtain ⟨W, va, vb, t, gs, q_, w', y, ah, ah', ah2, rfl, _⟩ := h
    rfl
  obtain ⟨W, va, vb, t, gs, q_, w', y, ah, ah', ah2, rfl, ta, tb, ok1, oky, nt, ng, qok, qn, q⟩ := h
  have nd := sc_joined_move.nd
  refine ⟨_, (pss_cons (ps_asg (pv 1) (k_tup (K := K) (n := 3) rfl rfl (pgs_cons (pg_name (i := 2) nd rfl (.inl rfl)) (pgs_cons (pg_name (i := 3) nd rfl (.inl rfl)) (pgs_cons (pg_name (i := 4) nd rfl (.inl rfl)) pgs_nil)))))
      (pss_cons (ps_if (pt_cmpR op_eq (pv 2) pe_str (nomark _)) (pss_one (ps_ret (pe_tup (pa_cons pe_str (pa_cons (pv 3) (pa_cons (pe_call G_joined_wait (hr.mono (by omega)) (by rfl) D_joined_wait.m D_joined_wait.F.kp D_joined_wait.b .nil pass0 (pa_cons (pv 0) (pa_cons (pv 4) pa_nil))) pa_nil)))))) pss_nil)
      (pss_one (ps_ret (pe_call G_answered_move (hr.mono (by omega)) (by rfl) D_answered_move.m D_answered_move.F.kp D_answered_move.b .nil pass0 (pa_cons (pe_ix (k_ixT (K := K) rfl) (pv 0) (pv 3) (fun _ _ => rfl)) (pa_cons (pv 4) pa_nil))))))), ?_⟩
  rcases tell_or_ask oky with ⟨a, v, an, e, ea, wok⟩ | hask
  · subst e
    rw [tellM_D] at tb
    obtain ⟨b, v2, rfl, hb, t2⟩ := td_tell tb
    refine ⟨_, rfl, b, _, rfl, hb, rfl, _, _, rfl, _, _, rfl, _, _, rfl, rfl, ?_⟩
    refine ⟨_, rfl, rfl, _, rfl, ite2 (fun _ => ?_) (fun c => absurd (decide_eq_true rfl) c)⟩
    refine ⟨_, rfl, _, rfl, _, rfl, W, va, v2, t, gs, an.2.2, w', v, ah, ah', an.2.1, rfl, ta, t2, ok1, wok, nt, ng, qn an (List.mem_of_getElem? ea), fun r H4 s4 t4 => ⟨by show 3 ≤ sizeLine; decide, fun p n5 => q (.ref p) _ (s4.trans (same_upd n5)) ?_⟩⟩
    rw [joinM_tell, tellM_D]
    exact .tup (.inl (.inl upd_same)) (.cons (.str _) (.cons (.int _) (.cons (t4.keep (Same.kt (same_upd n5))) .nil)))
  cases m with
  | zero => exact hask.elim
  | succ m =>
    have hsp := hsp m rfl
    subst hsp
    rcases y with x | x
    · exact False.elim hask
    · obtain ⟨qi, e, al⟩ := oky
      obtain ⟨gl, hgl⟩ : ∃ gl : List (Qn m), (gl : Nd (m + 1)) = gs := ⟨gs, rfl⟩
      obtain ⟨wl, hwl⟩ : ∃ wl : List (Mv m n), (wl : Wt (m + 1) n) = w' := ⟨w', rfl⟩
      subst hgl hwl
      have e' : gl[x.1]? = some qi := e
      have ok1' : Al (fun (q : Qn m) (y : Mv m n) => MvOk (WtOk m) n t q y) gl wl := ok1
      obtain ⟨mv, emv, okm⟩ := ok1'.get e'
      obtain ⟨qiok, qin⟩ := ng.2 qi (List.mem_of_getElem? e')
      obtain ⟨b, v2, rfl, hb, t2⟩ := td_ask (show Td K H vb (askD2 x.1 (x.2.map (mvD (waitD l) m))) from tb)
      obtain ⟨pa, wxs, rfl, hpa, tpa⟩ := Td.tupE (show Td K H va (.tuple (wl.map (mvD (waitD m) n))) from ta)
      obtain ⟨vmv, evm, tvm⟩ := tpa.get (i := x.1) (d := mvD (waitD m) n mv) (by rw [List.getElem?_map, emv]; rfl)
      refine ⟨_, rfl, b, _, rfl, hb, rfl, _, _, rfl, _, _, rfl, _, _, rfl, rfl, ?_⟩
      refine ⟨_, rfl, rfl, _, rfl, ite2 (fun c => absurd c (by decide)) (fun _ => ?_)⟩
      refine ⟨_, rfl, _, rfl, pa, wxs, (x.1 : Int), vmv, rfl, rfl, hpa, atI_nat evm, _, rfl, W, vmv, v2, t, qi, q_, mv, x.2, ah, ah', ah2, rfl, tvm, t2, okm, al, nt, qiok, qin, qok, qn, fun r H4 s4 t4 => q r H4 s4 ?_⟩
      have : joinM (joinW l) (m + 1) n wl (.inr x) = answF (joinM (joinW l) m) n mv x.2 := joinM_ask emv
      rw [this]
      exact t4
theorem ok_answered_move1 {l m n k : Nat} {f f1 : Addr} {fd fd1 : FuncData} (D : Dn K mg "answered_move" s_answered_move ["move", "moves"] f fd) (B : Blt mg) (D_joined_move : Dn K mg "joined_move" s_joined_move ["first", "move"] f1 fd1) (G_joined_move : FnOk P w K mg base CX0 k f1 fd1 ["first", "move"] (spJM K l m n))
    {sp0 : Sp} (G_answered_move : FnOk P w K mg base CX0 k f fd ["move", "moves"] sp0) (hsp : ∀ n', n = n' + 1 → sp0 = spAM K l m n') : FnOk P w K mg base CX0 (k + 1) f fd ["move", "moves"] (spAM K l m n) := by
  refine D.F.ok sc_answered_move (fun vs H Q E h => ?_) (fun cdv A outer s H vs Q E hr h => ?_)
  · obtain ⟨W, va, vb, t, qi, q_, mv, ms, ah, ah', ah2, rfl, _⟩ := h
    rfl
  obtain ⟨W, va, vb, t, qi, q_, mv, ms, ah, ah', ah2, rfl, ta, tb, okm, al, nt, qiok, qin, qok, qn, q⟩ := h
  have nd := sc_answered_move.nd
  have D_answered_move := D
  refine ⟨_, (pss_cons (ps_asg (pv 0) (k_tup (K := K) (n := 3) rfl rfl (pgs_cons (pg_name (i := 2) nd rfl (.inl rfl)) (pgs_cons (pg_name (i := 3) nd rfl (.inl rfl)) (pgs_cons (pg_name (i := 4) nd rfl (.inl rfl)) pgs_nil)))))
      (pss_cons (ps_if (pt_cmpR op_eq (pv 2) pe_str (nomark _)) (pss_one (ps_ret (pe_call G_joined_move (hr.mono (by omega)) (by rfl) D_joined_move.m D_joined_move.F.kp D_joined_move.b .nil pass0 (pa_cons (pv 4) (pa_cons (pe_ix (k_ixT (K := K) rfl) (pv 1) (pv 3) (fun _ _ => rfl)) pa_nil))))) pss_nil)
      (pss_one (ps_ret (pe_tup (pa_cons pe_str (pa_cons (pv 3) (pa_cons (pe_callTy (k_tupOf (K := K) rfl) (by rfl) B.tuple (by decide +kernel) (pa_cons (pe_lc (own := [("inner", 5)]) rfl nd (k_iT (K := K) rfl (pv 4)) (blkOk_by (own := [("inner", 5)]) (by kernel_rfl)) (fun _ _ _ _ _ => (pg_name (i := 5) nd rfl (.inl rfl))) (fun _ _ _ _ _ => pts_nil) (fun _ _ _ _ _ => (pe_call G_answered_move (hr.mono (by omega)) (by rfl) D_answered_move.m D_answered_move.F.kp D_answered_move.b .nil pass0 (pa_cons (pv 5) (pa_cons (pv 1) pa_nil))))) pa_nil)) pa_nil)))))))), ?_⟩
  obtain ⟨pb, bs, rfl, hpb, tpb⟩ := id tb.tupE
  rcases tell_or_ask okm with ⟨b, v, an, e, ea, wok⟩ | hask
  · subst e
    rw [tellM_D] at ta
    obtain ⟨a, v2, rfl, ha, t2⟩ := td_tell ta
    obtain ⟨y, ey, oky⟩ := al.get ea
    obtain ⟨vy, evy, tvy⟩ := tpb.get (i := b) (d := mvD (waitD l) m y) (by rw [List.getElem?_map, ey]; rfl)
    refine ⟨_, rfl, a, _, rfl, ha, rfl, _, _, rfl, _, _, rfl, _, _, rfl, rfl, ?_⟩
    refine ⟨_, rfl, rfl, _, rfl, ite2 (fun _ => ?_) (fun c => absurd (decide_eq_true rfl) c)⟩
    refine ⟨_, rfl, _, rfl, _, rfl, pb, bs, (b : Int), vy, rfl, rfl, hpb, atI_nat evy, W, v2, vy, t, an.2.2, q_, v, y, ah, an.2.1, ah2, rfl, t2, tvy, wok, oky, nt, qin an (List.mem_of_getElem? ea), qok, qn, fun r H4 s4 t4 => q r H4 s4 ?_⟩
    rw [answF_tell ey]
    exact t4
  cases n with
  | zero => exact hask.elim
  | succ n =>
    have hsp := hsp n rfl
    subst hsp
    rcases mv with x | x
    · exact False.elim hask
    · obtain ⟨q0, e, al2⟩ := okm
      obtain ⟨q0ok, q0n⟩ := nt.2 q0 (List.mem_of_getElem? e)
      have q12 := q0ok.most
      have ll := al2.len
      obtain ⟨a, v2, rfl, ha, t2⟩ := td_ask (show Td K H va (askD2 x.1 (x.2.map (mvD (waitD m) n))) from ta)
      obtain ⟨pc, cs, rfl, hpc, tpc⟩ := t2.tupE
      have lc : cs.length = x.2.length := by rw [tpc.len, List.length_map]
      refine ⟨_, rfl, a, _, rfl, ha, rfl, _, _, rfl, _, _, rfl, _, _, rfl, rfl, ?_⟩
      refine ⟨_, rfl, rfl, _, rfl, ite2 (fun c => absurd c (by decide)) (fun _ => ?_)⟩
      refine ⟨_, rfl, _, rfl, pc, rfl, ⟨_, hpc⟩, fun T hT => ?_⟩
      refine lc_td (K := K) (walk_tup (K := K) (a := pc) (xs := cs)) ((x.2.map fun y => answF (joinM (joinW l) m) n y ms).map (mvD (waitD l) n)) (by rw [List.length_map, List.length_map, lc]) (by omega) hT (fun H' s => Same.kt s _ _ hpc) ?_ ?_
      · rintro i z e0 H0 H3 Qy N he s3 ⟨rfl, e1⟩ hQ
        obtain ⟨dx, ex, tx'⟩ := (tpc.keep (Same.kt s3)).getV e1
        obtain ⟨y, ey, rfl⟩ := mapAt ex
        rw [List.getElem?_map, List.getElem?_map, ey] at he
        cases he
        obtain ⟨an, ea, oky⟩ := al_getR0 al2 ey
        have man := List.mem_of_getElem? ea
        refine ⟨rfl, ?_⟩
        refine iteT (B := N H3) ?_
        exact ⟨_, rfl, _, rfl, W, z, .ref pb, an.2.2, qi, q_, y, ms, an.2.1, ah', ah2, rfl, tx', tb.keep (Same.kt s3), oky, al, q0n an man, qiok, qin, qok, qn, fun r H4 s4 t4 => hQ r H4 s4 t4⟩
      intro H2 us h2 t2' s2
      refine ⟨T, us, rfl, SqL.of h2, fun l8 H8 s8 q8 => ?_⟩
      refine ⟨by show 3 ≤ sizeLine; decide, fun p n9 => ?_⟩
      have s9 : Same H8 (upd H8 p (.tup [.str "ask", .int (x.1 : Int), .ref l8])) := same_upd n9
      refine q (.ref p) _ ((s2.trans s8).trans s9) ?_
      exact .tup (.inl (.inl upd_same)) (.cons (.str _) (.cons (.int _) (.cons (.tup (Same.kt s9 _ _ q8) (t2'.keep (Same.kt (s8.trans s9)))) .nil)))
theorem ok_joins {f f1 f2 : Addr} {fd fd1 fd2 : FuncData} (D_joined_wait : Dn K mg "joined_wait" s_joined_wait ["first", "second"] f fd) (B : Blt mg) (D_joined_move : Dn K mg "joined_move" s_joined_move ["first", "move"] f1 fd1) (D_answered_move : Dn K mg "answered_move" s_answered_move ["move", "moves"] f2 fd2) :
    ∀ l m n : Nat, FnOk P w K mg base CX0 (2 * l + 2 * m + n + 1) f fd ["first", "second"] (spJW K l m n) := by
  have no : ∀ {f : Addr} {fd : FuncData} {ps : List Str} k, FnOk P w K mg base CX0 k f fd ps (fun _ _ _ _ => False) := fun k => ⟨fun vs H Q E h => h.elim, fun A outer s H args us vs Q E _ _ _ _ h => h.elim⟩
  have moves : ∀ l, (∀ m n, FnOk P w K mg base CX0 (2 * l + 2 * m + n + 1) f fd ["first", "second"] (spJW K l m n)) → ∀ m n, FnOk P w K mg base CX0 (2 * l + 2 * m + n + 2) f1 fd1 ["first", "move"] (spJM K l m n) := by
    intro l jw m
    induction m with
    | zero => exact fun n => ok_joined_move1 (k := 2 * l + 2 * 0 + n + 1) D_joined_move B D_joined_wait (jw 0 n) D_answered_move (no _) (fun m' e => by omega)
    | succ m ih =>
      have am : ∀ n, FnOk P w K mg base CX0 (2 * l + 2 * m + n + 3) f2 fd2 ["move", "moves"] (spAM K l m n) := fun n => by
        induction n with
        | zero => exact ok_answered_move1 (k := 2 * l + 2 * m + 0 + 2) D_answered_move B D_joined_move (ih 0) (no _) (fun n' e => by omega)
        | succ n ihn => exact ok_answered_move1 (k := 2 * l + 2 * m + (n + 1) + 2) D_answered_move B D_joined_move (ih (n + 1)) (ihn.mono (by omega)) (fun n' e => by rw [show n' = n by omega])
      exact fun n => ok_joined_move1 (k := 2 * l + 2 * (m + 1) + n + 1) D_joined_move B D_joined_wait (jw (m + 1) n) D_answered_move ((am n).mono (by omega)) (fun m' e => by rw [show m' = m by omega])
  intro l
  induction l with
  | zero => exact fun m n => ok_joined_wait1 (k := 2 * 0 + 2 * m + n) D_joined_wait B D_joined_move (no _) (fun l' e => by omega)
  | succ l ih => exact fun m n => ok_joined_wait1 (k := 2 * (l + 1) + 2 * m + n) D_joined_wait B D_joined_move ((moves l ih m n).mono (by omega)) (fun l' e => by rw [show l' = l by omega])
end
end Tl
namespace Tl
open PySem PySem.Spec PyProof.Rows L2 RZ
def orS (a b : Sp) : Sp := fun vs H Q E => a vs H Q E ∨ b vs H Q E
def joinR {l m n : Nat} (x : Rat × Wt m n) (second : Bw l m) : Bw l n := second.map fun y => (x.1 * y.1, joinW l m n x.2 y.2)
def joinI {l m n : Nat} (x : Rat × Wt m n) (y : Rat × Wt l m) : Rat × Wt l n := (x.1 * y.1, joinW l m n x.2 y.2)
def spJoin (K : PySem.W.Frag) (C : Addr) (l m n : Nat) : Sp := fun vs H Q _ => ∃ (p p' p3 : Addr) (W : Nat) (v v' v3 va vb : V) (t : Nd n) (gs : Nd m) (ho : Nd l) (b1 : Bw m n) (b2 : Bw l m), vs = [.ref p, .ref p', .ref p3, va, vb] ∧ HsOk K C H p W n t v ∧ HsOk K C H p' W m gs v' ∧ HsOk K C H p3 W l ho v3 ∧ Td K H va (bwD m n b1) ∧ Td K H vb (bwD l m b2) ∧ BwOk m n t gs b1 ∧ BwOk l m gs ho b2 ∧ n ≤ 6 ∧ m ≤ 6 ∧
  ∀ r H', Same H H' → Td K H' r (bwD l n (joinB b1 b2)) → Q r H'
section
variable {P : Program} {w : World} {K : PySem.W.Frag} {mg : Str → Option Value} {base : Heap} {aN aO : Addr} {t1 t2 t3 t4 t5 t6 t7 : Tok}
theorem FnOk.orS {f : Addr} {fd : FuncData} {ps : List Str} {k : Nat} {a b : Sp} (ha : FnOk P w K mg base CX0 k f fd ps a) (hb : FnOk P w K mg base CX0 k f fd ps b) : FnOk P w K mg base CX0 k f fd ps (Tl.orS a b) :=
  ⟨fun vs H Q E q => q.elim (fun q => ha.len vs H Q E q) (fun q => hb.len vs H Q E q), fun A outer s H args us vs Q E hr e0 hb' rv q => q.elim (fun q => ha.run A outer s H args us vs Q E hr e0 hb' rv q) (fun q => hb.run A outer s H args us vs Q E hr e0 hb' rv q)⟩
theorem ok_joined {l m n k : Nat} {Cc fi fe f f1 f2 f3 f4 : Addr} {fd fd1 fd2 fd3 fd4 : FuncData} (D : Dn K mg "joined" s_joined ["house", "other", "third", "first", "second"] f fd) (B : Blt mg) (U : Hcl K mg Cc fi fe) (D_check_alike : Dn K mg "check_alike" s_check_alike ["house", "other"] f1 fd1)
    (D_check_between : Dn K mg "check_between" s_check_between ["house", "other", "thing"] f2 fd2) (G_check_between : FnOk P w K mg base CX0 k f2 fd2 ["house", "other", "thing"] (orS (spCkB K Cc m n) (spCkB K Cc l m)))
    (D_multiplied : Dn K mg "multiplied" s_multiplied ["first", "second"] f3 fd3) (G_multiplied : FnOk P w K mg base CX0 2 f3 fd3 ["first", "second"] (spMul K)) (D_joined_wait : Dn K mg "joined_wait" s_joined_wait ["first", "second"] f4 fd4) (G_joined_wait : FnOk P w K mg base CX0 k f4 fd4 ["first", "second"] (spJW K l m n)) (hk : 2 ≤ k) :
    FnOk P w K mg base CX0 (k + 1) f fd ["house", "other", "third", "first", "second"] (spJoin K Cc l m n) := by
  have G_check_alike : FnOk P w K mg base CX0 1 f1 fd1 ["house", "other"] (spAlike Cc) := ok_check_alike D_check_alike U
  refine D.F.ok sc_joined (fun vs H Q E h => ?_) (fun cdv A outer s H vs Q E hr h => ?_)
  · obtain ⟨p, p', p3, W, v, v', v3, va, vb, t, gs, ho, b1, b2, rfl, _⟩ := h
    rfl
  obtain ⟨p, p', p3, W, v, v', v3, va, vb, t, gs, ho, b1, b2, rfl, h1, h2, h3, ta, tb, ok1, ok2, hn, hm, q⟩ := h
  have nd := sc_joined.nd
  refine ⟨_, (pss_cons (ps_expr (pe_call G_check_alike (hr.mono (by omega)) (by rfl) D_check_alike.m D_check_alike.F.kp D_check_alike.b .nil pass0 (pa_cons (pv 0) (pa_cons (pv 1) pa_nil))))
      (pss_cons (ps_expr (pe_call G_check_alike (hr.mono (by omega)) (by rfl) D_check_alike.m D_check_alike.F.kp D_check_alike.b .nil pass0 (pa_cons (pv 1) (pa_cons (pv 2) pa_nil))))
      (pss_cons (ps_expr (pe_call G_check_between (hr.mono (by omega)) (by rfl) D_check_between.m D_check_between.F.kp D_check_between.b .nil pass0 (pa_cons (pv 0) (pa_cons (pv 1) (pa_cons (pv 3) pa_nil)))))
      (pss_cons (ps_expr (pe_call G_check_between (hr.mono (by omega)) (by rfl) D_check_between.m D_check_between.F.kp D_check_between.b .nil pass0 (pa_cons (pv 1) (pa_cons (pv 2) (pa_cons (pv 4) pa_nil)))))
      (pss_one (ps_ret (pe_callTy (k_tupOf (K := K) rfl) (by rfl) B.tuple (by decide +kernel) (pa_cons (pe_lc2 (own := [("share", 5), ("plan", 6), ("other_share", 7), ("other_plan", 8)]) (vs1 := [7, 8]) rfl nd (k_iT (K := K) rfl (pv 3)) (blkOk_by (own := [("share", 5), ("plan", 6), ("other_share", 7), ("other_plan", 8)]) (by kernel_rfl)) (by decide) (fun _ _ _ _ _ => (k_tup (K := K) (n := 2) rfl rfl (pgs_cons (pg_name (i := 5) nd rfl (.inl rfl)) (pgs_cons (pg_name (i := 6) nd rfl (.inl rfl)) pgs_nil)))) (fun _ _ _ _ _ => pts_nil) (fun _ _ _ _ _ => (k_iT (K := K) rfl (pv 4))) (fun _ _ _ _ _ => (k_tup (K := K) (n := 2) rfl rfl (pgs_cons (pg_name (i := 7) nd rfl (.inl rfl)) (pgs_cons (pg_name (i := 8) nd rfl (.inl rfl)) pgs_nil)))) (fun _ _ _ _ _ => pts_nil) (fun _ _ _ _ _ => (pe_tup (pa_cons (pe_call G_multiplied (hr.mono (by omega)) (by rfl) D_multiplied.m D_multiplied.F.kp D_multiplied.b .nil pass0 (pa_cons (pv 5) (pa_cons (pv 7) pa_nil))) (pa_cons (pe_call G_joined_wait (hr.mono (by omega)) (by rfl) D_joined_wait.m D_joined_wait.F.kp D_joined_wait.b .nil pass0 (pa_cons (pv 6) (pa_cons (pv 8) pa_nil))) pa_nil))))) pa_nil)))))))), ?_⟩
  refine ⟨_, rfl, _, rfl, p, p', W, v, v', rfl, h1.at_, h2.at_, ?_⟩
  refine ⟨_, rfl, _, rfl, p', p3, W, v', v3, rfl, h2.at_, h3.at_, ?_⟩
  refine ⟨_, rfl, _, rfl, _, rfl, .inl ⟨p, p', W, v, v', va, t, gs, b1, rfl, h1, h2, ta, ok1, hn, fun H1 s1 => ?_⟩⟩
  refine ⟨_, rfl, _, rfl, _, rfl, .inr ⟨p', p3, W, v', v3, vb, gs, ho, b2, rfl, h2.keep s1, h3.keep s1, tb.keep (Same.kt s1), ok2, hm, fun H2 s2 => ?_⟩⟩
  have s02 := s1.trans s2
  have ta := ta.keep (Same.kt s02)
  have tb := tb.keep (Same.kt s02)
  obtain ⟨ap, axs, rfl, hap, tax⟩ := ta.tupE
  obtain ⟨bp, bxs, rfl, hbp, tbx⟩ := tb.tupE
  have lax : axs.length = b1.length := by rw [tax.len, List.length_map]
  have lbx : bxs.length = b2.length := by rw [tbx.len, List.length_map]
  have m1 := ok1.most
  have m2 := ok2.most
  refine ⟨_, rfl, ap, rfl, ⟨_, hap⟩, fun T hT => ?_⟩
  have few : ∀ i, (((b1.take i).map fun x => b2.map fun y => joinI x y).flatten).length ≤ 100 := fun i => by
    have : ∀ l' : Bw m n, ((l'.map fun x => b2.map fun y => joinI x y).flatten).length = l'.length * b2.length := fun l' => by
      induction l' with
      | nil => exact (Nat.zero_mul _).symm
      | cons x r ih =>
        rw [List.map_cons, List.flatten_cons, List.length_append, ih, List.length_map, List.length_cons, Nat.succ_mul]
        omega
    rw [this, List.length_take]
    exact Nat.le_trans (Nat.mul_le_mul (show min i b1.length ≤ 10 by omega) (show b2.length ≤ 10 by omega)) (by decide)
  refine lc2_it (walk_tup (K := K) (a := ap) (xs := axs)) (fun i H3 => ∃ us, H3 T = some (.lst us) ∧ TdAll K H3 us ((((b1.take i).map fun x => b2.map fun y => joinI x y).flatten).map (bwI l n)) ∧ Same H2 H3) ⟨[], upd_same, .nil, same_upd hT⟩ (fun i H3 _ h => ?_) ?_ ?_ ?_ ?_ ?_
  · obtain ⟨_, _, _, s3⟩ := h
    exact Same.kt s3 _ _ hap
  · rintro i x H0 H3 hi ⟨us, h3', t3, s3⟩ ⟨rfl, e1⟩
    obtain ⟨dx, ex, tx⟩ := (tax.keep (Same.kt s3)).getV e1
    obtain ⟨x1, ex1, rfl⟩ := mapAt ex
    have mx := List.mem_of_getElem? ex1
    obtain ⟨pa, v0, v1, rfl, hpa, t0, t1'⟩ := td_two tx
    have eT : ((b1.take (i + 1)).map fun x => b2.map fun y => joinI x y).flatten = ((b1.take i).map fun x => b2.map fun y => joinI x y).flatten ++ b2.map fun y => joinI x1 y := by
      rw [List.take_add_one, ex1, List.map_append, List.flatten_append]
      show _ ++ (_ ++ []) = _
      rw [List.append_nil]
    refine ⟨pa, _, rfl, hpa, rfl, _, _, rfl, _, _, rfl, rfl, rfl, ?_⟩
    refine iteT (B := ∃ us, H3 T = some (.lst us) ∧ TdAll K H3 us ((((b1.take (i + 1)).map fun x => b2.map fun y => joinI x y).flatten).map (bwI l n)) ∧ Same H2 H3) ?_
    refine ⟨_, rfl, bp, rfl, ⟨_, Same.kt s3 _ _ hbp⟩, ?_⟩
    refine ⟨_, _, _, fun j H4 => ∃ us, H4 T = some (.lst us) ∧ TdAll K H4 us ((((b1.take i).map fun x => b2.map fun y => joinI x y).flatten ++ (b2.take j).map fun y => joinI x1 y).map (bwI l n)) ∧ Same H2 H4 ∧ KT K H3 H4, walk_tup (K := K) (a := bp) (xs := bxs), ⟨us, h3', by show TdAll K H3 us ((_ ++ []).map _); rw [List.append_nil]; exact t3, s3, KT.refl H3⟩, fun j H4 _ h => ?_, ?_, ?_⟩
    · obtain ⟨_, _, _, s4, _⟩ := h
      exact Same.kt s4 _ _ hbp
    · rintro H4 ⟨us4, h4, t4, s4, _⟩
      refine ⟨us4, h4, ?_, s4⟩
      rw [eT]
      rw [lbx, List.take_length] at t4
      exact t4
    · rintro j y H00 H4 hj ⟨us4, h4, t4, s4, k4⟩ ⟨rfl, g1⟩
      obtain ⟨dy, ey, ty⟩ := (tbx.keep (Same.kt s4)).getV g1
      obtain ⟨y1, ey1, rfl⟩ := mapAt ey
      have my := List.mem_of_getElem? ey1
      obtain ⟨pb, u0, u1, rfl, hpb, tu0, tu1⟩ := td_two ty
      refine ⟨pb, _, rfl, hpb, rfl, _, _, rfl, _, _, rfl, rfl, rfl, ?_⟩
      refine iteT (B := ∃ us, H4 T = some (.lst us) ∧ TdAll K H4 us ((((b1.take i).map fun x => b2.map fun y => joinI x y).flatten ++ (b2.take (j + 1)).map fun y => joinI x1 y).map (bwI l n)) ∧ Same H2 H4 ∧ KT K H3 H4) ?_
      have c1 := (ok1.ch x1 mx).1
      have c2 := (ok2.ch y1 my).1
      refine ⟨_, rfl, _, rfl, v0, u0, x1.1, y1.1, rfl, t0.keep k4, tu0, c1.fd.sm (by decide) (by decide), c2.fd.sm (by decide) (by decide), fun vm H5 s5 tm => ?_⟩
      refine ⟨_, rfl, _, rfl, W, v1, u1, t, gs, ho, x1.2, y1.2, ones W, ones W, ones W, rfl, t1'.keep (k4.trans (Same.kt s5)), tu1.keep (Same.kt s5), ok1.ok x1 mx, ok2.ok y1 my, h1.ok, h2.ok, h3.ok, fun r H6 s6 t6 => ?_⟩
      refine ⟨by show 2 ≤ sizeLine; decide, fun p7 n7 => ?_⟩
      have s7 : Same H6 (upd H6 p7 (.tup [vm, r])) := same_upd n7
      have s47 := s5.trans (s6.trans s7)
      have h7 := s47 _ _ h4
      have kT : KT K (upd H6 p7 (.tup [vm, r])) (upd (upd H6 p7 (.tup [vm, r])) T (.lst (us4 ++ [.ref p7]))) := KT.updL h7
      have k47 : KT K H4 (upd (upd H6 p7 (.tup [vm, r])) T (.lst (us4 ++ [.ref p7]))) := (Same.kt s47).trans kT
      refine ⟨us4, h7, ?_, us4 ++ [.ref p7], upd_same, ?_, fun c o z => ?_, k4.trans k47⟩
      · rw [t4.len, List.length_map, List.length_append, List.length_map, List.length_take]
        have := few i
        exact small1000 (by omega)
      · have eJ : (b2.take (j + 1)).map (fun y => joinI x1 y) = (b2.take j).map (fun y => joinI x1 y) ++ [joinI x1 y1] := by
          rw [List.take_add_one, ey1, List.map_append]
          rfl
        rw [eJ, ← List.append_assoc, List.map_append]
        exact (t4.keep k47).app (.cons (.tup (kT _ _ (.inl (.inl upd_same))) (.cons (tm.keep ((Same.kt (s6.trans s7)).trans kT)) (.cons (t6.keep ((Same.kt s7).trans kT)) .nil))) .nil)
      · rw [upd_ne (ne_of_none z hT)]
        exact s47 _ _ (s4 _ _ z)
  · rintro H3 ⟨us, h3', t3, s3⟩
    rw [lax, List.take_length] at t3
    exact ⟨T, us, rfl, SqL.of h3', fun r H4 s4 q4 => q (.ref r) H4 (s02.trans (s3.trans s4)) (.tup q4 (t3.keep (Same.kt s4)))⟩
  · rintro x σ H Q Q' h ⟨a, xs, e1, e2, e3, v1, r1, e4, v2, r2, e5, e6, z⟩
    exact ⟨a, xs, e1, e2, e3, v1, r1, e4, v2, r2, e5, e6, h _ _ z⟩
  · intro σ H Q Q' h z
    exact h _ _ z
  · rintro σ H Q Q' h ⟨x, hx, a', e', z1, z2⟩
    exact ⟨x, hx, a', e', z1, h _ _ z2⟩
end
end Tl
namespace Tl
open PySem PySem.Spec PyProof.Rows L2 RZ
/-! ### the law's own judges, on what is right -/
theorem lc_all {K : PySem.W.Frag} {J : It} {n : Nat} {G : Hp → Prop} {Y : Nat → Hp → V → Hp → Prop} (w : Walk J n G Y) {g : TG} {tt : TT} {te : TE} {vs : List Nat} {σ : L2.St} {H : Hp} {T : Addr} {Qd : Hp → Prop} (hn : n ≤ 900) (hT : H T = none) (hG : ∀ H', Same H H' → G H')
    (hs : ∀ (i : Nat) (x : V) (H2 H3 : Hp) (Qy : V → Hp → Prop) (N : Hp → Prop), i < n → Same H H2 → Y i H2 x H3 → (∀ H5, Same H2 H5 → Qy (.bl true) H5) → g x (wipe σ vs) H3 fun σ2 H4 => wipe σ2 vs = wipe σ vs ∧ tt σ2 H4 fun b H5 => if b = true then te σ2 H5 Qy else N H5)
    (hd : ∀ H2, H2 T = some (.lst ((List.replicate n true).map V.bl)) → Same H H2 → Qd H2) :
    ∃ W : Nat → Nat → Hp → Prop, (∃ m, W 0 m (upd H T (.lst []))) ∧ ∀ i m H, W i m H →
      (J.stop i H ∧ Qd H) ∨ (J.go i H ∧ ∃ Nx : Hp → Prop, (∀ H', Nx H' → ∃ m', m' < m ∧ W (i + 1) m' H') ∧ ∀ x H', J.yld i H x H' → g x (wipe σ vs) H' fun σ2 H2 => wipe σ2 vs = wipe σ vs ∧ tt σ2 H2 fun b H3 =>
        if b = true then te σ2 H3 fun y H4 => ∃ acc, H4 T = some (.lst acc) ∧ acc.length < sizeLine ∧ Nx (upd H4 T (.lst (acc ++ [y]))) else Nx H3) := by
  refine lc_it w (fun i H2 => H2 T = some (.lst ((List.replicate i true).map V.bl)) ∧ Same H H2) ⟨upd_same, same_upd hT⟩ (fun i H2 _ h => hG _ h.2) ?_ ?_
  · rintro i x H2 H3 hi ⟨h2, s2⟩ y
    refine hs i x H2 H3 _ _ hi s2 y fun H5 s5 => ?_
    refine ⟨_, s5 _ _ h2, ?_, ?_, fun c o z => ?_⟩
    · rw [List.length_map, List.length_replicate]
      exact small1000 (by omega)
    · rw [upd_same, ← rep_snoc, List.map_append]
      rfl
    · rw [upd_ne (ne_of_none z hT)]
      exact s5 _ _ (s2 _ _ z)
  · rintro H2 ⟨h2, s2⟩
    exact hd H2 h2 s2
def spLTot (K : PySem.W.Frag) : Sp := fun vs H Q _ => ∃ (r : Addr) (us : List V) (rs : List Rat) (k m : Nat), vs = [.ref r] ∧ SqL K H r us ∧ TdAll K H us (rs.map rD) ∧ (∀ x ∈ rs, Fd k m x) ∧ k ≤ 15 ∧ rs.length * m ≤ 2 ^ 100 ∧ m ≤ 2 ^ 100 ∧ ∀ v H', Same H H' → Td K H' v (rD (fsum rs)) → Q v H'
def spJI : Sp := fun vs H Q _ => ∃ i a b : Int, vs = [.int i, .int a, .int b] ∧ a ≤ i ∧ i ≤ b ∧ Q (.bl true) H
def spJF (K : PySem.W.Frag) : Sp := fun vs H Q _ => ∃ (v : V) (r : Rat), vs = [v] ∧ Td K H v (rD r) ∧ ∀ H', Same H H' → Q (.bl true) H'
def spJWt (K : PySem.W.Frag) (m n : Nat) : Sp := fun vs H Q _ => ∃ (W : Nat) (vh vg vt : V) (ah ah' : List Rat) (t : Nd n) (gs : Nd m) (wt : Wt m n), vs = [vh, vg, vt] ∧ Td K H vh (ndD n t) ∧ Td K H vg (ndD m gs) ∧ Td K H vt (waitD m n wt) ∧ WtOk m n t gs wt ∧ NdOk W n ah t ∧ NdOk W m ah' gs ∧ ∀ H', Same H H' → Q (.bl true) H'
def spJMv (K : PySem.W.Frag) (m n : Nat) : Sp := fun vs H Q _ => ∃ (W : Nat) (vh vq vm : V) (ah ah' : List Rat) (t : Nd n) (q : Qn m) (mv : Mv m n), vs = [vh, vq, vm] ∧ Td K H vh (ndD n t) ∧ Td K H vq (qnD m q) ∧ Td K H vm (mvD (waitD m) n mv) ∧ MvOk (WtOk m) n t q mv ∧ NdOk W n ah t ∧ QnOk W ah' q ∧ (∀ an ∈ q, NdOk W m an.2.1 an.2.2) ∧ ∀ H', Same H H' → Q (.bl true) H'
def spJB (K : PySem.W.Frag) (m n : Nat) : Sp := fun vs H Q _ => ∃ (W : Nat) (vh vg vb : V) (ah ah' : List Rat) (t : Nd n) (gs : Nd m) (bs : Bw m n), vs = [vh, vg, vb] ∧ Td K H vh (ndD n t) ∧ Td K H vg (ndD m gs) ∧ Td K H vb (bwD m n bs) ∧ BwOk m n t gs bs ∧ NdOk W n ah t ∧ NdOk W m ah' gs ∧ ∀ H', Same H H' → Q (.bl true) H'
section
variable {P : Program} {w : World} {K : PySem.W.Frag} {mg : Str → Option Value} {base : Heap} {aN aO : Addr} {t1 t2 t3 t4 t5 t6 t7 : Tok}
theorem ok_law_total {f f1 : Addr} {fd fd1 : FuncData} (D : Dn K mg "_law_total" s_law_total ["some"] f fd) (B : Blt mg) (C : Cst K mg aN aO t1 t2 t3 t4 t5 t6 t7)
    (D_law_plus : Dn K mg "_law_plus" s_law_plus ["one", "other"] f1 fd1) (G_law_plus : FnOk P w K mg base CX0 3 f1 fd1 ["one", "other"] (spPlus K)) : FnOk P w K mg base CX0 4 f fd ["some"] (spLTot K) := by
  refine D.F.ok sc_law_total (fun vs H Q E h => ?_) (fun cdv A outer s H vs Q E hr h => ?_)
  · obtain ⟨r, us, rs, k, m, rfl, _⟩ := h
    rfl
  obtain ⟨r, us, rs, k, m, rfl, hS, tS, hfd, hk, hm, hm1, q⟩ := h
  have nd := sc_law_total.nd
  refine ⟨_, (pss_cons (ps_set (i := 1) nd rfl (.inl rfl) (pe_tup (pa_cons pe_int (pa_cons pe_int pa_nil))))
      (pss_cons (ps_for PassesOwn.never rfl (k_iL (K := K) rfl (pv 0)) (pg_name (i := 2) nd rfl (.inl rfl)) (pss_one (ps_set (i := 1) nd rfl (.inl rfl) (pe_call G_law_plus (hr.mono (by omega)) (by rfl) D_law_plus.m D_law_plus.F.kp D_law_plus.b .nil pass0 (pa_cons (pv 1) (pa_cons (pv 2) pa_nil))))))
      (pss_one (ps_ret (pv 1))))), ?_⟩
  have lu : us.length = rs.length := by rw [tS.len, List.length_map]
  refine ⟨by show 2 ≤ sizeLine; decide, fun p0 n0 => ?_⟩
  have s0 := same_upd (o := .tup [.int 0, .int 1]) n0
  have z0 : Td K (upd H p0 (.tup [.int 0, .int 1])) (.ref p0) (rD (fsum (rs.take 0))) := by
    rw [List.take_zero, fsum_nil]
    exact rat0_td (.inl (.inl upd_same))
  refine ⟨_, rfl, r, rfl, ⟨_, s0.seq hS⟩, for_list (K := K) (a := r) (xs := us) (fun i σ H2 => ∃ (v : V) (o2 : Option V), σ = [some (.ref r), some v, o2] ∧ Td K H2 v (rD (fsum (rs.take i))) ∧ Same H H2) ⟨_, none, rfl, z0, s0⟩ (fun i σ H2 _ h => ?_) ?_ ?_⟩
  · obtain ⟨_, _, _, _, s2⟩ := h
    exact s2.seq hS
  · rintro i x σ H2 hi ⟨v, o2, rfl, tv, s2⟩
    obtain ⟨dx, ex, tx⟩ := tS.getV hi
    obtain ⟨x', er, rfl⟩ := mapAt ex
    have hx := hfd x' (List.mem_of_getElem? er)
    have hi2 : i < rs.length := (List.getElem?_eq_some_iff.mp er).1
    have hp : Fd k (i * m) (fsum (rs.take i)) := by
      have := fd_sum (rs := rs.take i) fun z hz => hfd z (List.mem_of_mem_take hz)
      rw [List.length_take, Nat.min_eq_left (by omega)] at this
      exact this
    have b1 : i * m ≤ 2 ^ 100 := Nat.le_trans (Nat.mul_le_mul_right m (by omega)) hm
    refine ⟨_, rfl, _, rfl, v, x, fsum (rs.take i), x', rfl, tv, tx.keep (Same.kt s2), hp.sm hk b1, hx.sm hk hm1, fun v2 H3 s3 tv2 => ⟨v2, _, rfl, ?_, s2.trans s3⟩⟩
    rw [List.take_add_one, er]
    show Td K H3 v2 (rD (fsum (rs.take i ++ [x'])))
    rw [fsum_snoc]
    exact tv2
  · rintro σ H2 ⟨v, o2, rfl, tv, s2⟩
    rw [lu, List.take_length] at tv
    exact ⟨_, rfl, q v H2 s2 tv⟩
theorem ok_law_is_int {f : Addr} {fd : FuncData} (D : Dn K mg "_law_is_int" s_law_is_int ["thing", "least", "most"] f fd) (B : Blt mg) : FnOk P w K mg base CX0 1 f fd ["thing", "least", "most"] spJI := by
  refine D.F.ok sc_law_is_int (fun vs H Q E h => ?_) (fun cdv A outer s H vs Q E hr h => ?_)
  · obtain ⟨i, a, b, rfl, _⟩ := h
    rfl
  obtain ⟨i, a, b, rfl, h1, h2, q⟩ := h
  have nd := sc_law_is_int.nd
  refine ⟨_, (pss_one (ps_ret (pe_and (pe_callB (k_isi (K := K) rfl) (by rfl) B.isinstance (by decide +kernel) (pa_cons (pv 0) (pa_cons (pe_bltn (v := .ty "int") (u := .type "int") (by rfl) B.int (by decide +kernel) rfl) pa_nil))) (pe_and (pe_not (pe_callB (k_isi (K := K) rfl) (by rfl) B.isinstance (by decide +kernel) (pa_cons (pv 0) (pa_cons (pe_bltn (v := .ty "bool") (u := .type "bool") (by rfl) B.bool (by decide +kernel) rfl) pa_nil)))) (pe_one (pe_chain op_le op_le (pv 1) (pv 0) (pv 2))))))), ?_⟩
  refine ⟨_, rfl, _, _, _, _, true, rfl, .ty "int", .base (.int i), kit_ty (by decide +kernel), _, rfl, ?_⟩
  refine iteT ?_
  refine ⟨_, rfl, _, _, _, _, false, rfl, .ty "bool", .base (.int i), kit_ty (by decide +kernel), _, rfl, _, rfl, ?_⟩
  refine iteT ?_
  refine ⟨_, rfl, _, rfl, _, _, rfl, rfl, _, rfl, ?_⟩
  rw [decide_eq_true h1]
  refine iteT ⟨_, rfl, _, _, rfl, rfl, ?_⟩
  show Q (.bl (decide (i ≤ b))) H
  rw [decide_eq_true h2]
  exact q
theorem ok_law_is_fraction {f f1 : Addr} {fd fd1 : FuncData} (D : Dn K mg "_law_is_fraction" s_law_is_fraction ["thing"] f fd) (B : Blt mg) (D_law_common : Dn K mg "_law_common" s_law_common ["one", "other"] f1 fd1) (G_law_common : FnOk P w K mg base CX0 1 f1 fd1 ["one", "other"] spCommon) : FnOk P w K mg base CX0 2 f fd ["thing"] (spJF K) := by
  refine D.F.ok sc_law_is_fraction (fun vs H Q E h => ?_) (fun cdv A outer s H vs Q E hr h => ?_)
  · obtain ⟨v, r, rfl, _⟩ := h
    rfl
  obtain ⟨v, r, rfl, hv, q⟩ := h
  have nd := sc_law_is_fraction.nd
  refine ⟨_, (pss_cons (ps_if (PW.pt (pw_or (pt_not (pt_val (pe_callB (k_isi (K := K) rfl) (by rfl) B.isinstance (by decide +kernel) (pa_cons (pv 0) (pa_cons (pe_bltn (v := .ty "tuple") (u := .type "tuple") (by rfl) B.tuple (by decide +kernel) rfl) pa_nil))))) (pw_or1 (pt_cmpR op_ne (pe_callB (k_len (K := K) rfl) (by rfl) B.len PySem.boot_len (pa_cons (pv 0) pa_nil)) pe_int (nomark _))))) (pss_one (ps_ret pe_bl)) pss_nil)
      (pss_cons (ps_if (pt_not (pt_val (pe_callB (k_all (K := K) rfl rfl) (by rfl) B.all (by decide +kernel) (pa_cons (pe_lc (own := [("part", 1)]) rfl nd (k_iT (K := K) rfl (pv 0)) (blkOk_by (own := [("part", 1)]) (by kernel_rfl)) (fun _ _ _ _ _ => (pg_name (i := 1) nd rfl (.inl rfl))) (fun _ _ _ _ _ => pts_nil) (fun _ _ _ _ _ => (pe_and (pe_callB (k_isi (K := K) rfl) (by rfl) B.isinstance (by decide +kernel) (pa_cons (pv 1) (pa_cons (pe_bltn (v := .ty "int") (u := .type "int") (by rfl) B.int (by decide +kernel) rfl) pa_nil))) (pe_one (pe_not (pe_callB (k_isi (K := K) rfl) (by rfl) B.isinstance (by decide +kernel) (pa_cons (pv 1) (pa_cons (pe_bltn (v := .ty "bool") (u := .type "bool") (by rfl) B.bool (by decide +kernel) rfl) pa_nil)))))))) pa_nil)))) (pss_one (ps_ret pe_bl)) pss_nil)
      (pss_one (ps_ret (pe_and (pe_cmpR op_gt (pe_ix (k_ixT (K := K) rfl) (pv 0) pe_int (fun _ _ => rfl)) pe_int (nomark _)) (pe_one (pe_cmpR op_eq (pe_call G_law_common (hr.mono (by omega)) (by rfl) D_law_common.m D_law_common.F.kp D_law_common.b .nil pass0 (pa_cons (pe_callB call_abs (by rfl) B.abs (by decide +kernel) (pa_cons (pe_ix (k_ixT (K := K) rfl) (pv 0) pe_int (fun _ _ => rfl)) pa_nil)) (pa_cons (pe_ix (k_ixT (K := K) rfl) (pv 0) pe_int (fun _ _ => rfl)) pa_nil))) pe_int (nomark _)))))))), ?_⟩
  obtain ⟨a, rfl, hs⟩ := hv.rE
  refine ⟨_, rfl, _, _, _, _, true, rfl, .ty "tuple", tyx_tup hs, kit_ty (by decide +kernel), _, rfl, iteF ?_⟩
  refine ⟨_, rfl, a, _, rfl, .inr hs, rfl, _, rfl, iteF ?_⟩
  refine ⟨_, rfl, a, rfl, ⟨_, hs⟩, fun T hT => ?_⟩
  refine lc_all (K := K) (walk_tup (K := K) (a := a) (xs := [.int r.num, .int (r.den : Int)])) (by show 2 ≤ 900; decide) hT (fun H' s => Same.kt s _ _ hs) ?_ ?_
  · rintro i x H0 H3 Qy N hi s3 ⟨rfl, e1⟩ hQ
    have hx : ∃ z : Int, x = .int z := by
      have hi2 : i < 2 := hi
      match i, hi2, e1 with
      | 0, _, e1 => exact ⟨_, (Option.some.inj e1).symm⟩
      | 1, _, e1 => exact ⟨_, (Option.some.inj e1).symm⟩
    obtain ⟨z, rfl⟩ := hx
    refine ⟨rfl, ?_⟩
    refine iteT (B := N H3) ?_
    refine ⟨_, rfl, _, _, _, _, true, rfl, .ty "int", .base (.int z), kit_ty (by decide +kernel), _, rfl, ?_⟩
    exact iteT ⟨_, rfl, _, _, _, _, false, rfl, .ty "bool", .base (.int z), kit_ty (by decide +kernel), _, rfl, hQ H3 (Same.refl _)⟩
  intro H2 h2 s2
  have hs2 := Same.kt (K := K) s2 _ _ hs
  refine ⟨T, _, rfl, SqL.of h2, ?_⟩
  rw [all_rep]
  refine ⟨_, rfl, iteF ?_⟩
  have hd : 0 < r.den := Nat.pos_of_ne_zero r.den_nz
  refine ⟨_, rfl, a, _, 1, _, rfl, rfl, hs2, at_of (j := 1) rfl rfl, _, _, rfl, rfl, _, rfl, ?_⟩
  rw [decide_eq_true (show (r.den : Int) > 0 by omega)]
  refine iteT ?_
  refine ⟨_, rfl, a, _, 0, _, rfl, rfl, hs2, at_of (j := 0) rfl rfl, _, rfl, _, rfl, a, _, 1, _, rfl, rfl, hs2, at_of (j := 1) rfl rfl, _, _, rfl, by omega, by omega, ?_⟩
  have hg : (if r.num < 0 then -r.num else r.num).toNat.gcd ((r.den : Int)).toNat = 1 := by
    have e1 : (if r.num < 0 then -r.num else r.num).toNat = r.num.natAbs := by split <;> omega
    rw [e1, Int.toNat_natCast]
    exact r.reduced
  refine ⟨rfl, ?_⟩
  show Q (.bl (decide (V.int (((if r.num < 0 then -r.num else r.num).toNat.gcd ((r.den : Int)).toNat : Nat) : Int) = V.int 1))) H2
  rw [hg]
  exact q H2 s2
theorem ok_law_is_wait1 {m n k : Nat} {f f1 : Addr} {fd fd1 : FuncData} (D : Dn K mg "_law_is_wait" s_law_is_wait ["here", "goal", "thing"] f fd) (B : Blt mg) (D_law_is_move : Dn K mg "_law_is_move" s_law_is_move ["here", "question", "thing"] f1 fd1) {sp0 : Sp} (G_law_is_move : FnOk P w K mg base CX0 k f1 fd1 ["here", "question", "thing"] sp0) (hsp : ∀ m', m = m' + 1 → sp0 = spJMv K m' n) :
    FnOk P w K mg base CX0 (k + 1) f fd ["here", "goal", "thing"] (spJWt K m n) := by
  refine D.F.ok sc_law_is_wait (fun vs H Q E h => ?_) (fun cdv A outer s H vs Q E hr h => ?_)
  · obtain ⟨W, vh, vg, vt, ah, ah', t, gs, wt, rfl, _⟩ := h
    rfl
  obtain ⟨W, vh, vg, vt, ah, ah', t, gs, wt, rfl, th, tg, tt, wok, hok, gok, q⟩ := h
  have nd := sc_law_is_wait.nd
  refine ⟨_, (pss_cons (ps_if (PW.pt (pw_or (pt_not (pt_val (pe_callB (k_isi (K := K) rfl) (by rfl) B.isinstance (by decide +kernel) (pa_cons (pv 2) (pa_cons (pe_bltn (v := .ty "tuple") (u := .type "tuple") (by rfl) B.tuple (by decide +kernel) rfl) pa_nil))))) (pw_or1 (pt_cmpR op_ne (pe_callB (k_len (K := K) rfl) (by rfl) B.len PySem.boot_len (pa_cons (pv 2) pa_nil)) (pe_callB (k_len (K := K) rfl) (by rfl) B.len PySem.boot_len (pa_cons (pv 1) pa_nil)) (nomark _))))) (pss_one (ps_ret pe_bl)) pss_nil)
      (pss_one (ps_ret (pe_callB (k_all (K := K) rfl rfl) (by rfl) B.all (by decide +kernel) (pa_cons (pe_lc (own := [("k", 3)]) rfl nd (pi_range1 (by rfl) B.range (pa_cons (pe_callB (k_len (K := K) rfl) (by rfl) B.len PySem.boot_len (pa_cons (pv 1) pa_nil)) pa_nil)) (blkOk_by (own := [("k", 3)]) (by kernel_rfl)) (fun _ _ _ _ _ => (pg_name (i := 3) nd rfl (.inl rfl))) (fun _ _ _ _ _ => pts_nil) (fun _ _ _ _ _ => (pe_call G_law_is_move (hr.mono (by omega)) (by rfl) D_law_is_move.m D_law_is_move.F.kp D_law_is_move.b .nil pass0 (pa_cons (pv 0) (pa_cons (pe_ix (k_ixT (K := K) rfl) (pv 1) (pv 3) (fun _ _ => rfl)) (pa_cons (pe_ix (k_ixT (K := K) rfl) (pv 2) (pv 3) (fun _ _ => rfl)) pa_nil)))))) pa_nil))))), ?_⟩
  obtain ⟨b, ys, ds, rfl, hb, ed, ty, l0⟩ := td_qs tg
  obtain ⟨a, xs, N, rfl, ha, lx, ly, l5, each⟩ : ∃ (a : Addr) (xs : List V) (N : Nat), vt = .ref a ∧ SqT K H a xs ∧ xs.length = N ∧ ys.length = N ∧ N ≤ 5 ∧ ∀ i, i < N → ∃ x y, xs[i]? = some x ∧ ys[i]? = some y ∧ ∀ H2 Q' E', Same H H2 → (∀ H', Same H2 H' → Q' (.bl true) H') → sp0 [vh, y, x] H2 Q' E' := by
    cases m with
    | zero =>
      obtain ⟨a, xs, rfl, ha, tx⟩ := Td.tupE (show Td K H vt (.tuple []) from tt)
      cases tx
      have := l0 rfl
      subst this
      exact ⟨a, [], 0, rfl, ha, rfl, rfl, by omega, fun i hi => absurd hi (Nat.not_lt_zero _)⟩
    | succ m =>
      have hsp := hsp m rfl
      subst hsp
      obtain ⟨gl, hgl⟩ : ∃ gl : List (Qn m), (gl : Nd (m + 1)) = gs := ⟨gs, rfl⟩
      obtain ⟨wl, hwl⟩ : ∃ wl : List (Mv m n), (wl : Wt (m + 1) n) = wt := ⟨wt, rfl⟩
      subst hgl hwl
      cases ed
      obtain ⟨a, xs, rfl, ha, tx⟩ := Td.tupE (show Td K H vt (.tuple (wl.map (mvD (waitD m) n))) from tt)
      have wok' : Al (fun (q : Qn m) (y : Mv m n) => MvOk (WtOk m) n t q y) gl wl := wok
      have ll := wok'.len
      have g5 : gl.length ≤ 5 := gok.1
      have ly : ys.length = gl.length := by rw [ty.len, List.length_map]
      have lx : xs.length = gl.length := by rw [tx.len, List.length_map, ll]
      refine ⟨a, xs, gl.length, rfl, ha, lx, ly, g5, fun i hi => ?_⟩
      obtain ⟨qq, eq⟩ : ∃ qq, gl[i]? = some qq := ⟨_, List.getElem?_eq_getElem hi⟩
      obtain ⟨mv, em, okm⟩ := wok'.get eq
      obtain ⟨y, ey, tyy⟩ := ty.get (i := i) (d := qnD m qq) (by show (List.map (qnD m) gl)[i]? = _; rw [List.getElem?_map, eq]; rfl)
      obtain ⟨x, ex, txx⟩ := tx.get (i := i) (d := mvD (waitD m) n mv) (by rw [List.getElem?_map, em]; rfl)
      obtain ⟨qok, nk⟩ := gok.2 qq (List.mem_of_getElem? eq)
      exact ⟨x, y, ex, ey, fun H2 Q' E' s2 q' => ⟨W, vh, y, x, ah, ah', t, qq, mv, rfl, th.keep (Same.kt s2), tyy.keep (Same.kt s2), txx.keep (Same.kt s2), okm, hok, qok, nk, q'⟩⟩
  refine ⟨_, rfl, _, _, _, _, true, rfl, .ty "tuple", tyx_tup ha, kit_ty (by decide +kernel), _, rfl, iteF ?_⟩
  refine ⟨_, rfl, a, _, rfl, .inr ha, _, rfl, b, _, rfl, .inr hb, rfl, _, rfl, ?_⟩
  rw [lx, ly, decide_eq_true rfl]
  refine iteF ?_
  refine ⟨_, rfl, b, ys, rfl, .inr hb, _, rfl, by omega, by omega, fun T hT => ?_⟩
  refine lc_all (K := K) (walk_range (lo := 0) (n := ys.length)) (by omega) hT (fun _ _ => trivial) ?_ ?_
  · rintro i z H0 H3 Qy N' hi s3 ⟨rfl, rfl⟩ hQ
    have ek : (0 : Int) + (i : Int) = (i : Int) := by omega
    obtain ⟨x, y, ex, ey, go⟩ := each i (by omega)
    refine ⟨rfl, ?_⟩
    refine iteT (B := N' H3) ?_
    exact ⟨_, rfl, _, rfl, _, rfl, b, ys, _, y, rfl, rfl, Same.kt s3 _ _ hb, (by rw [ek]; exact atI_nat ey), _, rfl, _, rfl, a, xs, _, x, rfl, rfl, Same.kt s3 _ _ ha, (by rw [ek]; exact atI_nat ex), go H3 Qy _ s3 hQ⟩
  intro H2 h2 s2
  refine ⟨T, _, rfl, SqL.of h2, ?_⟩
  rw [all_rep]
  exact q H2 s2
theorem ok_law_is_move1 {m n k : Nat} {f f1 f2 : Addr} {fd fd1 fd2 : FuncData} (D : Dn K mg "_law_is_move" s_law_is_move ["here", "question", "thing"] f fd) (B : Blt mg) (BS : mg "str" = none) (D_law_is_int : Dn K mg "_law_is_int" s_law_is_int ["thing", "least", "most"] f1 fd1) (G_law_is_int : FnOk P w K mg base CX0 1 f1 fd1 ["thing", "least", "most"] spJI)
    (D_law_is_wait : Dn K mg "_law_is_wait" s_law_is_wait ["here", "goal", "thing"] f2 fd2) (G_law_is_wait : FnOk P w K mg base CX0 k f2 fd2 ["here", "goal", "thing"] (spJWt K m n)) {sp0 : Sp} (G_law_is_move : FnOk P w K mg base CX0 k f fd ["here", "question", "thing"] sp0) (hsp : ∀ n', n = n' + 1 → sp0 = spJMv K m n') (hk : 1 ≤ k) :
    FnOk P w K mg base CX0 (k + 1) f fd ["here", "question", "thing"] (spJMv K m n) := by
  refine D.F.ok sc_law_is_move (fun vs H Q E h => ?_) (fun cdv A outer s H vs Q E hr h => ?_)
  · obtain ⟨W, vh, vq, vm, ah, ah', t, q, mv, rfl, _⟩ := h
    rfl
  obtain ⟨W, vh, vq, vm, ah, ah', t, qn, mv, rfl, th, tq, tm, mok, hok, qok, nok, q⟩ := h
  have nd := sc_law_is_move.nd
  have D_law_is_move := D
  refine ⟨_, (pss_cons (ps_if (PW.pt (pw_or (pt_not (pt_val (pe_callB (k_isi (K := K) rfl) (by rfl) B.isinstance (by decide +kernel) (pa_cons (pv 2) (pa_cons (pe_bltn (v := .ty "tuple") (u := .type "tuple") (by rfl) B.tuple (by decide +kernel) rfl) pa_nil))))) (pw_or (pt_cmpR op_ne (pe_callB (k_len (K := K) rfl) (by rfl) B.len PySem.boot_len (pa_cons (pv 2) pa_nil)) pe_int (nomark _)) (pw_or1 (pt_not (pt_val (pe_callB (k_isi (K := K) rfl) (by rfl) B.isinstance (by decide +kernel) (pa_cons (pe_ix (k_ixT (K := K) rfl) (pv 2) pe_int (fun _ _ => rfl)) (pa_cons (pe_bltn (v := .ty "str") (u := .type "str") (by rfl) BS (by decide +kernel) rfl) pa_nil))))))))) (pss_one (ps_ret pe_bl)) pss_nil)
      (pss_cons (ps_if (pt_cmpR op_eq (pe_ix (k_ixT (K := K) rfl) (pv 2) pe_int (fun _ _ => rfl)) pe_str (nomark _)) (pss_one (ps_ret (pe_and (pe_call G_law_is_int (hr.mono (by omega)) (by rfl) D_law_is_int.m D_law_is_int.F.kp D_law_is_int.b .nil pass0 (pa_cons (pe_ix (k_ixT (K := K) rfl) (pv 2) pe_int (fun _ _ => rfl)) (pa_cons pe_int (pa_cons (pe_op op_sub (pe_callB (k_len (K := K) rfl) (by rfl) B.len PySem.boot_len (pa_cons (pv 1) pa_nil)) pe_int) pa_nil)))) (pe_one (pe_call G_law_is_wait (hr.mono (by omega)) (by rfl) D_law_is_wait.m D_law_is_wait.F.kp D_law_is_wait.b .nil pass0 (pa_cons (pv 0) (pa_cons (pe_ix (k_ixT (K := K) rfl) (pe_ix (k_ixT (K := K) rfl) (pv 1) (pe_ix (k_ixT (K := K) rfl) (pv 2) pe_int (fun _ _ => rfl)) (fun _ _ => rfl)) pe_int (fun _ _ => rfl)) (pa_cons (pe_ix (k_ixT (K := K) rfl) (pv 2) pe_int (fun _ _ => rfl)) pa_nil)))))))) pss_nil)
      (pss_cons (ps_if (PW.pt (pw_or (pt_cmpR op_ne (pe_ix (k_ixT (K := K) rfl) (pv 2) pe_int (fun _ _ => rfl)) pe_str (nomark _)) (pw_or1 (pt_not (pt_val (pe_call G_law_is_int (hr.mono (by omega)) (by rfl) D_law_is_int.m D_law_is_int.F.kp D_law_is_int.b .nil pass0 (pa_cons (pe_ix (k_ixT (K := K) rfl) (pv 2) pe_int (fun _ _ => rfl)) (pa_cons pe_int (pa_cons (pe_op op_sub (pe_callB (k_len (K := K) rfl) (by rfl) B.len PySem.boot_len (pa_cons (pv 0) pa_nil)) pe_int) pa_nil))))))))) (pss_one (ps_ret pe_bl)) pss_nil)
      (pss_cons (ps_set (i := 3) nd rfl (.inr rfl) (pe_ix (k_ixT (K := K) rfl) (pv 0) (pe_ix (k_ixT (K := K) rfl) (pv 2) pe_int (fun _ _ => rfl)) (fun _ _ => rfl)))
      (pss_cons (ps_if (PW.pt (pw_or (pt_not (pt_val (pe_callB (k_isi (K := K) rfl) (by rfl) B.isinstance (by decide +kernel) (pa_cons (pe_ix (k_ixT (K := K) rfl) (pv 2) pe_int (fun _ _ => rfl)) (pa_cons (pe_bltn (v := .ty "tuple") (u := .type "tuple") (by rfl) B.tuple (by decide +kernel) rfl) pa_nil))))) (pw_or1 (pt_cmpR op_ne (pe_callB (k_len (K := K) rfl) (by rfl) B.len PySem.boot_len (pa_cons (pe_ix (k_ixT (K := K) rfl) (pv 2) pe_int (fun _ _ => rfl)) pa_nil)) (pe_callB (k_len (K := K) rfl) (by rfl) B.len PySem.boot_len (pa_cons (pv 3) pa_nil)) (nomark _))))) (pss_one (ps_ret pe_bl)) pss_nil)
      (pss_one (ps_ret (pe_callB (k_all (K := K) rfl rfl) (by rfl) B.all (by decide +kernel) (pa_cons (pe_lc (own := [("k", 4)]) rfl nd (pi_range1 (by rfl) B.range (pa_cons (pe_callB (k_len (K := K) rfl) (by rfl) B.len PySem.boot_len (pa_cons (pv 3) pa_nil)) pa_nil)) (blkOk_by (own := [("k", 4)]) (by kernel_rfl)) (fun _ _ _ _ _ => (pg_name (i := 4) nd rfl (.inl rfl))) (fun _ _ _ _ _ => pts_nil) (fun _ _ _ _ _ => (pe_call G_law_is_move (hr.mono (by omega)) (by rfl) D_law_is_move.m D_law_is_move.F.kp D_law_is_move.b .nil pass0 (pa_cons (pe_ix (k_ixT (K := K) rfl) (pe_ix (k_ixT (K := K) rfl) (pv 3) (pv 4) (fun _ _ => rfl)) pe_int (fun _ _ => rfl)) (pa_cons (pv 1) (pa_cons (pe_ix (k_ixT (K := K) rfl) (pe_ix (k_ixT (K := K) rfl) (pv 2) pe_int (fun _ _ => rfl)) (pv 4) (fun _ _ => rfl)) pa_nil)))))) pa_nil))))))))), ?_⟩
  obtain ⟨b, ys, rfl, hb, tb⟩ := id tq.tupE
  have ly : ys.length = qn.length := by rw [tb.len, List.length_map]
  rcases tell_or_ask mok with ⟨j, v, an, e, ea, wok⟩ | hask
  · subst e
    rw [tellM_D] at tm
    obtain ⟨a, v2, rfl, ha, t2⟩ := td_tell tm
    have hj : j < ys.length := by
      rw [ly]
      exact (List.getElem?_eq_some_iff.mp ea).1
    obtain ⟨dx, ex, tx⟩ := tb.getV (List.getElem?_eq_getElem hj)
    obtain ⟨an', ea', rfl⟩ := mapAt ex
    rw [ea] at ea'
    cases ea'
    obtain ⟨pn, vw, vz, vt, evn, hpn, tw, tz, tt⟩ := td_an tx
    have gj : ys[j]? = some (.ref pn) := by rw [List.getElem?_eq_getElem hj, evn]
    refine ⟨_, rfl, _, _, _, _, true, rfl, .ty "tuple", tyx_tup ha, kit_ty (by decide +kernel), _, rfl, iteF ?_⟩
    refine ⟨_, rfl, a, _, rfl, .inr ha, rfl, _, rfl, iteF ?_⟩
    refine ⟨_, rfl, a, _, 0, _, rfl, rfl, ha, at_of (j := 0) rfl rfl, _, _, _, _, true, rfl, .ty "str", .base (.str _), kit_ty (by decide +kernel), _, rfl, iteF ?_⟩
    refine ⟨_, rfl, a, _, 0, _, rfl, rfl, ha, at_of (j := 0) rfl rfl, rfl, _, rfl, ite2 (fun _ => ?_) (fun c => absurd (decide_eq_true rfl) c)⟩
    refine ⟨_, rfl, a, _, 1, _, rfl, rfl, ha, at_of (j := 1) rfl rfl, _, rfl, b, ys, rfl, .inr hb, _, _, rfl, rfl, (j : Int), 0, (ys.length : Int) - 1, rfl, by omega, by omega, _, rfl, iteT ?_⟩
    exact ⟨_, rfl, _, rfl, _, rfl, a, _, 1, _, rfl, rfl, ha, at_of (j := 1) rfl rfl, b, ys, (j : Int), _, rfl, rfl, hb, at_of (j := j) rfl gj, pn, _, 2, _, rfl, rfl, hpn, at_of (j := 2) rfl rfl, _, rfl, a, _, 2, _, rfl, rfl, ha, at_of (j := 2) rfl rfl, W, vh, vt, v2, ah, an.2.1, t, an.2.2, v, rfl, th, tt, t2, wok, hok, nok an (List.mem_of_getElem? ea), q⟩
  cases n with
  | zero => exact hask.elim
  | succ n =>
    have hsp := hsp n rfl
    subst hsp
    rcases mv with x | x
    · exact False.elim hask
    · obtain ⟨q0, e, al2⟩ := mok
      obtain ⟨q0ok, q0n⟩ := hok.2 q0 (List.mem_of_getElem? e)
      have q12 := q0ok.most
      have ll := al2.len
      obtain ⟨a, v2, rfl, ha, t2⟩ := td_ask (show Td K H vm (askD2 x.1 (x.2.map (mvD (waitD m) n))) from tm)
      obtain ⟨pc, cs, rfl, hpc, tpc⟩ := t2.tupE
      have lc : cs.length = x.2.length := by rw [tpc.len, List.length_map]
      obtain ⟨tl, htl⟩ : ∃ tl : List (Qn n), (tl : Nd (n + 1)) = t := ⟨t, rfl⟩
      subst htl
      obtain ⟨ph, zs, rfl, hph, tph⟩ := Td.tupE (show Td K H vh (.tuple (tl.map (qnD n))) from th)
      have e' : tl[x.1]? = some q0 := e
      have hx : x.1 < zs.length := by
        rw [tph.len, List.length_map]
        exact (List.getElem?_eq_some_iff.mp e').1
      obtain ⟨vq0, ev0, tq0⟩ := tph.get (i := x.1) (d := qnD n q0) (by rw [List.getElem?_map, e']; rfl)
      obtain ⟨pj, js, rfl, hpj, tpj⟩ := tq0.tupE
      have ljs : js.length = q0.length := by rw [tpj.len, List.length_map]
      refine ⟨_, rfl, _, _, _, _, true, rfl, .ty "tuple", tyx_tup ha, kit_ty (by decide +kernel), _, rfl, iteF ?_⟩
      refine ⟨_, rfl, a, _, rfl, .inr ha, rfl, _, rfl, iteF ?_⟩
      refine ⟨_, rfl, a, _, 0, _, rfl, rfl, ha, at_of (j := 0) rfl rfl, _, _, _, _, true, rfl, .ty "str", .base (.str _), kit_ty (by decide +kernel), _, rfl, iteF ?_⟩
      refine ⟨_, rfl, a, _, 0, _, rfl, rfl, ha, at_of (j := 0) rfl rfl, rfl, _, rfl, ite2 (fun c => absurd c (by decide)) (fun _ => ?_)⟩
      refine ⟨_, rfl, a, _, 0, _, rfl, rfl, ha, at_of (j := 0) rfl rfl, rfl, _, rfl, ite2 (fun c => absurd c (by decide)) (fun _ => ?_)⟩
      refine ⟨_, rfl, a, _, 1, _, rfl, rfl, ha, at_of (j := 1) rfl rfl, _, rfl, ph, zs, rfl, .inr hph, _, _, rfl, rfl, (x.1 : Int), 0, (zs.length : Int) - 1, rfl, by omega, by omega, _, rfl, iteF ?_⟩
      refine ⟨_, rfl, _, rfl, a, _, 1, _, rfl, rfl, ha, at_of (j := 1) rfl rfl, ph, zs, (x.1 : Int), _, rfl, rfl, hph, atI_nat ev0, ?_⟩
      refine ⟨_, rfl, a, _, 2, _, rfl, rfl, ha, at_of (j := 2) rfl rfl, _, _, _, _, true, rfl, .ty "tuple", tyx_tup hpc, kit_ty (by decide +kernel), _, rfl, iteF ?_⟩
      refine ⟨_, rfl, a, _, 2, _, rfl, rfl, ha, at_of (j := 2) rfl rfl, pc, _, rfl, .inr hpc, _, rfl, pj, _, rfl, .inr hpj, rfl, _, rfl, ?_⟩
      rw [lc, ljs, ll, decide_eq_true rfl]
      refine iteF ?_
      refine ⟨_, rfl, pj, js, rfl, .inr hpj, _, rfl, by omega, by omega, fun T hT => ?_⟩
      refine lc_all (K := K) (walk_range (lo := 0) (n := js.length)) (by omega) hT (fun _ _ => trivial) ?_ ?_
      · rintro i z H0 H3 Qy N' hi s3 ⟨rfl, rfl⟩ hQ
        have ek : (0 : Int) + (i : Int) = (i : Int) := by omega
        obtain ⟨an, ea⟩ : ∃ an, q0[i]? = some an := ⟨_, List.getElem?_eq_getElem (by omega)⟩
        obtain ⟨y, ey, oky⟩ := al2.get ea
        have man := List.mem_of_getElem? ea
        obtain ⟨va, eva, tva⟩ := (tpj.keep (Same.kt s3)).get (i := i) (d := anD n an) (by rw [List.getElem?_map, ea]; rfl)
        obtain ⟨vy, evy, tvy⟩ := (tpc.keep (Same.kt s3)).get (i := i) (d := mvD (waitD m) n y) (by rw [List.getElem?_map, ey]; rfl)
        obtain ⟨pn, vw, vz, vt, rfl, hpn, tw, tz, tt⟩ := td_an tva
        refine ⟨rfl, ?_⟩
        refine iteT (B := N' H3) ?_
        exact ⟨_, rfl, _, rfl, pj, js, _, _, rfl, rfl, Same.kt s3 _ _ hpj, (by rw [ek]; exact atI_nat eva), pn, _, 2, _, rfl, rfl, hpn, at_of (j := 2) rfl rfl, _, rfl, _, rfl, a, _, 2, _, rfl, rfl, Same.kt s3 _ _ ha, at_of (j := 2) rfl rfl, _, rfl, pc, cs, _, vy, rfl, rfl, Same.kt s3 _ _ hpc, (by rw [ek]; exact atI_nat evy), W, vt, .ref b, vy, an.2.1, ah', an.2.2, qn, y, rfl, tt, tq.keep (Same.kt s3), tvy, oky, q0n an man, qok, nok, hQ⟩
      intro H2 h2 s2
      refine ⟨T, _, rfl, SqL.of h2, ?_⟩
      rw [all_rep]
      exact q H2 s2
end
end Tl
namespace Tl
open PySem PySem.Spec PyProof.Rows L2 RZ
/-! ### joined shares; what is made is known more sharply -/
theorem joinB_sum {l m n : Nat} (first : Bw m n) (second : Bw l m) (h : fsum (second.map (·.1)) = 1) : fsum ((joinB first second).map (·.1)) = fsum (first.map (·.1)) := by
  unfold joinB
  rw [fsum_flat]
  congr 1
  refine List.map_congr_left fun x _ => ?_
  rw [List.map_map]
  show fsum (second.map fun y => x.1 * y.1) = x.1
  have e : (second.map fun y => x.1 * y.1) = (second.map (·.1)).map fun z => x.1 * z := by rw [List.map_map]; rfl
  rw [e, fsum_mul, h, Rat.mul_one]
theorem joinB_bw {l m n : Nat} {t : Nd n} {gs : Nd m} {ho : Nd l} {first : Bw m n} {second : Bw l m} (h1 : BwOk m n t gs first) (h2 : BwOk l m gs ho second) (c1 : ∀ x ∈ first, Ch 1 x.1) (c2 : ∀ x ∈ second, Ch 1 x.1) (l1 : first.length ≤ 2) (l2 : second.length ≤ 2) : BwOk l n t ho (joinB first second) := by
  have len : ∀ l' : Bw m n, ((l'.map fun x => second.map fun y => (x.1 * y.1, joinW l m n x.2 y.2)).flatten).length = l'.length * second.length := fun l' => by
    induction l' with
    | nil => exact (Nat.zero_mul _).symm
    | cons x r ih =>
      rw [List.map_cons, List.flatten_cons, List.length_append, ih, List.length_map, List.length_cons, Nat.succ_mul]
      omega
  have l0 : (joinB first second).length = first.length * second.length := len first
  refine ⟨?_, ?_, fun z hz => ?_, by rw [joinB_sum first second h2.sum, h1.sum], joinB_ok h1.ok h2.ok⟩
  · rw [l0]
    exact Nat.mul_le_mul h1.one h2.one
  · rw [l0]
    exact Nat.le_trans (Nat.mul_le_mul l1 l2) (by decide)
  · obtain ⟨zs, hzs, hz⟩ := List.mem_flatten.mp hz
    obtain ⟨x, hx, rfl⟩ := List.mem_map.mp hzs
    obtain ⟨y, hy, rfl⟩ := List.mem_map.mp hz
    refine ⟨(c1 x hx).prod (c2 y hy), ?_⟩
    exact Rat.mul_pos (h1.ch x hx).2 (h2.ch y hy).2
/-- bottoms of all weights -/
def DenT (e : Nat) : (n : Nat) → Nd n → Prop
  | 0, _ => True
  | n + 1, qs => ∀ q ∈ (show List (Qn n) from qs), ∀ a ∈ q, (∀ r ∈ a.2.1, r.den ∣ LL ^ e) ∧ DenT e n a.2.2
theorem NdG.den : ∀ {W n : Nat} {ahead : List Rat} {t : Nd n}, NdG W n ahead t → DenT 3 n t
  | _, 0, _, _, _ => trivial
  | _, _ + 1, _, _, h => fun q hq a ha => ⟨fun r hr => ((h.2 q hq).1.2 a ha r hr).2.2, ((h.2 q hq).2 a ha).den⟩
structure HdD (a b : Nat) {m : Nat} (h : Hd m) : Prop where
  sh : h.sh.den ∣ LL ^ a
  ws : ∀ r ∈ h.ws, r.den ∣ LL ^ b
  t : DenT b h.n h.t
theorem tels_den {a b m : Nat} {sh : Rat} (hsh : sh.den ∣ LL ^ a) : ∀ {n : Nat} {ws : List Rat} {t : Nd n} {mv : Mv m n}, (∀ r ∈ ws, r.den ∣ LL ^ b) → DenT b n t → ∀ x ∈ tels sh n ws t mv, HdD a b x.2
  | 0, _, _, _, hw, ht, x, hx => by
    rw [List.mem_singleton.mp hx]
    exact ⟨hsh, hw, ht⟩
  | n + 1, _, _, .inl mv, hw, ht, x, hx => by
    rw [List.mem_singleton.mp hx]
    exact ⟨hsh, hw, ht⟩
  | n + 1, _, t, .inr y, hw, ht, x, hx => by
    have hx' : x ∈ (match (show List (Qn n) from t)[y.1]? with
      | some qn => (List.zipWith (fun (an : An n) (y : Mv m n) => if isZ an.2.1 then [] else tels sh n an.2.1 an.2.2 y) qn y.2).flatten
      | none => []) := hx
    cases e : (show List (Qn n) from t)[y.1]? with
    | none =>
      rw [e] at hx'
      exact absurd hx' List.not_mem_nil
    | some qn =>
      rw [e] at hx'
      have hq := ht qn (List.mem_of_getElem? e)
      have one : ∀ (q' : Qn n) (ms : List (Mv m n)), (∀ an ∈ q', an ∈ qn) → x ∈ (List.zipWith (fun (an : An n) (y : Mv m n) => if isZ an.2.1 then [] else tels sh n an.2.1 an.2.2 y) q' ms).flatten → HdD a b x.2 := by
        intro q'
        induction q' with
        | nil => exact fun _ _ h => absurd h List.not_mem_nil
        | cons an q' ih =>
          intro ms sub h
          cases ms with
          | nil => exact absurd h List.not_mem_nil
          | cons y' ms =>
            rw [List.zipWith_cons_cons, List.flatten_cons] at h
            rcases List.mem_append.mp h with h | h
            · split at h
              · exact absurd h List.not_mem_nil
              · have hh := hq an (sub an (List.mem_cons_self ..))
                exact tels_den hsh hh.1 hh.2 x h
            · exact ih ms (fun z hz => sub z (List.mem_cons_of_mem _ hz)) h
      exact one qn y.2 (fun _ h => h) hx'
theorem den_sel {a b m k c : Nat} {hs : List (Hd (m + 1))} (h : ∀ x ∈ hs, HdD a b x) : ∀ x ∈ selT c (tellL k hs), HdD a b x := fun y hy => by
  unfold selT at hy
  obtain ⟨x, hx, rfl⟩ := List.mem_map.mp hy
  obtain ⟨hx1, _⟩ := List.mem_filter.mp hx
  unfold tellL at hx1
  obtain ⟨l, hl, hxl⟩ := List.mem_flatten.mp hx1
  obtain ⟨z, hz, rfl⟩ := List.mem_map.mp hl
  unfold tellH at hxl
  split at hxl
  · exact tels_den (h z hz).sh (h z hz).ws (h z hz).t x hxl
  · exact absurd hxl List.not_mem_nil
theorem den_mul {x y : Rat} {a b : Nat} (h1 : x.den ∣ LL ^ a) (h2 : y.den ∣ LL ^ b) : (x * y).den ∣ LL ^ (a + b) := by
  rw [Nat.pow_add]
  exact Nat.dvd_trans (mul_den_dvd x y) (Nat.mul_dvd_mul h1 h2)
theorem ledN_den {a b W : Nat} : ∀ {m : Nat} {gs : Nd m} {hs : List (Hd m)}, (∀ x ∈ hs, HdD a b x) → DenT (a + b) m (ledN W m gs hs)
  | 0, _, _, _ => trivial
  | m + 1, gs, hs, h => by
    intro q' hq' an' han'
    have hq'' : q' ∈ (show List (Qn m) from gs).mapIdx (ledQ W m hs) := hq'
    obtain ⟨k, hk, rfl⟩ := List.mem_mapIdx.mp hq''
    unfold ledQ at han'
    obtain ⟨c, hc, rfl⟩ := List.mem_mapIdx.mp han'
    have hd := den_sel (k := k) (c := c) h
    refine ⟨fun r hr => ?_, ledN_den hd⟩
    have hr' : r ∈ wtsOf W (selT c (tellL k hs)) := hr
    unfold wtsOf at hr'
    obtain ⟨j, _, rfl⟩ := List.mem_map.mp hr'
    refine fsum_den (ll_pos _) fun z hz => ?_
    obtain ⟨x, hx, rfl⟩ := List.mem_map.mp hz
    refine den_mul (hd x hx).sh ?_
    by_cases hj : j < x.ws.length
    · exact mem_getD0 (P := fun r => r.den ∣ LL ^ b) (hd x hx).ws hj
    · rw [List.getD_eq_getElem?_getD, List.getElem?_eq_none (by omega)]
      exact Nat.one_dvd _
theorem ndP_of : ∀ {W n : Nat} {ahead : List Rat} {t : Nd n}, NdOk W n ahead t → DenT 4 n t → NdP W n ahead t
  | _, 0, _, _, _, _ => trivial
  | _, _ + 1, _, _, h, d => ⟨h.1, fun q hq => ⟨⟨(h.2 q hq).1, fun a ha r hr => by
      have c := (h.2 q hq).1.chs a ha r hr
      exact ⟨c.1, c.2.1, (d q hq a ha).1 r hr⟩⟩, fun a ha => ndP_of ((h.2 q hq).2 a ha) (d q hq a ha).2⟩⟩
section
variable {P : Program} {w : World} {K : PySem.W.Frag} {mg : Str → Option Value} {base : Heap} {aN aO : Addr} {t1 t2 t3 t4 t5 t6 t7 : Tok}
theorem ok_judges {f f1 f2 : Addr} {fd fd1 fd2 : FuncData} (D_law_is_wait : Dn K mg "_law_is_wait" s_law_is_wait ["here", "goal", "thing"] f fd) (B : Blt mg) (BS : mg "str" = none) (D_law_is_move : Dn K mg "_law_is_move" s_law_is_move ["here", "question", "thing"] f1 fd1) (D_law_is_int : Dn K mg "_law_is_int" s_law_is_int ["thing", "least", "most"] f2 fd2) :
    ∀ m n : Nat, FnOk P w K mg base CX0 (2 * m + n + 2) f fd ["here", "goal", "thing"] (spJWt K m n) := by
  have no : ∀ {f : Addr} {fd : FuncData} {ps : List Str} k, FnOk P w K mg base CX0 k f fd ps (fun _ _ _ _ => False) := fun k => ⟨fun vs H Q E h => h.elim, fun A outer s H args us vs Q E _ _ _ _ h => h.elim⟩
  have gi : FnOk P w K mg base CX0 1 f2 fd2 ["thing", "least", "most"] spJI := ok_law_is_int D_law_is_int B
  have moves : ∀ m, (∀ n, FnOk P w K mg base CX0 (2 * m + n + 2) f fd ["here", "goal", "thing"] (spJWt K m n)) → ∀ n, FnOk P w K mg base CX0 (2 * m + n + 3) f1 fd1 ["here", "question", "thing"] (spJMv K m n) := by
    intro m hw n
    induction n with
    | zero => exact ok_law_is_move1 (k := 2 * m + 0 + 2) D_law_is_move B BS D_law_is_int gi D_law_is_wait (hw 0) (no _) (fun n' e => by omega) (by omega)
    | succ n ih => exact ok_law_is_move1 (k := 2 * m + (n + 1) + 2) D_law_is_move B BS D_law_is_int gi D_law_is_wait (hw (n + 1)) (ih.mono (by omega)) (fun n' e => by rw [show n' = n by omega]) (by omega)
  intro m
  induction m with
  | zero => exact fun n => ok_law_is_wait1 (k := 2 * 0 + n + 1) D_law_is_wait B D_law_is_move (no _) (fun l' e => by omega)
  | succ m ih => exact fun n => ok_law_is_wait1 (k := 2 * (m + 1) + n + 1) D_law_is_wait B D_law_is_move ((moves m ih n).mono (by omega)) (fun l' e => by rw [show l' = m by omega])
theorem ok_law_is_between {m n k : Nat} {f f1 f2 f3 : Addr} {fd fd1 fd2 fd3 : FuncData} (D : Dn K mg "_law_is_between" s_law_is_between ["one", "other", "thing"] f fd) (B : Blt mg) (D_law_is_fraction : Dn K mg "_law_is_fraction" s_law_is_fraction ["thing"] f1 fd1) (G_law_is_fraction : FnOk P w K mg base CX0 2 f1 fd1 ["thing"] (spJF K))
    (D_law_total : Dn K mg "_law_total" s_law_total ["some"] f2 fd2) (G_law_total : FnOk P w K mg base CX0 4 f2 fd2 ["some"] (spLTot K)) (D_law_is_wait : Dn K mg "_law_is_wait" s_law_is_wait ["here", "goal", "thing"] f3 fd3) (G_law_is_wait : FnOk P w K mg base CX0 k f3 fd3 ["here", "goal", "thing"] (spJWt K m n)) (hk : 4 ≤ k) : FnOk P w K mg base CX0 (k + 1) f fd ["one", "other", "thing"] (spJB K m n) := by
  refine D.F.ok sc_law_is_between (fun vs H Q E h => ?_) (fun cdv A outer s H vs Q E hr h => ?_)
  · obtain ⟨W, vh, vg, vb, ah, ah', t, gs, bs, rfl, _⟩ := h
    rfl
  obtain ⟨W, vh, vg, vb, ah, ah', t, gs, bs, rfl, th, tg, tb, bok, hok, gok, q⟩ := h
  have nd := sc_law_is_between.nd
  refine ⟨_, (pss_cons (ps_if (PW.pt (pw_or (pt_not (pt_val (pe_callB (k_isi (K := K) rfl) (by rfl) B.isinstance (by decide +kernel) (pa_cons (pv 2) (pa_cons (pe_bltn (v := .ty "tuple") (u := .type "tuple") (by rfl) B.tuple (by decide +kernel) rfl) pa_nil))))) (pw_or1 (pt_cmpR op_eq (pe_callB (k_len (K := K) rfl) (by rfl) B.len PySem.boot_len (pa_cons (pv 2) pa_nil)) pe_int (nomark _))))) (pss_one (ps_ret pe_bl)) pss_nil)
      (pss_cons (ps_if (pt_not (pt_val (pe_callB (k_all (K := K) rfl rfl) (by rfl) B.all (by decide +kernel) (pa_cons (pe_lc (own := [("item", 3)]) rfl nd (k_iT (K := K) rfl (pv 2)) (blkOk_by (own := [("item", 3)]) (by kernel_rfl)) (fun _ _ _ _ _ => (pg_name (i := 3) nd rfl (.inl rfl))) (fun _ _ _ _ _ => pts_nil) (fun _ _ _ _ _ => (pe_and (pe_callB (k_isi (K := K) rfl) (by rfl) B.isinstance (by decide +kernel) (pa_cons (pv 3) (pa_cons (pe_bltn (v := .ty "tuple") (u := .type "tuple") (by rfl) B.tuple (by decide +kernel) rfl) pa_nil))) (pe_and (pe_cmpR op_eq (pe_callB (k_len (K := K) rfl) (by rfl) B.len PySem.boot_len (pa_cons (pv 3) pa_nil)) pe_int (nomark _)) (pe_one (pe_call G_law_is_fraction (hr.mono (by omega)) (by rfl) D_law_is_fraction.m D_law_is_fraction.F.kp D_law_is_fraction.b .nil pass0 (pa_cons (pe_ix (k_ixT (K := K) rfl) (pv 3) pe_int (fun _ _ => rfl)) pa_nil))))))) pa_nil)))) (pss_one (ps_ret pe_bl)) pss_nil)
      (pss_cons (ps_if (PW.pt (pw_or (pt_not (pt_val (pe_callB (k_all (K := K) rfl rfl) (by rfl) B.all (by decide +kernel) (pa_cons (pe_lc (own := [("item", 3)]) rfl nd (k_iT (K := K) rfl (pv 2)) (blkOk_by (own := [("item", 3)]) (by kernel_rfl)) (fun _ _ _ _ _ => (pg_name (i := 3) nd rfl (.inl rfl))) (fun _ _ _ _ _ => pts_nil) (fun _ _ _ _ _ => (pe_chain op_lt op_le pe_int (pe_ix (k_ixT (K := K) rfl) (pe_ix (k_ixT (K := K) rfl) (pv 3) pe_int (fun _ _ => rfl)) pe_int (fun _ _ => rfl)) (pe_ix (k_ixT (K := K) rfl) (pe_ix (k_ixT (K := K) rfl) (pv 3) pe_int (fun _ _ => rfl)) pe_int (fun _ _ => rfl))))) pa_nil)))) (pw_or1 (pt_cmpR (k_neD (K := K) rfl hr.units) (pe_call G_law_total (hr.mono (by omega)) (by rfl) D_law_total.m D_law_total.F.kp D_law_total.b .nil pass0 (pa_cons (pe_lc (own := [("item", 3)]) rfl nd (k_iT (K := K) rfl (pv 2)) (blkOk_by (own := [("item", 3)]) (by kernel_rfl)) (fun _ _ _ _ _ => (pg_name (i := 3) nd rfl (.inl rfl))) (fun _ _ _ _ _ => pts_nil) (fun _ _ _ _ _ => (pe_ix (k_ixT (K := K) rfl) (pv 3) pe_int (fun _ _ => rfl)))) pa_nil)) (pe_tup (pa_cons pe_int (pa_cons pe_int pa_nil))) (nomark _))))) (pss_one (ps_ret pe_bl)) pss_nil)
      (pss_one (ps_ret (pe_callB (k_all (K := K) rfl rfl) (by rfl) B.all (by decide +kernel) (pa_cons (pe_lc (own := [("item", 3)]) rfl nd (k_iT (K := K) rfl (pv 2)) (blkOk_by (own := [("item", 3)]) (by kernel_rfl)) (fun _ _ _ _ _ => (pg_name (i := 3) nd rfl (.inl rfl))) (fun _ _ _ _ _ => pts_nil) (fun _ _ _ _ _ => (pe_call G_law_is_wait (hr.mono (by omega)) (by rfl) D_law_is_wait.m D_law_is_wait.F.kp D_law_is_wait.b .nil pass0 (pa_cons (pv 0) (pa_cons (pv 1) (pa_cons (pe_ix (k_ixT (K := K) rfl) (pv 3) pe_int (fun _ _ => rfl)) pa_nil)))))) pa_nil))))))), ?_⟩
  obtain ⟨a, xs, rfl, ha, tx⟩ := tb.tupE
  have lx : xs.length = bs.length := by rw [tx.len, List.length_map]
  have b1 := bok.one
  have b4 := bok.most
  have item : ∀ {i : Nat} {x : V} {H2 : Hp}, Same H H2 → xs[i]? = some x → ∃ (b : Rat × Wt m n) (p : Addr) (v0 v1 : V), bs[i]? = some b ∧ x = .ref p ∧ SqT K H2 p [v0, v1] ∧ Td K H2 v0 (rD b.1) ∧ Td K H2 v1 (waitD m n b.2) := fun s2 e => by
    obtain ⟨dx, ex, tx'⟩ := (tx.keep (Same.kt s2)).getV e
    obtain ⟨b, eb, rfl⟩ := mapAt ex
    obtain ⟨p, v0, v1, rfl, hp, t0, t1'⟩ := td_two tx'
    exact ⟨b, p, v0, v1, eb, rfl, hp, t0, t1'⟩
  refine ⟨_, rfl, _, _, _, _, true, rfl, .ty "tuple", tyx_tup ha, kit_ty (by decide +kernel), _, rfl, iteF ?_⟩
  refine ⟨_, rfl, a, _, rfl, .inr ha, rfl, _, rfl, ite2 (fun c => ?_) (fun _ => ?_)⟩
  · have c := of_decide_eq_true c
    injection c with c
    omega
  refine ⟨_, rfl, a, rfl, ⟨_, ha⟩, fun T hT => ?_⟩
  refine lc_all (K := K) (walk_tup (K := K) (a := a) (xs := xs)) (by omega) hT (fun H' s => Same.kt s _ _ ha) ?_ ?_
  · rintro i x H0 H3 Qy N hi s3 ⟨rfl, e1⟩ hQ
    obtain ⟨b, p, v0, v1, eb, rfl, hp, t0, t1'⟩ := item s3 e1
    refine ⟨rfl, ?_⟩
    refine iteT (B := N H3) ?_
    refine ⟨_, rfl, _, _, _, _, true, rfl, .ty "tuple", tyx_tup hp, kit_ty (by decide +kernel), _, rfl, iteT ?_⟩
    refine ⟨_, rfl, p, _, rfl, .inr hp, rfl, _, rfl, iteT ?_⟩
    exact ⟨_, rfl, p, _, 0, _, rfl, rfl, hp, at_of (j := 0) rfl rfl, v0, b.1, rfl, t0, hQ⟩
  intro H2 h2 s2
  refine ⟨T, _, rfl, SqL.of h2, ?_⟩
  rw [all_rep]
  refine ⟨_, rfl, iteF ?_⟩
  refine ⟨_, rfl, a, rfl, ⟨_, Same.kt s2 _ _ ha⟩, fun T3 hT3 => ?_⟩
  refine lc_all (K := K) (walk_tup (K := K) (a := a) (xs := xs)) (by omega) hT3 (fun H' s => Same.kt (s2.trans s) _ _ ha) ?_ ?_
  · rintro i x H0 H3 Qy N hi s3 ⟨rfl, e1⟩ hQ
    obtain ⟨b, p, v0, v1, eb, rfl, hp, t0, t1'⟩ := item (s2.trans s3) e1
    obtain ⟨pr, rfl, hpr⟩ := id t0.rE
    obtain ⟨c1, c2⟩ := bok.ch b (List.mem_of_getElem? eb)
    obtain ⟨r0, r1⟩ := rat_bound c1.1 c1.2.1
    have rp : 0 < b.1.num := by
      have z := (Rat.lt_iff 0 b.1).mp c2
      have e1 : (0 : Rat).num = 0 := rfl
      have e2 : (0 : Rat).den = 1 := rfl
      rw [e1, e2] at z
      omega
    refine ⟨rfl, ?_⟩
    refine iteT (B := N H3) ?_
    refine ⟨_, rfl, p, _, 0, _, rfl, rfl, hp, at_of (j := 0) rfl rfl, pr, _, 0, _, rfl, rfl, hpr, at_of (j := 0) rfl rfl, _, _, rfl, rfl, _, rfl, ?_⟩
    rw [decide_eq_true rp]
    refine iteT ?_
    refine ⟨_, rfl, p, _, 0, _, rfl, rfl, hp, at_of (j := 0) rfl rfl, pr, _, 1, _, rfl, rfl, hpr, at_of (j := 1) rfl rfl, _, _, rfl, rfl, ?_⟩
    show Qy (.bl (decide (b.1.num ≤ (b.1.den : Int)))) H3
    rw [decide_eq_true r1]
    exact hQ H3 (Same.refl _)
  intro H3 h3 s3
  have s03 := s2.trans s3
  refine ⟨T3, _, rfl, SqL.of h3, ?_⟩
  rw [all_rep]
  refine ⟨_, rfl, iteF ?_⟩
  refine ⟨_, rfl, a, rfl, ⟨_, Same.kt s03 _ _ ha⟩, fun T4 hT4 => ?_⟩
  refine lc_td (K := K) (walk_tup (K := K) (a := a) (xs := xs)) ((bs.map (·.1)).map rD) (by rw [List.length_map, List.length_map, lx]) (by omega) hT4 (fun H' s => Same.kt (s03.trans s) _ _ ha) ?_ ?_
  · rintro i x e H0 H4 Qy N he s4 ⟨rfl, e1⟩ hQ
    obtain ⟨b, p, v0, v1, eb, rfl, hp, t0, t1'⟩ := item (s03.trans s4) e1
    rw [List.getElem?_map, List.getElem?_map, eb] at he
    cases he
    refine ⟨rfl, ?_⟩
    refine iteT (B := N H4) ?_
    exact ⟨_, rfl, p, _, 0, _, rfl, rfl, hp, at_of (j := 0) rfl rfl, hQ v0 H4 (Same.refl _) t0⟩
  intro H4 us4 h4 t4 s4
  have s04 := s03.trans s4
  refine ⟨T4, us4, bs.map (·.1), 2, 1, rfl, SqL.of h4, t4, fun r hr => ?_, by decide, by rw [List.length_map]; exact Nat.le_trans (show bs.length * 1 ≤ 2 ^ 3 by omega) (Nat.pow_le_pow_right (by decide) (by decide)), by decide, fun v5 H5 s5 t5 => ?_⟩
  · obtain ⟨b, hb, rfl⟩ := List.mem_map.mp hr
    exact (bok.ch b hb).1.fd
  rw [bok.sum] at t5
  refine ⟨by show 2 ≤ sizeLine; decide, fun p6 n6 => ?_⟩
  have s6 := same_upd (o := .tup [.int 1, .int 1]) n6
  have s06 := s04.trans (s5.trans s6)
  have t6 : Td K (upd H5 p6 (.tup [.int 1, .int 1])) (.ref p6) (rD 1) := by
    rw [rD_one]
    exact .tup (.inl (.inl upd_same)) (tdAll_ints [1, 1])
  have g1 := good_rD 1
  refine ⟨_, _, (t5.keep (Same.kt s6)).dp, t6.dp, g1.shaped (by decide), g1.shaped (by decide), _, rfl, ?_⟩
  rw [g1.refl]
  refine iteF ?_
  generalize upd H5 p6 (.tup [.int 1, .int 1]) = H6 at s06 ⊢
  refine ⟨_, rfl, a, rfl, ⟨_, Same.kt s06 _ _ ha⟩, fun T7 hT7 => ?_⟩
  refine lc_all (K := K) (walk_tup (K := K) (a := a) (xs := xs)) (by omega) hT7 (fun H' s => Same.kt (s06.trans s) _ _ ha) ?_ ?_
  · rintro i x H0 H7 Qy N hi s7 ⟨rfl, e1⟩ hQ
    obtain ⟨b, p, v0, v1, eb, rfl, hp, t0, t1'⟩ := item (s06.trans s7) e1
    have k7 : KT K H H7 := Same.kt (s06.trans s7)
    refine ⟨rfl, ?_⟩
    refine iteT (B := N H7) ?_
    exact ⟨_, rfl, _, rfl, _, rfl, p, _, 1, _, rfl, rfl, hp, at_of (j := 1) rfl rfl, W, vh, vg, v1, ah, ah', t, gs, b.2, rfl, th.keep k7, tg.keep k7, t1', bok.ok b (List.mem_of_getElem? eb), hok, gok, hQ⟩
  intro H7 h7 s7
  refine ⟨T7, _, rfl, SqL.of h7, ?_⟩
  rw [all_rep]
  exact q H7 (s06.trans s7)
end
end Tl
namespace Tl
open PySem PySem.Spec PyProof.Rows L2 RZ
theorem shp_sym : ∀ {m : Nat} {t t' : Nd m}, Shp m t t' → Shp m t' t
  | 0, _, _, _ => trivial
  | m + 1, qs, qs', sh => by
    have sh' : Al (fun (q q' : Qn m) => Al (fun (a a' : An m) => a.1 = a'.1 ∧ Shp m a.2.2 a'.2.2) q q') (show List (Qn m) from qs) (show List (Qn m) from qs') := sh
    show Al (fun (q q' : Qn m) => Al (fun (a a' : An m) => a.1 = a'.1 ∧ Shp m a.2.2 a'.2.2) q q') (show List (Qn m) from qs') (show List (Qn m) from qs)
    have flip : ∀ {α : Type} {R : α → α → Prop} {as bs : List α}, Al R as bs → Al (fun a b => R b a) bs as := fun h => by
      induction h with
      | nil => exact .nil
      | cons h _ ih => exact .cons h ih
    refine (flip sh').imp fun q q' al => ?_
    exact (flip al).imp fun a a' r => ⟨r.1.symm, shp_sym r.2⟩
theorem idB_ok {m : Nat} (t : Nd m) : BwOk m m t t [(1, idW m t)] :=
  ⟨Nat.le_refl 1, by show 1 ≤ 4; decide, fun x hx => by rw [List.mem_singleton.mp hx]; exact ⟨ch_one, by show (0 : Rat) < 1; decide⟩, by show fsum [1] = 1; rw [fsum_cons, fsum_nil, Rat.add_zero], fun x hx => by rw [List.mem_singleton.mp hx]; exact idW_ok m t⟩
/-- a stand of the same shape -/
theorem bwOk_stand {m n : Nat} {t t' : Nd n} {gs : Nd m} {bs : Bw m n} (sh : Shp n t t') (h : BwOk m n t gs bs) : BwOk m n t' gs bs := ⟨h.one, h.most, h.ch, h.sum, fun x hx => wt_stand sh (h.ok x hx)⟩
section
variable {P : Program} {w : World} {K : PySem.W.Frag} {mg : Str → Option Value} {base : Heap}
theorem FnOk.anyB2 {f : Addr} {fd : FuncData} {ps : List Str} {M N k : Nat} {sp : Nat → Nat → Sp} (h : ∀ m n, m ≤ M → n ≤ N → FnOk P w K mg base CX0 k f fd ps (sp m n)) : FnOk P w K mg base CX0 k f fd ps (Tl.anyS M fun m => Tl.anyS N (sp m)) :=
  ⟨fun vs H Q E ⟨m, hm, n, hn, q⟩ => (h m n hm hn).len vs H Q E q, fun A outer s H args us vs Q E hr e0 hb rv ⟨m, hm, n, hn, q⟩ => (h m n hm hn).run A outer s H args us vs Q E hr e0 hb rv q⟩
theorem FnOk.anyB3 {f : Addr} {fd : FuncData} {ps : List Str} {L M N k : Nat} {sp : Nat → Nat → Nat → Sp} (h : ∀ l m n, l ≤ L → m ≤ M → n ≤ N → FnOk P w K mg base CX0 k f fd ps (sp l m n)) : FnOk P w K mg base CX0 k f fd ps (Tl.anyS L fun l => Tl.anyS M fun m => Tl.anyS N (sp l m)) :=
  ⟨fun vs H Q E ⟨l, hl, m, hm, n, hn, q⟩ => (h l m n hl hm hn).len vs H Q E q, fun A outer s H args us vs Q E hr e0 hb rv ⟨l, hl, m, hm, n, hn, q⟩ => (h l m n hl hm hn).run A outer s H args us vs Q E hr e0 hb rv q⟩
theorem treeF_keep {H H' : Hp} {W n : Nat} {v : V} {t : Nd n} (T : TreeOk K H W n v t) (s : Same H H') : TreeOk K H' W n v t := ⟨T.td.keep (Same.kt s), T.ok, T.few, T.deep, T.w1, T.w5⟩
theorem own_sameP {H : Hp} {C x dx : Addr} (nx : H x = none) (ndx : H dx = none) : Same H (upd (upd H dx (.own x)) x (.ins C dx [])) := fun b o e => by
  rw [upd_ne (ne_of_none e nx), upd_ne (ne_of_none e ndx)]
  exact e
theorem mk_hsP {H H7 : Hp} {C x dx : Addr} {W n : Nat} {v : V} {t : Nd n} (nx : H x = none) (ndx : H dx = none) (T : TreeOk K H W n v t) (h7 : H7 x = some (.ins C dx (hf W v))) (k7 : ∀ b o, upd (upd H dx (.own x)) x (.ins C dx []) b = some o → b ≠ x → H7 b = some o) :
    Same H H7 ∧ HsOk K C H7 x W n t v := by
  have s : Same H H7 := fun b o e => k7 _ _ (own_sameP nx ndx b o e) (ne_of_none e nx)
  exact ⟨s, ⟨dx, h7⟩, T.td.keep (Same.kt s), T.ok, T.few, T.deep, T.w1, T.w5⟩
theorem HsOk.frmP {C b g p : Addr} {H H' : Hp} {W n : Nat} {t : Nd n} {v : V} (h : HsOk K C H p W n t v) (B : Bag H b g) (F : Frm b g H H') : HsOk K C H' p W n t v := by
  obtain ⟨d, e⟩ := h.at_
  obtain ⟨n1, n2⟩ := B.other e (fun xs z => by cases z)
  exact ⟨⟨d, F _ _ e n1 n2⟩, h.td.keep (B.kt F), h.ok, h.few, h.deep, h.w1, h.w5⟩
theorem ok_law {Cc fi fe f f1 f2 f3 f4 f5 f6 f7 f8 f9 g1 g2 g3 : Addr} {fd fd1 fd2 fd3 fd4 fd5 fd6 fd7 fd8 fd9 gd1 gd2 gd3 fdi : FuncData} (D : Dn K mg "law" s_law ["script"] f fd) (B : Blt mg) (U : Hcl K mg Cc fi fe)
    (D_law_bag : Dn K mg "_law_bag" s_law_bag ["script"] f1 fd1) (G_law_bag : FnOk P w K mg base CX0 1 f1 fd1 ["script"] (spBag K)) (D_law_pick : Dn K mg "_law_pick" s_law_pick ["bag", "many"] f2 fd2)
    (D_law_two : Dn K mg "_law_two" s_law_two ["bag", "levels", "answers"] f3 fd3) (G_law_two : FnOk P w K mg base CX0 41 f3 fd3 ["bag", "levels", "answers"] (spTwo K))
    (D_law_tree : Dn K mg "_law_tree" s_law_tree ["bag", "worlds", "levels", "answers"] f4 fd4) (G_law_tree : FnOk P w K mg base CX0 40 f4 fd4 ["bag", "worlds", "levels", "answers"] (anyS 3 (spTree K)))
    (D_law_between : Dn K mg "_law_between" s_law_between ["bag", "one", "other", "plans"] f5 fd5) (G_law_between : FnOk P w K mg base CX0 40 f5 fd5 ["bag", "one", "other", "plans"] (anyS 3 fun m => anyS 3 (spBw K m)))
    (D_law_shaped : Dn K mg "_law_shaped" s_law_shaped ["node", "path", "worlds", "found"] f6 fd6) (G_law_shaped : FnOk P w K mg base CX0 40 f6 fd6 ["node", "path", "worlds", "found"] (anyS 4 (spShd K w)))
    (D_law_led : Dn K mg "_law_led" s_law_led ["worlds", "tree", "between"] f7 fd7) (G_law_led : FnOk P w K mg base CX0 40 f7 fd7 ["worlds", "tree", "between"] (anyS 3 fun m => anyS 3 (spLL K w m)))
    (D_led : Dn K mg "led" s_led ["house", "other", "between"] f8 fd8) (G_led : FnOk P w K mg base CX0 41 f8 fd8 ["house", "other", "between"] (anyS 3 fun m => anyS 3 (spLedH K Cc m)))
    (D_passing : Dn K mg "passing" s_passing ["house"] f9 fd9) (G_passing : FnOk P w K mg base CX0 40 f9 fd9 ["house"] (anyS 4 (spPass K Cc)))
    (D_is_between : Dn K mg "is_between" s_is_between ["house", "other", "thing"] g1 gd1) (G_is_between : FnOk P w K mg base CX0 41 g1 gd1 ["house", "other", "thing"] (anyS 3 fun m => anyS 3 (spIsB K Cc m)))
    (D_law_is : Dn K mg "_law_is" s_law_is ["found", "due"] g2 gd2) (G_law_is : FnG P w K mg base CX0 1 g2 gd2 ["found", "due"] (spIs2 K))
    (D_joined : Dn K mg "joined" s_joined ["house", "other", "third", "first", "second"] g3 gd3) (G_joined : FnOk P w K mg base CX0 41 g3 gd3 ["house", "other", "third", "first", "second"] (anyS 3 fun l => anyS 3 fun m => anyS 3 (spJoin K Cc l m)))
    {g4 : Addr} {gd4 : FuncData} (D_law_is_between : Dn K mg "_law_is_between" s_law_is_between ["one", "other", "thing"] g4 gd4) (G_law_is_between : FnOk P w K mg base CX0 40 g4 gd4 ["one", "other", "thing"] (anyS 3 fun m => anyS 3 (spJB K m)))
    (D_House_init : Dm K "__init__" "House.__init__" s_House_init ["self", "worlds", "tree"] fi fdi) (G_House_init : FnOk P w K mg base CX0 40 fi fdi ["self", "worlds", "tree"] (anyS 5 (spInit K Cc))) : FnG P w K mg base CX0 42 f fd ["script"] (spTrue K) := by
  have G_law_pick : FnOk P w K mg base CX0 1 f2 fd2 ["bag", "many"] spPick := ok_law_pick D_law_pick B
  refine okG D.F sc_law (fun vs H Q E h => ?_) (fun cdv A outer s H vs Q E hr hgu h => ?_)
  · obtain ⟨a, ns, rfl, _⟩ := h
    rfl
  obtain ⟨a, ns, rfl, hs, h63, q⟩ := h
  have nd := sc_law.nd
  refine ⟨_, (pss_cons (ps_set (i := 1) nd rfl (.inl rfl) (pe_call G_law_bag (hr.mono (by omega)) (by rfl) D_law_bag.m D_law_bag.F.kp D_law_bag.b .nil pass0 (pa_cons (pv 0) pa_nil)))
      (pss_cons (ps_asg (pe_call G_law_two (hr.mono (by omega)) (by rfl) D_law_two.m D_law_two.F.kp D_law_two.b .nil pass0 (pa_cons (pv 1) (pa_cons (pe_op op_add pe_int (pe_call G_law_pick (hr.mono (by omega)) (by rfl) D_law_pick.m D_law_pick.F.kp D_law_pick.b .nil pass0 (pa_cons (pv 1) (pa_cons pe_int pa_nil)))) (pa_cons pe_int pa_nil)))) (k_tup (K := K) (n := 3) rfl rfl (pgs_cons (pg_name (i := 2) nd rfl (.inl rfl)) (pgs_cons (pg_name (i := 3) nd rfl (.inl rfl)) (pgs_cons (pg_name (i := 4) nd rfl (.inl rfl)) pgs_nil)))))
      (pss_cons (ps_set (i := 5) nd rfl (.inl rfl) (pe_call G_law_tree (hr.mono (by omega)) (by rfl) D_law_tree.m D_law_tree.F.kp D_law_tree.b .nil pass0 (pa_cons (pv 1) (pa_cons (pv 2) (pa_cons (pe_op op_add pe_int (pe_call G_law_pick (hr.mono (by omega)) (by rfl) D_law_pick.m D_law_pick.F.kp D_law_pick.b .nil pass0 (pa_cons (pv 1) (pa_cons pe_int pa_nil)))) (pa_cons pe_int pa_nil))))))
      (pss_cons (ps_par (i := 6) (j := 7) rfl nd rfl rfl (by decide) rfl rfl (pa_cons (pe_make U.mkH G_House_init (hr.mono (by omega)) (by rfl) U.gHouse D_House_init.b .nil pass0 (pa_cons (pv 2) (pa_cons (pv 3) pa_nil))) (pa_cons (pe_make U.mkH G_House_init (hr.mono (by omega)) (by rfl) U.gHouse D_House_init.b .nil pass0 (pa_cons (pv 2) (pa_cons (pv 5) pa_nil))) pa_nil)) (by rfl))
      (pss_cons (ps_set (i := 8) nd rfl (.inl rfl) (pe_call G_passing (hr.mono (by omega)) (by rfl) D_passing.m D_passing.F.kp D_passing.b .nil pass0 (pa_cons (pv 6) pa_nil)))
      (pss_cons (ps_if (PW.pt (pw_or (pt_not (pt_val (pe_callB (k_isi (K := K) rfl) (by rfl) B.isinstance (by decide +kernel) (pa_cons (pv 8) (pa_cons (pe_bltn (v := .ty "tuple") (u := .type "tuple") (by rfl) B.tuple (by decide +kernel) rfl) pa_nil))))) (pw_or (pt_cmpR op_ne (pe_callB (k_len (K := K) rfl) (by rfl) B.len PySem.boot_len (pa_cons (pv 8) pa_nil)) pe_int (nomark _)) (pw_or (pt_cmpR (k_neD (K := K) rfl hr.units) (pe_ix (k_ixT (K := K) rfl) (pe_ix (k_ixT (K := K) rfl) (pv 8) pe_int (fun _ _ => rfl)) pe_int (fun _ _ => rfl)) (pe_tup (pa_cons pe_int (pa_cons pe_int pa_nil))) (nomark _)) (pw_or1 (pt_cmpR op_notBl (pe_call G_is_between (hr.mono (by omega)) (by rfl) D_is_between.m D_is_between.F.kp D_is_between.b .nil pass0 (pa_cons (pv 6) (pa_cons (pv 6) (pa_cons (pv 8) pa_nil)))) pe_bl (nomark _))))))) (pss_one (ps_ret pe_bl)) pss_nil)
      (pss_cons (ps_if (pt_not (pt_val (pe_callG G_law_is (hr.mono (by omega)) hgu (by rfl) D_law_is.m D_law_is.F.kp D_law_is.b .nil pass0 (pa_cons (k_fld (K := K) rfl (pe_call G_led (hr.mono (by omega)) (by rfl) D_led.m D_led.F.kp D_led.b .nil pass0 (pa_cons (pv 6) (pa_cons (pv 6) (pa_cons (pv 8) pa_nil)))) rfl) (pa_cons (pv 3) pa_nil))))) (pss_one (ps_ret pe_bl)) pss_nil)
      (pss_cons (ps_set (i := 9) nd rfl (.inl rfl) (pe_call G_law_between (hr.mono (by omega)) (by rfl) D_law_between.m D_law_between.F.kp D_law_between.b .nil pass0 (pa_cons (pv 1) (pa_cons (pv 3) (pa_cons (pv 4) (pa_cons (pe_op op_add pe_int (pe_call G_law_pick (hr.mono (by omega)) (by rfl) D_law_pick.m D_law_pick.F.kp D_law_pick.b .nil pass0 (pa_cons (pv 1) (pa_cons pe_int pa_nil)))) pa_nil))))))
      (pss_cons (ps_set (i := 10) nd rfl (.inl rfl) (pe_call G_led (hr.mono (by omega)) (by rfl) D_led.m D_led.F.kp D_led.b .nil pass0 (pa_cons (pv 6) (pa_cons (pe_make U.mkH G_House_init (hr.mono (by omega)) (by rfl) U.gHouse D_House_init.b .nil pass0 (pa_cons (pv 2) (pa_cons (pv 4) pa_nil))) (pa_cons (pv 9) pa_nil)))))
      (pss_cons (ps_set (i := 11) nd rfl (.inl rfl) (pe_call G_law_between (hr.mono (by omega)) (by rfl) D_law_between.m D_law_between.F.kp D_law_between.b .nil pass0 (pa_cons (pv 1) (pa_cons (k_fld (K := K) rfl (pv 10) rfl) (pa_cons (pv 5) (pa_cons (pe_op op_add pe_int (pe_call G_law_pick (hr.mono (by omega)) (by rfl) D_law_pick.m D_law_pick.F.kp D_law_pick.b .nil pass0 (pa_cons (pv 1) (pa_cons pe_int pa_nil)))) pa_nil))))))
      (pss_cons (ps_set (i := 12) nd rfl (.inl rfl) (pe_call G_law_shaped (hr.mono (by omega)) (by rfl) D_law_shaped.m D_law_shaped.F.kp D_law_shaped.b .nil pass0 (pa_cons (pv 5) (pa_cons (pe_tup pa_nil) (pa_cons (pv 2) (pa_cons (pe_call G_law_led (hr.mono (by omega)) (by rfl) D_law_led.m D_law_led.F.kp D_law_led.b .nil pass0 (pa_cons (pv 2) (pa_cons (k_fld (K := K) rfl (pv 10) rfl) (pa_cons (pv 11) pa_nil)))) pa_nil))))))
      (pss_cons (ps_set (i := 13) nd rfl (.inl rfl) (pe_call G_joined (hr.mono (by omega)) (by rfl) D_joined.m D_joined.F.kp D_joined.b .nil pass0 (pa_cons (pv 6) (pa_cons (pv 10) (pa_cons (pv 7) (pa_cons (pv 9) (pa_cons (pv 11) pa_nil)))))))
      (pss_cons (ps_if (PW.pt (pw_or (pt_not (pt_val (pe_call G_law_is_between (hr.mono (by omega)) (by rfl) D_law_is_between.m D_law_is_between.F.kp D_law_is_between.b .nil pass0 (pa_cons (pv 3) (pa_cons (pv 5) (pa_cons (pv 13) pa_nil)))))) (pw_or1 (pt_cmpR (k_neD (K := K) rfl hr.units) (pe_call G_law_shaped (hr.mono (by omega)) (by rfl) D_law_shaped.m D_law_shaped.F.kp D_law_shaped.b .nil pass0 (pa_cons (pv 5) (pa_cons (pe_tup pa_nil) (pa_cons (pv 2) (pa_cons (pe_call G_law_led (hr.mono (by omega)) (by rfl) D_law_led.m D_law_led.F.kp D_law_led.b .nil pass0 (pa_cons (pv 2) (pa_cons (pv 3) (pa_cons (pv 13) pa_nil)))) pa_nil))))) (pv 12) (nomark _))))) (pss_one (ps_ret pe_bl)) pss_nil)
      (pss_cons (ps_if (pt_cmpR op_notBl (pe_call G_is_between (hr.mono (by omega)) (by rfl) D_is_between.m D_is_between.F.kp D_is_between.b .nil pass0 (pa_cons (pv 6) (pa_cons (pe_call G_led (hr.mono (by omega)) (by rfl) D_led.m D_led.F.kp D_led.b .nil pass0 (pa_cons (pv 10) (pa_cons (pv 7) (pa_cons (pv 11) pa_nil)))) (pa_cons (pv 13) pa_nil)))) pe_bl (nomark _)) (pss_one (ps_ret pe_bl)) pss_nil)
      (pss_cons (ps_for PassesOwn.never rfl (k_iT (K := K) rfl (pe_tup (pa_cons (pe_call G_joined (hr.mono (by omega)) (by rfl) D_joined.m D_joined.F.kp D_joined.b .nil pass0 (pa_cons (pv 6) (pa_cons (pv 6) (pa_cons (pv 10) (pa_cons (pv 8) (pa_cons (pv 9) pa_nil)))))) (pa_cons (pe_call G_joined (hr.mono (by omega)) (by rfl) D_joined.m D_joined.F.kp D_joined.b .nil pass0 (pa_cons (pv 6) (pa_cons (pv 10) (pa_cons (pv 10) (pa_cons (pv 9) (pa_cons (pe_call G_passing (hr.mono (by omega)) (by rfl) D_passing.m D_passing.F.kp D_passing.b .nil pass0 (pa_cons (pv 10) pa_nil)) pa_nil)))))) pa_nil)))) (pg_name (i := 14) nd rfl (.inl rfl)) (pss_one (ps_if (pt_cmpR op_notBl (pe_call G_is_between (hr.mono (by omega)) (by rfl) D_is_between.m D_is_between.F.kp D_is_between.b .nil pass0 (pa_cons (pv 6) (pa_cons (pv 10) (pa_cons (pv 14) pa_nil)))) pe_bl (nomark _)) (pss_one (ps_ret pe_bl)) pss_nil)))
      (pss_one (ps_ret pe_bl))))))))))))))))), ?_⟩
  refine ⟨_, rfl, a, ns, rfl, hs, h63, fun b g H1 s1 B1 b0 g0 => ?_⟩
  -- two trees
  refine ⟨_, rfl, _, rfl, b, g, 3, rfl, B1, by decide, by decide, fun r' H4 r2 r3 B4 F4 => ⟨_, _, rfl, rfl, ?_⟩⟩
  obtain ⟨l, el⟩ : ∃ n : Nat, 1 + r' = ((n + 1 : Nat) : Int) := ⟨r'.toNat, by omega⟩
  refine ⟨b, g, l, 6, congrArg (fun z => [V.ref b, V.int z, V.int 6]) el, B4, by omega, by omega, fun p W v1 v2 t gs H5 w1 w3 hpq tv1 tv2 okF okF2 cn1 cn2 B5 F5 => ?_⟩
  refine ⟨p, _, rfl, hpq, rfl, _, _, rfl, _, _, rfl, _, _, rfl, rfl, ?_⟩
  have w5 : W ≤ 5 := by omega
  have hl : l ≤ 2 := by omega
  -- last
  refine ⟨_, rfl, _, rfl, _, rfl, b, g, 2, rfl, B5, by decide, by decide, fun r'' H6 r4 r5 B6 F6 => ⟨_, _, rfl, rfl, ?_⟩⟩
  obtain ⟨l2, el2⟩ : ∃ n : Nat, 1 + r'' = ((n + 1 : Nat) : Int) := ⟨r''.toNat, by omega⟩
  refine ⟨l2, by omega, b, g, W, 5, congrArg (fun z => [V.ref b, V.int (W : Int), V.int z, V.int 5]) el2, B6, by omega, w1, w5, fun v3 ls H7 tv3 okF3 cn3 B7 F7 => ?_⟩
  have F57 := F6.trans F7
  have tv1 := tv1.keep (B5.kt F57)
  have tv2 := tv2.keep (B5.kt F57)
  have hl2 : l2 ≤ 1 := by omega
  have tG := okF.g
  have tP := tG.p
  have T1 : TreeOk K H7 W (l + 1) v1 t := ⟨tv1, okF.ok, by omega, by omega, w1, w5⟩
  have T3 : TreeOk K H7 W (l2 + 1) v3 ls := ⟨tv3, okF3.ok, by omega, by omega, w1, w5⟩
  have T2 : TreeOk K H7 W (l + 1) v2 gs := ⟨tv2, okF2.ok, by omega, by omega, w1, w5⟩
  -- houses
  refine ⟨_, rfl, _, rfl, fun x dx nx ndx ne => ⟨l + 1, by omega, x, dx, W, v1, t, rfl, upd_same, treeF_keep T1 (own_sameP nx ndx), fun H8 h8 k8 => ⟨rfl, ?_⟩⟩⟩
  obtain ⟨s8, hs1⟩ := mk_hsP nx ndx T1 h8 k8
  have T38 := treeF_keep T3 s8
  refine ⟨_, rfl, _, rfl, fun x3 dx3 nx3 ndx3 ne3 => ⟨l2 + 1, by omega, x3, dx3, W, v3, ls, rfl, upd_same, treeF_keep T38 (own_sameP nx3 ndx3), fun H9 h9 k9 => ⟨rfl, ?_⟩⟩⟩
  obtain ⟨s9, hs3⟩ := mk_hsP nx3 ndx3 T38 h9 k9
  have hs1 := hs1.keep s9
  have s79 := s8.trans s9
  have B9 := B7.keep s79
  have T2 := treeF_keep T2 s79
  clear h8 k8 h9 k9 nx ndx nx3 ndx3 T1 T3 T38 s8 s9 s79 B7 F7 B6 F6 B5 F5 B4 F4 F57 tv1 tv2 tv3 hpq
  refine ⟨_, _, rfl, ?_⟩
  -- own
  refine ⟨_, rfl, l + 1, by omega, x, W, v1, t, rfl, hs1, fun vo H10 s10 to => ?_⟩
  have hs1 := hs1.keep s10
  have hs3 := hs3.keep s10
  have T2 := treeF_keep T2 s10
  have B10 := B9.keep s10
  clear s10 B9
  have bokI := idB_ok t
  obtain ⟨po, os, rfl, hpo, tos⟩ := id to.tupE
  cases tos with
  | cons ti tnil =>
  rename_i vi os
  cases tnil
  obtain ⟨pi, u0, u1, rfl, hpi, tu0, tu1⟩ := td_two ti
  refine ⟨_, rfl, _, _, _, _, true, rfl, .ty "tuple", tyx_tup hpo, kit_ty (by decide +kernel), _, rfl, iteF ?_⟩
  refine ⟨_, rfl, po, _, rfl, .inr hpo, rfl, _, rfl, iteF ?_⟩
  have g1' := good_rD 1
  refine ⟨_, rfl, po, _, 0, _, rfl, rfl, hpo, at_of (j := 0) rfl rfl, pi, _, 0, _, rfl, rfl, hpi, at_of (j := 0) rfl rfl, by show 2 ≤ sizeLine; decide, fun p1 n1 => ?_⟩
  have z1 := same_upd (o := .tup [.int 1, .int 1]) n1
  have tone : Td K (upd H10 p1 (.tup [.int 1, .int 1])) (.ref p1) (rD 1) := by
    rw [rD_one]
    exact .tup (.inl (.inl upd_same)) (tdAll_ints [1, 1])
  refine ⟨_, _, (tu0.keep (Same.kt z1)).dp, tone.dp, g1'.shaped (by decide), g1'.shaped (by decide), _, rfl, ?_⟩
  rw [g1'.refl]
  refine iteF ?_
  have hs1 := hs1.keep z1
  have hs3 := hs3.keep z1
  have T2 := treeF_keep T2 z1
  have B11 := B10.keep z1
  have to := to.keep (Same.kt z1)
  generalize upd H10 p1 (.tup [.int 1, .int 1]) = H11 at hs1 hs3 T2 B11 to ⊢
  clear z1 n1 tone B10 tu0 tu1 hpi hpo ti
  refine ⟨_, rfl, _, rfl, _, rfl, l + 1, by omega, l + 1, by omega, x, x, W, v1, v1, .ref po, t, t, _, rfl, hs1, hs1, tP, to, bokI, by omega, by omega, by omega, fun H12 s12 => ?_⟩
  rw [led_id okF.ok, (good_ndD (l + 1) t).refl]
  have hs1 := hs1.keep s12
  have hs3 := hs3.keep s12
  have T2 := treeF_keep T2 s12
  have B12 := B11.keep s12
  have to := to.keep (Same.kt s12)
  clear s12 B11
  refine ⟨true, true, rfl, rfl, _, rfl, ?_⟩
  refine iteF ?_
  -- led by it
  refine ⟨_, rfl, _, rfl, _, rfl, l + 1, by omega, l + 1, by omega, x, x, W, v1, v1, .ref po, t, t, _, rfl, hs1, hs1, tP, to, bokI, by omega, by omega, by omega, fun p13 v13 H13 s13 hA13 t13 => ?_⟩
  rw [led_id okF.ok] at t13
  have hs1 := hs1.keep s13
  have hs3 := hs3.keep s13
  have T2 := treeF_keep T2 s13
  have B13 := B12.keep s13
  have to := to.keep (Same.kt s13)
  clear s13 B12
  obtain ⟨d13, e13⟩ := id hA13
  refine ⟨p13, Cc, d13, _, _, rfl, e13, U.cl, U.nt, hf_t _ _, _, rfl, .inr ⟨v13, v1, W, l + 1, ones W, t, rfl, t13, hs1.td, w5, okF.ok, by omega, by omega, ?_⟩⟩
  refine ⟨_, rfl, iteF ?_⟩
  clear e13 hA13 t13
  -- first
  refine ⟨_, rfl, _, rfl, _, rfl, _, rfl, b, g, 2, rfl, B13, by decide, by decide, fun r H14 r0 r1 B14 F14 => ⟨_, _, rfl, rfl, ?_⟩⟩
  obtain ⟨pn, epn⟩ : ∃ pn : Nat, 1 + r = (pn : Int) := ⟨(1 + r).toNat, by omega⟩
  have hs1 := hs1.frmP B13 F14
  have hs3 := hs3.frmP B13 F14
  have T2 : TreeOk K H14 W (l + 1) v2 gs := ⟨T2.td.keep (B13.kt F14), T2.ok, T2.few, T2.deep, w1, w5⟩
  have to := to.keep (B13.kt F14)
  refine ⟨l + 1, by omega, l + 1, by omega, b, g, W, pn, v1, v2, ones W, ones W, t, gs, congrArg (fun z => [V.ref b, v1, v2, V.int z]) epn, B14, hs1.td, T2.td, by omega, by omega, by omega, hs1.ok, okF2.ok, fun va b1 H15 ta bok1 cb1 B15 F15 => ?_⟩
  have hs1 := hs1.frmP B14 F15
  have hs3 := hs3.frmP B14 F15
  have T2 : TreeOk K H15 W (l + 1) v2 gs := ⟨T2.td.keep (B14.kt F15), T2.ok, T2.few, T2.deep, w1, w5⟩
  have to := to.keep (B14.kt F15)
  clear F14 F15 B14 B13
  have pn2 : pn ≤ 2 := by omega
  -- middle
  refine ⟨_, rfl, _, rfl, _, rfl, fun x4 dx4 nx4 ndx4 ne4 => ⟨l + 1, by omega, x4, dx4, W, v2, gs, rfl, upd_same, treeF_keep T2 (own_sameP nx4 ndx4), fun H16 h16 k16 => ⟨rfl, ?_⟩⟩⟩
  obtain ⟨s16, hs2⟩ := mk_hsP nx4 ndx4 T2 h16 k16
  have hs1 := hs1.keep s16
  have hs3 := hs3.keep s16
  have B16 := B15.keep s16
  have to := to.keep (Same.kt s16)
  have ta := ta.keep (Same.kt s16)
  clear h16 k16 nx4 ndx4 s16 B15 T2
  refine ⟨_, rfl, l + 1, by omega, l + 1, by omega, x, x4, W, v1, v2, va, t, gs, b1, rfl, hs1, hs2, tP, ta, bok1, by omega, by omega, by omega, fun pm vm H17 s17 hA17 t17 => ?_⟩
  obtain ⟨mid, hmid⟩ : ∃ mid, mid = ledN W (l + 1) gs (hd0 W (l + 1) (l + 1) t b1) := ⟨_, rfl⟩
  have shM : Shp (l + 1) gs mid := by rw [hmid]; exact ledN_shp W (l + 1) gs _
  have okM : NdOk W (l + 1) (ones W) mid := by rw [hmid]; exact made_ok bok1 (by omega) tP (by omega) okF2.ok
  have cnM : cnt (l + 1) mid ≤ 22 := by rw [← cnt_shp shM]; exact cn2
  have eM : ledN W (l + 1) mid (hd0 W (l + 1) (l + 1) t b1) = mid := by rw [← ledN_shape shM, hmid]
  have bok1M := bwOk_shape shM bok1
  have tPM : NdP W (l + 1) (ones W) mid := ndP_of okM (by
    rw [hmid]
    exact ledN_den (a := 1) (b := 3) fun h hh => by
      obtain ⟨y, hy, rfl⟩ := List.mem_map.mp hh
      refine ⟨(cb1.1 y hy).2.2, fun r hr => ?_, tG.den⟩
      rw [(List.mem_replicate.mp hr).2]
      exact Nat.one_dvd _)
  rw [← hmid] at t17
  have hs1 := hs1.keep s17
  have hs3 := hs3.keep s17
  have B17 := B16.keep s17
  have to := to.keep (Same.kt s17)
  have ta := ta.keep (Same.kt s17)
  have hsM : HsOk K Cc H17 pm W (l + 1) mid vm := ⟨hA17, t17, okM, by omega, by omega, w1, w5⟩
  clear s17 B16 hs2 hA17 t17
  -- second
  obtain ⟨d17, e17⟩ := id hsM.at_
  refine ⟨_, rfl, _, rfl, pm, Cc, d17, _, _, rfl, e17, U.cl, U.nt, hf_t _ _, _, rfl, _, rfl, b, g, 2, rfl, B17, by decide, by decide, fun r2' H18 r20 r21 B18 F18 => ⟨_, _, rfl, rfl, ?_⟩⟩
  obtain ⟨pq, epq⟩ : ∃ pq : Nat, 1 + r2' = (pq : Int) := ⟨(1 + r2').toNat, by omega⟩
  have hs1 := hs1.frmP B17 F18
  have hs3 := hs3.frmP B17 F18
  have hsM := hsM.frmP B17 F18
  have to := to.keep (B17.kt F18)
  have ta := ta.keep (B17.kt F18)
  refine ⟨l2 + 1, by omega, l + 1, by omega, b, g, W, pq, vm, v3, ones W, ones W, mid, ls, congrArg (fun z => [V.ref b, vm, v3, V.int z]) epq, B18, hsM.td, hs3.td, by omega, by omega, by omega, okM, okF3.ok, fun vb b2 H19 tb bok2 cb2 B19 F19 => ?_⟩
  have hs1 := hs1.frmP B18 F19
  have hs3 := hs3.frmP B18 F19
  have hsM := hsM.frmP B18 F19
  have to := to.keep (B18.kt F19)
  have ta := ta.keep (B18.kt F19)
  have pq2 : pq ≤ 2 := by omega
  clear e17 B17 F18 B18 F19 B19
  -- due
  refine ⟨_, rfl, by show 0 ≤ sizeLine; decide, fun p0 n0 => ?_⟩
  have s20 := same_upd (o := .tup []) n0
  have tp0 : Td K (upd H19 p0 (.tup [])) (.ref p0) (pathD []) := .tup (.inl (.inl upd_same)) .nil
  have hs1 := hs1.keep s20
  have hs3 := hs3.keep s20
  have hsM := hsM.keep s20
  have to := to.keep (Same.kt s20)
  have ta := ta.keep (Same.kt s20)
  have tb := tb.keep (Same.kt s20)
  generalize upd H19 p0 (.tup []) = H20 at tp0 hs1 hs3 hsM to ta tb ⊢
  clear s20 n0
  obtain ⟨d20, e20⟩ := id hsM.at_
  have bd1 : 4 * ((1 + cnt (l + 1) mid) * cnt (l2 + 1) ls) ≤ 100000 := by
    have := Nat.mul_le_mul (show 1 + cnt (l + 1) mid ≤ 23 by omega) (show cnt (l2 + 1) ls ≤ 22 by omega)
    omega
  have bd2 : 4 * ((1 + cnt (l + 1) t) * cnt (l2 + 1) ls) ≤ 100000 := by
    have := Nat.mul_le_mul (show 1 + cnt (l + 1) t ≤ 23 by omega) (show cnt (l2 + 1) ls ≤ 22 by omega)
    omega
  refine ⟨_, rfl, _, rfl, _, rfl, pm, Cc, d20, _, _, rfl, e20, U.cl, U.nt, hf_t _ _, _, rfl, l2 + 1, by omega, l + 1, by omega, W, vm, vb, mid, ls, b2, rfl, hsM.td, tb, bok2, tPM, w1, w5, by omega, bd1, fun d H21 gm Nd Bd s21 sgd hgd => ?_⟩
  have hs1 := hs1.keep s21
  have hs3 := hs3.keep s21
  have hsM := hsM.keep s21
  have to := to.keep (Same.kt s21)
  have ta := ta.keep (Same.kt s21)
  have tb := tb.keep (Same.kt s21)
  refine ⟨l2 + 1, by omega, W, 6, Nd, Bd, v3, .ref p0, d, ones W, ls, [], gm, rfl, hs3.td, tp0.keep (Same.kt s21), hs3.ok, by show 0 + (l2 + 1) ≤ 100; omega, sgd, w1, w5, fun vd H22 s22 td => ?_⟩
  rw [law_made bok2 (by omega) tPM (by omega) (fun j hj x r => hgd j hj x r)] at td
  obtain ⟨due, hdue⟩ : ∃ due, due = ledN W (l2 + 1) ls (hd0 W (l2 + 1) (l + 1) mid b2) := ⟨_, rfl⟩
  rw [← hdue] at td
  have shD : Shp (l2 + 1) ls due := by rw [hdue]; exact ledN_shp W (l2 + 1) ls _
  have okD : NdOk W (l2 + 1) (ones W) due := by rw [hdue]; exact made_ok bok2 (by omega) tPM (by omega) okF3.ok
  have cnD : cnt (l2 + 1) due ≤ 22 := by rw [← cnt_shp shD]; omega
  have hs1 := hs1.keep s22
  have hs3 := hs3.keep s22
  have hsM := hsM.keep s22
  have to := to.keep (Same.kt s22)
  have ta := ta.keep (Same.kt s22)
  have tb := tb.keep (Same.kt s22)
  clear s21 s22 sgd hgd tp0 e20
  -- whole
  have bokW : BwOk (l2 + 1) (l + 1) t ls (joinB b1 b2) := joinB_bw bok1M bok2 cb1.1 cb2.1 (by omega) (by omega)
  have eW : ledN W (l2 + 1) ls (hd0 W (l2 + 1) (l + 1) t (joinB b1 b2)) = due := by
    have := led_join (W := W) (gs := mid) (ho := ls) okF.ok (by rw [eM]; exact okM) bok1M.ok bok1.sum bok2.ok
    rw [eM] at this
    rw [this, hdue]
  refine ⟨_, rfl, _, rfl, _, rfl, _, rfl, _, rfl, l2 + 1, by omega, l + 1, by omega, l + 1, by omega, x, pm, x3, W, v1, vm, v3, va, vb, t, mid, ls, b1, b2, rfl, hs1, hsM, hs3, ta, tb, bok1M, bok2, by omega, by omega, fun vw H23 s23 tw => ?_⟩
  have hs1 := hs1.keep s23
  have hs3 := hs3.keep s23
  have hsM := hsM.keep s23
  have to := to.keep (Same.kt s23)
  have ta := ta.keep (Same.kt s23)
  have tb := tb.keep (Same.kt s23)
  have td := td.keep (Same.kt s23)
  clear s23
  refine ⟨_, rfl, _, rfl, _, rfl, l2 + 1, by omega, l + 1, by omega, W, v1, v3, vw, ones W, ones W, t, ls, _, rfl, hs1.td, hs3.td, tw, bokW, okF.ok, okF3.ok, fun H24 s24 => ⟨_, rfl, iteF ?_⟩⟩
  refine ⟨_, rfl, by show 0 ≤ sizeLine; decide, fun p0 n0 => ?_⟩
  have s25 := s24.trans (same_upd (o := .tup []) n0)
  have tp0 : Td K (upd H24 p0 (.tup [])) (.ref p0) (pathD []) := .tup (.inl (.inl upd_same)) .nil
  have hs1 := hs1.keep s25
  have hs3 := hs3.keep s25
  have hsM := hsM.keep s25
  have to := to.keep (Same.kt s25)
  have ta := ta.keep (Same.kt s25)
  have tb := tb.keep (Same.kt s25)
  have td := td.keep (Same.kt s25)
  have tw := tw.keep (Same.kt s25)
  generalize upd H24 p0 (.tup []) = H25 at tp0 hs1 hs3 hsM to ta tb td tw ⊢
  clear s25 n0 s24
  refine ⟨_, rfl, _, rfl, _, rfl, _, rfl, l2 + 1, by omega, l + 1, by omega, W, v1, vw, t, ls, _, rfl, hs1.td, tw, bokW, tP, w1, w5, by omega, bd2, fun d' H26 gm' Nd' Bd' s26 sgd hgd => ?_⟩
  refine ⟨l2 + 1, by omega, W, 6, Nd', Bd', v3, .ref p0, d', ones W, ls, [], gm', rfl, (hs3.keep s26).td, tp0.keep (Same.kt s26), hs3.ok, by show 0 + (l2 + 1) ≤ 100; omega, sgd, w1, w5, fun vd' H27 s27 td' => ?_⟩
  rw [law_made bokW (by omega) tP (by omega) (fun j hj x r => hgd j hj x r), eW] at td'
  have s257 := s26.trans s27
  have hs1 := hs1.keep s257
  have hs3 := hs3.keep s257
  have hsM := hsM.keep s257
  have to := to.keep (Same.kt s257)
  have ta := ta.keep (Same.kt s257)
  have tb := tb.keep (Same.kt s257)
  have td := td.keep (Same.kt s257)
  have tw := tw.keep (Same.kt s257)
  clear s26 s27 s257 sgd hgd tp0
  have gD := good_ndD (l2 + 1) due
  refine ⟨_, rfl, _, _, td'.dp, td.dp, gD.shaped (by omega), gD.shaped (by omega), _, rfl, ?_⟩
  rw [gD.refl]
  refine iteF ?_
  -- is_between with what the second makes
  refine ⟨_, rfl, _, rfl, _, rfl, _, rfl, l2 + 1, by omega, l + 1, by omega, pm, x3, W, vm, v3, vb, mid, ls, b2, rfl, hsM, hs3, tPM, tb, bok2, by omega, by omega, by omega, fun pd ve H28 s28 hA28 t28 => ?_⟩
  rw [← hdue] at t28
  have hs1 := hs1.keep s28
  have hsM := hsM.keep s28
  have to := to.keep (Same.kt s28)
  have ta := ta.keep (Same.kt s28)
  have tw := tw.keep (Same.kt s28)
  have hsD : HsOk K Cc H28 pd W (l2 + 1) due ve := ⟨hA28, t28, okD, by omega, by omega, w1, w5⟩
  refine ⟨_, rfl, l2 + 1, by omega, l + 1, by omega, x, pd, W, v1, ve, vw, t, due, _, rfl, hs1, hsD, tP, tw, bwOk_shape shD bokW, by omega, by omega, by omega, fun H29 s29 => ?_⟩
  rw [← ledN_shape shD, eW, gD.refl]
  have hs1 := hs1.keep s29
  have hsM := hsM.keep s29
  have to := to.keep (Same.kt s29)
  have ta := ta.keep (Same.kt s29)
  clear s28 hA28 t28 s29 hsD
  refine ⟨true, true, rfl, rfl, _, rfl, ?_⟩
  refine iteF ?_
  -- the two joined with the passing ones
  have ch1o : ∀ {m : Nat} (u : Tl.Nd m), ∀ x ∈ ([(1, idW m u)] : Bw m m), Ch 1 x.1 := fun u x hx => by rw [List.mem_singleton.mp hx]; exact ch_one
  have bokM := idB_ok mid
  refine ⟨_, rfl, _, rfl, _, rfl, _, rfl, _, rfl, l + 1, by omega, l + 1, by omega, l + 1, by omega, x, x, pm, W, v1, v1, vm, .ref po, va, t, t, mid, _, b1, rfl, hs1, hs1, hsM, to, ta, bokI, bok1M, by omega, by omega, fun vj1 H30 s30 tj1 => ?_⟩
  have hs1 := hs1.keep s30
  have hsM := hsM.keep s30
  have ta := ta.keep (Same.kt s30)
  refine ⟨_, rfl, _, rfl, _, rfl, _, rfl, _, rfl, l + 1, by omega, pm, W, vm, mid, rfl, hsM, fun vpm H31 s31 tpm => ?_⟩
  have hs1 := hs1.keep s31
  have hsM := hsM.keep s31
  have ta := ta.keep (Same.kt s31)
  have tj1 := tj1.keep (Same.kt s31)
  refine ⟨l + 1, by omega, l + 1, by omega, l + 1, by omega, x, pm, pm, W, v1, vm, vm, va, vpm, t, mid, mid, b1, _, rfl, hs1, hsM, hsM, ta, tpm, bok1M, bokM, by omega, by omega, fun vj2 H32 s32 tj2 => ?_⟩
  have hs1 := hs1.keep s32
  have hsM := hsM.keep s32
  have tj1 := tj1.keep (Same.kt s32)
  refine ⟨by show 2 ≤ sizeLine; decide, fun pt n33 => ?_⟩
  have s33 := same_upd (o := .tup [vj1, vj2]) n33
  have hs1 := hs1.keep s33
  have hsM := hsM.keep s33
  have tj1 := tj1.keep (Same.kt s33)
  have tj2 := tj2.keep (Same.kt s33)
  have e33 : SqT K (upd H32 pt (.tup [vj1, vj2])) pt [vj1, vj2] := .inl (.inl upd_same)
  generalize upd H32 pt (.tup [vj1, vj2]) = H33 at hs1 hsM tj1 tj2 e33 ⊢
  clear s30 s31 s32 s33 n33
  have both : ∀ (i : Nat) (z : V), ([vj1, vj2] : List V)[i]? = some z → ∃ bs : Bw (l + 1) (l + 1), Td K H33 z (bwD (l + 1) (l + 1) bs) ∧ BwOk (l + 1) (l + 1) t mid bs ∧ ledN W (l + 1) mid (hd0 W (l + 1) (l + 1) t bs) = mid := by
    have c0 : ∃ bs : Bw (l + 1) (l + 1), Td K H33 vj1 (bwD (l + 1) (l + 1) bs) ∧ BwOk (l + 1) (l + 1) t mid bs ∧ ledN W (l + 1) mid (hd0 W (l + 1) (l + 1) t bs) = mid := by
      refine ⟨_, tj1, joinB_bw bokI bok1M (ch1o t) cb1.1 (by show 1 ≤ 2; decide) (by omega), ?_⟩
      have := led_join (W := W) (gs := t) (ho := mid) (first := [(1, idW (l + 1) t)]) (second := b1) okF.ok (by rw [led_id okF.ok]; exact okF.ok) bokI.ok bokI.sum bok1M.ok
      rw [led_id okF.ok, eM] at this
      exact this
    have c1 : ∃ bs : Bw (l + 1) (l + 1), Td K H33 vj2 (bwD (l + 1) (l + 1) bs) ∧ BwOk (l + 1) (l + 1) t mid bs ∧ ledN W (l + 1) mid (hd0 W (l + 1) (l + 1) t bs) = mid := by
      refine ⟨_, tj2, joinB_bw bok1M bokM cb1.1 (ch1o mid) (by omega) (by show 1 ≤ 2; decide), ?_⟩
      have := led_join (W := W) (gs := mid) (ho := mid) (first := b1) (second := [(1, idW (l + 1) mid)]) okF.ok (by rw [eM]; exact okM) bok1M.ok bok1.sum bokM.ok
      rw [eM, led_id okM] at this
      exact this
    intro i z e
    have hi := (List.getElem?_eq_some_iff.mp e).1
    have hi2 : i < 2 := hi
    rcases Nat.lt_or_ge i 1 with h | h
    · have : i = 0 := by omega
      subst this
      cases Option.some.inj e
      exact c0
    · have : i = 1 := by omega
      subst this
      cases Option.some.inj e
      exact c1
  refine ⟨pt, rfl, ⟨_, e33⟩, for_it (walk_tup (K := K) (a := pt) (xs := [vj1, vj2])) (fun i σ H34 => ∃ o14 : Option V, σ = [some (.ref a), some (.ref b), some (.int (W : Int)), some v1, some v2, some v3, some (.ref x), some (.ref x3), some (.ref po), some va, some (.ref pm), some vb, some vd, some vw, o14] ∧ Same H33 H34) ⟨none, rfl, Same.refl _⟩ (fun i σ H34 _ h => ?_) ?_ ?_⟩
  · obtain ⟨_, _, s34⟩ := h
    exact Same.kt s34 _ _ e33
  · rintro i z σ H34 H35 hi ⟨o14, rfl, s34⟩ ⟨rfl, e1⟩
    obtain ⟨bs, tz, bz, ez⟩ := both i z e1
    refine ⟨_, rfl, _, rfl, _, rfl, l + 1, by omega, l + 1, by omega, x, pm, W, v1, vm, z, t, mid, bs, rfl, hs1.keep s34, hsM.keep s34, tP, tz.keep (Same.kt s34), bz, by omega, by omega, by omega, fun H36 s36 => ?_⟩
    rw [ez, (good_ndD (l + 1) mid).refl]
    refine ⟨true, true, rfl, rfl, _, rfl, ?_⟩
    refine iteF ?_
    exact ⟨_, rfl, s34.trans s36⟩
  · rintro σ H34 ⟨o14, rfl, s34⟩
    exact q _
end
end Tl
namespace Tl
open PySem PySem.Spec PyProof.Rows L2 RZ
theorem all_mk {l : PySem.W.OpenLaw} {w : World} {K : PySem.W.Frag} {h : Heap} {mg : Str → Option Value} {fa Cc aO aN f_is_integral f_is_number f_is_fraction f_is_chance f_is_share f_are_shares f_are_chances f_are_nought f_reduced f_multiplied f_common_bottom f_times_whole f_total f_total_weights f_is_word f_is_answer f_is_ascending f_check_tree f_check_node f_check_question f_answers_in f_rounds_in f_House_init f_House_eq f_made_house f_check_alike f_is_wait f_is_move f_is_plan f_is_shared_plan f_is_go_between f_check_between f_tellings f_tellers_of f_weight_of f_led_node f_led_house f_led f_is_between f_passing_wait f_passing f_joined_wait f_joined_move f_answered_move f_joined f_law_bag f_law_pick f_law_some f_law_common f_law_low f_law_plus f_law_times f_law_total f_law_shares f_law_question f_law_node f_law_tree f_law_is f_law_wait f_law_move f_law_between f_law_is_int f_law_is_fraction f_law_is_wait f_law_is_move f_law_is_between f_law_told f_law_made_by f_law_led f_law_shaped f_law_two f_law : Addr} (X : K.In h) (G : h.Ns mainGlobals mg) (hfa : mg "law" = some (.ref fa))
    {odN odO od_is_integral an_is_integral od_is_number an_is_number od_is_fraction an_is_fraction od_is_chance an_is_chance od_is_share an_is_share od_are_shares an_are_shares od_are_chances an_are_chances od_are_nought an_are_nought od_reduced an_reduced od_multiplied an_multiplied od_common_bottom an_common_bottom od_times_whole an_times_whole od_total an_total od_total_weights an_total_weights od_is_word an_is_word od_is_answer an_is_answer od_is_ascending an_is_ascending od_check_tree an_check_tree od_check_node an_check_node od_check_question an_check_question od_answers_in an_answers_in od_rounds_in an_rounds_in od_House_init an_House_init od_House_eq an_House_eq od_made_house an_made_house od_check_alike an_check_alike od_is_wait an_is_wait od_is_move an_is_move od_is_plan an_is_plan od_is_shared_plan an_is_shared_plan od_is_go_between an_is_go_between od_check_between an_check_between od_tellings an_tellings od_tellers_of an_tellers_of od_weight_of an_weight_of od_led_node an_led_node od_led_house an_led_house od_led an_led od_is_between an_is_between od_passing_wait an_passing_wait od_passing an_passing od_joined_wait an_joined_wait od_joined_move an_joined_move od_answered_move an_answered_move od_joined an_joined od_law_bag an_law_bag od_law_pick an_law_pick od_law_some an_law_some od_law_common an_law_common od_law_low an_law_low od_law_plus an_law_plus od_law_times an_law_times od_law_total an_law_total od_law_shares an_law_shares od_law_question an_law_question od_law_node an_law_node od_law_tree an_law_tree od_law_is an_law_is od_law_wait an_law_wait od_law_move an_law_move od_law_between an_law_between od_law_is_int an_law_is_int od_law_is_fraction an_law_is_fraction od_law_is_wait an_law_is_wait od_law_is_move an_law_is_move od_law_is_between an_law_is_between od_law_told an_law_told od_law_made_by an_law_made_by od_law_led an_law_led od_law_shaped an_law_shaped od_law_two an_law_two od_law an_law : Option Addr} {slN slO sl_is_integral sl_is_number sl_is_fraction sl_is_chance sl_is_share sl_are_shares sl_are_chances sl_are_nought sl_reduced sl_multiplied sl_common_bottom sl_times_whole sl_total sl_total_weights sl_is_word sl_is_answer sl_is_ascending sl_check_tree sl_check_node sl_check_question sl_answers_in sl_rounds_in sl_House_init sl_House_eq sl_made_house sl_check_alike sl_is_wait sl_is_move sl_is_plan sl_is_shared_plan sl_is_go_between sl_check_between sl_tellings sl_tellers_of sl_weight_of sl_led_node sl_led_house sl_led sl_is_between sl_passing_wait sl_passing sl_joined_wait sl_joined_move sl_answered_move sl_joined sl_law_bag sl_law_pick sl_law_some sl_law_common sl_law_low sl_law_plus sl_law_times sl_law_total sl_law_shares sl_law_question sl_law_node sl_law_tree sl_law_is sl_law_wait sl_law_move sl_law_between sl_law_is_int sl_law_is_fraction sl_law_is_wait sl_law_is_move sl_law_is_between sl_law_told sl_law_made_by sl_law_led sl_law_shaped sl_law_two sl_law : Array (Option Value)} {oc_is_integral kV_is_integral dc_is_integral pm_is_integral cd_is_integral ct_is_integral oc_is_number kV_is_number dc_is_number pm_is_number cd_is_number ct_is_number oc_is_fraction kV_is_fraction dc_is_fraction pm_is_fraction cd_is_fraction ct_is_fraction oc_is_chance kV_is_chance dc_is_chance pm_is_chance cd_is_chance ct_is_chance oc_is_share kV_is_share dc_is_share pm_is_share cd_is_share ct_is_share oc_are_shares kV_are_shares dc_are_shares pm_are_shares cd_are_shares ct_are_shares oc_are_chances kV_are_chances dc_are_chances pm_are_chances cd_are_chances ct_are_chances oc_are_nought kV_are_nought dc_are_nought pm_are_nought cd_are_nought ct_are_nought oc_reduced kV_reduced dc_reduced pm_reduced cd_reduced ct_reduced oc_multiplied kV_multiplied dc_multiplied pm_multiplied cd_multiplied ct_multiplied oc_common_bottom kV_common_bottom dc_common_bottom pm_common_bottom cd_common_bottom ct_common_bottom oc_times_whole kV_times_whole dc_times_whole pm_times_whole cd_times_whole ct_times_whole oc_total kV_total dc_total pm_total cd_total ct_total oc_total_weights kV_total_weights dc_total_weights pm_total_weights cd_total_weights ct_total_weights oc_is_word kV_is_word dc_is_word pm_is_word cd_is_word ct_is_word oc_is_answer kV_is_answer dc_is_answer pm_is_answer cd_is_answer ct_is_answer oc_is_ascending kV_is_ascending dc_is_ascending pm_is_ascending cd_is_ascending ct_is_ascending oc_check_tree kV_check_tree dc_check_tree pm_check_tree cd_check_tree ct_check_tree oc_check_node kV_check_node dc_check_node pm_check_node cd_check_node ct_check_node oc_check_question kV_check_question dc_check_question pm_check_question cd_check_question ct_check_question oc_answers_in kV_answers_in dc_answers_in pm_answers_in cd_answers_in ct_answers_in oc_rounds_in kV_rounds_in dc_rounds_in pm_rounds_in cd_rounds_in ct_rounds_in oc_House_init kV_House_init dc_House_init pm_House_init cd_House_init ct_House_init oc_House_eq kV_House_eq dc_House_eq pm_House_eq cd_House_eq ct_House_eq oc_made_house kV_made_house dc_made_house pm_made_house cd_made_house ct_made_house oc_check_alike kV_check_alike dc_check_alike pm_check_alike cd_check_alike ct_check_alike oc_is_wait kV_is_wait dc_is_wait pm_is_wait cd_is_wait ct_is_wait oc_is_move kV_is_move dc_is_move pm_is_move cd_is_move ct_is_move oc_is_plan kV_is_plan dc_is_plan pm_is_plan cd_is_plan ct_is_plan oc_is_shared_plan kV_is_shared_plan dc_is_shared_plan pm_is_shared_plan cd_is_shared_plan ct_is_shared_plan oc_is_go_between kV_is_go_between dc_is_go_between pm_is_go_between cd_is_go_between ct_is_go_between oc_check_between kV_check_between dc_check_between pm_check_between cd_check_between ct_check_between oc_tellings kV_tellings dc_tellings pm_tellings cd_tellings ct_tellings oc_tellers_of kV_tellers_of dc_tellers_of pm_tellers_of cd_tellers_of ct_tellers_of oc_weight_of kV_weight_of dc_weight_of pm_weight_of cd_weight_of ct_weight_of oc_led_node kV_led_node dc_led_node pm_led_node cd_led_node ct_led_node oc_led_house kV_led_house dc_led_house pm_led_house cd_led_house ct_led_house oc_led kV_led dc_led pm_led cd_led ct_led oc_is_between kV_is_between dc_is_between pm_is_between cd_is_between ct_is_between oc_passing_wait kV_passing_wait dc_passing_wait pm_passing_wait cd_passing_wait ct_passing_wait oc_passing kV_passing dc_passing pm_passing cd_passing ct_passing oc_joined_wait kV_joined_wait dc_joined_wait pm_joined_wait cd_joined_wait ct_joined_wait oc_joined_move kV_joined_move dc_joined_move pm_joined_move cd_joined_move ct_joined_move oc_answered_move kV_answered_move dc_answered_move pm_answered_move cd_answered_move ct_answered_move oc_joined kV_joined dc_joined pm_joined cd_joined ct_joined oc_law_bag kV_law_bag dc_law_bag pm_law_bag cd_law_bag ct_law_bag oc_law_pick kV_law_pick dc_law_pick pm_law_pick cd_law_pick ct_law_pick oc_law_some kV_law_some dc_law_some pm_law_some cd_law_some ct_law_some oc_law_common kV_law_common dc_law_common pm_law_common cd_law_common ct_law_common oc_law_low kV_law_low dc_law_low pm_law_low cd_law_low ct_law_low oc_law_plus kV_law_plus dc_law_plus pm_law_plus cd_law_plus ct_law_plus oc_law_times kV_law_times dc_law_times pm_law_times cd_law_times ct_law_times oc_law_total kV_law_total dc_law_total pm_law_total cd_law_total ct_law_total oc_law_shares kV_law_shares dc_law_shares pm_law_shares cd_law_shares ct_law_shares oc_law_question kV_law_question dc_law_question pm_law_question cd_law_question ct_law_question oc_law_node kV_law_node dc_law_node pm_law_node cd_law_node ct_law_node oc_law_tree kV_law_tree dc_law_tree pm_law_tree cd_law_tree ct_law_tree oc_law_is kV_law_is dc_law_is pm_law_is cd_law_is ct_law_is oc_law_wait kV_law_wait dc_law_wait pm_law_wait cd_law_wait ct_law_wait oc_law_move kV_law_move dc_law_move pm_law_move cd_law_move ct_law_move oc_law_between kV_law_between dc_law_between pm_law_between cd_law_between ct_law_between oc_law_is_int kV_law_is_int dc_law_is_int pm_law_is_int cd_law_is_int ct_law_is_int oc_law_is_fraction kV_law_is_fraction dc_law_is_fraction pm_law_is_fraction cd_law_is_fraction ct_law_is_fraction oc_law_is_wait kV_law_is_wait dc_law_is_wait pm_law_is_wait cd_law_is_wait ct_law_is_wait oc_law_is_move kV_law_is_move dc_law_is_move pm_law_is_move cd_law_is_move ct_law_is_move oc_law_is_between kV_law_is_between dc_law_is_between pm_law_is_between cd_law_is_between ct_law_is_between oc_law_told kV_law_told dc_law_told pm_law_told cd_law_told ct_law_told oc_law_made_by kV_law_made_by dc_law_made_by pm_law_made_by cd_law_made_by ct_law_made_by oc_law_led kV_law_led dc_law_led pm_law_led cd_law_led ct_law_led oc_law_shaped kV_law_shaped dc_law_shaped pm_law_shaped cd_law_shaped ct_law_shaped oc_law_two kV_law_two dc_law_two pm_law_two cd_law_two ct_law_two oc_law kV_law dc_law pm_law cd_law ct_law : Value} {tO1 tO2 tN1 tN2 t1 t2 t3 t4 t5 t6 t7 : Tok} {nN nO : Nat}
    (aC : PySem.W.nsIn K mainGlobals "House" = some (some (.ref Cc)))
    (a_is_integral : PySem.W.nsIn K mainGlobals "is_integral" = some (some (.ref f_is_integral)))
    (l_is_integral : K.lookup f_is_integral = some ⟨oc_is_integral, od_is_integral, .func (PySem.W.fnOf "is_integral" "is_integral" (defArgs s_is_integral) (defBody s_is_integral) (defScope s_is_integral) .none kV_is_integral dc_is_integral pm_is_integral an_is_integral cd_is_integral ct_is_integral), sl_is_integral⟩)
    (c_is_integral : PySem.W.codeIn K cd_is_integral "is_integral" = true)
    (k_is_integral : PySem.W.keepIn K (.ref f_is_integral) = true)
    (a_is_number : PySem.W.nsIn K mainGlobals "is_number" = some (some (.ref f_is_number)))
    (l_is_number : K.lookup f_is_number = some ⟨oc_is_number, od_is_number, .func (PySem.W.fnOf "is_number" "is_number" (defArgs s_is_number) (defBody s_is_number) (defScope s_is_number) .none kV_is_number dc_is_number pm_is_number an_is_number cd_is_number ct_is_number), sl_is_number⟩)
    (c_is_number : PySem.W.codeIn K cd_is_number "is_number" = true)
    (k_is_number : PySem.W.keepIn K (.ref f_is_number) = true)
    (a_is_fraction : PySem.W.nsIn K mainGlobals "is_fraction" = some (some (.ref f_is_fraction)))
    (l_is_fraction : K.lookup f_is_fraction = some ⟨oc_is_fraction, od_is_fraction, .func (PySem.W.fnOf "is_fraction" "is_fraction" (defArgs s_is_fraction) (defBody s_is_fraction) (defScope s_is_fraction) .none kV_is_fraction dc_is_fraction pm_is_fraction an_is_fraction cd_is_fraction ct_is_fraction), sl_is_fraction⟩)
    (c_is_fraction : PySem.W.codeIn K cd_is_fraction "is_fraction" = true)
    (k_is_fraction : PySem.W.keepIn K (.ref f_is_fraction) = true)
    (a_is_chance : PySem.W.nsIn K mainGlobals "is_chance" = some (some (.ref f_is_chance)))
    (l_is_chance : K.lookup f_is_chance = some ⟨oc_is_chance, od_is_chance, .func (PySem.W.fnOf "is_chance" "is_chance" (defArgs s_is_chance) (defBody s_is_chance) (defScope s_is_chance) .none kV_is_chance dc_is_chance pm_is_chance an_is_chance cd_is_chance ct_is_chance), sl_is_chance⟩)
    (c_is_chance : PySem.W.codeIn K cd_is_chance "is_chance" = true)
    (k_is_chance : PySem.W.keepIn K (.ref f_is_chance) = true)
    (a_is_share : PySem.W.nsIn K mainGlobals "is_share" = some (some (.ref f_is_share)))
    (l_is_share : K.lookup f_is_share = some ⟨oc_is_share, od_is_share, .func (PySem.W.fnOf "is_share" "is_share" (defArgs s_is_share) (defBody s_is_share) (defScope s_is_share) .none kV_is_share dc_is_share pm_is_share an_is_share cd_is_share ct_is_share), sl_is_share⟩)
    (c_is_share : PySem.W.codeIn K cd_is_share "is_share" = true)
    (k_is_share : PySem.W.keepIn K (.ref f_is_share) = true)
    (a_are_shares : PySem.W.nsIn K mainGlobals "are_shares" = some (some (.ref f_are_shares)))
    (l_are_shares : K.lookup f_are_shares = some ⟨oc_are_shares, od_are_shares, .func (PySem.W.fnOf "are_shares" "are_shares" (defArgs s_are_shares) (defBody s_are_shares) (defScope s_are_shares) .none kV_are_shares dc_are_shares pm_are_shares an_are_shares cd_are_shares ct_are_shares), sl_are_shares⟩)
    (c_are_shares : PySem.W.codeIn K cd_are_shares "are_shares" = true)
    (k_are_shares : PySem.W.keepIn K (.ref f_are_shares) = true)
    (a_are_chances : PySem.W.nsIn K mainGlobals "are_chances" = some (some (.ref f_are_chances)))
    (l_are_chances : K.lookup f_are_chances = some ⟨oc_are_chances, od_are_chances, .func (PySem.W.fnOf "are_chances" "are_chances" (defArgs s_are_chances) (defBody s_are_chances) (defScope s_are_chances) .none kV_are_chances dc_are_chances pm_are_chances an_are_chances cd_are_chances ct_are_chances), sl_are_chances⟩)
    (c_are_chances : PySem.W.codeIn K cd_are_chances "are_chances" = true)
    (k_are_chances : PySem.W.keepIn K (.ref f_are_chances) = true)
    (a_are_nought : PySem.W.nsIn K mainGlobals "are_nought" = some (some (.ref f_are_nought)))
    (l_are_nought : K.lookup f_are_nought = some ⟨oc_are_nought, od_are_nought, .func (PySem.W.fnOf "are_nought" "are_nought" (defArgs s_are_nought) (defBody s_are_nought) (defScope s_are_nought) .none kV_are_nought dc_are_nought pm_are_nought an_are_nought cd_are_nought ct_are_nought), sl_are_nought⟩)
    (c_are_nought : PySem.W.codeIn K cd_are_nought "are_nought" = true)
    (k_are_nought : PySem.W.keepIn K (.ref f_are_nought) = true)
    (a_reduced : PySem.W.nsIn K mainGlobals "reduced" = some (some (.ref f_reduced)))
    (l_reduced : K.lookup f_reduced = some ⟨oc_reduced, od_reduced, .func (PySem.W.fnOf "reduced" "reduced" (defArgs s_reduced) (defBody s_reduced) (defScope s_reduced) .none kV_reduced dc_reduced pm_reduced an_reduced cd_reduced ct_reduced), sl_reduced⟩)
    (c_reduced : PySem.W.codeIn K cd_reduced "reduced" = true)
    (k_reduced : PySem.W.keepIn K (.ref f_reduced) = true)
    (a_multiplied : PySem.W.nsIn K mainGlobals "multiplied" = some (some (.ref f_multiplied)))
    (l_multiplied : K.lookup f_multiplied = some ⟨oc_multiplied, od_multiplied, .func (PySem.W.fnOf "multiplied" "multiplied" (defArgs s_multiplied) (defBody s_multiplied) (defScope s_multiplied) .none kV_multiplied dc_multiplied pm_multiplied an_multiplied cd_multiplied ct_multiplied), sl_multiplied⟩)
    (c_multiplied : PySem.W.codeIn K cd_multiplied "multiplied" = true)
    (k_multiplied : PySem.W.keepIn K (.ref f_multiplied) = true)
    (a_common_bottom : PySem.W.nsIn K mainGlobals "common_bottom" = some (some (.ref f_common_bottom)))
    (l_common_bottom : K.lookup f_common_bottom = some ⟨oc_common_bottom, od_common_bottom, .func (PySem.W.fnOf "common_bottom" "common_bottom" (defArgs s_common_bottom) (defBody s_common_bottom) (defScope s_common_bottom) .none kV_common_bottom dc_common_bottom pm_common_bottom an_common_bottom cd_common_bottom ct_common_bottom), sl_common_bottom⟩)
    (c_common_bottom : PySem.W.codeIn K cd_common_bottom "common_bottom" = true)
    (k_common_bottom : PySem.W.keepIn K (.ref f_common_bottom) = true)
    (a_times_whole : PySem.W.nsIn K mainGlobals "times_whole" = some (some (.ref f_times_whole)))
    (l_times_whole : K.lookup f_times_whole = some ⟨oc_times_whole, od_times_whole, .func (PySem.W.fnOf "times_whole" "times_whole" (defArgs s_times_whole) (defBody s_times_whole) (defScope s_times_whole) .none kV_times_whole dc_times_whole pm_times_whole an_times_whole cd_times_whole ct_times_whole), sl_times_whole⟩)
    (c_times_whole : PySem.W.codeIn K cd_times_whole "times_whole" = true)
    (k_times_whole : PySem.W.keepIn K (.ref f_times_whole) = true)
    (a_total : PySem.W.nsIn K mainGlobals "total" = some (some (.ref f_total)))
    (l_total : K.lookup f_total = some ⟨oc_total, od_total, .func (PySem.W.fnOf "total" "total" (defArgs s_total) (defBody s_total) (defScope s_total) .none kV_total dc_total pm_total an_total cd_total ct_total), sl_total⟩)
    (c_total : PySem.W.codeIn K cd_total "total" = true)
    (k_total : PySem.W.keepIn K (.ref f_total) = true)
    (a_total_weights : PySem.W.nsIn K mainGlobals "total_weights" = some (some (.ref f_total_weights)))
    (l_total_weights : K.lookup f_total_weights = some ⟨oc_total_weights, od_total_weights, .func (PySem.W.fnOf "total_weights" "total_weights" (defArgs s_total_weights) (defBody s_total_weights) (defScope s_total_weights) .none kV_total_weights dc_total_weights pm_total_weights an_total_weights cd_total_weights ct_total_weights), sl_total_weights⟩)
    (c_total_weights : PySem.W.codeIn K cd_total_weights "total_weights" = true)
    (k_total_weights : PySem.W.keepIn K (.ref f_total_weights) = true)
    (a_is_word : PySem.W.nsIn K mainGlobals "is_word" = some (some (.ref f_is_word)))
    (l_is_word : K.lookup f_is_word = some ⟨oc_is_word, od_is_word, .func (PySem.W.fnOf "is_word" "is_word" (defArgs s_is_word) (defBody s_is_word) (defScope s_is_word) .none kV_is_word dc_is_word pm_is_word an_is_word cd_is_word ct_is_word), sl_is_word⟩)
    (c_is_word : PySem.W.codeIn K cd_is_word "is_word" = true)
    (k_is_word : PySem.W.keepIn K (.ref f_is_word) = true)
    (a_is_answer : PySem.W.nsIn K mainGlobals "is_answer" = some (some (.ref f_is_answer)))
    (l_is_answer : K.lookup f_is_answer = some ⟨oc_is_answer, od_is_answer, .func (PySem.W.fnOf "is_answer" "is_answer" (defArgs s_is_answer) (defBody s_is_answer) (defScope s_is_answer) .none kV_is_answer dc_is_answer pm_is_answer an_is_answer cd_is_answer ct_is_answer), sl_is_answer⟩)
    (c_is_answer : PySem.W.codeIn K cd_is_answer "is_answer" = true)
    (k_is_answer : PySem.W.keepIn K (.ref f_is_answer) = true)
    (a_is_ascending : PySem.W.nsIn K mainGlobals "is_ascending" = some (some (.ref f_is_ascending)))
    (l_is_ascending : K.lookup f_is_ascending = some ⟨oc_is_ascending, od_is_ascending, .func (PySem.W.fnOf "is_ascending" "is_ascending" (defArgs s_is_ascending) (defBody s_is_ascending) (defScope s_is_ascending) .none kV_is_ascending dc_is_ascending pm_is_ascending an_is_ascending cd_is_ascending ct_is_ascending), sl_is_ascending⟩)
    (c_is_ascending : PySem.W.codeIn K cd_is_ascending "is_ascending" = true)
    (k_is_ascending : PySem.W.keepIn K (.ref f_is_ascending) = true)
    (a_check_tree : PySem.W.nsIn K mainGlobals "check_tree" = some (some (.ref f_check_tree)))
    (l_check_tree : K.lookup f_check_tree = some ⟨oc_check_tree, od_check_tree, .func (PySem.W.fnOf "check_tree" "check_tree" (defArgs s_check_tree) (defBody s_check_tree) (defScope s_check_tree) .none kV_check_tree dc_check_tree pm_check_tree an_check_tree cd_check_tree ct_check_tree), sl_check_tree⟩)
    (c_check_tree : PySem.W.codeIn K cd_check_tree "check_tree" = true)
    (k_check_tree : PySem.W.keepIn K (.ref f_check_tree) = true)
    (a_check_node : PySem.W.nsIn K mainGlobals "check_node" = some (some (.ref f_check_node)))
    (l_check_node : K.lookup f_check_node = some ⟨oc_check_node, od_check_node, .func (PySem.W.fnOf "check_node" "check_node" (defArgs s_check_node) (defBody s_check_node) (defScope s_check_node) .none kV_check_node dc_check_node pm_check_node an_check_node cd_check_node ct_check_node), sl_check_node⟩)
    (c_check_node : PySem.W.codeIn K cd_check_node "check_node" = true)
    (k_check_node : PySem.W.keepIn K (.ref f_check_node) = true)
    (a_check_question : PySem.W.nsIn K mainGlobals "check_question" = some (some (.ref f_check_question)))
    (l_check_question : K.lookup f_check_question = some ⟨oc_check_question, od_check_question, .func (PySem.W.fnOf "check_question" "check_question" (defArgs s_check_question) (defBody s_check_question) (defScope s_check_question) .none kV_check_question dc_check_question pm_check_question an_check_question cd_check_question ct_check_question), sl_check_question⟩)
    (c_check_question : PySem.W.codeIn K cd_check_question "check_question" = true)
    (k_check_question : PySem.W.keepIn K (.ref f_check_question) = true)
    (a_answers_in : PySem.W.nsIn K mainGlobals "answers_in" = some (some (.ref f_answers_in)))
    (l_answers_in : K.lookup f_answers_in = some ⟨oc_answers_in, od_answers_in, .func (PySem.W.fnOf "answers_in" "answers_in" (defArgs s_answers_in) (defBody s_answers_in) (defScope s_answers_in) .none kV_answers_in dc_answers_in pm_answers_in an_answers_in cd_answers_in ct_answers_in), sl_answers_in⟩)
    (c_answers_in : PySem.W.codeIn K cd_answers_in "answers_in" = true)
    (k_answers_in : PySem.W.keepIn K (.ref f_answers_in) = true)
    (a_rounds_in : PySem.W.nsIn K mainGlobals "rounds_in" = some (some (.ref f_rounds_in)))
    (l_rounds_in : K.lookup f_rounds_in = some ⟨oc_rounds_in, od_rounds_in, .func (PySem.W.fnOf "rounds_in" "rounds_in" (defArgs s_rounds_in) (defBody s_rounds_in) (defScope s_rounds_in) .none kV_rounds_in dc_rounds_in pm_rounds_in an_rounds_in cd_rounds_in ct_rounds_in), sl_rounds_in⟩)
    (c_rounds_in : PySem.W.codeIn K cd_rounds_in "rounds_in" = true)
    (k_rounds_in : PySem.W.keepIn K (.ref f_rounds_in) = true)
    (a_House_init : PySem.W.findIn K (.ref Cc) "__init__" = some (some (.ref f_House_init)))
    (i_House_init : PySem.W.isFn K (.ref f_House_init) = true)
    (l_House_init : K.lookup f_House_init = some ⟨oc_House_init, od_House_init, .func (PySem.W.fnOf "__init__" "House.__init__" (defArgs s_House_init) (defBody s_House_init) (defScope s_House_init) .none kV_House_init dc_House_init pm_House_init an_House_init cd_House_init ct_House_init), sl_House_init⟩)
    (c_House_init : PySem.W.codeIn K cd_House_init "House.__init__" = true)
    (k_House_init : PySem.W.keepIn K (.ref f_House_init) = true)
    (a_House_eq : PySem.W.findIn K (.ref Cc) "__eq__" = some (some (.ref f_House_eq)))
    (i_House_eq : PySem.W.isFn K (.ref f_House_eq) = true)
    (l_House_eq : K.lookup f_House_eq = some ⟨oc_House_eq, od_House_eq, .func (PySem.W.fnOf "__eq__" "House.__eq__" (defArgs s_House_eq) (defBody s_House_eq) (defScope s_House_eq) .none kV_House_eq dc_House_eq pm_House_eq an_House_eq cd_House_eq ct_House_eq), sl_House_eq⟩)
    (c_House_eq : PySem.W.codeIn K cd_House_eq "House.__eq__" = true)
    (k_House_eq : PySem.W.keepIn K (.ref f_House_eq) = true)
    (a_made_house : PySem.W.nsIn K mainGlobals "made_house" = some (some (.ref f_made_house)))
    (l_made_house : K.lookup f_made_house = some ⟨oc_made_house, od_made_house, .func (PySem.W.fnOf "made_house" "made_house" (defArgs s_made_house) (defBody s_made_house) (defScope s_made_house) .none kV_made_house dc_made_house pm_made_house an_made_house cd_made_house ct_made_house), sl_made_house⟩)
    (c_made_house : PySem.W.codeIn K cd_made_house "made_house" = true)
    (k_made_house : PySem.W.keepIn K (.ref f_made_house) = true)
    (a_check_alike : PySem.W.nsIn K mainGlobals "check_alike" = some (some (.ref f_check_alike)))
    (l_check_alike : K.lookup f_check_alike = some ⟨oc_check_alike, od_check_alike, .func (PySem.W.fnOf "check_alike" "check_alike" (defArgs s_check_alike) (defBody s_check_alike) (defScope s_check_alike) .none kV_check_alike dc_check_alike pm_check_alike an_check_alike cd_check_alike ct_check_alike), sl_check_alike⟩)
    (c_check_alike : PySem.W.codeIn K cd_check_alike "check_alike" = true)
    (k_check_alike : PySem.W.keepIn K (.ref f_check_alike) = true)
    (a_is_wait : PySem.W.nsIn K mainGlobals "is_wait" = some (some (.ref f_is_wait)))
    (l_is_wait : K.lookup f_is_wait = some ⟨oc_is_wait, od_is_wait, .func (PySem.W.fnOf "is_wait" "is_wait" (defArgs s_is_wait) (defBody s_is_wait) (defScope s_is_wait) .none kV_is_wait dc_is_wait pm_is_wait an_is_wait cd_is_wait ct_is_wait), sl_is_wait⟩)
    (c_is_wait : PySem.W.codeIn K cd_is_wait "is_wait" = true)
    (k_is_wait : PySem.W.keepIn K (.ref f_is_wait) = true)
    (a_is_move : PySem.W.nsIn K mainGlobals "is_move" = some (some (.ref f_is_move)))
    (l_is_move : K.lookup f_is_move = some ⟨oc_is_move, od_is_move, .func (PySem.W.fnOf "is_move" "is_move" (defArgs s_is_move) (defBody s_is_move) (defScope s_is_move) .none kV_is_move dc_is_move pm_is_move an_is_move cd_is_move ct_is_move), sl_is_move⟩)
    (c_is_move : PySem.W.codeIn K cd_is_move "is_move" = true)
    (k_is_move : PySem.W.keepIn K (.ref f_is_move) = true)
    (a_is_plan : PySem.W.nsIn K mainGlobals "is_plan" = some (some (.ref f_is_plan)))
    (l_is_plan : K.lookup f_is_plan = some ⟨oc_is_plan, od_is_plan, .func (PySem.W.fnOf "is_plan" "is_plan" (defArgs s_is_plan) (defBody s_is_plan) (defScope s_is_plan) .none kV_is_plan dc_is_plan pm_is_plan an_is_plan cd_is_plan ct_is_plan), sl_is_plan⟩)
    (c_is_plan : PySem.W.codeIn K cd_is_plan "is_plan" = true)
    (k_is_plan : PySem.W.keepIn K (.ref f_is_plan) = true)
    (a_is_shared_plan : PySem.W.nsIn K mainGlobals "is_shared_plan" = some (some (.ref f_is_shared_plan)))
    (l_is_shared_plan : K.lookup f_is_shared_plan = some ⟨oc_is_shared_plan, od_is_shared_plan, .func (PySem.W.fnOf "is_shared_plan" "is_shared_plan" (defArgs s_is_shared_plan) (defBody s_is_shared_plan) (defScope s_is_shared_plan) .none kV_is_shared_plan dc_is_shared_plan pm_is_shared_plan an_is_shared_plan cd_is_shared_plan ct_is_shared_plan), sl_is_shared_plan⟩)
    (c_is_shared_plan : PySem.W.codeIn K cd_is_shared_plan "is_shared_plan" = true)
    (k_is_shared_plan : PySem.W.keepIn K (.ref f_is_shared_plan) = true)
    (a_is_go_between : PySem.W.nsIn K mainGlobals "is_go_between" = some (some (.ref f_is_go_between)))
    (l_is_go_between : K.lookup f_is_go_between = some ⟨oc_is_go_between, od_is_go_between, .func (PySem.W.fnOf "is_go_between" "is_go_between" (defArgs s_is_go_between) (defBody s_is_go_between) (defScope s_is_go_between) .none kV_is_go_between dc_is_go_between pm_is_go_between an_is_go_between cd_is_go_between ct_is_go_between), sl_is_go_between⟩)
    (c_is_go_between : PySem.W.codeIn K cd_is_go_between "is_go_between" = true)
    (k_is_go_between : PySem.W.keepIn K (.ref f_is_go_between) = true)
    (a_check_between : PySem.W.nsIn K mainGlobals "check_between" = some (some (.ref f_check_between)))
    (l_check_between : K.lookup f_check_between = some ⟨oc_check_between, od_check_between, .func (PySem.W.fnOf "check_between" "check_between" (defArgs s_check_between) (defBody s_check_between) (defScope s_check_between) .none kV_check_between dc_check_between pm_check_between an_check_between cd_check_between ct_check_between), sl_check_between⟩)
    (c_check_between : PySem.W.codeIn K cd_check_between "check_between" = true)
    (k_check_between : PySem.W.keepIn K (.ref f_check_between) = true)
    (a_tellings : PySem.W.nsIn K mainGlobals "tellings" = some (some (.ref f_tellings)))
    (l_tellings : K.lookup f_tellings = some ⟨oc_tellings, od_tellings, .func (PySem.W.fnOf "tellings" "tellings" (defArgs s_tellings) (defBody s_tellings) (defScope s_tellings) .none kV_tellings dc_tellings pm_tellings an_tellings cd_tellings ct_tellings), sl_tellings⟩)
    (c_tellings : PySem.W.codeIn K cd_tellings "tellings" = true)
    (k_tellings : PySem.W.keepIn K (.ref f_tellings) = true)
    (a_tellers_of : PySem.W.nsIn K mainGlobals "tellers_of" = some (some (.ref f_tellers_of)))
    (l_tellers_of : K.lookup f_tellers_of = some ⟨oc_tellers_of, od_tellers_of, .func (PySem.W.fnOf "tellers_of" "tellers_of" (defArgs s_tellers_of) (defBody s_tellers_of) (defScope s_tellers_of) .none kV_tellers_of dc_tellers_of pm_tellers_of an_tellers_of cd_tellers_of ct_tellers_of), sl_tellers_of⟩)
    (c_tellers_of : PySem.W.codeIn K cd_tellers_of "tellers_of" = true)
    (k_tellers_of : PySem.W.keepIn K (.ref f_tellers_of) = true)
    (a_weight_of : PySem.W.nsIn K mainGlobals "weight_of" = some (some (.ref f_weight_of)))
    (l_weight_of : K.lookup f_weight_of = some ⟨oc_weight_of, od_weight_of, .func (PySem.W.fnOf "weight_of" "weight_of" (defArgs s_weight_of) (defBody s_weight_of) (defScope s_weight_of) .none kV_weight_of dc_weight_of pm_weight_of an_weight_of cd_weight_of ct_weight_of), sl_weight_of⟩)
    (c_weight_of : PySem.W.codeIn K cd_weight_of "weight_of" = true)
    (k_weight_of : PySem.W.keepIn K (.ref f_weight_of) = true)
    (a_led_node : PySem.W.nsIn K mainGlobals "led_node" = some (some (.ref f_led_node)))
    (l_led_node : K.lookup f_led_node = some ⟨oc_led_node, od_led_node, .func (PySem.W.fnOf "led_node" "led_node" (defArgs s_led_node) (defBody s_led_node) (defScope s_led_node) .none kV_led_node dc_led_node pm_led_node an_led_node cd_led_node ct_led_node), sl_led_node⟩)
    (c_led_node : PySem.W.codeIn K cd_led_node "led_node" = true)
    (k_led_node : PySem.W.keepIn K (.ref f_led_node) = true)
    (a_led_house : PySem.W.nsIn K mainGlobals "led_house" = some (some (.ref f_led_house)))
    (l_led_house : K.lookup f_led_house = some ⟨oc_led_house, od_led_house, .func (PySem.W.fnOf "led_house" "led_house" (defArgs s_led_house) (defBody s_led_house) (defScope s_led_house) .none kV_led_house dc_led_house pm_led_house an_led_house cd_led_house ct_led_house), sl_led_house⟩)
    (c_led_house : PySem.W.codeIn K cd_led_house "led_house" = true)
    (k_led_house : PySem.W.keepIn K (.ref f_led_house) = true)
    (a_led : PySem.W.nsIn K mainGlobals "led" = some (some (.ref f_led)))
    (l_led : K.lookup f_led = some ⟨oc_led, od_led, .func (PySem.W.fnOf "led" "led" (defArgs s_led) (defBody s_led) (defScope s_led) .none kV_led dc_led pm_led an_led cd_led ct_led), sl_led⟩)
    (c_led : PySem.W.codeIn K cd_led "led" = true)
    (k_led : PySem.W.keepIn K (.ref f_led) = true)
    (a_is_between : PySem.W.nsIn K mainGlobals "is_between" = some (some (.ref f_is_between)))
    (l_is_between : K.lookup f_is_between = some ⟨oc_is_between, od_is_between, .func (PySem.W.fnOf "is_between" "is_between" (defArgs s_is_between) (defBody s_is_between) (defScope s_is_between) .none kV_is_between dc_is_between pm_is_between an_is_between cd_is_between ct_is_between), sl_is_between⟩)
    (c_is_between : PySem.W.codeIn K cd_is_between "is_between" = true)
    (k_is_between : PySem.W.keepIn K (.ref f_is_between) = true)
    (a_passing_wait : PySem.W.nsIn K mainGlobals "passing_wait" = some (some (.ref f_passing_wait)))
    (l_passing_wait : K.lookup f_passing_wait = some ⟨oc_passing_wait, od_passing_wait, .func (PySem.W.fnOf "passing_wait" "passing_wait" (defArgs s_passing_wait) (defBody s_passing_wait) (defScope s_passing_wait) .none kV_passing_wait dc_passing_wait pm_passing_wait an_passing_wait cd_passing_wait ct_passing_wait), sl_passing_wait⟩)
    (c_passing_wait : PySem.W.codeIn K cd_passing_wait "passing_wait" = true)
    (k_passing_wait : PySem.W.keepIn K (.ref f_passing_wait) = true)
    (a_passing : PySem.W.nsIn K mainGlobals "passing" = some (some (.ref f_passing)))
    (l_passing : K.lookup f_passing = some ⟨oc_passing, od_passing, .func (PySem.W.fnOf "passing" "passing" (defArgs s_passing) (defBody s_passing) (defScope s_passing) .none kV_passing dc_passing pm_passing an_passing cd_passing ct_passing), sl_passing⟩)
    (c_passing : PySem.W.codeIn K cd_passing "passing" = true)
    (k_passing : PySem.W.keepIn K (.ref f_passing) = true)
    (a_joined_wait : PySem.W.nsIn K mainGlobals "joined_wait" = some (some (.ref f_joined_wait)))
    (l_joined_wait : K.lookup f_joined_wait = some ⟨oc_joined_wait, od_joined_wait, .func (PySem.W.fnOf "joined_wait" "joined_wait" (defArgs s_joined_wait) (defBody s_joined_wait) (defScope s_joined_wait) .none kV_joined_wait dc_joined_wait pm_joined_wait an_joined_wait cd_joined_wait ct_joined_wait), sl_joined_wait⟩)
    (c_joined_wait : PySem.W.codeIn K cd_joined_wait "joined_wait" = true)
    (k_joined_wait : PySem.W.keepIn K (.ref f_joined_wait) = true)
    (a_joined_move : PySem.W.nsIn K mainGlobals "joined_move" = some (some (.ref f_joined_move)))
    (l_joined_move : K.lookup f_joined_move = some ⟨oc_joined_move, od_joined_move, .func (PySem.W.fnOf "joined_move" "joined_move" (defArgs s_joined_move) (defBody s_joined_move) (defScope s_joined_move) .none kV_joined_move dc_joined_move pm_joined_move an_joined_move cd_joined_move ct_joined_move), sl_joined_move⟩)
    (c_joined_move : PySem.W.codeIn K cd_joined_move "joined_move" = true)
    (k_joined_move : PySem.W.keepIn K (.ref f_joined_move) = true)
    (a_answered_move : PySem.W.nsIn K mainGlobals "answered_move" = some (some (.ref f_answered_move)))
    (l_answered_move : K.lookup f_answered_move = some ⟨oc_answered_move, od_answered_move, .func (PySem.W.fnOf "answered_move" "answered_move" (defArgs s_answered_move) (defBody s_answered_move) (defScope s_answered_move) .none kV_answered_move dc_answered_move pm_answered_move an_answered_move cd_answered_move ct_answered_move), sl_answered_move⟩)
    (c_answered_move : PySem.W.codeIn K cd_answered_move "answered_move" = true)
    (k_answered_move : PySem.W.keepIn K (.ref f_answered_move) = true)
    (a_joined : PySem.W.nsIn K mainGlobals "joined" = some (some (.ref f_joined)))
    (l_joined : K.lookup f_joined = some ⟨oc_joined, od_joined, .func (PySem.W.fnOf "joined" "joined" (defArgs s_joined) (defBody s_joined) (defScope s_joined) .none kV_joined dc_joined pm_joined an_joined cd_joined ct_joined), sl_joined⟩)
    (c_joined : PySem.W.codeIn K cd_joined "joined" = true)
    (k_joined : PySem.W.keepIn K (.ref f_joined) = true)
    (a_law_bag : PySem.W.nsIn K mainGlobals "_law_bag" = some (some (.ref f_law_bag)))
    (l_law_bag : K.lookup f_law_bag = some ⟨oc_law_bag, od_law_bag, .func (PySem.W.fnOf "_law_bag" "_law_bag" (defArgs s_law_bag) (defBody s_law_bag) (defScope s_law_bag) .none kV_law_bag dc_law_bag pm_law_bag an_law_bag cd_law_bag ct_law_bag), sl_law_bag⟩)
    (c_law_bag : PySem.W.codeIn K cd_law_bag "_law_bag" = true)
    (k_law_bag : PySem.W.keepIn K (.ref f_law_bag) = true)
    (a_law_pick : PySem.W.nsIn K mainGlobals "_law_pick" = some (some (.ref f_law_pick)))
    (l_law_pick : K.lookup f_law_pick = some ⟨oc_law_pick, od_law_pick, .func (PySem.W.fnOf "_law_pick" "_law_pick" (defArgs s_law_pick) (defBody s_law_pick) (defScope s_law_pick) .none kV_law_pick dc_law_pick pm_law_pick an_law_pick cd_law_pick ct_law_pick), sl_law_pick⟩)
    (c_law_pick : PySem.W.codeIn K cd_law_pick "_law_pick" = true)
    (k_law_pick : PySem.W.keepIn K (.ref f_law_pick) = true)
    (a_law_some : PySem.W.nsIn K mainGlobals "_law_some" = some (some (.ref f_law_some)))
    (l_law_some : K.lookup f_law_some = some ⟨oc_law_some, od_law_some, .func (PySem.W.fnOf "_law_some" "_law_some" (defArgs s_law_some) (defBody s_law_some) (defScope s_law_some) .none kV_law_some dc_law_some pm_law_some an_law_some cd_law_some ct_law_some), sl_law_some⟩)
    (c_law_some : PySem.W.codeIn K cd_law_some "_law_some" = true)
    (k_law_some : PySem.W.keepIn K (.ref f_law_some) = true)
    (a_law_common : PySem.W.nsIn K mainGlobals "_law_common" = some (some (.ref f_law_common)))
    (l_law_common : K.lookup f_law_common = some ⟨oc_law_common, od_law_common, .func (PySem.W.fnOf "_law_common" "_law_common" (defArgs s_law_common) (defBody s_law_common) (defScope s_law_common) .none kV_law_common dc_law_common pm_law_common an_law_common cd_law_common ct_law_common), sl_law_common⟩)
    (c_law_common : PySem.W.codeIn K cd_law_common "_law_common" = true)
    (k_law_common : PySem.W.keepIn K (.ref f_law_common) = true)
    (a_law_low : PySem.W.nsIn K mainGlobals "_law_low" = some (some (.ref f_law_low)))
    (l_law_low : K.lookup f_law_low = some ⟨oc_law_low, od_law_low, .func (PySem.W.fnOf "_law_low" "_law_low" (defArgs s_law_low) (defBody s_law_low) (defScope s_law_low) .none kV_law_low dc_law_low pm_law_low an_law_low cd_law_low ct_law_low), sl_law_low⟩)
    (c_law_low : PySem.W.codeIn K cd_law_low "_law_low" = true)
    (k_law_low : PySem.W.keepIn K (.ref f_law_low) = true)
    (a_law_plus : PySem.W.nsIn K mainGlobals "_law_plus" = some (some (.ref f_law_plus)))
    (l_law_plus : K.lookup f_law_plus = some ⟨oc_law_plus, od_law_plus, .func (PySem.W.fnOf "_law_plus" "_law_plus" (defArgs s_law_plus) (defBody s_law_plus) (defScope s_law_plus) .none kV_law_plus dc_law_plus pm_law_plus an_law_plus cd_law_plus ct_law_plus), sl_law_plus⟩)
    (c_law_plus : PySem.W.codeIn K cd_law_plus "_law_plus" = true)
    (k_law_plus : PySem.W.keepIn K (.ref f_law_plus) = true)
    (a_law_times : PySem.W.nsIn K mainGlobals "_law_times" = some (some (.ref f_law_times)))
    (l_law_times : K.lookup f_law_times = some ⟨oc_law_times, od_law_times, .func (PySem.W.fnOf "_law_times" "_law_times" (defArgs s_law_times) (defBody s_law_times) (defScope s_law_times) .none kV_law_times dc_law_times pm_law_times an_law_times cd_law_times ct_law_times), sl_law_times⟩)
    (c_law_times : PySem.W.codeIn K cd_law_times "_law_times" = true)
    (k_law_times : PySem.W.keepIn K (.ref f_law_times) = true)
    (a_law_total : PySem.W.nsIn K mainGlobals "_law_total" = some (some (.ref f_law_total)))
    (l_law_total : K.lookup f_law_total = some ⟨oc_law_total, od_law_total, .func (PySem.W.fnOf "_law_total" "_law_total" (defArgs s_law_total) (defBody s_law_total) (defScope s_law_total) .none kV_law_total dc_law_total pm_law_total an_law_total cd_law_total ct_law_total), sl_law_total⟩)
    (c_law_total : PySem.W.codeIn K cd_law_total "_law_total" = true)
    (k_law_total : PySem.W.keepIn K (.ref f_law_total) = true)
    (a_law_shares : PySem.W.nsIn K mainGlobals "_law_shares" = some (some (.ref f_law_shares)))
    (l_law_shares : K.lookup f_law_shares = some ⟨oc_law_shares, od_law_shares, .func (PySem.W.fnOf "_law_shares" "_law_shares" (defArgs s_law_shares) (defBody s_law_shares) (defScope s_law_shares) .none kV_law_shares dc_law_shares pm_law_shares an_law_shares cd_law_shares ct_law_shares), sl_law_shares⟩)
    (c_law_shares : PySem.W.codeIn K cd_law_shares "_law_shares" = true)
    (k_law_shares : PySem.W.keepIn K (.ref f_law_shares) = true)
    (a_law_question : PySem.W.nsIn K mainGlobals "_law_question" = some (some (.ref f_law_question)))
    (l_law_question : K.lookup f_law_question = some ⟨oc_law_question, od_law_question, .func (PySem.W.fnOf "_law_question" "_law_question" (defArgs s_law_question) (defBody s_law_question) (defScope s_law_question) .none kV_law_question dc_law_question pm_law_question an_law_question cd_law_question ct_law_question), sl_law_question⟩)
    (c_law_question : PySem.W.codeIn K cd_law_question "_law_question" = true)
    (k_law_question : PySem.W.keepIn K (.ref f_law_question) = true)
    (a_law_node : PySem.W.nsIn K mainGlobals "_law_node" = some (some (.ref f_law_node)))
    (l_law_node : K.lookup f_law_node = some ⟨oc_law_node, od_law_node, .func (PySem.W.fnOf "_law_node" "_law_node" (defArgs s_law_node) (defBody s_law_node) (defScope s_law_node) .none kV_law_node dc_law_node pm_law_node an_law_node cd_law_node ct_law_node), sl_law_node⟩)
    (c_law_node : PySem.W.codeIn K cd_law_node "_law_node" = true)
    (k_law_node : PySem.W.keepIn K (.ref f_law_node) = true)
    (a_law_tree : PySem.W.nsIn K mainGlobals "_law_tree" = some (some (.ref f_law_tree)))
    (l_law_tree : K.lookup f_law_tree = some ⟨oc_law_tree, od_law_tree, .func (PySem.W.fnOf "_law_tree" "_law_tree" (defArgs s_law_tree) (defBody s_law_tree) (defScope s_law_tree) .none kV_law_tree dc_law_tree pm_law_tree an_law_tree cd_law_tree ct_law_tree), sl_law_tree⟩)
    (c_law_tree : PySem.W.codeIn K cd_law_tree "_law_tree" = true)
    (k_law_tree : PySem.W.keepIn K (.ref f_law_tree) = true)
    (a_law_is : PySem.W.nsIn K mainGlobals "_law_is" = some (some (.ref f_law_is)))
    (l_law_is : K.lookup f_law_is = some ⟨oc_law_is, od_law_is, .func (PySem.W.fnOf "_law_is" "_law_is" (defArgs s_law_is) (defBody s_law_is) (defScope s_law_is) .none kV_law_is dc_law_is pm_law_is an_law_is cd_law_is ct_law_is), sl_law_is⟩)
    (c_law_is : PySem.W.codeIn K cd_law_is "_law_is" = true)
    (k_law_is : PySem.W.keepIn K (.ref f_law_is) = true)
    (a_law_wait : PySem.W.nsIn K mainGlobals "_law_wait" = some (some (.ref f_law_wait)))
    (l_law_wait : K.lookup f_law_wait = some ⟨oc_law_wait, od_law_wait, .func (PySem.W.fnOf "_law_wait" "_law_wait" (defArgs s_law_wait) (defBody s_law_wait) (defScope s_law_wait) .none kV_law_wait dc_law_wait pm_law_wait an_law_wait cd_law_wait ct_law_wait), sl_law_wait⟩)
    (c_law_wait : PySem.W.codeIn K cd_law_wait "_law_wait" = true)
    (k_law_wait : PySem.W.keepIn K (.ref f_law_wait) = true)
    (a_law_move : PySem.W.nsIn K mainGlobals "_law_move" = some (some (.ref f_law_move)))
    (l_law_move : K.lookup f_law_move = some ⟨oc_law_move, od_law_move, .func (PySem.W.fnOf "_law_move" "_law_move" (defArgs s_law_move) (defBody s_law_move) (defScope s_law_move) .none kV_law_move dc_law_move pm_law_move an_law_move cd_law_move ct_law_move), sl_law_move⟩)
    (c_law_move : PySem.W.codeIn K cd_law_move "_law_move" = true)
    (k_law_move : PySem.W.keepIn K (.ref f_law_move) = true)
    (a_law_between : PySem.W.nsIn K mainGlobals "_law_between" = some (some (.ref f_law_between)))
    (l_law_between : K.lookup f_law_between = some ⟨oc_law_between, od_law_between, .func (PySem.W.fnOf "_law_between" "_law_between" (defArgs s_law_between) (defBody s_law_between) (defScope s_law_between) .none kV_law_between dc_law_between pm_law_between an_law_between cd_law_between ct_law_between), sl_law_between⟩)
    (c_law_between : PySem.W.codeIn K cd_law_between "_law_between" = true)
    (k_law_between : PySem.W.keepIn K (.ref f_law_between) = true)
    (a_law_is_int : PySem.W.nsIn K mainGlobals "_law_is_int" = some (some (.ref f_law_is_int)))
    (l_law_is_int : K.lookup f_law_is_int = some ⟨oc_law_is_int, od_law_is_int, .func (PySem.W.fnOf "_law_is_int" "_law_is_int" (defArgs s_law_is_int) (defBody s_law_is_int) (defScope s_law_is_int) .none kV_law_is_int dc_law_is_int pm_law_is_int an_law_is_int cd_law_is_int ct_law_is_int), sl_law_is_int⟩)
    (c_law_is_int : PySem.W.codeIn K cd_law_is_int "_law_is_int" = true)
    (k_law_is_int : PySem.W.keepIn K (.ref f_law_is_int) = true)
    (a_law_is_fraction : PySem.W.nsIn K mainGlobals "_law_is_fraction" = some (some (.ref f_law_is_fraction)))
    (l_law_is_fraction : K.lookup f_law_is_fraction = some ⟨oc_law_is_fraction, od_law_is_fraction, .func (PySem.W.fnOf "_law_is_fraction" "_law_is_fraction" (defArgs s_law_is_fraction) (defBody s_law_is_fraction) (defScope s_law_is_fraction) .none kV_law_is_fraction dc_law_is_fraction pm_law_is_fraction an_law_is_fraction cd_law_is_fraction ct_law_is_fraction), sl_law_is_fraction⟩)
    (c_law_is_fraction : PySem.W.codeIn K cd_law_is_fraction "_law_is_fraction" = true)
    (k_law_is_fraction : PySem.W.keepIn K (.ref f_law_is_fraction) = true)
    (a_law_is_wait : PySem.W.nsIn K mainGlobals "_law_is_wait" = some (some (.ref f_law_is_wait)))
    (l_law_is_wait : K.lookup f_law_is_wait = some ⟨oc_law_is_wait, od_law_is_wait, .func (PySem.W.fnOf "_law_is_wait" "_law_is_wait" (defArgs s_law_is_wait) (defBody s_law_is_wait) (defScope s_law_is_wait) .none kV_law_is_wait dc_law_is_wait pm_law_is_wait an_law_is_wait cd_law_is_wait ct_law_is_wait), sl_law_is_wait⟩)
    (c_law_is_wait : PySem.W.codeIn K cd_law_is_wait "_law_is_wait" = true)
    (k_law_is_wait : PySem.W.keepIn K (.ref f_law_is_wait) = true)
    (a_law_is_move : PySem.W.nsIn K mainGlobals "_law_is_move" = some (some (.ref f_law_is_move)))
    (l_law_is_move : K.lookup f_law_is_move = some ⟨oc_law_is_move, od_law_is_move, .func (PySem.W.fnOf "_law_is_move" "_law_is_move" (defArgs s_law_is_move) (defBody s_law_is_move) (defScope s_law_is_move) .none kV_law_is_move dc_law_is_move pm_law_is_move an_law_is_move cd_law_is_move ct_law_is_move), sl_law_is_move⟩)
    (c_law_is_move : PySem.W.codeIn K cd_law_is_move "_law_is_move" = true)
    (k_law_is_move : PySem.W.keepIn K (.ref f_law_is_move) = true)
    (a_law_is_between : PySem.W.nsIn K mainGlobals "_law_is_between" = some (some (.ref f_law_is_between)))
    (l_law_is_between : K.lookup f_law_is_between = some ⟨oc_law_is_between, od_law_is_between, .func (PySem.W.fnOf "_law_is_between" "_law_is_between" (defArgs s_law_is_between) (defBody s_law_is_between) (defScope s_law_is_between) .none kV_law_is_between dc_law_is_between pm_law_is_between an_law_is_between cd_law_is_between ct_law_is_between), sl_law_is_between⟩)
    (c_law_is_between : PySem.W.codeIn K cd_law_is_between "_law_is_between" = true)
    (k_law_is_between : PySem.W.keepIn K (.ref f_law_is_between) = true)
    (a_law_told : PySem.W.nsIn K mainGlobals "_law_told" = some (some (.ref f_law_told)))
    (l_law_told : K.lookup f_law_told = some ⟨oc_law_told, od_law_told, .func (PySem.W.fnOf "_law_told" "_law_told" (defArgs s_law_told) (defBody s_law_told) (defScope s_law_told) .none kV_law_told dc_law_told pm_law_told an_law_told cd_law_told ct_law_told), sl_law_told⟩)
    (c_law_told : PySem.W.codeIn K cd_law_told "_law_told" = true)
    (k_law_told : PySem.W.keepIn K (.ref f_law_told) = true)
    (a_law_made_by : PySem.W.nsIn K mainGlobals "_law_made_by" = some (some (.ref f_law_made_by)))
    (l_law_made_by : K.lookup f_law_made_by = some ⟨oc_law_made_by, od_law_made_by, .func (PySem.W.fnOf "_law_made_by" "_law_made_by" (defArgs s_law_made_by) (defBody s_law_made_by) (defScope s_law_made_by) .none kV_law_made_by dc_law_made_by pm_law_made_by an_law_made_by cd_law_made_by ct_law_made_by), sl_law_made_by⟩)
    (c_law_made_by : PySem.W.codeIn K cd_law_made_by "_law_made_by" = true)
    (k_law_made_by : PySem.W.keepIn K (.ref f_law_made_by) = true)
    (a_law_led : PySem.W.nsIn K mainGlobals "_law_led" = some (some (.ref f_law_led)))
    (l_law_led : K.lookup f_law_led = some ⟨oc_law_led, od_law_led, .func (PySem.W.fnOf "_law_led" "_law_led" (defArgs s_law_led) (defBody s_law_led) (defScope s_law_led) .none kV_law_led dc_law_led pm_law_led an_law_led cd_law_led ct_law_led), sl_law_led⟩)
    (c_law_led : PySem.W.codeIn K cd_law_led "_law_led" = true)
    (k_law_led : PySem.W.keepIn K (.ref f_law_led) = true)
    (a_law_shaped : PySem.W.nsIn K mainGlobals "_law_shaped" = some (some (.ref f_law_shaped)))
    (l_law_shaped : K.lookup f_law_shaped = some ⟨oc_law_shaped, od_law_shaped, .func (PySem.W.fnOf "_law_shaped" "_law_shaped" (defArgs s_law_shaped) (defBody s_law_shaped) (defScope s_law_shaped) .none kV_law_shaped dc_law_shaped pm_law_shaped an_law_shaped cd_law_shaped ct_law_shaped), sl_law_shaped⟩)
    (c_law_shaped : PySem.W.codeIn K cd_law_shaped "_law_shaped" = true)
    (k_law_shaped : PySem.W.keepIn K (.ref f_law_shaped) = true)
    (a_law_two : PySem.W.nsIn K mainGlobals "_law_two" = some (some (.ref f_law_two)))
    (l_law_two : K.lookup f_law_two = some ⟨oc_law_two, od_law_two, .func (PySem.W.fnOf "_law_two" "_law_two" (defArgs s_law_two) (defBody s_law_two) (defScope s_law_two) .none kV_law_two dc_law_two pm_law_two an_law_two cd_law_two ct_law_two), sl_law_two⟩)
    (c_law_two : PySem.W.codeIn K cd_law_two "_law_two" = true)
    (k_law_two : PySem.W.keepIn K (.ref f_law_two) = true)
    (a_law : PySem.W.nsIn K mainGlobals "law" = some (some (.ref f_law)))
    (l_law : K.lookup f_law = some ⟨oc_law, od_law, .func (PySem.W.fnOf "law" "law" (defArgs s_law) (defBody s_law) (defScope s_law) .none kV_law dc_law pm_law an_law cd_law ct_law), sl_law⟩)
    (c_law : PySem.W.codeIn K cd_law "law" = true)
    (k_law : PySem.W.keepIn K (.ref f_law) = true)
    (pgC : PySem.W.plainGet K Cc Str.empty = true)
    (hdC : PySem.W.hasDictIn K Cc = true)
    (poC : PySem.W.plainOver K Cc = true)
    (saC : PySem.W.findIn K (.ref Cc) "__setattr__" = some (some (.builtin "object.__setattr__")))
    (mkC : PySem.W.makesIn K Cc = true)
    (kcC : PySem.W.keepIn K (.ref Cc) = true)
    (nwC : PySem.W.findIn K (.ref Cc) "worlds" = some none)
    (ntC : PySem.W.findIn K (.ref Cc) "tree" = some none)
    (haC : PySem.W.findIn K (.ref Cc) "__class__" = some (some (.builtin "object.__class__")))
    (hnC : PySem.W.specialIn K (.builtin "object.__class__") "__get__" = some (some (.builtin "getset_descriptor.__get__")))
    (htC : PySem.W.takesIn K (.builtin "object.__class__") = some true)
    (hmC : PySem.W.mroIn K Cc (.type "object") = some true)
    (gcd : PySem.W.nsIn K mainGlobals "gcd" = some (some (.builtin "math.gcd")))
    (lcm : PySem.W.nsIn K mainGlobals "lcm" = some (some (.builtin "math.lcm")))
    (aN0 : PySem.W.nsIn K mainGlobals "NOUGHT" = some (some (.ref aN)))
    (aO0 : PySem.W.nsIn K mainGlobals "ONE" = some (some (.ref aO)))
    (lN : K.lookup aN = some ⟨.type "tuple", odN, .seq #[.int 0 tN1, .int 1 tN2] nN, slN⟩)
    (lO : K.lookup aO = some ⟨.type "tuple", odO, .seq #[.int 1 tO1, .int 1 tO2] nO, slO⟩)
    (m_MOST_QUESTIONS : PySem.W.nsIn K mainGlobals "MOST_QUESTIONS" = some (some (.int 5 t1)))
    (m_MOST_WORDS : PySem.W.nsIn K mainGlobals "MOST_WORDS" = some (some (.int 12 t2)))
    (m_MOST_NUMBERS : PySem.W.nsIn K mainGlobals "MOST_NUMBERS" = some (some (.int 8 t3)))
    (m_MOST_ON_A_WAY : PySem.W.nsIn K mainGlobals "MOST_ON_A_WAY" = some (some (.int 8 t4)))
    (m_MOST_PASSED : PySem.W.nsIn K mainGlobals "MOST_PASSED" = some (some (.int 1500 t5)))
    (m_MOST_ROUNDS : PySem.W.nsIn K mainGlobals "MOST_ROUNDS" = some (some (.int 12 t6)))
    (m_MOST_ANSWERS : PySem.W.nsIn K mainGlobals "MOST_ANSWERS" = some (some (.int 3000 t7)))
    (z_str : PySem.W.nsIn K mainGlobals "str" = some none)
    (z_len : PySem.W.nsIn K mainGlobals "len" = some none)
    (z_int : PySem.W.nsIn K mainGlobals "int" = some none)
    (z_abs : PySem.W.nsIn K mainGlobals "abs" = some none)
    (z_sum : PySem.W.nsIn K mainGlobals "sum" = some none)
    (z_range : PySem.W.nsIn K mainGlobals "range" = some none)
    (z_repr : PySem.W.nsIn K mainGlobals "repr" = some none)
    (z_isinstance : PySem.W.nsIn K mainGlobals "isinstance" = some none)
    (z_any : PySem.W.nsIn K mainGlobals "any" = some none)
    (z_all : PySem.W.nsIn K mainGlobals "all" = some none)
    (z_tuple : PySem.W.nsIn K mainGlobals "tuple" = some none)
    (z_list : PySem.W.nsIn K mainGlobals "list" = some none)
    (z_zip : PySem.W.nsIn K mainGlobals "zip" = some none)
    (z_enumerate : PySem.W.nsIn K mainGlobals "enumerate" = some none)
    (z_max : PySem.W.nsIn K mainGlobals "max" = some none)
    (z_bool : PySem.W.nsIn K mainGlobals "bool" = some none) :
    ∃ fd : FuncData, (∀ (s : Shared) (v : Value), BindsTo s fd ⟨[v], []⟩ [("script", v)]) ∧ ∀ base : Heap, K.In base → base.Ns mainGlobals mg → FnG l.prog w K mg base CX0 42 fa fd ["script"] (spTrue K) := by
  have e := hfa.symm.trans (PySem.W.mg_of X G a_law)
  cases e
  have B : Blt mg := ⟨PySem.W.mg_none_of X G z_len, PySem.W.mg_none_of X G z_int, PySem.W.mg_none_of X G z_abs, PySem.W.mg_none_of X G z_sum, PySem.W.mg_none_of X G z_range, PySem.W.mg_none_of X G z_repr, PySem.W.mg_none_of X G z_isinstance, PySem.W.mg_none_of X G z_any, PySem.W.mg_none_of X G z_all, PySem.W.mg_none_of X G z_tuple, PySem.W.mg_none_of X G z_list, PySem.W.mg_none_of X G z_zip, PySem.W.mg_none_of X G z_enumerate, PySem.W.mg_none_of X G z_max, PySem.W.mg_none_of X G z_bool⟩
  have tN : ∀ H : Hp, SqT K H aN [.int 0, .int 1] := fun H => .inr ⟨_, #[.int 0 tN1, .int 1 tN2], nN, lN, rfl, rfl, by show 2 ≤ sizeLine; decide, .cons ⟨tN1, rfl⟩ (.cons ⟨tN2, rfl⟩ .nil)⟩
  have tO : ∀ H : Hp, SqT K H aO [.int 1, .int 1] := fun H => .inr ⟨_, #[.int 1 tO1, .int 1 tO2], nO, lO, rfl, rfl, by show 2 ≤ sizeLine; decide, .cons ⟨tO1, rfl⟩ (.cons ⟨tO2, rfl⟩ .nil)⟩
  have C : Cst K mg aN aO t1 t2 t3 t4 t5 t6 t7 := ⟨PySem.W.mg_of X G gcd, PySem.W.mg_of X G lcm, PySem.W.mg_of X G aN0, PySem.W.mg_of X G aO0, tN, tO, PySem.W.mg_of X G m_MOST_QUESTIONS, PySem.W.mg_of X G m_MOST_WORDS, PySem.W.mg_of X G m_MOST_NUMBERS, PySem.W.mg_of X G m_MOST_ON_A_WAY, PySem.W.mg_of X G m_MOST_PASSED, PySem.W.mg_of X G m_MOST_ROUNDS, PySem.W.mg_of X G m_MOST_ANSWERS⟩
  have U : Hcl K mg Cc f_House_init f_House_eq := ⟨⟨pgC, hdC, poC, saC⟩, nwC, ntC, ⟨mkC, a_House_init, i_House_init, kcC⟩, a_House_eq, i_House_eq, PySem.W.mg_of X G aC, haC, hnC, htC, hmC⟩
  have BS : mg "str" = none := PySem.W.mg_none_of X G z_str
  have F_is_integral := fun_mk (st := s_is_integral) l_is_integral c_is_integral k_is_integral
  have D_is_integral : Dn K mg "is_integral" s_is_integral ["thing"] f_is_integral _ := ⟨F_is_integral, F_is_integral.binds (ps := ["thing"]) fun _ _ _ _ _ _ us hl => match us, hl with | [_], _ => rfl, PySem.W.mg_of X G a_is_integral⟩
  have F_is_number := fun_mk (st := s_is_number) l_is_number c_is_number k_is_number
  have D_is_number : Dn K mg "is_number" s_is_number ["thing", "least", "most"] f_is_number _ := ⟨F_is_number, F_is_number.binds (ps := ["thing", "least", "most"]) fun _ _ _ _ _ _ us hl => match us, hl with | [_, _, _], _ => rfl, PySem.W.mg_of X G a_is_number⟩
  have F_is_fraction := fun_mk (st := s_is_fraction) l_is_fraction c_is_fraction k_is_fraction
  have D_is_fraction : Dn K mg "is_fraction" s_is_fraction ["thing"] f_is_fraction _ := ⟨F_is_fraction, F_is_fraction.binds (ps := ["thing"]) fun _ _ _ _ _ _ us hl => match us, hl with | [_], _ => rfl, PySem.W.mg_of X G a_is_fraction⟩
  have F_is_chance := fun_mk (st := s_is_chance) l_is_chance c_is_chance k_is_chance
  have D_is_chance : Dn K mg "is_chance" s_is_chance ["thing"] f_is_chance _ := ⟨F_is_chance, F_is_chance.binds (ps := ["thing"]) fun _ _ _ _ _ _ us hl => match us, hl with | [_], _ => rfl, PySem.W.mg_of X G a_is_chance⟩
  have F_is_share := fun_mk (st := s_is_share) l_is_share c_is_share k_is_share
  have D_is_share : Dn K mg "is_share" s_is_share ["thing"] f_is_share _ := ⟨F_is_share, F_is_share.binds (ps := ["thing"]) fun _ _ _ _ _ _ us hl => match us, hl with | [_], _ => rfl, PySem.W.mg_of X G a_is_share⟩
  have F_are_shares := fun_mk (st := s_are_shares) l_are_shares c_are_shares k_are_shares
  have D_are_shares : Dn K mg "are_shares" s_are_shares ["things"] f_are_shares _ := ⟨F_are_shares, F_are_shares.binds (ps := ["things"]) fun _ _ _ _ _ _ us hl => match us, hl with | [_], _ => rfl, PySem.W.mg_of X G a_are_shares⟩
  have F_are_chances := fun_mk (st := s_are_chances) l_are_chances c_are_chances k_are_chances
  have D_are_chances : Dn K mg "are_chances" s_are_chances ["thing", "many"] f_are_chances _ := ⟨F_are_chances, F_are_chances.binds (ps := ["thing", "many"]) fun _ _ _ _ _ _ us hl => match us, hl with | [_, _], _ => rfl, PySem.W.mg_of X G a_are_chances⟩
  have F_are_nought := fun_mk (st := s_are_nought) l_are_nought c_are_nought k_are_nought
  have D_are_nought : Dn K mg "are_nought" s_are_nought ["weights"] f_are_nought _ := ⟨F_are_nought, F_are_nought.binds (ps := ["weights"]) fun _ _ _ _ _ _ us hl => match us, hl with | [_], _ => rfl, PySem.W.mg_of X G a_are_nought⟩
  have F_reduced := fun_mk (st := s_reduced) l_reduced c_reduced k_reduced
  have D_reduced : Dn K mg "reduced" s_reduced ["top", "bottom"] f_reduced _ := ⟨F_reduced, F_reduced.binds (ps := ["top", "bottom"]) fun _ _ _ _ _ _ us hl => match us, hl with | [_, _], _ => rfl, PySem.W.mg_of X G a_reduced⟩
  have F_multiplied := fun_mk (st := s_multiplied) l_multiplied c_multiplied k_multiplied
  have D_multiplied : Dn K mg "multiplied" s_multiplied ["first", "second"] f_multiplied _ := ⟨F_multiplied, F_multiplied.binds (ps := ["first", "second"]) fun _ _ _ _ _ _ us hl => match us, hl with | [_, _], _ => rfl, PySem.W.mg_of X G a_multiplied⟩
  have F_common_bottom := fun_mk (st := s_common_bottom) l_common_bottom c_common_bottom k_common_bottom
  have D_common_bottom : Dn K mg "common_bottom" s_common_bottom ["fractions"] f_common_bottom _ := ⟨F_common_bottom, F_common_bottom.binds (ps := ["fractions"]) fun _ _ _ _ _ _ us hl => match us, hl with | [_], _ => rfl, PySem.W.mg_of X G a_common_bottom⟩
  have F_times_whole := fun_mk (st := s_times_whole) l_times_whole c_times_whole k_times_whole
  have D_times_whole : Dn K mg "times_whole" s_times_whole ["fraction", "whole"] f_times_whole _ := ⟨F_times_whole, F_times_whole.binds (ps := ["fraction", "whole"]) fun _ _ _ _ _ _ us hl => match us, hl with | [_, _], _ => rfl, PySem.W.mg_of X G a_times_whole⟩
  have F_total := fun_mk (st := s_total) l_total c_total k_total
  have D_total : Dn K mg "total" s_total ["fractions"] f_total _ := ⟨F_total, F_total.binds (ps := ["fractions"]) fun _ _ _ _ _ _ us hl => match us, hl with | [_], _ => rfl, PySem.W.mg_of X G a_total⟩
  have F_total_weights := fun_mk (st := s_total_weights) l_total_weights c_total_weights k_total_weights
  have D_total_weights : Dn K mg "total_weights" s_total_weights ["rows", "worlds"] f_total_weights _ := ⟨F_total_weights, F_total_weights.binds (ps := ["rows", "worlds"]) fun _ _ _ _ _ _ us hl => match us, hl with | [_, _], _ => rfl, PySem.W.mg_of X G a_total_weights⟩
  have F_is_word := fun_mk (st := s_is_word) l_is_word c_is_word k_is_word
  have D_is_word : Dn K mg "is_word" s_is_word ["thing"] f_is_word _ := ⟨F_is_word, F_is_word.binds (ps := ["thing"]) fun _ _ _ _ _ _ us hl => match us, hl with | [_], _ => rfl, PySem.W.mg_of X G a_is_word⟩
  have F_is_answer := fun_mk (st := s_is_answer) l_is_answer c_is_answer k_is_answer
  have D_is_answer : Dn K mg "is_answer" s_is_answer ["thing", "worlds"] f_is_answer _ := ⟨F_is_answer, F_is_answer.binds (ps := ["thing", "worlds"]) fun _ _ _ _ _ _ us hl => match us, hl with | [_, _], _ => rfl, PySem.W.mg_of X G a_is_answer⟩
  have F_is_ascending := fun_mk (st := s_is_ascending) l_is_ascending c_is_ascending k_is_ascending
  have D_is_ascending : Dn K mg "is_ascending" s_is_ascending ["rows"] f_is_ascending _ := ⟨F_is_ascending, F_is_ascending.binds (ps := ["rows"]) fun _ _ _ _ _ _ us hl => match us, hl with | [_], _ => rfl, PySem.W.mg_of X G a_is_ascending⟩
  have F_check_tree := fun_mk (st := s_check_tree) l_check_tree c_check_tree k_check_tree
  have D_check_tree : Dn K mg "check_tree" s_check_tree ["worlds", "tree"] f_check_tree _ := ⟨F_check_tree, F_check_tree.binds (ps := ["worlds", "tree"]) fun _ _ _ _ _ _ us hl => match us, hl with | [_, _], _ => rfl, PySem.W.mg_of X G a_check_tree⟩
  have F_check_node := fun_mk (st := s_check_node) l_check_node c_check_node k_check_node
  have D_check_node : Dn K mg "check_node" s_check_node ["node", "place", "ahead"] f_check_node _ := ⟨F_check_node, F_check_node.binds (ps := ["node", "place", "ahead"]) fun _ _ _ _ _ _ us hl => match us, hl with | [_, _, _], _ => rfl, PySem.W.mg_of X G a_check_node⟩
  have F_check_question := fun_mk (st := s_check_question) l_check_question c_check_question k_check_question
  have D_check_question : Dn K mg "check_question" s_check_question ["question", "place", "ahead"] f_check_question _ := ⟨F_check_question, F_check_question.binds (ps := ["question", "place", "ahead"]) fun _ _ _ _ _ _ us hl => match us, hl with | [_, _, _], _ => rfl, PySem.W.mg_of X G a_check_question⟩
  have F_answers_in := fun_mk (st := s_answers_in) l_answers_in c_answers_in k_answers_in
  have D_answers_in : Dn K mg "answers_in" s_answers_in ["node"] f_answers_in _ := ⟨F_answers_in, F_answers_in.binds (ps := ["node"]) fun _ _ _ _ _ _ us hl => match us, hl with | [_], _ => rfl, PySem.W.mg_of X G a_answers_in⟩
  have F_rounds_in := fun_mk (st := s_rounds_in) l_rounds_in c_rounds_in k_rounds_in
  have D_rounds_in : Dn K mg "rounds_in" s_rounds_in ["node"] f_rounds_in _ := ⟨F_rounds_in, F_rounds_in.binds (ps := ["node"]) fun _ _ _ _ _ _ us hl => match us, hl with | [_], _ => rfl, PySem.W.mg_of X G a_rounds_in⟩
  have F_House_init := fun_mk (st := s_House_init) l_House_init c_House_init k_House_init
  have D_House_init : Dm K "__init__" "House.__init__" s_House_init ["self", "worlds", "tree"] f_House_init _ := ⟨F_House_init, F_House_init.binds (ps := ["self", "worlds", "tree"]) fun _ _ _ _ _ _ us hl => match us, hl with | [_, _, _], _ => rfl⟩
  have F_House_eq := fun_mk (st := s_House_eq) l_House_eq c_House_eq k_House_eq
  have D_House_eq : Dm K "__eq__" "House.__eq__" s_House_eq ["self", "other"] f_House_eq _ := ⟨F_House_eq, F_House_eq.binds (ps := ["self", "other"]) fun _ _ _ _ _ _ us hl => match us, hl with | [_, _], _ => rfl⟩
  have F_made_house := fun_mk (st := s_made_house) l_made_house c_made_house k_made_house
  have D_made_house : Dn K mg "made_house" s_made_house ["worlds", "tree"] f_made_house _ := ⟨F_made_house, F_made_house.binds (ps := ["worlds", "tree"]) fun _ _ _ _ _ _ us hl => match us, hl with | [_, _], _ => rfl, PySem.W.mg_of X G a_made_house⟩
  have F_check_alike := fun_mk (st := s_check_alike) l_check_alike c_check_alike k_check_alike
  have D_check_alike : Dn K mg "check_alike" s_check_alike ["house", "other"] f_check_alike _ := ⟨F_check_alike, F_check_alike.binds (ps := ["house", "other"]) fun _ _ _ _ _ _ us hl => match us, hl with | [_, _], _ => rfl, PySem.W.mg_of X G a_check_alike⟩
  have F_is_wait := fun_mk (st := s_is_wait) l_is_wait c_is_wait k_is_wait
  have D_is_wait : Dn K mg "is_wait" s_is_wait ["thing", "waiting", "stand"] f_is_wait _ := ⟨F_is_wait, F_is_wait.binds (ps := ["thing", "waiting", "stand"]) fun _ _ _ _ _ _ us hl => match us, hl with | [_, _, _], _ => rfl, PySem.W.mg_of X G a_is_wait⟩
  have F_is_move := fun_mk (st := s_is_move) l_is_move c_is_move k_is_move
  have D_is_move : Dn K mg "is_move" s_is_move ["thing", "question", "stand"] f_is_move _ := ⟨F_is_move, F_is_move.binds (ps := ["thing", "question", "stand"]) fun _ _ _ _ _ _ us hl => match us, hl with | [_, _, _], _ => rfl, PySem.W.mg_of X G a_is_move⟩
  have F_is_plan := fun_mk (st := s_is_plan) l_is_plan c_is_plan k_is_plan
  have D_is_plan : Dn K mg "is_plan" s_is_plan ["house", "other", "thing"] f_is_plan _ := ⟨F_is_plan, F_is_plan.binds (ps := ["house", "other", "thing"]) fun _ _ _ _ _ _ us hl => match us, hl with | [_, _, _], _ => rfl, PySem.W.mg_of X G a_is_plan⟩
  have F_is_shared_plan := fun_mk (st := s_is_shared_plan) l_is_shared_plan c_is_shared_plan k_is_shared_plan
  have D_is_shared_plan : Dn K mg "is_shared_plan" s_is_shared_plan ["house", "other", "thing"] f_is_shared_plan _ := ⟨F_is_shared_plan, F_is_shared_plan.binds (ps := ["house", "other", "thing"]) fun _ _ _ _ _ _ us hl => match us, hl with | [_, _, _], _ => rfl, PySem.W.mg_of X G a_is_shared_plan⟩
  have F_is_go_between := fun_mk (st := s_is_go_between) l_is_go_between c_is_go_between k_is_go_between
  have D_is_go_between : Dn K mg "is_go_between" s_is_go_between ["house", "other", "thing"] f_is_go_between _ := ⟨F_is_go_between, F_is_go_between.binds (ps := ["house", "other", "thing"]) fun _ _ _ _ _ _ us hl => match us, hl with | [_, _, _], _ => rfl, PySem.W.mg_of X G a_is_go_between⟩
  have F_check_between := fun_mk (st := s_check_between) l_check_between c_check_between k_check_between
  have D_check_between : Dn K mg "check_between" s_check_between ["house", "other", "thing"] f_check_between _ := ⟨F_check_between, F_check_between.binds (ps := ["house", "other", "thing"]) fun _ _ _ _ _ _ us hl => match us, hl with | [_, _, _], _ => rfl, PySem.W.mg_of X G a_check_between⟩
  have F_tellings := fun_mk (st := s_tellings) l_tellings c_tellings k_tellings
  have D_tellings : Dn K mg "tellings" s_tellings ["share", "weights", "stand", "move"] f_tellings _ := ⟨F_tellings, F_tellings.binds (ps := ["share", "weights", "stand", "move"]) fun _ _ _ _ _ _ us hl => match us, hl with | [_, _, _, _], _ => rfl, PySem.W.mg_of X G a_tellings⟩
  have F_tellers_of := fun_mk (st := s_tellers_of) l_tellers_of c_tellers_of k_tellers_of
  have D_tellers_of : Dn K mg "tellers_of" s_tellers_of ["question", "number", "holders"] f_tellers_of _ := ⟨F_tellers_of, F_tellers_of.binds (ps := ["question", "number", "holders"]) fun _ _ _ _ _ _ us hl => match us, hl with | [_, _, _], _ => rfl, PySem.W.mg_of X G a_tellers_of⟩
  have F_weight_of := fun_mk (st := s_weight_of) l_weight_of c_weight_of k_weight_of
  have D_weight_of : Dn K mg "weight_of" s_weight_of ["holders", "world", "whole"] f_weight_of _ := ⟨F_weight_of, F_weight_of.binds (ps := ["holders", "world", "whole"]) fun _ _ _ _ _ _ us hl => match us, hl with | [_, _, _], _ => rfl, PySem.W.mg_of X G a_weight_of⟩
  have F_led_node := fun_mk (st := s_led_node) l_led_node c_led_node k_led_node
  have D_led_node : Dn K mg "led_node" s_led_node ["node", "worlds", "holders", "whole"] f_led_node _ := ⟨F_led_node, F_led_node.binds (ps := ["node", "worlds", "holders", "whole"]) fun _ _ _ _ _ _ us hl => match us, hl with | [_, _, _, _], _ => rfl, PySem.W.mg_of X G a_led_node⟩
  have F_led_house := fun_mk (st := s_led_house) l_led_house c_led_house k_led_house
  have D_led_house : Dn K mg "led_house" s_led_house ["house", "other", "between"] f_led_house _ := ⟨F_led_house, F_led_house.binds (ps := ["house", "other", "between"]) fun _ _ _ _ _ _ us hl => match us, hl with | [_, _, _], _ => rfl, PySem.W.mg_of X G a_led_house⟩
  have F_led := fun_mk (st := s_led) l_led c_led k_led
  have D_led : Dn K mg "led" s_led ["house", "other", "between"] f_led _ := ⟨F_led, F_led.binds (ps := ["house", "other", "between"]) fun _ _ _ _ _ _ us hl => match us, hl with | [_, _, _], _ => rfl, PySem.W.mg_of X G a_led⟩
  have F_is_between := fun_mk (st := s_is_between) l_is_between c_is_between k_is_between
  have D_is_between : Dn K mg "is_between" s_is_between ["house", "other", "thing"] f_is_between _ := ⟨F_is_between, F_is_between.binds (ps := ["house", "other", "thing"]) fun _ _ _ _ _ _ us hl => match us, hl with | [_, _, _], _ => rfl, PySem.W.mg_of X G a_is_between⟩
  have F_passing_wait := fun_mk (st := s_passing_wait) l_passing_wait c_passing_wait k_passing_wait
  have D_passing_wait : Dn K mg "passing_wait" s_passing_wait ["node"] f_passing_wait _ := ⟨F_passing_wait, F_passing_wait.binds (ps := ["node"]) fun _ _ _ _ _ _ us hl => match us, hl with | [_], _ => rfl, PySem.W.mg_of X G a_passing_wait⟩
  have F_passing := fun_mk (st := s_passing) l_passing c_passing k_passing
  have D_passing : Dn K mg "passing" s_passing ["house"] f_passing _ := ⟨F_passing, F_passing.binds (ps := ["house"]) fun _ _ _ _ _ _ us hl => match us, hl with | [_], _ => rfl, PySem.W.mg_of X G a_passing⟩
  have F_joined_wait := fun_mk (st := s_joined_wait) l_joined_wait c_joined_wait k_joined_wait
  have D_joined_wait : Dn K mg "joined_wait" s_joined_wait ["first", "second"] f_joined_wait _ := ⟨F_joined_wait, F_joined_wait.binds (ps := ["first", "second"]) fun _ _ _ _ _ _ us hl => match us, hl with | [_, _], _ => rfl, PySem.W.mg_of X G a_joined_wait⟩
  have F_joined_move := fun_mk (st := s_joined_move) l_joined_move c_joined_move k_joined_move
  have D_joined_move : Dn K mg "joined_move" s_joined_move ["first", "move"] f_joined_move _ := ⟨F_joined_move, F_joined_move.binds (ps := ["first", "move"]) fun _ _ _ _ _ _ us hl => match us, hl with | [_, _], _ => rfl, PySem.W.mg_of X G a_joined_move⟩
  have F_answered_move := fun_mk (st := s_answered_move) l_answered_move c_answered_move k_answered_move
  have D_answered_move : Dn K mg "answered_move" s_answered_move ["move", "moves"] f_answered_move _ := ⟨F_answered_move, F_answered_move.binds (ps := ["move", "moves"]) fun _ _ _ _ _ _ us hl => match us, hl with | [_, _], _ => rfl, PySem.W.mg_of X G a_answered_move⟩
  have F_joined := fun_mk (st := s_joined) l_joined c_joined k_joined
  have D_joined : Dn K mg "joined" s_joined ["house", "other", "third", "first", "second"] f_joined _ := ⟨F_joined, F_joined.binds (ps := ["house", "other", "third", "first", "second"]) fun _ _ _ _ _ _ us hl => match us, hl with | [_, _, _, _, _], _ => rfl, PySem.W.mg_of X G a_joined⟩
  have F_law_bag := fun_mk (st := s_law_bag) l_law_bag c_law_bag k_law_bag
  have D_law_bag : Dn K mg "_law_bag" s_law_bag ["script"] f_law_bag _ := ⟨F_law_bag, F_law_bag.binds (ps := ["script"]) fun _ _ _ _ _ _ us hl => match us, hl with | [_], _ => rfl, PySem.W.mg_of X G a_law_bag⟩
  have F_law_pick := fun_mk (st := s_law_pick) l_law_pick c_law_pick k_law_pick
  have D_law_pick : Dn K mg "_law_pick" s_law_pick ["bag", "many"] f_law_pick _ := ⟨F_law_pick, F_law_pick.binds (ps := ["bag", "many"]) fun _ _ _ _ _ _ us hl => match us, hl with | [_, _], _ => rfl, PySem.W.mg_of X G a_law_pick⟩
  have F_law_some := fun_mk (st := s_law_some) l_law_some c_law_some k_law_some
  have D_law_some : Dn K mg "_law_some" s_law_some ["bag", "things"] f_law_some _ := ⟨F_law_some, F_law_some.binds (ps := ["bag", "things"]) fun _ _ _ _ _ _ us hl => match us, hl with | [_, _], _ => rfl, PySem.W.mg_of X G a_law_some⟩
  have F_law_common := fun_mk (st := s_law_common) l_law_common c_law_common k_law_common
  have D_law_common : Dn K mg "_law_common" s_law_common ["one", "other"] f_law_common _ := ⟨F_law_common, F_law_common.binds (ps := ["one", "other"]) fun _ _ _ _ _ _ us hl => match us, hl with | [_, _], _ => rfl, PySem.W.mg_of X G a_law_common⟩
  have F_law_low := fun_mk (st := s_law_low) l_law_low c_law_low k_law_low
  have D_law_low : Dn K mg "_law_low" s_law_low ["top", "bottom"] f_law_low _ := ⟨F_law_low, F_law_low.binds (ps := ["top", "bottom"]) fun _ _ _ _ _ _ us hl => match us, hl with | [_, _], _ => rfl, PySem.W.mg_of X G a_law_low⟩
  have F_law_plus := fun_mk (st := s_law_plus) l_law_plus c_law_plus k_law_plus
  have D_law_plus : Dn K mg "_law_plus" s_law_plus ["one", "other"] f_law_plus _ := ⟨F_law_plus, F_law_plus.binds (ps := ["one", "other"]) fun _ _ _ _ _ _ us hl => match us, hl with | [_, _], _ => rfl, PySem.W.mg_of X G a_law_plus⟩
  have F_law_times := fun_mk (st := s_law_times) l_law_times c_law_times k_law_times
  have D_law_times : Dn K mg "_law_times" s_law_times ["one", "other"] f_law_times _ := ⟨F_law_times, F_law_times.binds (ps := ["one", "other"]) fun _ _ _ _ _ _ us hl => match us, hl with | [_, _], _ => rfl, PySem.W.mg_of X G a_law_times⟩
  have F_law_total := fun_mk (st := s_law_total) l_law_total c_law_total k_law_total
  have D_law_total : Dn K mg "_law_total" s_law_total ["some"] f_law_total _ := ⟨F_law_total, F_law_total.binds (ps := ["some"]) fun _ _ _ _ _ _ us hl => match us, hl with | [_], _ => rfl, PySem.W.mg_of X G a_law_total⟩
  have F_law_shares := fun_mk (st := s_law_shares) l_law_shares c_law_shares k_law_shares
  have D_law_shares : Dn K mg "_law_shares" s_law_shares ["bag", "many", "least"] f_law_shares _ := ⟨F_law_shares, F_law_shares.binds (ps := ["bag", "many", "least"]) fun _ _ _ _ _ _ us hl => match us, hl with | [_, _, _], _ => rfl, PySem.W.mg_of X G a_law_shares⟩
  have F_law_question := fun_mk (st := s_law_question) l_law_question c_law_question k_law_question
  have D_law_question : Dn K mg "_law_question" s_law_question ["bag", "worlds", "ahead", "levels", "left"] f_law_question _ := ⟨F_law_question, F_law_question.binds (ps := ["bag", "worlds", "ahead", "levels", "left"]) fun _ _ _ _ _ _ us hl => match us, hl with | [_, _, _, _, _], _ => rfl, PySem.W.mg_of X G a_law_question⟩
  have F_law_node := fun_mk (st := s_law_node) l_law_node c_law_node k_law_node
  have D_law_node : Dn K mg "_law_node" s_law_node ["bag", "worlds", "ahead", "levels", "left"] f_law_node _ := ⟨F_law_node, F_law_node.binds (ps := ["bag", "worlds", "ahead", "levels", "left"]) fun _ _ _ _ _ _ us hl => match us, hl with | [_, _, _, _, _], _ => rfl, PySem.W.mg_of X G a_law_node⟩
  have F_law_tree := fun_mk (st := s_law_tree) l_law_tree c_law_tree k_law_tree
  have D_law_tree : Dn K mg "_law_tree" s_law_tree ["bag", "worlds", "levels", "answers"] f_law_tree _ := ⟨F_law_tree, F_law_tree.binds (ps := ["bag", "worlds", "levels", "answers"]) fun _ _ _ _ _ _ us hl => match us, hl with | [_, _, _, _], _ => rfl, PySem.W.mg_of X G a_law_tree⟩
  have F_law_is := fun_mk (st := s_law_is) l_law_is c_law_is k_law_is
  have D_law_is : Dn K mg "_law_is" s_law_is ["found", "due"] f_law_is _ := ⟨F_law_is, F_law_is.binds (ps := ["found", "due"]) fun _ _ _ _ _ _ us hl => match us, hl with | [_, _], _ => rfl, PySem.W.mg_of X G a_law_is⟩
  have F_law_wait := fun_mk (st := s_law_wait) l_law_wait c_law_wait k_law_wait
  have D_law_wait : Dn K mg "_law_wait" s_law_wait ["bag", "here", "goal", "left"] f_law_wait _ := ⟨F_law_wait, F_law_wait.binds (ps := ["bag", "here", "goal", "left"]) fun _ _ _ _ _ _ us hl => match us, hl with | [_, _, _, _], _ => rfl, PySem.W.mg_of X G a_law_wait⟩
  have F_law_move := fun_mk (st := s_law_move) l_law_move c_law_move k_law_move
  have D_law_move : Dn K mg "_law_move" s_law_move ["bag", "here", "question", "left"] f_law_move _ := ⟨F_law_move, F_law_move.binds (ps := ["bag", "here", "question", "left"]) fun _ _ _ _ _ _ us hl => match us, hl with | [_, _, _, _], _ => rfl, PySem.W.mg_of X G a_law_move⟩
  have F_law_between := fun_mk (st := s_law_between) l_law_between c_law_between k_law_between
  have D_law_between : Dn K mg "_law_between" s_law_between ["bag", "one", "other", "plans"] f_law_between _ := ⟨F_law_between, F_law_between.binds (ps := ["bag", "one", "other", "plans"]) fun _ _ _ _ _ _ us hl => match us, hl with | [_, _, _, _], _ => rfl, PySem.W.mg_of X G a_law_between⟩
  have F_law_is_int := fun_mk (st := s_law_is_int) l_law_is_int c_law_is_int k_law_is_int
  have D_law_is_int : Dn K mg "_law_is_int" s_law_is_int ["thing", "least", "most"] f_law_is_int _ := ⟨F_law_is_int, F_law_is_int.binds (ps := ["thing", "least", "most"]) fun _ _ _ _ _ _ us hl => match us, hl with | [_, _, _], _ => rfl, PySem.W.mg_of X G a_law_is_int⟩
  have F_law_is_fraction := fun_mk (st := s_law_is_fraction) l_law_is_fraction c_law_is_fraction k_law_is_fraction
  have D_law_is_fraction : Dn K mg "_law_is_fraction" s_law_is_fraction ["thing"] f_law_is_fraction _ := ⟨F_law_is_fraction, F_law_is_fraction.binds (ps := ["thing"]) fun _ _ _ _ _ _ us hl => match us, hl with | [_], _ => rfl, PySem.W.mg_of X G a_law_is_fraction⟩
  have F_law_is_wait := fun_mk (st := s_law_is_wait) l_law_is_wait c_law_is_wait k_law_is_wait
  have D_law_is_wait : Dn K mg "_law_is_wait" s_law_is_wait ["here", "goal", "thing"] f_law_is_wait _ := ⟨F_law_is_wait, F_law_is_wait.binds (ps := ["here", "goal", "thing"]) fun _ _ _ _ _ _ us hl => match us, hl with | [_, _, _], _ => rfl, PySem.W.mg_of X G a_law_is_wait⟩
  have F_law_is_move := fun_mk (st := s_law_is_move) l_law_is_move c_law_is_move k_law_is_move
  have D_law_is_move : Dn K mg "_law_is_move" s_law_is_move ["here", "question", "thing"] f_law_is_move _ := ⟨F_law_is_move, F_law_is_move.binds (ps := ["here", "question", "thing"]) fun _ _ _ _ _ _ us hl => match us, hl with | [_, _, _], _ => rfl, PySem.W.mg_of X G a_law_is_move⟩
  have F_law_is_between := fun_mk (st := s_law_is_between) l_law_is_between c_law_is_between k_law_is_between
  have D_law_is_between : Dn K mg "_law_is_between" s_law_is_between ["one", "other", "thing"] f_law_is_between _ := ⟨F_law_is_between, F_law_is_between.binds (ps := ["one", "other", "thing"]) fun _ _ _ _ _ _ us hl => match us, hl with | [_, _, _], _ => rfl, PySem.W.mg_of X G a_law_is_between⟩
  have F_law_told := fun_mk (st := s_law_told) l_law_told c_law_told k_law_told
  have D_law_told : Dn K mg "_law_told" s_law_told ["move", "worlds", "here", "weights", "path", "q", "found"] f_law_told _ := ⟨F_law_told, F_law_told.binds (ps := ["move", "worlds", "here", "weights", "path", "q", "found"]) fun _ _ _ _ _ _ us hl => match us, hl with | [_, _, _, _, _, _, _], _ => rfl, PySem.W.mg_of X G a_law_told⟩
  have F_law_made_by := fun_mk (st := s_law_made_by) l_law_made_by c_law_made_by k_law_made_by
  have D_law_made_by : Dn K mg "_law_made_by" s_law_made_by ["worlds", "tree", "plan"] f_law_made_by _ := ⟨F_law_made_by, F_law_made_by.binds (ps := ["worlds", "tree", "plan"]) fun _ _ _ _ _ _ us hl => match us, hl with | [_, _, _], _ => rfl, PySem.W.mg_of X G a_law_made_by⟩
  have F_law_led := fun_mk (st := s_law_led) l_law_led c_law_led k_law_led
  have D_law_led : Dn K mg "_law_led" s_law_led ["worlds", "tree", "between"] f_law_led _ := ⟨F_law_led, F_law_led.binds (ps := ["worlds", "tree", "between"]) fun _ _ _ _ _ _ us hl => match us, hl with | [_, _, _], _ => rfl, PySem.W.mg_of X G a_law_led⟩
  have F_law_shaped := fun_mk (st := s_law_shaped) l_law_shaped c_law_shaped k_law_shaped
  have D_law_shaped : Dn K mg "_law_shaped" s_law_shaped ["node", "path", "worlds", "found"] f_law_shaped _ := ⟨F_law_shaped, F_law_shaped.binds (ps := ["node", "path", "worlds", "found"]) fun _ _ _ _ _ _ us hl => match us, hl with | [_, _, _, _], _ => rfl, PySem.W.mg_of X G a_law_shaped⟩
  have F_law_two := fun_mk (st := s_law_two) l_law_two c_law_two k_law_two
  have D_law_two : Dn K mg "_law_two" s_law_two ["bag", "levels", "answers"] f_law_two _ := ⟨F_law_two, F_law_two.binds (ps := ["bag", "levels", "answers"]) fun _ _ _ _ _ _ us hl => match us, hl with | [_, _, _], _ => rfl, PySem.W.mg_of X G a_law_two⟩
  have F_law := fun_mk (st := s_law) l_law c_law k_law
  have D_law : Dn K mg "law" s_law ["script"] fa _ := ⟨F_law, F_law.binds (ps := ["script"]) fun _ _ _ _ _ _ us hl => match us, hl with | [_], _ => rfl, PySem.W.mg_of X G a_law⟩
  have D_sum : DTot K mg f_common_bottom _ := ⟨D_common_bottom, _, _, D_times_whole⟩
  refine ⟨PySem.W.fnOf "law" "law" (defArgs s_law) (defBody s_law) (defScope s_law) .none kV_law dc_law pm_law an_law cd_law ct_law, fun s v => .of_eq rfl, fun base _ _ => ?_⟩
  have qn := ok_law_qn (P := l.prog) (w := w) (base := base) D_law_question B D_law_low D_law_common D_law_pick D_law_shares D_law_some D_law_times D_law_node
  have tree := fun n => ok_law_tree D_law_tree B D_law_pick D_law_question (qn (n + 1)).1
  have ck := ok_checks (P := l.prog) (w := w) (base := base) B C D_check_node D_check_question D_is_answer D_is_ascending D_total_weights D_is_number D_is_integral D_is_word D_is_fraction D_is_chance D_reduced D_sum D_total D_are_chances
  have ini := fun n => ok_House_init D_House_init B C U D_check_tree (ok_check_tree D_check_tree B C D_check_node (ck n).2 D_answers_in) D_is_number D_is_integral
  have made := fun n => ok_made_house (n := n) D_made_house B C U D_rounds_in D_answers_in D_House_init (ini 0)
  have G_law_plus := ok_law_plus (P := l.prog) (w := w) (base := base) D_law_plus B D_law_low D_law_common
  have G_law_times := ok_law_times (P := l.prog) (w := w) (base := base) D_law_times B D_law_low D_law_common
  have tol := ok_told_all (P := l.prog) (w := w) (base := base) D_law_told B D_law_plus G_law_plus
  have mb := fun m n => ok_law_made_by (m := m) (n := n) D_law_made_by B D_law_told tol
  have ll := fun m n => ok_law_led (m := m) (n := n) (k := 6 + m + n) D_law_led B D_law_made_by (mb m n) D_law_plus G_law_plus D_law_times G_law_times (by omega)
  have shd := ok_law_shaped (P := l.prog) (w := w) (base := base) D_law_shaped B
  have G_cb := ok_common_bottom (P := l.prog) (w := w) (base := base) D_common_bottom B C
  have G_tw := ok_times_whole (P := l.prog) (w := w) (base := base) D_times_whole B C
  have G_red := ok_reduced (P := l.prog) (w := w) (base := base) D_reduced B C
  have wof := fun Z m => ok_weight_of (Z := Z) (m := m) D_weight_of B C D_common_bottom G_cb D_times_whole G_tw D_reduced G_red
  have ln := fun m => FnOk.anyZ fun Z => ok_led_node (Z := Z) D_led_node B C D_tellers_of D_tellings D_are_nought D_weight_of (wof Z) m
  have lh := fun m n => ok_led_house (m := m) (n := n) (k := 12 + m) D_led_house B C U D_led_node (ln m) D_made_house (made m) (by omega) D_common_bottom G_cb D_times_whole G_tw
  have pj := ok_plans_judged (P := l.prog) (w := w) (base := base) D_is_move B BS D_is_number D_is_integral D_is_wait
  have ish := ok_are_shares (P := l.prog) (w := w) (base := base) D_are_shares B C D_is_integral D_is_fraction D_is_chance D_is_share D_total D_reduced D_sum
  have ipl := fun m n (hn : n ≤ 6) => ok_is_plan (m := m) (n := n) (k := 2 + 8 * m) D_is_plan U D_check_alike D_is_wait (pj m n hn).1 (by omega)
  have isp := fun m n (hn : n ≤ 6) => ok_is_shared_plan (m := m) (n := n) (k := 2 + 8 * m + 1) D_is_shared_plan B D_is_plan (ipl m n hn)
  have igb := fun m n (hn : n ≤ 6) => ok_is_go_between (m := m) (n := n) (k := 5 + 8 * m) D_is_go_between B D_is_shared_plan ((isp m n hn).mono (by omega)) D_are_shares ish (by omega)
  have ckb := fun m n (hn : n ≤ 6) => ok_check_between (m := m) (n := n) (k := 5 + 8 * m + 1) D_check_between D_is_go_between (igb m n hn)
  have eqB := ok_House_eqB (P := l.prog) (w := w) (base := base) D_House_eq B U
  have ledf := fun m n (hm : m ≤ 3) (hn : n ≤ 3) => ok_led (m := m) (n := n) (k := 40) D_led U D_check_alike D_check_between ((ckb m n (by omega)).mono (by omega)) D_led_house ((lh m n).mono (by omega)) (by omega)
  have isb := fun m n (hm : m ≤ 3) (hn : n ≤ 3) => ok_is_between (m := m) (n := n) (k := 40) D_is_between U D_check_alike D_is_go_between ((igb m n (by omega)).mono (by omega)) D_led_house ((lh m n).mono (by omega)) D_House_eq eqB (by omega)
  have pw := ok_passing_wait (P := l.prog) (w := w) (base := base) D_passing_wait B C
  have psg := fun m => ok_passing (m := m) (P := l.prog) (w := w) (base := base) D_passing B C U D_passing_wait (pw m)
  have jns := ok_joins (P := l.prog) (w := w) (base := base) D_joined_wait B D_joined_move D_answered_move
  have mul := ok_multiplied (P := l.prog) (w := w) (base := base) D_multiplied B C D_reduced
  have jnd := fun l' m n (hl : l' ≤ 3) (hm : m ≤ 3) (hn : n ≤ 3) => ok_joined (l := l') (m := m) (n := n) (k := 40) D_joined B U D_check_alike D_check_between (FnOk.orS ((ckb m n (by omega)).mono (by omega)) ((ckb l' m (by omega)).mono (by omega))) D_multiplied mul D_joined_wait ((jns l' m n).mono (by omega)) (by omega)
  have jdg := ok_judges (P := l.prog) (w := w) (base := base) D_law_is_wait B BS D_law_is_move D_law_is_int
  have ltot := ok_law_total (P := l.prog) (w := w) (base := base) D_law_total B C D_law_plus G_law_plus
  have com := ok_law_common (P := l.prog) (w := w) (base := base) D_law_common B
  have jfr := ok_law_is_fraction (P := l.prog) (w := w) (base := base) D_law_is_fraction B D_law_common com
  have jb := fun m n => ok_law_is_between (m := m) (n := n) (k := 2 * m + n + 4) D_law_is_between B D_law_is_fraction jfr D_law_total ltot D_law_is_wait ((jdg m n).mono (by omega)) (by omega)
  exact ok_law D_law B U D_law_bag (ok_law_bag D_law_bag B) D_law_pick
    D_law_two ((ok_law_two D_law_two B D_law_pick D_law_tree (FnOk.anyS (lv := fun n => 6 + 2 * (n + 1)) tree fun n hn => by show 6 + 2 * (n + 1) ≤ 30; omega)).mono (by omega))
    D_law_tree (FnOk.anyS (lv := fun n => 6 + 2 * (n + 1)) tree fun n hn => by show 6 + 2 * (n + 1) ≤ 40; omega)
    D_law_between (FnOk.anyB2 fun m n hm hn => (ok_law_between (m := m) (n := n) D_law_between B D_law_low D_law_common D_law_pick D_law_shares D_law_move D_law_wait (by omega)).mono (by omega))
    D_law_shaped (FnOk.anyS (lv := fun n => 1 + n) shd fun n hn => by show 1 + n ≤ 40; omega)
    D_law_led (FnOk.anyB2 fun m n hm hn => (ll m n).mono (by omega))
    D_led (FnOk.anyB2 fun m n hm hn => ledf m n hm hn)
    D_passing (FnOk.anyS (lv := fun n => 2 + n) psg fun n hn => by show 2 + n ≤ 40; omega)
    D_is_between (FnOk.anyB2 fun m n hm hn => isb m n hm hn)
    D_law_is (ok_law_is2 D_law_is B)
    D_joined (FnOk.anyB3 fun l' m n hl hm hn => jnd l' m n hl hm hn)
    D_law_is_between (FnOk.anyB2 fun m n hm hn => (jb m n).mono (by omega))
    D_House_init (FnOk.anyS (lv := fun n => 8 + 2 * n) ini fun n hn => by show 8 + 2 * n ≤ 40; omega)
end Tl
open PySem PySem.W PyProof.Rows
set_option maxRecDepth 100000 in
set_option maxHeartbeats 0 in
theorem PySem.Challenge.cw_tellsless_k14_whole_passing_and_joined_holds : PySem.Challenge.rw_tellsless_k14_whole_passing_and_joined.Holds := by
  w_on; o_law; k_head; (case hw => w_witness2)
  k_fill
  refine Tl.walkG (l := PySem.Challenge.rw_tellsless_k14_whole_passing_and_joined) (k := 42) (x := "script") rfl rfl ⟨rfl, by decide, by decide⟩ (fun w h Y => PySem.W.kIn_of Y) ?F
  case F =>
    intro w mg fa h KX G hmg
    refine' Tl.all_mk KX G hmg ?aC ?a_is_integral ?l_is_integral ?c_is_integral ?k_is_integral ?a_is_number ?l_is_number ?c_is_number ?k_is_number ?a_is_fraction ?l_is_fraction ?c_is_fraction ?k_is_fraction ?a_is_chance ?l_is_chance ?c_is_chance ?k_is_chance ?a_is_share ?l_is_share ?c_is_share ?k_is_share ?a_are_shares ?l_are_shares ?c_are_shares ?k_are_shares ?a_are_chances ?l_are_chances ?c_are_chances ?k_are_chances ?a_are_nought ?l_are_nought ?c_are_nought ?k_are_nought ?a_reduced ?l_reduced ?c_reduced ?k_reduced ?a_multiplied ?l_multiplied ?c_multiplied ?k_multiplied ?a_common_bottom ?l_common_bottom ?c_common_bottom ?k_common_bottom ?a_times_whole ?l_times_whole ?c_times_whole ?k_times_whole ?a_total ?l_total ?c_total ?k_total ?a_total_weights ?l_total_weights ?c_total_weights ?k_total_weights ?a_is_word ?l_is_word ?c_is_word ?k_is_word ?a_is_answer ?l_is_answer ?c_is_answer ?k_is_answer ?a_is_ascending ?l_is_ascending ?c_is_ascending ?k_is_ascending ?a_check_tree ?l_check_tree ?c_check_tree ?k_check_tree ?a_check_node ?l_check_node ?c_check_node ?k_check_node ?a_check_question ?l_check_question ?c_check_question ?k_check_question ?a_answers_in ?l_answers_in ?c_answers_in ?k_answers_in ?a_rounds_in ?l_rounds_in ?c_rounds_in ?k_rounds_in ?a_House_init ?i_House_init ?l_House_init ?c_House_init ?k_House_init ?a_House_eq ?i_House_eq ?l_House_eq ?c_House_eq ?k_House_eq ?a_made_house ?l_made_house ?c_made_house ?k_made_house ?a_check_alike ?l_check_alike ?c_check_alike ?k_check_alike ?a_is_wait ?l_is_wait ?c_is_wait ?k_is_wait ?a_is_move ?l_is_move ?c_is_move ?k_is_move ?a_is_plan ?l_is_plan ?c_is_plan ?k_is_plan ?a_is_shared_plan ?l_is_shared_plan ?c_is_shared_plan ?k_is_shared_plan ?a_is_go_between ?l_is_go_between ?c_is_go_between ?k_is_go_between ?a_check_between ?l_check_between ?c_check_between ?k_check_between ?a_tellings ?l_tellings ?c_tellings ?k_tellings ?a_tellers_of ?l_tellers_of ?c_tellers_of ?k_tellers_of ?a_weight_of ?l_weight_of ?c_weight_of ?k_weight_of ?a_led_node ?l_led_node ?c_led_node ?k_led_node ?a_led_house ?l_led_house ?c_led_house ?k_led_house ?a_led ?l_led ?c_led ?k_led ?a_is_between ?l_is_between ?c_is_between ?k_is_between ?a_passing_wait ?l_passing_wait ?c_passing_wait ?k_passing_wait ?a_passing ?l_passing ?c_passing ?k_passing ?a_joined_wait ?l_joined_wait ?c_joined_wait ?k_joined_wait ?a_joined_move ?l_joined_move ?c_joined_move ?k_joined_move ?a_answered_move ?l_answered_move ?c_answered_move ?k_answered_move ?a_joined ?l_joined ?c_joined ?k_joined ?a_law_bag ?l_law_bag ?c_law_bag ?k_law_bag ?a_law_pick ?l_law_pick ?c_law_pick ?k_law_pick ?a_law_some ?l_law_some ?c_law_some ?k_law_some ?a_law_common ?l_law_common ?c_law_common ?k_law_common ?a_law_low ?l_law_low ?c_law_low ?k_law_low ?a_law_plus ?l_law_plus ?c_law_plus ?k_law_plus ?a_law_times ?l_law_times ?c_law_times ?k_law_times ?a_law_total ?l_law_total ?c_law_total ?k_law_total ?a_law_shares ?l_law_shares ?c_law_shares ?k_law_shares ?a_law_question ?l_law_question ?c_law_question ?k_law_question ?a_law_node ?l_law_node ?c_law_node ?k_law_node ?a_law_tree ?l_law_tree ?c_law_tree ?k_law_tree ?a_law_is ?l_law_is ?c_law_is ?k_law_is ?a_law_wait ?l_law_wait ?c_law_wait ?k_law_wait ?a_law_move ?l_law_move ?c_law_move ?k_law_move ?a_law_between ?l_law_between ?c_law_between ?k_law_between ?a_law_is_int ?l_law_is_int ?c_law_is_int ?k_law_is_int ?a_law_is_fraction ?l_law_is_fraction ?c_law_is_fraction ?k_law_is_fraction ?a_law_is_wait ?l_law_is_wait ?c_law_is_wait ?k_law_is_wait ?a_law_is_move ?l_law_is_move ?c_law_is_move ?k_law_is_move ?a_law_is_between ?l_law_is_between ?c_law_is_between ?k_law_is_between ?a_law_told ?l_law_told ?c_law_told ?k_law_told ?a_law_made_by ?l_law_made_by ?c_law_made_by ?k_law_made_by ?a_law_led ?l_law_led ?c_law_led ?k_law_led ?a_law_shaped ?l_law_shaped ?c_law_shaped ?k_law_shaped ?a_law_two ?l_law_two ?c_law_two ?k_law_two ?a_law ?l_law ?c_law ?k_law ?pgC ?hdC ?poC ?saC ?mkC ?kcC ?nwC ?ntC ?haC ?hnC ?htC ?hmC ?gcd ?lcm ?aN0 ?aO0 ?lN ?lO ?m_MOST_QUESTIONS ?m_MOST_WORDS ?m_MOST_NUMBERS ?m_MOST_ON_A_WAY ?m_MOST_PASSED ?m_MOST_ROUNDS ?m_MOST_ANSWERS ?z_str ?z_len ?z_int ?z_abs ?z_sum ?z_range ?z_repr ?z_isinstance ?z_any ?z_all ?z_tuple ?z_list ?z_zip ?z_enumerate ?z_max ?z_bool
    (case aC => k_is)
    (case a_is_integral => k_is)
    (case l_is_integral => k_is)
    (case c_is_integral => k_is)
    (case k_is_integral => k_is)
    (case a_is_number => k_is)
    (case l_is_number => k_is)
    (case c_is_number => k_is)
    (case k_is_number => k_is)
    (case a_is_fraction => k_is)
    (case l_is_fraction => k_is)
    (case c_is_fraction => k_is)
    (case k_is_fraction => k_is)
    (case a_is_chance => k_is)
    (case l_is_chance => k_is)
    (case c_is_chance => k_is)
    (case k_is_chance => k_is)
    (case a_is_share => k_is)
    (case l_is_share => k_is)
    (case c_is_share => k_is)
    (case k_is_share => k_is)
    (case a_are_shares => k_is)
    (case l_are_shares => k_is)
    (case c_are_shares => k_is)
    (case k_are_shares => k_is)
    (case a_are_chances => k_is)
    (case l_are_chances => k_is)
    (case c_are_chances => k_is)
    (case k_are_chances => k_is)
    (case a_are_nought => k_is)
    (case l_are_nought => k_is)
    (case c_are_nought => k_is)
    (case k_are_nought => k_is)
    (case a_reduced => k_is)
    (case l_reduced => k_is)
    (case c_reduced => k_is)
    (case k_reduced => k_is)
    (case a_multiplied => k_is)
    (case l_multiplied => k_is)
    (case c_multiplied => k_is)
    (case k_multiplied => k_is)
    (case a_common_bottom => k_is)
    (case l_common_bottom => k_is)
    (case c_common_bottom => k_is)
    (case k_common_bottom => k_is)
    (case a_times_whole => k_is)
    (case l_times_whole => k_is)
    (case c_times_whole => k_is)
    (case k_times_whole => k_is)
    (case a_total => k_is)
    (case l_total => k_is)
    (case c_total => k_is)
    (case k_total => k_is)
    (case a_total_weights => k_is)
    (case l_total_weights => k_is)
    (case c_total_weights => k_is)
    (case k_total_weights => k_is)
    (case a_is_word => k_is)
    (case l_is_word => k_is)
    (case c_is_word => k_is)
    (case k_is_word => k_is)
    (case a_is_answer => k_is)
    (case l_is_answer => k_is)
    (case c_is_answer => k_is)
    (case k_is_answer => k_is)
    (case a_is_ascending => k_is)
    (case l_is_ascending => k_is)
    (case c_is_ascending => k_is)
    (case k_is_ascending => k_is)
    (case a_check_tree => k_is)
    (case l_check_tree => k_is)
    (case c_check_tree => k_is)
    (case k_check_tree => k_is)
    (case a_check_node => k_is)
    (case l_check_node => k_is)
    (case c_check_node => k_is)
    (case k_check_node => k_is)
    (case a_check_question => k_is)
    (case l_check_question => k_is)
    (case c_check_question => k_is)
    (case k_check_question => k_is)
    (case a_answers_in => k_is)
    (case l_answers_in => k_is)
    (case c_answers_in => k_is)
    (case k_answers_in => k_is)
    (case a_rounds_in => k_is)
    (case l_rounds_in => k_is)
    (case c_rounds_in => k_is)
    (case k_rounds_in => k_is)
    (case a_House_init => k_is)
    (case i_House_init => k_is)
    (case l_House_init => k_is)
    (case c_House_init => k_is)
    (case k_House_init => k_is)
    (case a_House_eq => k_is)
    (case i_House_eq => k_is)
    (case l_House_eq => k_is)
    (case c_House_eq => k_is)
    (case k_House_eq => k_is)
    (case a_made_house => k_is)
    (case l_made_house => k_is)
    (case c_made_house => k_is)
    (case k_made_house => k_is)
    (case a_check_alike => k_is)
    (case l_check_alike => k_is)
    (case c_check_alike => k_is)
    (case k_check_alike => k_is)
    (case a_is_wait => k_is)
    (case l_is_wait => k_is)
    (case c_is_wait => k_is)
    (case k_is_wait => k_is)
    (case a_is_move => k_is)
    (case l_is_move => k_is)
    (case c_is_move => k_is)
    (case k_is_move => k_is)
    (case a_is_plan => k_is)
    (case l_is_plan => k_is)
    (case c_is_plan => k_is)
    (case k_is_plan => k_is)
    (case a_is_shared_plan => k_is)
    (case l_is_shared_plan => k_is)
    (case c_is_shared_plan => k_is)
    (case k_is_shared_plan => k_is)
    (case a_is_go_between => k_is)
    (case l_is_go_between => k_is)
    (case c_is_go_between => k_is)
    (case k_is_go_between => k_is)
    (case a_check_between => k_is)
    (case l_check_between => k_is)
    (case c_check_between => k_is)
    (case k_check_between => k_is)
    (case a_tellings => k_is)
    (case l_tellings => k_is)
    (case c_tellings => k_is)
    (case k_tellings => k_is)
    (case a_tellers_of => k_is)
    (case l_tellers_of => k_is)
    (case c_tellers_of => k_is)
    (case k_tellers_of => k_is)
    (case a_weight_of => k_is)
    (case l_weight_of => k_is)
    (case c_weight_of => k_is)
    (case k_weight_of => k_is)
    (case a_led_node => k_is)
    (case l_led_node => k_is)
    (case c_led_node => k_is)
    (case k_led_node => k_is)
    (case a_led_house => k_is)
    (case l_led_house => k_is)
    (case c_led_house => k_is)
    (case k_led_house => k_is)
    (case a_led => k_is)
    (case l_led => k_is)
    (case c_led => k_is)
    (case k_led => k_is)
    (case a_is_between => k_is)
    (case l_is_between => k_is)
    (case c_is_between => k_is)
    (case k_is_between => k_is)
    (case a_passing_wait => k_is)
    (case l_passing_wait => k_is)
    (case c_passing_wait => k_is)
    (case k_passing_wait => k_is)
    (case a_passing => k_is)
    (case l_passing => k_is)
    (case c_passing => k_is)
    (case k_passing => k_is)
    (case a_joined_wait => k_is)
    (case l_joined_wait => k_is)
    (case c_joined_wait => k_is)
    (case k_joined_wait => k_is)
    (case a_joined_move => k_is)
    (case l_joined_move => k_is)
    (case c_joined_move => k_is)
    (case k_joined_move => k_is)
    (case a_answered_move => k_is)
    (case l_answered_move => k_is)
    (case c_answered_move => k_is)
    (case k_answered_move => k_is)
    (case a_joined => k_is)
    (case l_joined => k_is)
    (case c_joined => k_is)
    (case k_joined => k_is)
    (case a_law_bag => k_is)
    (case l_law_bag => k_is)
    (case c_law_bag => k_is)
    (case k_law_bag => k_is)
    (case a_law_pick => k_is)
    (case l_law_pick => k_is)
    (case c_law_pick => k_is)
    (case k_law_pick => k_is)
    (case a_law_some => k_is)
    (case l_law_some => k_is)
    (case c_law_some => k_is)
    (case k_law_some => k_is)
    (case a_law_common => k_is)
    (case l_law_common => k_is)
    (case c_law_common => k_is)
    (case k_law_common => k_is)
    (case a_law_low => k_is)
    (case l_law_low => k_is)
    (case c_law_low => k_is)
    (case k_law_low => k_is)
    (case a_law_plus => k_is)
    (case l_law_plus => k_is)
    (case c_law_plus => k_is)
    (case k_law_plus => k_is)
    (case a_law_times => k_is)
    (case l_law_times => k_is)
    (case c_law_times => k_is)
    (case k_law_times => k_is)
    (case a_law_total => k_is)
    (case l_law_total => k_is)
    (case c_law_total => k_is)
    (case k_law_total => k_is)
    (case a_law_shares => k_is)
    (case l_law_shares => k_is)
    (case c_law_shares => k_is)
    (case k_law_shares => k_is)
    (case a_law_question => k_is)
    (case l_law_question => k_is)
    (case c_law_question => k_is)
    (case k_law_question => k_is)
    (case a_law_node => k_is)
    (case l_law_node => k_is)
    (case c_law_node => k_is)
    (case k_law_node => k_is)
    (case a_law_tree => k_is)
    (case l_law_tree => k_is)
    (case c_law_tree => k_is)
    (case k_law_tree => k_is)
    (case a_law_is => k_is)
    (case l_law_is => k_is)
    (case c_law_is => k_is)
    (case k_law_is => k_is)
    (case a_law_wait => k_is)
    (case l_law_wait => k_is)
    (case c_law_wait => k_is)
    (case k_law_wait => k_is)
    (case a_law_move => k_is)
    (case l_law_move => k_is)
    (case c_law_move => k_is)
    (case k_law_move => k_is)
    (case a_law_between => k_is)
    (case l_law_between => k_is)
    (case c_law_between => k_is)
    (case k_law_between => k_is)
    (case a_law_is_int => k_is)
    (case l_law_is_int => k_is)
    (case c_law_is_int => k_is)
    (case k_law_is_int => k_is)
    (case a_law_is_fraction => k_is)
    (case l_law_is_fraction => k_is)
    (case c_law_is_fraction => k_is)
    (case k_law_is_fraction => k_is)
    (case a_law_is_wait => k_is)
    (case l_law_is_wait => k_is)
    (case c_law_is_wait => k_is)
    (case k_law_is_wait => k_is)
    (case a_law_is_move => k_is)
    (case l_law_is_move => k_is)
    (case c_law_is_move => k_is)
    (case k_law_is_move => k_is)
    (case a_law_is_between => k_is)
    (case l_law_is_between => k_is)
    (case c_law_is_between => k_is)
    (case k_law_is_between => k_is)
    (case a_law_told => k_is)
    (case l_law_told => k_is)
    (case c_law_told => k_is)
    (case k_law_told => k_is)
    (case a_law_made_by => k_is)
    (case l_law_made_by => k_is)
    (case c_law_made_by => k_is)
    (case k_law_made_by => k_is)
    (case a_law_led => k_is)
    (case l_law_led => k_is)
    (case c_law_led => k_is)
    (case k_law_led => k_is)
    (case a_law_shaped => k_is)
    (case l_law_shaped => k_is)
    (case c_law_shaped => k_is)
    (case k_law_shaped => k_is)
    (case a_law_two => k_is)
    (case l_law_two => k_is)
    (case c_law_two => k_is)
    (case k_law_two => k_is)
    (case a_law => k_is)
    (case l_law => k_is)
    (case c_law => k_is)
    (case k_law => k_is)
    (case pgC => k_is)
    (case hdC => k_is)
    (case poC => k_is)
    (case saC => k_is)
    (case mkC => k_is)
    (case kcC => k_is)
    (case nwC => k_is)
    (case ntC => k_is)
    (case haC => k_is)
    (case hnC => k_is)
    (case htC => k_is)
    (case hmC => k_is)
    (case gcd => k_is)
    (case lcm => k_is)
    (case aN0 => k_is)
    (case aO0 => k_is)
    (case lN => k_is)
    (case lO => k_is)
    (case m_MOST_QUESTIONS => k_is)
    (case m_MOST_WORDS => k_is)
    (case m_MOST_NUMBERS => k_is)
    (case m_MOST_ON_A_WAY => k_is)
    (case m_MOST_PASSED => k_is)
    (case m_MOST_ROUNDS => k_is)
    (case m_MOST_ANSWERS => k_is)
    (case z_str => k_is)
    (case z_len => k_is)
    (case z_int => k_is)
    (case z_abs => k_is)
    (case z_sum => k_is)
    (case z_range => k_is)
    (case z_repr => k_is)
    (case z_isinstance => k_is)
    (case z_any => k_is)
    (case z_all => k_is)
    (case z_tuple => k_is)
    (case z_list => k_is)
    (case z_zip => k_is)
    (case z_enumerate => k_is)
    (case z_max => k_is)
    (case z_bool => k_is)
