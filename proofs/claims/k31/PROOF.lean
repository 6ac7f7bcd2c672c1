import PyProof.Rows.All
import Wide.All
import OpenK.AllK
import Wide.FinOn
import HandS.ForMost
import HandS.Gcd
import HandS.Zip
import HandS.Walk
import HandS.SortKw
import HandS.TupMul
import HandS.TupAny
import HandS.IsInst
import HandS.OwnEq
import HandS.Wide
import KE.DataMinMax
import KE.GoesMore
import KE.GoesEnum
import PyProof.ReprBulk
import PyProof.P3Eq
import HandS.Dict
import KE.KeyNested
import KE.KDictPairs
import KE.GoesNew
import KE.KDictWalk
import HandS.TryMany
import HandS.ExcOwn
import HandS.ExcIs
import HandS.More
import HandS.ExcInit
import HandS.ExcField
import HandS.ExcValue
import KE.KExcIs
import HandS.WordsExc
import HandS.Style
import HandS.DeepEq
import PyProof.DictFindH
import KE.KDictDisplayH
import PySem.Challenge.RW_tellsless_k31_askers_priors_gains_refuse
set_option Elab.async false
set_option linter.all false
set_option maxRecDepth 100000
set_option maxHeartbeats 16000000
/-! rules that the layer lacks -/
namespace Tl
open PySem PySem.Spec PyProof.Rows L2 RZ
section
variable {X : Cx}
/-- repr of nested data -/
def rReprD (K : PySem.W.Frag) : List V → Hp → VK → Prop := fun xs H Q =>
  ∃ (a : Addr) (d : PyData), xs = [.ref a] ∧ Dp K H (.ref a) d ∧ d.showable = true ∧ d.hasDict = false ∧ d.depth ≤ 60 ∧ d.shown.length ≤ sizeLine ∧ Q (.str d.shown) H
theorem cr_reprD (hu : X.A.units + 64 < cLine) (hg : X.A.guards = some []) : CallR X (.builtin "repr") (rReprD X.K) := by
  intro pins s σ H xs us Q I r h
  obtain ⟨a, d, rfl, hd, h1, h2, h3, h4, q⟩ := h
  rw [Vals.ref1 r]
  obtain ⟨as, rd⟩ := Dp.reads I d _ _ hd rfl
  refine repr_of_reads' rd h1 (PyData.noDict_hsm h2) hg (by omega) (fun _ _ e => e) (fun h' u tk hk => ?_) h4
  exact ⟨.str d.shown, H, I.kept (t' := tk) hk, ⟨_, rfl⟩, q⟩
/-- xs[i], i from 0 on, read for a store by an operator -/
def gAtL (K : PySem.W.Frag) : V → V → Hp → VK → Prop := fun x y H Q => ∃ p xs j v, x = .ref p ∧ y = .int ((j : Nat) : Int) ∧ SqL K H p xs ∧ xs[j]? = some v ∧ Q v H
theorem get_listP : PGet X (gAtL X.K) := by
  intro pins s σ H o i ov iv Q I ro ri h
  obtain ⟨p, xs, j, z, rfl, rfl, hq, he, q⟩ := h
  cases ro
  obtain ⟨t, rfl⟩ := ri
  obtain ⟨its, r, pl, hz⟩ := I.list hq
  obtain ⟨w, ew, rw'⟩ := r.get he
  have hn := line63
  have hj : j < xs.length := (List.getElem?_eq_some_iff.mp he).1
  exact wpAny_getItem_list pl.isList (by omega) (by omega) (by simpa using ew) ⟨z, H, I, rw', q⟩
end

section
variable {X : Cx}
def topOf (d : Int) : List Int → Int
  | [] => d
  | n :: r => r.foldl max n
def rMaxDf (K : PySem.W.Frag) : List V → List V → Hp → VK → Prop := fun vs zs H Q => ∃ (a : Addr) (ns : List Int) (d : Int), vs = [V.ref a] ∧ zs = [.int d] ∧ SqL K H a (ns.map V.int) ∧ Q (.int (topOf d ns)) H
theorem reads_ints {h : Heap} : ∀ {us : List Value} {ns : List Int}, IntsAre us ns → ∃ as, ReadsAll h us (ns.map PyData.int) as
  | _, _, .nil => ⟨_, .nil⟩
  | _, _, .cons n t r => by
    obtain ⟨as, q⟩ := reads_ints (h := h) r
    exact ⟨_, .cons (.int n t) q⟩
theorem depth_ints : ∀ ns : List Int, PyData.depthAll (ns.map PyData.int) = 0
  | [] => rfl
  | n :: r => by
    show max (PyData.depth (.int n)) (PyData.depthAll (r.map PyData.int)) = 0
    rw [depth_ints r]
    rfl
theorem alike_ints (ns : List Int) : PySem.W.AlikeAll (ns.map PyData.int) := by
  constructor
  · intro x hx y hy
    obtain ⟨i, _, rfl⟩ := List.mem_map.mp hx
    obtain ⟨j, _, rfl⟩ := List.mem_map.mp hy
    rfl
  · intro x hx
    obtain ⟨i, _, rfl⟩ := List.mem_map.mp hx
    exact fun h => by cases h
theorem cr_maxDf (hc : X.calm = true) (hu : X.A.units + 64 < cLine) : CallRK X (.builtin "max") [Str.ofString "default"] (rMaxDf X.K) := by
  intro pins s σ H vs zs us ws Q I r rz h
  obtain ⟨a, ns, d, rfl, rfl, hs, q⟩ := h
  obtain ⟨its, rv, pl, hz⟩ := I.list hs
  rw [Vals.ref1 r]
  obtain ⟨w1, rfl, t, rfl⟩ := vals1 rz
  have hi := rv.ints
  obtain ⟨as, hr⟩ := reads_ints (h := s.heap) hi
  refine PySem.W.max_list_default (vs := its.toArray) (xs := ns.map PyData.int) (as := as) (I.ok.hd hc) pl.isList (by simpa using hr) (alike_ints ns) (by rw [depth_ints]; omega) (fun hn h' tk hk => ?_) fun y ys i v h' tk bs e ev hv hk => ?_
  · have e : ns = [] := List.map_eq_nil_iff.mp hn
    subst e
    exact ⟨.int d, H, I.kept (t' := tk) hk, ⟨t, rfl⟩, q⟩
  · cases ns with
    | nil => cases e
    | cons n r =>
      cases e
      rw [PySem.W.maxD_ints] at hv
      cases hv
      exact ⟨.int _, H, I.kept (t' := tk) hk, ⟨_, rfl⟩, q⟩
end

/-! enumerate(a tuple) -/
def IteT (K : PySem.W.Frag) (a : Addr) : It :=
  ⟨fun i H => ∃ (xs : List V) (x : V), SqT K H a xs ∧ xs[i]? = some x,
   fun i H v H' => ∃ T x, v = .ref T ∧ H T = none ∧ H' = upd H T (.tup [.int (i : Nat), x]) ∧ ∀ xs, SqT K H a xs → xs[i]? = some x,
   fun i H => ∃ xs : List V, SqT K H a xs ∧ xs.length = i⟩
set_option maxHeartbeats 1000000 in
theorem enum_new_tup (l : Addr) (items : Array Value) : Meets (Builtin.«enumerate.__new__» ⟨[.type "enumerate", .ref l], []⟩) (fun _ R s => s.heap.IsTuple l items ∧
      R (.ok (.ret (.ref (s.heap.objs.size + 1)))) { s with heap := (s.heap.push { cls := .type "tuple_iterator", data := .fields #[.ref l, .int 0 0] }).push { cls := .type "enumerate", data := .fields #[.none, .bool false, .ref s.heap.objs.size, rawInt 0, .none, .none] } }) :=
  .of_wp fun prog w A R s ⟨ht, h⟩ => by
    obtain ⟨hp, g, d, tk, os⟩ := s
    have hsz : ∀ o : Obj, (hp.push o).objs.size = hp.objs.size + 1 := fun o => Heap.size_push ..
    have hsub := sub_enumerate
    have q1 : ∀ {A' : Around} {E' : Value → Shared → Prop} {Q' : Value → Shared → Prop}, Q' (.ref hp.objs.size) ⟨hp.push { cls := .type "tuple_iterator", data := .fields #[.ref l, .int 0 0] }, g, d, tk, os⟩ → wpAny (model prog w) A' (pyIter (.ref l)) Q' E' ⟨hp, g, d, tk, os⟩ :=
      fun q => wpAny_pyIter_tuple (s := ⟨hp, g, d, tk, os⟩) ht q
    rw [← hsz { cls := .type "tuple_iterator", data := .fields #[.ref l, .int 0 0] }] at h
    wp_walk using q1
    refine wpAny_stack_any fun st => wpAny_pure ?_
    split
    · rename_i c _ _ _ _ _
      rcases (c == Value.type "enumerate") with _ | _ <;> (wp_walk using q1; exact ⟨_, rfl, h⟩)
    · wp_walk using q1
      exact ⟨_, rfl, h⟩
theorem enum_tup {prog : Program} {w : World} {A : Around} {E : Value → Shared → Prop} {s : Shared} {l : Addr} {items : Array Value} {Q : Value → Shared → Prop} (ht : s.heap.IsTuple l items)
    (h : ∀ h', IsEnum h' (s.heap.objs.size + 1) s.heap.objs.size 0 .none → h'.IsTupleIter s.heap.objs.size l 0 →
      (∀ b o, s.heap.get? b = some o → h'.get? b = some o) → Q (.ref (s.heap.objs.size + 1)) { s with heap := h' }) :
    wpAny (model prog w) A (call (.type "enumerate") [.ref l]) Q E s := by
  refine callType_new F.called_enumerate (by decide) (F.typeCall_enumerate_1 _) (F.newCall_enumerate_1 _) (fun ob => F.args_object_init_2 ob _) F.entry_enumerate_new (enum_new_tup l items) ⟨ht, ?_⟩
  have e2 : IsEnum ((s.heap.push { cls := .type "tuple_iterator", data := .fields #[.ref l, .int 0 0] }).push { cls := .type "enumerate", data := .fields #[.none, .bool false, .ref s.heap.objs.size, rawInt 0, .none, .none] }) (s.heap.objs.size + 1) s.heap.objs.size 0 .none := by
    have e3 := Heap.get?_push_size (s.heap.push { cls := .type "tuple_iterator", data := .fields #[.ref l, .int 0 0] }) (o := { cls := .type "enumerate", data := .fields #[.none, .bool false, .ref s.heap.objs.size, rawInt 0, .none, .none] }) rfl
    rw [Heap.size_push] at e3
    exact e3
  exact ⟨⟨_, e2, rfl⟩, h _ e2 ⟨_, Heap.get?_push_of_some _ (Heap.get?_push_size _ rfl), rfl, rfl⟩ fun b o x => Heap.get?_push_of_some _ (Heap.get?_push_of_some _ x)⟩
theorem turn_enumT {P : Program} {w : World} {K : PySem.W.Frag} {elts : List Expr} {kk : Nat} {tpos : Pos} (a e it : Addr) :
    Turn P w K (.Tuple elts kk tpos) (IteT K a) [e, it] e (fun i h => (∃ old, IsEnum h e it ((i : Nat) : Int) old) ∧ h.IsTupleIter it a i ∧ e ≠ it ∧ e ≠ a ∧ a ≠ it) where
  mem := List.mem_cons_self
  obj := by
    rintro i h ⟨⟨old, he⟩, ⟨o, ho, hc, hd⟩, _⟩ b hb
    rcases (show b = e ∨ b = it by simpa using hb) with rfl | rfl
    · exact ⟨_, he, fun v q => by cases q⟩
    · exact ⟨o, ho, fun v q => by rw [hd] at q; cases q⟩
  keep := by
    rintro i h h' ⟨⟨old, he⟩, hi, hne⟩ k
    exact ⟨⟨old, k e (by simp) _ he⟩, hi.at fun o q => k it (by simp) o q, hne⟩
  item := by
    intro X hP hw hK hc i pins s σ H E I hf st hg
    subst hP hw hK
    obtain ⟨⟨old, he⟩, hit, hne, hea, hai⟩ := st
    obtain ⟨xs, x, hq, hx⟩ := hg
    obtain ⟨its, rv, pt, hz⟩ := I.tuple hq
    obtain ⟨u, hu, ru⟩ := rv.get hx
    have hlt : i < its.toArray.size := by
      rw [List.size_toArray]
      exact (List.getElem?_eq_some_iff.mp hu).1
    have lte : e < s.heap.objs.size := Heap.lt_size he
    have lti : it < s.heap.objs.size := by
      obtain ⟨_, q, _⟩ := hit
      exact Heap.lt_size q
    have D := Draws.tuple (prog := X.prog) (w := X.w) (A := X.A.in1) (I.ok.hd hc) it a hai its.toArray
    refine wpAny_pyNext_enum_itemD D he ⟨hit, pt⟩ hlt hne (by simp [hne, hea]) fun v h' tk hP ho hit' hT hsz hk => ?_
    have ev : v = u := by
      have q1 : its[i]? = some v := by simpa using hP
      rw [hu] at q1
      exact (Option.some.inj q1).symm
    subst ev
    refine ⟨_, rfl, wpAny_letOwnedTupleGo_enum (s := { s with heap := h', toks := tk + 1 }) ho fun h2 he2 sb => ?_⟩
    have hT2 : h2.get? s.heap.objs.size = some { cls := .type "tuple", data := .seq #[.int i tk, v] } := (sb.2 _ (Nat.ne_of_gt lte)).trans hT
    have mk : ObjOk X.prog X.w (upd H s.heap.objs.size (.tup [.int (i : Nat), x])) h2 s.heap.objs.size (.tup [.int (i : Nat), x]) :=
      ⟨by show 2 ≤ sizeLine; decide, [.int i tk, v], .cons ⟨_, rfl⟩ (.cons ru .nil), ⟨_, hT2, rfl, _, rfl⟩⟩
    have I1 : Inv X pins σ (upd H s.heap.objs.size (.tup [.int (i : Nat), x])) { s with heap := h2, toks := tk + 1 } :=
      I.turnedNew (ch := [e, it]) (fun b ob hb q => by
        have z1 : b ≠ e := fun z => hb (by simp [z])
        have z2 : b ≠ it := fun z => hb (by simp [z])
        exact (sb.2 b z1).trans (hk b ob z1 z2 q)) hf (Nat.le_refl _) mk
    refine ⟨.ref s.heap.objs.size, _, I1, rfl, ⟨_, x, rfl, I.hok.fresh (Nat.le_refl _), rfl, fun ys hy => by rw [I.tuple_inj hy hq]; exact hx⟩, ⟨⟨v, ?_⟩, hit'.1.at fun o q => (sb.2 it (Ne.symm hne)).trans q, hne, hea, hai⟩, fun b hb => ?_⟩
    · rw [show ((i + 1 : Nat) : Int) = (i : Int) + 1 by omega]
      exact he2
    · have lb : b < s.heap.objs.size := by
        rcases (show b = e ∨ b = it by simpa using hb) with z | z
        · rw [z]; exact lte
        · rw [z]; exact lti
      rw [upd_ne (Nat.ne_of_lt lb)]
      exact (hf b hb).1
  done := by
    intro X hP hw hK hc i pins s σ H E I hf st hg
    subst hP hw hK
    obtain ⟨⟨old, he⟩, hit, hne, hea, hai⟩ := st
    obtain ⟨xs, hq, hx⟩ := hg
    obtain ⟨its, rv, pt, hz⟩ := I.tuple hq
    obtain ⟨f0, f1, f2, f3, f4, f5⟩ := hf it (by simp)
    have hl : its.toArray.size = i := by
      rw [List.size_toArray, ← rv.length]
      exact hx
    have D := Draws.tuple (prog := X.prog) (w := X.w) (A := X.A.in1) (I.ok.hd hc) it a hai its.toArray
    exact wpAny_pyNext_enum_endD D he ⟨by rw [hl]; exact hit, pt⟩ fun h' eb => ⟨rfl, I.turned (t' := s.toks) (fun b o hb q => eb b o hb q) f0 f1 f3 f4 f5⟩
  self := fun A i s Q E st h => by
    obtain ⟨⟨_, he⟩, _⟩ := st
    exact wpAny_pyIter_enum he h
def iEnumT (K : PySem.W.Frag) (ta : TA) : TI := fun σ H R => ta σ H fun vs H1 => ∃ a xs, vs = [.ref a] ∧ SqT K H1 a xs ∧ R (IteT K a) H1
theorem pi_enumT {X : Cx} {e : Expr} {ta : TA} {p pos tpos : Pos} {elts : List Expr} {kk : Nat} (hg : Gl X "enumerate") (hm : X.mg "enumerate" = none) (ha : PA X [e] ta) (hs : starEach [e] X.env = [(false, eval e X.env)] := by rfl) :
    PI X (.Tuple elts kk tpos) (.Call (.Name "enumerate" p) [e] [] pos) (iEnumT X.K ta) := by
  refine ⟨fun pins s σ H R I h => Call_ (ld_blt I hg hm boot_enumerate (PyProof.Rows.callWith_type1 (thn (ha.run pos pins s σ H _ I h) fun us s1 hq => ?_) hs rfl))⟩
  obtain ⟨vs, H1, I1, r1, a, xs, rfl, hT, q⟩ := hq
  rw [Vals.ref1 r1]
  obtain ⟨its, rv, pt, hz⟩ := I1.tuple hT
  have hat : a < s1.heap.objs.size := by
    obtain ⟨o, ho, _⟩ := id pt
    exact Heap.lt_size ho
  refine enum_tup (show s1.heap.IsTuple a its.toArray from pt) fun h' he hit hk => wpAny_pyIter_enum he ?_
  have I2 : Inv X pins σ H1 { s1 with heap := h' } := I1.kept (t' := s1.toks) hk
  refine ⟨_, [s1.heap.objs.size + 1, s1.heap.objs.size], _, _, H1, rfl, I2, turn_enumT a (s1.heap.objs.size + 1) s1.heap.objs.size, ⟨⟨.none, he⟩, hit, Nat.succ_ne_self _, Nat.ne_of_gt (Nat.lt_succ_of_lt hat), Nat.ne_of_lt hat⟩, fun b hb => ?_, q⟩
  have hle : s1.heap.objs.size ≤ b := by
    rcases (show b = s1.heap.objs.size + 1 ∨ b = s1.heap.objs.size by simpa using hb) with z | z
    · rw [z]; exact Nat.le_succ _
    · rw [z]; exact Nat.le_refl _
  exact I1.fpOk hle (I1.hok.fresh hle)
theorem walk_enumT {K : PySem.W.Frag} {a : Addr} {xs : List V} : Walk (IteT K a) xs.length (fun H => SqT K H a xs) (YPair (fun i => some (.int (i : Nat))) (fun i => xs[i]?)) := by
  refine ⟨fun i _ hi q => ⟨xs, xs[i], q, by simp [hi]⟩, fun _ q => ⟨xs, q, rfl⟩, fun i H v H' _ q y => ?_⟩
  obtain ⟨T, x, h1, h2, h3, h4⟩ := y
  exact ⟨T, .int (i : Nat), x, h1, h2, h3, rfl, h4 xs q⟩
theorem walk_zipT {K : PySem.W.Frag} {a b : Addr} {xs ys : List V} {n : Nat} (hn : n = min xs.length ys.length) : Walk (ItzT K a b) n (fun H => SqT K H a xs ∧ SqT K H b ys) (YPair (fun i => xs[i]?) (fun i => ys[i]?)) := by
  subst hn
  refine ⟨fun i _ hi q => ⟨xs, ys, xs[i]'(by omega), ys[i]'(by omega), q.1, q.2, List.getElem?_eq_getElem _, List.getElem?_eq_getElem _⟩, fun _ q => ⟨xs, ys, q.1, q.2, by omega⟩, fun i H v H' _ q y => ?_⟩
  obtain ⟨T, x, z, h1, h2, h3, h4, h5⟩ := y
  exact ⟨T, x, z, h1, h2, h3, h4 xs q.1, h5 ys q.2⟩

/-! a tuple times an int, also 1 -/
theorem mul_one_tup (l : Addr) (items : Array Value) (n : Nat) (dd : Option Addr) (sl : Array (Option Value)) (u : Tok) (hne : items.isEmpty = false) : Meets (Builtin.«tuple.__mul__» ⟨[.ref l, .int 1 u], []⟩) (fun _ R s => s.heap.get? l = some { cls := .type "tuple", dict := dd, data := .seq items n, slots := sl } ∧ R (.ok (.ret (.ref l))) s) :=
  .of_wp fun prog w A R s h => by
    obtain ⟨hp, g, d, tk, os⟩ := s
    obtain ⟨hl, h⟩ := h
    have f1 := AutoSeq1.idx_int
    wp_walk using wpAny_loadPart' hl
    exact ⟨_, rfl, h⟩
def rRepP (K : PySem.W.Frag) : R2 := fun x y H Q => ∃ l k xs, x = .ref l ∧ y = .int k ∧ SqT K H l xs ∧ xs ≠ [] ∧ 1 ≤ k ∧ k ≤ 1000 ∧ xs.length ≤ 1000 ∧ ∀ p H', Same H H' → SqT K H' p (List.replicate k.toNat xs).flatten → Q (.ref p) H'
theorem same_upd {H : Hp} {p : Addr} {o : HO} (h : H p = none) : Same H (upd H p o) := fun b x e => by
  rw [upd_ne (ne_of_none e h)]
  exact e
theorem op_repP {X : Cx} : OpR X (binaryOp .Mult) (rRepP X.K) := by
  intro pins s σ H x y v u Q I rx ry h
  obtain ⟨l, k, xs, rfl, rfl, hT, hne, h1, h2, hz, q⟩ := h
  by_cases hk : 2 ≤ k
  · exact op_repT pins s σ H _ _ v u Q I rx ry ⟨l, k, xs, rfl, rfl, hT, hne, hk, h2, hz, fun p hp => q p _ (same_upd hp) (.inl (.inl upd_same))⟩
  · obtain rfl : k = 1 := by omega
    cases rx
    obtain ⟨t, rfl⟩ := ry
    obtain ⟨its, r, ⟨⟨cls, dd, data, sl⟩, ho, hc, n, hd⟩, hs⟩ := I.tuple hT
    simp only at hc hd
    subst hc hd
    have hn : its.toArray.isEmpty = false := by
      cases its with
      | nil =>
        cases r
        exact absurd rfl hne
      | cons a b => rfl
    refine wpAny_binaryOp_repeat_ref (T := "tuple") (U := "int") (by decide) ⟨_, ho, rfl⟩ (fun s' => typeIs_int s' 1 t) noFill_tuple_mul F.fills_int_mul F.slot_int_rmul repeat_tuple F.slot_int_index.lookup
      (call_meets F.slot_int_rmul (typeIs_int s 1 t) F.entry_int_rmul (F.args_int_rmul_2 _ _) (int_rmul_tuple 1 t l its.toArray n dd sl)
        ⟨ho, rfl, ⟨_, ho, rfl⟩, call_meets F.slot_tuple_mul ⟨_, ho, rfl⟩ F.entry_tuple_mul (F.args_tuple_mul_2 _ _) (mul_one_tup l its.toArray n dd sl t hn) ⟨ho, ?_⟩⟩)
    exact ⟨.ref l, H, I, rfl, q l H (Same.refl H) (by rw [show (List.replicate (Int.toNat 1) xs).flatten = xs by simp]; exact hT)⟩

/-! ### defs that want no repr to run around them -/
structure FnG (P : Program) (w : World) (K : PySem.W.Frag) (mg : Str → Option Value) (base : Heap) (CX : CXT) (k : Nat) (f : Addr) (fd : FuncData) (ps : List Str) (sp : Sp) : Prop where
  many : ∀ vs H Q E, sp vs H Q E → vs.length = ps.length
  goes : ∀ (A : Around) (outer : List Env) (s : Shared) (H : Hp) (args : Args) (us : List Value) (vs : List V) (Q : VK) (E : XK), Room k A → A.guards = some [] → Env0 P w K mg base A outer s H → BindsTo s fd args (ps.zip us) → Vals vs us → sp vs H Q E →
    codeAny (model P w) A (.call (.ref f) args) (CR CX outer P w H s Q E) s
section
variable {P : Program} {w : World} {K : PySem.W.Frag} {mg : Str → Option Value} {base : Heap}
theorem okG {x qual : Str} {st : Stmt} {f : Addr} {fd : FuncData} {N ps : List Str} {k : Nat} {sp : Sp} (F : Fun K x qual st f fd) (S : FnScope N ps (defScope st)) (len : ∀ vs H Q E, sp vs H Q E → vs.length = ps.length)
    (bd : ∀ (cdv : Value) (A : Around) (outer : List Env) (s : Shared) (H : Hp) (vs : List V) (Q : VK) (E : XK), Room k (A.deeper (envOfC qual (defScope st) s.heap.objs.size f cdv)) → A.guards = some [] → sp vs H Q E →
      ∃ t, PSs (cxOf CX0 P w K mg base N qual (defScope st) f cdv A outer s H E).nox (defBody st) t ∧ t { nx := fun _ H' => Q .non H', rt := Q } (start N vs) H) : FnG P w K mg base CX0 (k + 1) f fd ps sp := by
  obtain ⟨oc, od, kV, doc, pm, an, cdv, ct, osl, rfl, lk, hcd⟩ := F.ex
  refine ⟨len, fun A outer s H args us vs Q E hr hgu e0 hb rv hsp => ?_⟩
  have hl := len _ _ _ _ hsp
  have kin : K.In s.heap := e0.mod.kin.keeps fun b o e => (e0.bs b o e).1
  have nol : s.heap.NoLimit := e0.mod.nolimit.keeps fun b o e => (e0.bs b o e).1
  have kinds : ∀ y ∈ ps.zip us, (defScope st).names.lookup y.1 = some .local ∨ ((defScope st).names.lookup y.1 = some .cell ∧ ((cellsFrom (s.heap.objs.size + 1) (defScope st).names []).lookup y.1).isSome = true) := by
    rintro ⟨n, v⟩ hy
    have hn := (List.of_mem_zip hy).1
    rcases S.par n hn with q | q
    · exact Or.inl q
    · exact Or.inr ⟨q, PySem.W.cellsFrom_some _ _ _ (Or.inl q)⟩
  refine codeAny_call_function hr.depth (kin _ _ lk) rfl S.co S.gen rfl (PySem.W.codeRec_of kin hcd) (hb _ _ _ _ (wpAny_newFunctionEnv_cells S.kind kinds fun env ee s1 x => ?_))
  subst ee
  refine ⟨nol.keeps x.toInCall.keep, codeAny_func ?_⟩
  obtain ⟨t, ht, hq⟩ := bd cdv A outer s H vs Q E (hr.deeper _) hgu hsp
  have J : Inv (cxOf CX0 P w K mg base N qual (defScope st) f cdv A outer s H E) [] (start N vs) H s1 := inv_start S hr.hd e0 hl rv x
  refine wpAny_mono (ht.nox.run [] s1 (start N vs) H _ J hq) (fun fl s2 hs => ?_) fun e s2 hs => hs
  have done : ∀ {σ' : L2.St} {H' : Hp} {v : V} {u : Value}, Inv (cxOf CX0 P w K mg base N qual (defScope st) f cdv A outer s H E) [] σ' H' s2 → RelV v u → Q v H' → CE outer P w H s Q u s2 :=
    fun {σ' H' v u} L r q => ⟨v, H', L.os, L.bare, L.base, L.hok, r, q⟩
  cases fl with
  | ret u =>
    obtain ⟨v, σ', H', L, r, q⟩ := hs
    exact done L r q
  | next =>
    obtain ⟨σ', H', L, q⟩ := hs
    exact done (v := V.non) (u := Value.none) L rfl q
  | brk =>
    obtain ⟨_, _, _, q⟩ := hs
    exact q.elim
  | cont =>
    obtain ⟨_, _, _, q⟩ := hs
    exact q.elim
end
section
variable {X : Cx} {CX : CXT} {k : Nat} {f : Addr} {fd : FuncData} {ps : List Str} {sp : Sp} {dvs : List V} {ds : List Value} {E : XK} {x : Str} {p pos : Pos} {e : Expr} {es : List Expr} {t : TA}
theorem pe_callG (F : FnG X.prog X.w X.K X.mg X.base CX k f fd ps sp) (hr : Room k X.A) (hgu : X.A.guards = some []) (hg : Gl X x) (hm : X.mg x = some (.ref f)) (hk : PySem.W.keepIn X.K (.ref f) = true) (hb : Binds X.K fd ps ds) (hd : Vals dvs ds) (hx : Passes CX X E)
    (ha : PA X (e :: es) t) (hdb : (x == ("__debug__" : Str)) = false := by decide) (he : starEach (e :: es) X.env = (false, eval e X.env) :: starEach es X.env := by rfl) (hpl : (backTo pos (starEach es X.env)).any (·.1) = false := by rfl) :
    PE X (.Call (.Name x p) (e :: es) [] pos) (tCall sp dvs E t) := by
  refine ⟨fun pins s σ H Q I h => wpAny_Call_Name_kw (ld_glob I hg hm ?_ hdb)⟩
  refine PySem.W.callWith_K (h₀ := X.base) I.ok.mod.kin hk (thn (ha.run pos pins s σ H _ I h) ?_) he hpl
  rintro us s1 ⟨vs, H1, I1, r, q⟩
  refine ⟨I1.kIn, ?_⟩
  have r2 : Vals (vs ++ dvs) (us ++ ds) := r.append hd
  have hl : (us ++ ds).length = ps.length := by
    rw [← r2.length]
    exact F.many _ _ _ _ q
  refine wpAny_call (codeAny_mono (F.goes X.A X.stack s1 H1 ⟨us, []⟩ (us ++ ds) (vs ++ dvs) Q E hr hgu I1.env0 (hb s1 us I1.kIn hl) r2 q) ?_)
  intro res s2 hq
  match res, hq with
  | .error e, hq => exact hx pins σ H1 s1 e s2 I1 hq
  | .ok (.ret u), hq => exact I1.after hq
end
/-- a law's own promise -/
def spTrue (K : PySem.W.Frag) : Sp := fun vs H Q _ => ∃ (a : Addr) (ns : List Int), vs = [.ref a] ∧ SqL K H a (ns.map V.int) ∧ ns.length ≤ 63 ∧ ∀ H', Q (.bl true) H'
theorem callG {P : Program} {w : World} {K : PySem.W.Frag} {mg mb : Str → Option Value} {k : Nat} {fa a : Addr} {fd : FuncData} {x : Str} {s₁ : Shared} {vs : List Value} {ns : List Int}
    (kin : K.In s₁.heap) (hns : s₁.heap.Ns mainGlobals mg) (hbl : s₁.heap.Ns builtinsNs mb) (hbb : ∀ x : Str, x ≠ "__name__" → mb x = bootBuiltins x) (nol : s₁.heap.NoLimit) (hgens : s₁.gens = #[])
    (ha : s₁.heap.get? a = some { cls := .type "list", data := .seq vs.toArray }) (hi : IntsAre vs ns) (h63 : ns.length ≤ 63) (hr : Room k callerA)
    (F : ∀ base : Heap, K.In base → base.Ns mainGlobals mg → FnG P w K mg base CX0 k fa fd [x] (spTrue K)) (hbind : ∀ (s : Shared) (u : Value), BindsTo s fd ⟨[u], []⟩ [(x, u)]) :
    codeAny (model P w) callerA (.call (.ref fa) ⟨[.ref a], []⟩) (fun r s' => r = .ok (.ret (.bool true)) ∧ OldK s₁.heap s'.heap ∧ s'.os = s₁.os ∧ AllBare s'.gens) s₁ := by
  have hl : ns.length ≤ sizeLine := Nat.le_trans h63 (by decide)
  have rv := vals_ints hi
  have lv := hi.length
  have main : ∀ T : Hp, Only T → SqL K T a (ns.map V.int) → HOk P w T s₁.heap → (∀ b, T b ≠ none → b = a) → (T a ≠ none → K.lookup a = none) →
      codeAny (model P w) callerA (.call (.ref fa) ⟨[.ref a], []⟩) (fun r s' => r = .ok (.ret (.bool true)) ∧ OldK s₁.heap s'.heap ∧ s'.os = s₁.os ∧ AllBare s'.gens) s₁ := by
    intro T only hS hok only_a notK
    have put : ∀ {b : Addr} {o : Obj}, s₁.heap.get? b = some o → T b = none → (hidT s₁.heap T).get? b = some o := fun e n => hidT_get e n
    have dict_free : ∀ {b : Addr} {o : Obj} {es : Array DictEntry} {ep : Nat}, s₁.heap.get? b = some o → o.data = .dict es ep → T b = none := by
      intro b o es ep e d
      match q : T b with
      | none => rfl
      | some u =>
        obtain rfl := only_a b (by rw [q]; exact fun z => by cases z)
        rw [ha] at e
        cases e
        exact absurd (show Data.seq vs.toArray _ = Data.dict es ep from d) (fun z => by cases z)
    have nsB : ∀ {b : Addr} {m : Str → Option Value}, s₁.heap.Ns b m → (hidT s₁.heap T).Ns b m := by
      rintro b m ⟨o, es, ep, e, d, r⟩
      exact ⟨o, es, ep, put e (dict_free e d), d, r⟩
    have kinB : K.In (hidT s₁.heap T) := by
      intro b o e
      refine put (kin b o e) ?_
      match q : T b with
      | none => rfl
      | some u =>
        have q' : T b ≠ none := by rw [q]; exact fun z => by cases z
        obtain rfl := only_a b q'
        rw [notK q'] at e
        cases e
    obtain ⟨mc, l1, l2⟩ := nol
    have md : Mod K mg (hidT s₁.heap T) := ⟨kinB, nsB hns, ⟨mb, nsB hbl, hbb⟩, ⟨mc, nsB l1, l2⟩⟩
    have e0 : Env0 P w K mg (hidT s₁.heap T) callerA [] s₁ T :=
      { frames := rfl, mod := md, bs := fun b o e => of_hidT e, bsz := Nat.le_of_eq (hidT_size _ _), funs := trivial, frf := fun b hb => (List.not_mem_nil (show b ∈ ([] : List Addr) from hb)).elim, hok := hok, bare := .of_eq hgens }
    have sp0 : spTrue K [.ref a] T (fun v _ => v = .bl true) (fun _ _ _ => False) := ⟨a, ns, rfl, hS, h63, fun _ => rfl⟩
    refine codeAny_mono ((F _ kinB (nsB hns)).goes callerA [] s₁ T ⟨[.ref a], []⟩ [.ref a] [.ref a] _ _ hr rfl e0 (hbind s₁ (.ref a)) (.cons rfl .nil) sp0) ?_
    intro r s2 h
    match r, h with
    | .error e, h => exact h.elim
    | .ok (.ret u), h =>
      obtain ⟨v, T', os, bare, un, hok2, r2, q⟩ := h
      obtain rfl : v = .bl true := q
      obtain rfl : u = Value.bool true := r2
      refine ⟨rfl, OldK.of_keep fun b o e => ?_, os, bare⟩
      match q : T b with
      | none => exact un.keep b o e q (fun z => (List.not_mem_nil (show b ∈ ([] : List Addr) from z)).elim) List.not_mem_nil
      | some u =>
        rcases only b with z | ⟨ob, xs, z⟩
        · rw [q] at z
          cases z
        · obtain ⟨e1, _⟩ := hok b _ z
          obtain ⟨e2, _⟩ := hok2 b _ (un.frzs b ob _ z)
          rw [e] at e1
          cases e1
          exact e2
  match hk : K.lookup a with
  | some o =>
    have e := kin a o hk
    rw [ha] at e
    cases e
    exact main (fun _ => none) (fun _ => Or.inl rfl) (Or.inr ⟨_, vs.toArray, _, hk, rfl, rfl, rfl, by rw [List.size_toArray, lv]; exact hl, by simpa using rv⟩) (fun b u z => by cases (show (none : Option HO) = some u from z)) (fun b z => (z rfl).elim) fun z => (z rfl).elim
  | none =>
    refine main (fun b => if b = a then some (.frz { cls := .type "list", data := .seq vs.toArray } (.lst (ns.map V.int))) else none) (fun b => ?_) (Or.inl (Or.inr ⟨{ cls := .type "list", data := .seq vs.toArray }, if_pos rfl⟩)) (fun b u z => ?_) (fun b z => ?_) fun _ => hk
    · by_cases hb : b = a
      · exact Or.inr ⟨_, _, if_pos hb⟩
      · exact Or.inl (if_neg hb)
    · by_cases hb : b = a
      · cases (if_pos hb).symm.trans z
        subst hb
        exact ⟨ha, by rw [List.length_map]; exact hl, vs, _, rv, ha⟩
      · cases (if_neg hb).symm.trans z
    · exact Decidable.byContradiction fun hb => z (if_neg hb)
theorem walkG {l : PySem.W.OpenLaw} {k : Nat} {q : Program} {loose : List Str} {XP : (Str → Option Value) → Heap → Prop} {YP : World → Heap → Prop} {d : DefRec} {K : Params → PySem.W.Frag} {x : Str}
    (hn : l.most = some 63) (hdf : d.params.defaults = []) (hr : Room k callerA) (hY : ∀ (w : World) (h : Heap), YP w h → (K w.params).In h)
    (F : ∀ (w : World) (mg : Str → Option Value) (fa : Addr) (h : Heap), (K w.params).In h → h.Ns mainGlobals mg → mg d.name = some (.ref fa) →
      ∃ fd : FuncData, (∀ (s : Shared) (u : Value), BindsTo s fd ⟨[u], []⟩ [(x, u)]) ∧ ∀ base : Heap, (K w.params).In base → base.Ns mainGlobals mg → FnG l.prog w (K w.params) mg base CX0 k fa fd [x] (spTrue (K w.params))) :
    PySem.W.WalkO q loose XP YP l.row.toRowW d [] (fun f vs => PySem.call f vs) := by
  refine Att.attach_call hn hdf ?_
  intro w s₀ s₁ mg mb fa o pm cd doc a vs ns G Y ho hd hcd hmg hob hints hlen hg
  have kin := hY w _ Y
  obtain ⟨fd, hb, hF⟩ := F w mg fa _ kin G.T.g hmg
  exact callG kin G.T.g G.T.b G.T.builtins G.T.nolimit hg hob hints hlen hr hF hb
end Tl
/-! data without lists, frames, the bag -/
namespace Tl
open PySem PySem.Spec PyProof.Rows L2 RZ
/-! ### heaps -/
/-- all tuples stay -/
def KT (K : PySem.W.Frag) (H H' : Hp) : Prop := ∀ a xs, SqT K H a xs → SqT K H' a xs
theorem KT.refl {K : PySem.W.Frag} (H : Hp) : KT K H H := fun _ _ h => h
theorem KT.trans {K : PySem.W.Frag} {H1 H2 H3 : Hp} (a : KT K H1 H2) (b : KT K H2 H3) : KT K H1 H3 := fun x xs h => b x xs (a x xs h)
theorem Same.kt {K : PySem.W.Frag} {H H' : Hp} (h : Same H H') : KT K H H' := fun a xs q => by
  rcases q with (q | ⟨o, q⟩) | q
  · exact .inl (.inl (h _ _ q))
  · exact .inl (.inr ⟨o, h _ _ q⟩)
  · exact .inr q
/-- all but the lists at b and g stays as it was -/
def Frm (b g : Addr) (H H' : Hp) : Prop := ∀ a o, H a = some o → a ≠ b → a ≠ g → H' a = some o
theorem Frm.refl (b g : Addr) (H : Hp) : Frm b g H H := fun _ _ h _ _ => h
theorem Frm.trans {b g : Addr} {H1 H2 H3 : Hp} (x : Frm b g H1 H2) (y : Frm b g H2 H3) : Frm b g H1 H3 := fun a o h h1 h2 => y a o (x a o h h1 h2) h1 h2
theorem Frm.of {b g : Addr} {H H' : Hp} (h : Same H H') : Frm b g H H' := fun a o q _ _ => h a o q
theorem Frm.updB {b g : Addr} {H : Hp} {o : HO} : Frm b g H (upd H b o) := fun a x h h1 _ => by rw [upd_ne h1]; exact h
theorem Frm.updG {b g : Addr} {H : Hp} {o : HO} : Frm b g H (upd H g o) := fun a x h _ h2 => by rw [upd_ne h2]; exact h
/-! ### data of tuples -/
mutual
inductive Td (K : PySem.W.Frag) (H : Hp) : V → PyData → Prop
  | non : Td K H .non .none
  | bl (b : Bool) : Td K H (.bl b) (.bool b)
  | int (i : Int) : Td K H (.int i) (.int i)
  | str (x : Str) : Td K H (.str x) (.str x)
  | tup {a : Addr} {xs : List V} {ds : List PyData} : SqT K H a xs → TdAll K H xs ds → Td K H (.ref a) (.tuple ds)
inductive TdAll (K : PySem.W.Frag) (H : Hp) : List V → List PyData → Prop
  | nil : TdAll K H [] []
  | cons {v : V} {vs : List V} {d : PyData} {ds : List PyData} : Td K H v d → TdAll K H vs ds → TdAll K H (v :: vs) (d :: ds)
end
variable {K : PySem.W.Frag} {H H' : Hp}
mutual
theorem Td.dp : ∀ {v : V} {d : PyData}, Td K H v d → Dp K H v d
  | _, _, .non => .non
  | _, _, .bl b => .bl b
  | _, _, .int i => .int i
  | _, _, .str x => .str x
  | _, _, .tup h a => .tup h (TdAll.dp a)
theorem TdAll.dp : ∀ {v : List V} {d : List PyData}, TdAll K H v d → DpAll K H v d
  | _, _, .nil => .nil
  | _, _, .cons h t => .cons (Td.dp h) (TdAll.dp t)
end
mutual
theorem Td.keep (k : KT K H H') : ∀ {v : V} {d : PyData}, Td K H v d → Td K H' v d
  | _, _, .non => .non
  | _, _, .bl b => .bl b
  | _, _, .int i => .int i
  | _, _, .str x => .str x
  | _, _, .tup h a => .tup (k _ _ h) (TdAll.keep k a)
theorem TdAll.keep (k : KT K H H') : ∀ {v : List V} {d : List PyData}, TdAll K H v d → TdAll K H' v d
  | _, _, .nil => .nil
  | _, _, .cons h t => .cons (Td.keep k h) (TdAll.keep k t)
end
theorem TdAll.len : ∀ {v : List V} {d : List PyData}, TdAll K H v d → v.length = d.length
  | _, _, .nil => rfl
  | _, _, .cons _ t => congrArg (· + 1) (TdAll.len t)
theorem TdAll.get : ∀ {vs : List V} {ds : List PyData} {i : Nat} {d : PyData}, TdAll K H vs ds → ds[i]? = some d → ∃ v, vs[i]? = some v ∧ Td K H v d
  | _, _, _, _, .nil, e => by simp at e
  | _, _, 0, _, .cons h _, e => by
    simp at e
    subst e
    exact ⟨_, rfl, h⟩
  | _, _, i + 1, d, .cons _ t, e => by
    obtain ⟨v, h1, h2⟩ := TdAll.get (i := i) (d := d) t (by simpa using e)
    exact ⟨v, by simpa using h1, h2⟩
theorem TdAll.getV : ∀ {vs : List V} {ds : List PyData} {i : Nat} {v : V}, TdAll K H vs ds → vs[i]? = some v → ∃ d, ds[i]? = some d ∧ Td K H v d
  | _, _, _, _, .nil, e => by simp at e
  | _, _, 0, _, .cons h _, e => by
    simp at e
    subst e
    exact ⟨_, rfl, h⟩
  | _, _, i + 1, v, .cons _ t, e => by
    obtain ⟨d, h1, h2⟩ := TdAll.getV (i := i) (v := v) t (by simpa using e)
    exact ⟨d, by simpa using h1, h2⟩
theorem TdAll.app : ∀ {vs ws : List V} {ds es : List PyData}, TdAll K H vs ds → TdAll K H ws es → TdAll K H (vs ++ ws) (ds ++ es)
  | _, _, _, _, .nil, h => h
  | _, _, _, _, .cons h t, q => .cons h (TdAll.app t q)
theorem Td.tupE {v : V} {ds : List PyData} (h : Td K H v (.tuple ds)) : ∃ a xs, v = .ref a ∧ SqT K H a xs ∧ TdAll K H xs ds := by
  cases h with
  | tup h a => exact ⟨_, _, rfl, h, a⟩
theorem Td.intE {v : V} {i : Int} (h : Td K H v (.int i)) : v = .int i := by
  cases h
  rfl
theorem tdAll_ints : ∀ ns : List Int, TdAll K H (ns.map V.int) (ns.map PyData.int)
  | [] => .nil
  | n :: r => .cons (.int n) (tdAll_ints r)
theorem tdAll_intsE : ∀ {ns : List Int} {vs : List V}, TdAll K H vs (ns.map PyData.int) → vs = ns.map V.int
  | [], _, h => by
    cases h
    rfl
  | n :: r, _, h => by
    cases h with
    | cons h t =>
      cases h
      rw [tdAll_intsE t]
      rfl
/-- a list of values, each at its datum -/
theorem tdAll_iff {vs : List V} {ds : List PyData} (hl : vs.length = ds.length) (h : ∀ (i : Nat) (v : V) (d : PyData), vs[i]? = some v → ds[i]? = some d → Td K H v d) : TdAll K H vs ds := by
  induction vs generalizing ds with
  | nil =>
    cases ds with
    | nil => exact .nil
    | cons d r => simp at hl
  | cons v vs ih =>
    cases ds with
    | nil => simp at hl
    | cons d r =>
      refine .cons (h 0 v d rfl rfl) (ih (by simpa using hl) fun i v d h1 h2 => h (i + 1) v d (by simpa using h1) (by simpa using h2))
/-! ### the bag -/
structure Bag (H : Hp) (b g : Addr) : Prop where
  ne : b ≠ g
  hb : ∃ s c al, H b = some (.lst [.int s, .int c, .ref g, al]) ∧ (al = .non ∨ ∃ n, al = .int n)
  hg : ∃ gs : List Int, H g = some (.lst (gs.map V.int)) ∧ gs.length ≤ 63
theorem Bag.kt {b g : Addr} (B : Bag H b g) (f : Frm b g H H') : KT K H H' := fun a xs q => by
  obtain ⟨s, c, al, hb, _⟩ := B.hb
  obtain ⟨gs, hg, _⟩ := B.hg
  rcases q with (q | ⟨o, q⟩) | q
  · refine .inl (.inl (f _ _ q ?_ ?_))
    · intro e
      rw [e, hb] at q
      cases q
    · intro e
      rw [e, hg] at q
      cases q
  · refine .inl (.inr ⟨o, f _ _ q ?_ ?_⟩)
    · intro e
      rw [e, hb] at q
      cases q
    · intro e
      rw [e, hg] at q
      cases q
  · exact .inr q
theorem Bag.keep {b g : Addr} (B : Bag H b g) (s : Same H H') : Bag H' b g :=
  ⟨B.ne, let ⟨x, c, al, h, r⟩ := B.hb; ⟨x, c, al, s _ _ h, r⟩, let ⟨gs, h, r⟩ := B.hg; ⟨gs, s _ _ h, r⟩⟩
/-- another list stands -/
theorem Bag.other {b g a : Addr} {o : HO} (B : Bag H b g) (h : H a = some o) (h2 : ∀ xs, o ≠ .lst xs) : a ≠ b ∧ a ≠ g := by
  obtain ⟨s, c, al, hb, _⟩ := B.hb
  obtain ⟨gs, hg, _⟩ := B.hg
  constructor
  · intro e
    rw [e, hb] at h
    exact h2 _ (Option.some.inj h).symm
  · intro e
    rw [e, hg] at h
    exact h2 _ (Option.some.inj h).symm
theorem Bag.neNew {b g a : Addr} (B : Bag H b g) (h : H a = none) : a ≠ b ∧ a ≠ g := by
  obtain ⟨s, c, al, hb, _⟩ := B.hb
  obtain ⟨gs, hg, _⟩ := B.hg
  refine ⟨fun e => ?_, fun e => ?_⟩
  · rw [e, hb] at h
    cases h
  · rw [e, hg] at h
    cases h
end Tl
/-! the rules with the written part named (for blocks) -/
namespace Tl
open PySem PySem.Spec PyProof.Rows L2 RZ
section
variable {X : Cx} {K : PySem.W.Frag} (h : X.K = K)
include h
theorem k_ixL : IxR X (rIxL K) := by subst h; exact ix_list
theorem k_ixT : IxR X (rIxT K) := by subst h; exact ix_tup
def rLen (K : PySem.W.Frag) : List V → Hp → VK → Prop := fun xs H Q => ∃ p ys, xs = [.ref p] ∧ (SqL K H p ys ∨ SqT K H p ys) ∧ Q (.int ys.length) H
theorem k_len : CallR X (.builtin "len") (rLen K) := by subst h; exact call_len_seq
theorem k_sum (hc : X.calm = true) : CallR X (.builtin "sum") (rSum K) := by subst h; exact cr_sum hc
theorem k_any (hc : X.calm = true) : CallR X (.builtin "any") (rAny K) := by subst h; exact cr_any hc
theorem k_all (hc : X.calm = true) : CallR X (.builtin "all") (rAll K) := by subst h; exact cr_all hc
theorem k_eqD (hu : X.A.units + 64 < cLine) : OpR X (compareOp .Eq) (rEqD K) := by subst h; exact op_eqD hu
theorem k_neD (hu : X.A.units + 64 < cLine) : OpR X (compareOp .NotEq) (rNeD K) := by subst h; exact op_neD hu
theorem k_ltT (hu : X.A.units < cLine) : OpR X (compareOp .Lt) (rLtT K) := by subst h; exact op_ltT hu
theorem k_rep : OpR X (binaryOp .Mult) (rRepP K) := by subst h; exact op_repP
def rCatP (K : PySem.W.Frag) : R2 := fun x y H Q => ∃ a b xs ys, x = .ref a ∧ y = .ref b ∧ SqT K H a xs ∧ SqT K H b ys ∧ xs.length + ys.length ≤ sizeLine ∧ ∀ p H', Same H H' → SqT K H' p (xs ++ ys) → Q (.ref p) H'
theorem k_cat : OpR X (binaryOp .Add) (rCatP K) := by
  subst h
  intro pins s σ H x y v u Q I rx ry ⟨a, b, xs, ys, e1, e2, ha, hb, hz, q⟩
  refine op_catA pins s σ H x y v u Q I rx ry ⟨a, b, xs, ys, e1, e2, ha, hb, hz, fun z => ?_, fun _ z => ?_, fun _ _ p hp => q p _ (same_upd hp) (.inl (.inl upd_same))⟩
  · subst z
    exact q b H (Same.refl H) hb
  · subst z
    exact q a H (Same.refl H) (by rw [List.append_nil]; exact ha)
def rTupOf (K : PySem.W.Frag) : List V → Hp → VK → Prop := fun xs H Q => ∃ p ys, xs = [.ref p] ∧ SqL K H p ys ∧ ∀ l H', Same H H' → SqT K H' l ys → Q (.ref l) H'
theorem k_tupOf : CallR X (.type "tuple") (rTupOf K) := by
  subst h
  intro pins s σ H xs us Q I r ⟨p, ys, e, hs, q⟩
  exact call_tuple_of pins s σ H xs us Q I r ⟨p, ys, e, .inl ⟨hs, fun l hl => q l _ (same_upd hl) (.inl (.inl upd_same))⟩⟩
theorem k_isi : CallR X (.builtin "isinstance") (rIsi K) := by subst h; exact call_isi
theorem k_repr (hu : X.A.units + 64 < cLine) (hg : X.A.guards = some []) : CallR X (.builtin "repr") (rReprD K) := by subst h; exact cr_reprD hu hg
theorem k_maxDf (hc : X.calm = true) (hu : X.A.units + 64 < cLine) : CallRK X (.builtin "max") [Str.ofString "default"] (rMaxDf K) := by subst h; exact cr_maxDf hc hu
theorem k_slL : SlR X (rSlL K) := by subst h; exact sl_list
theorem k_getL : PGet X (gAtL K) := by subst h; exact get_listP
theorem k_tup {pos : Pos} {es : List Expr} {k : Nat} {t : TGs} {n : Nat} (hc : X.calm = true) (hp : PGs X es t) (hn : (assignEach es X.env).length = n := by rfl) (hst : (assignEach es X.env).findIdx? (·.1) = none := by rfl) : PG X (.Tuple es k pos) (gTup K n t) := by
  subst h
  exact pg_tup hc hp hn hst
theorem k_iL {tg l : Expr} {tl : TE} (hl : PE X l tl) : PI X tg l (iList K tl) := by subst h; exact pi_list hl
theorem k_iT {tg l : Expr} {tl : TE} (hl : PE X l tl) : PI X tg l (iTup K tl) := by subst h; exact pi_tup hl
theorem k_enum {e : Expr} {ta : TA} {p pos tpos : Pos} {elts : List Expr} {kk : Nat} (hg : Gl X "enumerate") (hm : X.mg "enumerate" = none) (ha : PA X [e] ta) (hs : starEach [e] X.env = [(false, eval e X.env)] := by rfl) :
    PI X (.Tuple elts kk tpos) (.Call (.Name "enumerate" p) [e] [] pos) (iEnumT K ta) := by subst h; exact pi_enumT hg hm ha hs
theorem k_zip {e e2 : Expr} {ta : TA} {p pos tpos : Pos} {elts : List Expr} {kk : Nat} (hg : Gl X "zip") (hm : X.mg "zip" = none) (ha : PA X [e, e2] ta)
    (hs : starEach [e, e2] X.env = (false, eval e X.env) :: starEach [e2] X.env := by rfl) (hpl : (backTo pos (starEach [e2] X.env)).any (·.1) = false := by rfl) :
    PI X (.Tuple elts kk tpos) (.Call (.Name "zip" p) [e, e2] [] pos) (iZipA K ta) := by subst h; exact pi_zipA hg hm ha hs hpl
theorem k_fld {e : Expr} {ta : TE} {f : Str} {pos : Pos} (he : PE X e ta) (hb : attributeBase e f X.env (eval e X.env) = eval e X.env) : PE X (.Attribute e f pos) (tFld K ta f) := by subst h; exact pe_fld he hb
end
end Tl
/-! every second item: a[::2], a[1::2]; list(a) -/
namespace Tl
open PySem PySem.Spec PyProof.Rows L2 RZ
def ev2 {T : Type} : List T → List T
  | [] => []
  | [a] => [a]
  | a :: _ :: r => a :: ev2 r
theorem ev2_at {T : Type} : ∀ (l : List T) (i : Nat), (ev2 l)[i]? = l[2 * i]?
  | [], i => by
    show ([] : List T)[i]? = _
    rw [List.getElem?_nil, List.getElem?_nil]
  | [a], 0 => rfl
  | [a], i + 1 => by
    rw [List.getElem?_eq_none (by show 1 ≤ i + 1; omega), List.getElem?_eq_none (by show 1 ≤ 2 * (i + 1); omega)]
  | a :: b :: r, 0 => rfl
  | a :: b :: r, i + 1 => by
    show (ev2 r)[i]? = _
    rw [ev2_at r i, show 2 * (i + 1) = 2 * i + 1 + 1 by omega, List.getElem?_cons_succ, List.getElem?_cons_succ]
theorem ev2_len {T : Type} : ∀ l : List T, (ev2 l).length = (l.length + 1) / 2
  | [] => by
    show 0 = (0 + 1) / 2
    decide
  | [a] => by
    show 1 = (1 + 1) / 2
    decide
  | a :: b :: r => by
    show (ev2 r).length + 1 = (r.length + 1 + 1 + 1) / 2
    rw [ev2_len r]
    omega
theorem pick2 {T : Type} : ∀ l : List T, ((List.range ((l.length + 1) / 2)).filterMap fun k => l[2 * k]?) = ev2 l
  | [] => by
    have e : (([] : List T).length + 1) / 2 = 0 := by
      show (0 + 1) / 2 = 0
      decide
    rw [e]
    rfl
  | [a] => by
    have e : ([a].length + 1) / 2 = 1 := by
      show (1 + 1) / 2 = 1
      decide
    rw [e]
    rfl
  | a :: b :: r => by
    have e : ((a :: b :: r).length + 1) / 2 = (r.length + 1) / 2 + 1 := by
      show (r.length + 1 + 1 + 1) / 2 = _
      omega
    rw [e, List.range_succ_eq_map, List.filterMap_cons, List.filterMap_map]
    show a :: _ = a :: ev2 r
    rw [← pick2 r]
    congr 1
theorem pick2_from {T : Type} (l : List T) (a : Nat) (ha : a ≤ l.length) : ((sliceRange (a : Int) (l.length : Int) 2).filterMap fun k => l[k]?) = ev2 (l.drop a) := by
  have c : (if (2 : Int) > 0 then (if (a : Int) < (l.length : Int) then ((l.length : Int) - a + 2 - 1) / 2 else 0) else (if (a : Int) > (l.length : Int) then ((a : Int) - l.length - 2 - 1) / (-2) else 0)).toNat = ((l.drop a).length + 1) / 2 := by
    rw [if_pos (by decide), List.length_drop]
    split <;> omega
  unfold sliceRange
  simp only []
  rw [c, List.filterMap_map, ← pick2 (l.drop a)]
  congr 1
  funext k
  show l[((a : Int) + 2 * (k : Int)).toNat]? = (l.drop a)[2 * k]?
  rw [List.getElem?_drop]
  congr 1
/-- a[::2] and a[1::2] -/
def rSlS (K : PySem.W.Frag) : V → Option Int → Hp → VK → Prop := fun x lo H Q => ∃ (p : Addr) (xs : List V) (j : Nat), x = .ref p ∧ SqL K H p xs ∧ (lo = none ∧ j = 0 ∨ lo = some 1 ∧ j = 1) ∧ 1 ≤ xs.length ∧ ∀ q, H q = none → Q (.ref q) (upd H q (.lst (ev2 (xs.drop j))))
def tSlS (K : PySem.W.Frag) (te : TE) (tl : TO) : TE := fun σ H Q => te σ H fun x H1 => tl σ H1 fun lo H2 => rSlS K x lo H2 Q
theorem ev2_vals {xs : List V} {us : List Value} (r : Vals xs us) : Vals (ev2 xs) (ev2 us) := by
  have g : ∀ (n : Nat) (xs : List V) (us : List Value), xs.length ≤ n → Vals xs us → Vals (ev2 xs) (ev2 us) := by
    intro n
    induction n with
    | zero =>
      intro xs us h r
      cases r with
      | nil => exact .nil
      | cons _ _ => simp at h
    | succ n ih =>
      intro xs us h r
      cases r with
      | nil => exact .nil
      | cons r1 t =>
        cases t with
        | nil => exact .cons r1 .nil
        | cons r2 t => exact .cons r1 (ih _ _ (by simp at h; omega) t)
  exact g _ _ _ (Nat.le_refl _) r
section
variable {X : Cx} {K : PySem.W.Frag} (hK : X.K = K)
include hK
theorem k_slS {e : Expr} {lo : Option Expr} {te : TE} {tl : TO} {kk : Nat} {p3 p2 pos : Pos} (ee : PE X e te) (el : PO X lo tl) : PE X (.Subscript e (.Slice lo none (some (.Constant (.int 2) kk p3)) p2) pos) (tSlS K te tl) := by
  subst hK
  constructor
  intro pins s σ H Q I want
  refine Subscript_ (thn (ee.run pins s σ H _ I want) fun v sa za => ?_)
  obtain ⟨x, Ha, Ia, rx, want⟩ := za
  refine wpAny_Slice (thn (el.run pins sa σ Ha _ Ia want) fun vl sb zb => ?_)
  obtain ⟨l, Hb, Ib, pl, want⟩ := zb
  rw [evalPart_none, evalPart_some]
  refine wpAny_pure ?_
  refine thn ((pe_int (X := X) (i := 2) (j := kk) (pos := p3)).run pins sb σ Hb (fun z Hz => z = .int 2 ∧ Hz = Hb) Ib ⟨rfl, rfl⟩) fun vs sc zc => ?_
  obtain ⟨z, Hc, Ic, rz, rfl, rfl⟩ := zc
  obtain ⟨tk, rfl⟩ := rz
  have Id : Inv X pins σ Hc { sc with heap := sc.heap.push { cls := .type "slice", data := .fields #[vl, .none, .int 2 tk] } } := Ic.kept (t' := sc.toks) fun b ob q => Heap.get?_push_of_some _ q
  obtain ⟨p, xs, j, rfl, hx, hj, h1, want⟩ := want
  cases rx
  obtain ⟨its, rv, ht, hz⟩ := Id.list hx
  have hlen := rv.length
  show wpAny (model X.prog X.w) X.A (subscriptTail e (.Slice lo none (some (.Constant (.int 2) kk p3)) p2) (.ref p) (.ref sc.heap.objs.size)) (EP X pins σ Q) X.xe { sc with heap := sc.heap.push { cls := .type "slice", data := .fields #[vl, .none, .int 2 tk] } }
  refine tail_any (ops := [.ref p, .ref sc.heap.objs.size]) ht.isList.typeIs slot_list_getitem.lookup ?_ (by with_unfolding_all rfl)
  refine wpAny_getItem_list_slice (st := some 2) ht.isList (Heap.IsSliceOf.new ..) pl .none (.int 2 tk) (by decide) ?_ (by rw [List.size_toArray] <;> omega)
  have b1 : (sliceBounds l none (some 2) its.length).1 = (j : Int) := by
    rcases hj with ⟨rfl, rfl⟩ | ⟨rfl, rfl⟩
    · rfl
    · show (if (2 : Int) > 0 then max 0 (min (if (1 : Int) < 0 then 1 + (its.length : Int) else 1) (its.length : Int)) else max (-1) (min (if (1 : Int) < 0 then 1 + (its.length : Int) else 1) ((its.length : Int) - 1))) = ((1 : Nat) : Int)
      rw [if_pos (by decide), if_neg (by decide)]
      omega
  have jl : j ≤ its.length := by rcases hj with ⟨_, rfl⟩ | ⟨_, rfl⟩ <;> omega
  have pk : slicePick its.toArray l none (some 2) = (ev2 (its.drop j)).toArray := by
    unfold slicePick
    rw [List.size_toArray, b1]
    show ((sliceRange (j : Int) (its.length : Int) 2).filterMap (its.toArray[·]?)).toArray = _
    rw [← pick2_from its j jl]
    congr 2
    funext k
    exact List.getElem?_toArray
  rw [pk]
  refine ⟨.ref _, _, Id.laid (t' := sc.toks) (o := .lst (ev2 (xs.drop j))) (fun b ob q => Heap.get?_push_of_some _ q) (Nat.le_refl _) ?_, rfl, want _ (Id.hok.fresh (Nat.le_refl _))⟩
  refine ⟨?_, ev2 (its.drop j), 0, ev2_vals (rv.drop j), Heap.get?_push_size _ rfl⟩
  rw [ev2_len, List.length_drop]
  omega
def rListOf (K : PySem.W.Frag) : List V → Hp → VK → Prop := fun xs H Q => ∃ p ys, xs = [.ref p] ∧ (SqL K H p ys ∨ SqT K H p ys) ∧ ∀ l, H l = none → Q (.ref l) (upd H l (.lst ys))
theorem k_listOf : CallR X (.type "list") (rListOf K) := by
  subst hK
  exact call_list_of
end
end Tl
/-! math.lcm; a walk over a list or a tuple, whichever it is -/
namespace Tl
open PySem PySem.Spec PyProof.Rows L2 RZ
def rLcm : List V → Hp → VK → Prop := fun vs H Q => ∃ a b : Nat, vs = [.int (a : Int), .int (b : Int)] ∧ a < 2 ^ 6000 ∧ b < 2 ^ 6000 ∧ Q (.int ((Nat.lcm a b : Nat) : Int)) H
section
variable {X : Cx}
theorem cr_lcm : CallR X (.builtin "math.lcm") rLcm := by
  intro pins s σ H vs us Q I r h
  obtain ⟨a, b, rfl, ha, hb, q⟩ := h
  obtain ⟨t, u, rfl⟩ := Vals.int2 r
  have e1 : (Nat.lcm 1 ((a : Int)).natAbs).lcm ((b : Int)).natAbs = Nat.lcm a b := by
    rw [PySem.W.mc_lcm_one, Int.natAbs_natCast, Int.natAbs_natCast]
  have e3 : ((1 : Nat)) ≤ 2 ^ 6000 := Nat.one_le_two_pow
  have e4 : ((1 : Nat)) < 2 ^ 6000 := Nat.one_lt_two_pow (by decide)
  have h1 : (max 1 ((a : Int)).natAbs).log2 ≤ 5999 := PySem.W.mg_log (by
    rw [Int.natAbs_natCast]
    show max 1 a < 2 ^ 6000
    generalize (2 : Nat) ^ 6000 = Z at ha e4
    omega)
  have h2 : (max ((a : Int)).natAbs ((b : Int)).natAbs).log2 ≤ 5999 := PySem.W.mg_log (by
    rw [Int.natAbs_natCast, Int.natAbs_natCast]
    show max a b < 2 ^ 6000
    generalize (2 : Nat) ^ 6000 = Z at ha hb
    omega)
  have h3 : Nat.lcm a b < 2 ^ 12000 := by
    refine Nat.lt_of_le_of_lt (PySem.W.mc_lcm_le a b) ?_
    rw [show (12000 : Nat) = 6000 + 6000 from rfl, Nat.pow_add]
    exact Nat.mul_lt_mul'' ha hb
  have hsz : ((((Nat.lcm 1 ((a : Int)).natAbs).lcm ((b : Int)).natAbs : Nat) : Int)).natAbs.log2 < bitsLine := by
    rw [e1, Int.natAbs_natCast]
    refine Nat.lt_of_le_of_lt (PySem.W.mg_log (k := 11999) h3) (by decide)
  refine call_function_meets PySem.W.MGF.kind_lcm PySem.W.MGF.plain_lcm PySem.W.MGF.entry_lcm (PySem.W.MGF.args_lcm _ _) (PySem.W.mg_run_lcm (a : Int) t (b : Int) u (by omega) (by omega) hsz).meets ?_
  rw [e1]
  exact ⟨.int _, H, I.tok _, ⟨_, rfl⟩, q⟩
end
theorem KT.updL {K : PySem.W.Frag} {H : Hp} {e : Addr} {xs ys : List V} (h : H e = some (.lst xs)) : KT K H (upd H e (.lst ys)) := fun a zs q => by
  rcases q with (q | ⟨o, q⟩) | q
  · exact .inl (.inl (by rw [upd_ne (ne_of q h (by intro z; cases z))]; exact q))
  · exact .inl (.inr ⟨o, by rw [upd_ne (ne_of q h (by intro z; cases z))]; exact q⟩)
  · exact .inr q
def iLT (K : PySem.W.Frag) (tl : TE) : TI := fun σ H R => tl σ H fun x H1 => ∃ a xs, x = .ref a ∧ (SqL K H1 a xs ∨ SqT K H1 a xs) ∧ ∀ (J : It) (G : Hp → Prop), Walk J xs.length G (YAt xs) → (∀ H', Same H1 H' → G H') → R J H1
theorem k_iLT {X : Cx} {K : PySem.W.Frag} (hK : X.K = K) {tg l : Expr} {tl : TE} (hl : PE X l tl) : PI X tg l (iLT K tl) := by
  subst hK
  refine ⟨fun pins s σ H R I h => ?_⟩
  refine thn (hl.run pins s σ H _ I h) fun v s1 ⟨x, H1, I1, r1, q1⟩ => ?_
  obtain ⟨a, xs, e, hq, q⟩ := q1
  subst e
  cases r1
  rcases hq with hq | hq
  · obtain ⟨its, rv, p, hz⟩ := I1.list hq
    refine wpAny_pyIter_list p.isList ?_
    refine ⟨s1.heap.objs.size, [s1.heap.objs.size], _, _, H1, rfl, I1.kept (t' := s1.toks) fun b o e => Heap.get?_push_of_some _ e, turn_list a _, ⟨_, Heap.get?_push_size _ rfl, rfl, rfl⟩, fun b hb => ?_, q _ _ walk_list fun H' s => s.seq hq⟩
    have e : b = s1.heap.objs.size := by simpa using hb
    subst e
    exact I1.fpOk (Nat.le_refl _) (I1.hok.fresh (Nat.le_refl _))
  · obtain ⟨its, rv, p, hz⟩ := I1.tuple hq
    refine wpAny_pyIter_tuple (show s1.heap.IsTuple a its.toArray from p) ?_
    refine ⟨s1.heap.objs.size, [s1.heap.objs.size], _, _, H1, rfl, I1.kept (t' := s1.toks) fun b o e => Heap.get?_push_of_some _ e, turn_tuple a _, ⟨_, Heap.get?_push_size _ rfl, rfl, rfl⟩, fun b hb => ?_, q _ _ walk_tup fun H' s => Same.kt s _ _ hq⟩
    have e : b = s1.heap.objs.size := by simpa using hb
    subst e
    exact I1.fpOk (Nat.le_refl _) (I1.hok.fresh (Nat.le_refl _))
/-- xs[i] of a list or a tuple, whichever it is -/
def rIxLT (K : PySem.W.Frag) : V → V → Hp → VK → Prop := fun x y H Q => ∃ (p : Addr) (xs : List V) (i : Int) (v : V), x = .ref p ∧ y = .int i ∧ (SqL K H p xs ∨ SqT K H p xs) ∧ atI xs i = some v ∧ Q v H
theorem k_ixLT {X : Cx} {K : PySem.W.Frag} (hK : X.K = K) : IxR X (rIxLT K) := by
  subst hK
  intro value slice pins s σ H x y v u Q I rx ry h hs
  obtain ⟨p, xs, j, z, e1, e2, hq, he, q⟩ := h
  rcases hq with hq | hq
  · exact ix_list value slice pins s σ H x y v u Q I rx ry ⟨p, xs, j, z, e1, e2, hq, he, q⟩ hs
  · exact ix_tup value slice pins s σ H x y v u Q I rx ry ⟨p, xs, j, z, e1, e2, hq, he, q⟩ hs
def iEnumLT (K : PySem.W.Frag) (ta : TA) : TI := fun σ H R => ta σ H fun vs H1 => ∃ a xs, vs = [.ref a] ∧ (SqL K H1 a xs ∨ SqT K H1 a xs) ∧ ∀ (J : It) (G : Hp → Prop), Walk J xs.length G (YPair (fun i => some (.int (i : Nat))) (fun i => xs[i]?)) → (∀ H', Same H1 H' → G H') → R J H1
theorem k_enumLT {X : Cx} {K : PySem.W.Frag} (hK : X.K = K) {e : Expr} {ta : TA} {p pos tpos : Pos} {elts : List Expr} {kk : Nat} (hg : Gl X "enumerate") (hm : X.mg "enumerate" = none) (ha : PA X [e] ta) (hs : starEach [e] X.env = [(false, eval e X.env)] := by rfl) :
    PI X (.Tuple elts kk tpos) (.Call (.Name "enumerate" p) [e] [] pos) (iEnumLT K ta) := by
  subst hK
  refine ⟨fun pins s σ H R I h => Call_ (ld_blt I hg hm boot_enumerate (PyProof.Rows.callWith_type1 (thn (ha.run pos pins s σ H _ I h) fun us s1 hq => ?_) hs rfl))⟩
  obtain ⟨vs, H1, I1, r1, a, xs, rfl, hT, q⟩ := hq
  rw [Vals.ref1 r1]
  rcases hT with hT | hT
  · obtain ⟨its, rv, p', hz⟩ := I1.list hT
    refine call_enumerate_list p'.isList fun h' he hit hsz hk => wpAny_pyIter_enum he ?_
    have I2 : Inv X pins σ H1 { s1 with heap := h' } := I1.kept (t' := s1.toks) hk
    refine ⟨s1.heap.objs.size + 1, [s1.heap.objs.size + 1, s1.heap.objs.size], _, _, H1, rfl, I2, turn_enum a (s1.heap.objs.size + 1) s1.heap.objs.size, ⟨⟨.none, he⟩, hit, Nat.succ_ne_self _⟩, fun b hb => ?_, q _ _ walk_enum fun H' s => s.seq hT⟩
    have e' : b = s1.heap.objs.size + 1 ∨ b = s1.heap.objs.size := by simpa using hb
    have hle : s1.heap.objs.size ≤ b := by
      rcases e' with z | z
      · rw [z]; exact Nat.le_add_right _ _
      · rw [z]; exact Nat.le_refl _
    exact I1.fpOk hle (I1.hok.fresh hle)
  · obtain ⟨its, rv, pt, hz⟩ := I1.tuple hT
    have hat : a < s1.heap.objs.size := by
      obtain ⟨o, ho, _⟩ := id pt
      exact Heap.lt_size ho
    refine enum_tup (show s1.heap.IsTuple a its.toArray from pt) fun h' he hit hk => wpAny_pyIter_enum he ?_
    have I2 : Inv X pins σ H1 { s1 with heap := h' } := I1.kept (t' := s1.toks) hk
    refine ⟨_, [s1.heap.objs.size + 1, s1.heap.objs.size], _, _, H1, rfl, I2, turn_enumT a (s1.heap.objs.size + 1) s1.heap.objs.size, ⟨⟨.none, he⟩, hit, Nat.succ_ne_self _, Nat.ne_of_gt (Nat.lt_succ_of_lt hat), Nat.ne_of_lt hat⟩, fun b hb => ?_, q _ _ walk_enumT fun H' s => Same.kt s _ _ hT⟩
    have hle : s1.heap.objs.size ≤ b := by
      rcases (show b = s1.heap.objs.size + 1 ∨ b = s1.heap.objs.size by simpa using hb) with z | z
      · rw [z]; exact Nat.le_succ _
      · rw [z]; exact Nat.le_refl _
    exact I1.fpOk hle (I1.hok.fresh hle)
/-! comprehensions whose items are told one by one -/
theorem lc_td {K : PySem.W.Frag} {J : It} {n : Nat} {G : Hp → Prop} {Y : Nat → Hp → V → Hp → Prop} (w : Walk J n G Y) {g : TG} {tt : TT} {te : TE} {vs : List Nat} {σ : L2.St} {H : Hp} {T : Addr} {Qd : Hp → Prop} (es : List PyData) (hl : es.length = n) (hn : n ≤ 3000) (hT : H T = none) (hG : ∀ H', Same H H' → G H')
    (hs : ∀ (i : Nat) (x : V) (e : PyData) (H2 H3 : Hp) (Qy : V → Hp → Prop) (N : Hp → Prop), es[i]? = some e → Same H H2 → Y i H2 x H3 → (∀ y H5, Same H2 H5 → Td K H5 y e → Qy y H5) → g x (wipe σ vs) H3 fun σ2 H4 => wipe σ2 vs = wipe σ vs ∧ tt σ2 H4 fun b H5 => if b = true then te σ2 H5 Qy else N H5)
    (hd : ∀ H2 ws, H2 T = some (.lst ws) → TdAll K H2 ws es → Same H H2 → Qd H2) :
    ∃ W : Nat → Nat → Hp → Prop, (∃ m, W 0 m (upd H T (.lst []))) ∧ ∀ i m H, W i m H →
      (J.stop i H ∧ Qd H) ∨ (J.go i H ∧ ∃ Nx : Hp → Prop, (∀ H', Nx H' → ∃ m', m' < m ∧ W (i + 1) m' H') ∧ ∀ x H', J.yld i H x H' → g x (wipe σ vs) H' fun σ2 H2 => wipe σ2 vs = wipe σ vs ∧ tt σ2 H2 fun b H3 =>
        if b = true then te σ2 H3 fun y H4 => ∃ acc, H4 T = some (.lst acc) ∧ acc.length < sizeLine ∧ Nx (upd H4 T (.lst (acc ++ [y]))) else Nx H3) := by
  refine lc_it w (fun i H2 => ∃ ws : List V, H2 T = some (.lst ws) ∧ TdAll K H2 ws (es.take i) ∧ Same H H2) ⟨[], upd_same, .nil, same_upd hT⟩ (fun i H2 _ h => hG _ h.choose_spec.2.2) ?_ ?_
  · rintro i x H2 H3 hi ⟨ws, h2, t2, s2⟩ y
    have he : es[i]? = some (es[i]'(by omega)) := List.getElem?_eq_getElem _
    refine hs i x _ H2 H3 _ _ he s2 y fun v H5 s5 tv => ?_
    have h5 := s5 _ _ h2
    have kT : KT K H5 (upd H5 T (.lst (ws ++ [v]))) := KT.updL h5
    refine ⟨ws, h5, ?_, ws ++ [v], upd_same, ?_, fun c o z => ?_⟩
    · rw [t2.len, List.length_take]
      have : (3000 : Nat) < sizeLine := by decide
      omega
    · rw [List.take_add_one, he]
      exact (t2.keep ((Same.kt s5).trans kT)).app (.cons (tv.keep kT) .nil)
    · rw [upd_ne (ne_of_none z hT)]
      exact s5 _ _ (s2 _ _ z)
  · rintro H2 ⟨ws, h2, t2, s2⟩
    rw [List.take_of_length_le (by omega)] at t2
    exact hd H2 ws h2 t2 s2
end Tl
namespace Tl
open PySem PySem.Spec PyProof.Rows L2 RZ
def topS (i : Nat) : Stmt := PySem.Challenge.pw_tellsless_k31_askers_priors_gains_refuse.main.body.getD i (.Pass ⟨0, 0, 0, 0⟩)
abbrev s_BadHouse_init : Stmt := inClass (topS 3) 0
theorem sc_BadHouse_init : FnScope ["self", "place"] ["self", "place"] (defScope s_BadHouse_init) := ⟨rfl, rfl, rfl, by decide +kernel, rfl, by decide +kernel, by decide +kernel⟩
abbrev s_is_integral : Stmt := topS 9
theorem sc_is_integral : FnScope ["thing"] ["thing"] (defScope s_is_integral) := ⟨rfl, rfl, rfl, by decide +kernel, rfl, by decide +kernel, by decide +kernel⟩
abbrev s_is_number : Stmt := topS 10
theorem sc_is_number : FnScope ["thing", "least", "most"] ["thing", "least", "most"] (defScope s_is_number) := ⟨rfl, rfl, rfl, by decide +kernel, rfl, by decide +kernel, by decide +kernel⟩
abbrev s_is_fraction : Stmt := topS 11
theorem sc_is_fraction : FnScope ["thing", "top", "bottom"] ["thing"] (defScope s_is_fraction) := ⟨rfl, rfl, rfl, by decide +kernel, rfl, by decide +kernel, by decide +kernel⟩
abbrev s_is_chance : Stmt := topS 12
theorem sc_is_chance : FnScope ["thing"] ["thing"] (defScope s_is_chance) := ⟨rfl, rfl, rfl, by decide +kernel, rfl, by decide +kernel, by decide +kernel⟩
abbrev s_are_fractions : Stmt := topS 13
theorem sc_are_fractions : FnScope ["thing", "many", "fraction"] ["thing", "many"] (defScope s_are_fractions) := ⟨rfl, rfl, rfl, by decide +kernel, rfl, by decide +kernel, by decide +kernel⟩
abbrev s_are_chances : Stmt := topS 14
theorem sc_are_chances : FnScope ["thing", "many", "chance"] ["thing", "many"] (defScope s_are_chances) := ⟨rfl, rfl, rfl, by decide +kernel, rfl, by decide +kernel, by decide +kernel⟩
abbrev s_is_prior : Stmt := topS 15
theorem sc_is_prior : FnScope ["thing", "worlds"] ["thing", "worlds"] (defScope s_is_prior) := ⟨rfl, rfl, rfl, by decide +kernel, rfl, by decide +kernel, by decide +kernel⟩
abbrev s_reduced : Stmt := topS 16
theorem sc_reduced : FnScope ["top", "bottom", "common"] ["top", "bottom"] (defScope s_reduced) := ⟨rfl, rfl, rfl, by decide +kernel, rfl, by decide +kernel, by decide +kernel⟩
abbrev s_multiplied : Stmt := topS 17
theorem sc_multiplied : FnScope ["first", "second"] ["first", "second"] (defScope s_multiplied) := ⟨rfl, rfl, rfl, by decide +kernel, rfl, by decide +kernel, by decide +kernel⟩
abbrev s_is_less : Stmt := topS 18
theorem sc_is_less : FnScope ["first", "second"] ["first", "second"] (defScope s_is_less) := ⟨rfl, rfl, rfl, by decide +kernel, rfl, by decide +kernel, by decide +kernel⟩
abbrev s_greatest_of : Stmt := topS 19
theorem sc_greatest_of : FnScope ["fractions", "best", "number", "fraction"] ["fractions"] (defScope s_greatest_of) := ⟨rfl, rfl, rfl, by decide +kernel, rfl, by decide +kernel, by decide +kernel⟩
abbrev s_common_bottom : Stmt := topS 20
theorem sc_common_bottom : FnScope ["fractions", "bottom", "fraction"] ["fractions"] (defScope s_common_bottom) := ⟨rfl, rfl, rfl, by decide +kernel, rfl, by decide +kernel, by decide +kernel⟩
abbrev s_times_whole : Stmt := topS 21
theorem sc_times_whole : FnScope ["fraction", "whole"] ["fraction", "whole"] (defScope s_times_whole) := ⟨rfl, rfl, rfl, by decide +kernel, rfl, by decide +kernel, by decide +kernel⟩
abbrev s_total : Stmt := topS 22
theorem sc_total : FnScope ["fractions", "whole", "fraction"] ["fractions"] (defScope s_total) := ⟨rfl, rfl, rfl, by decide +kernel, rfl, by decide +kernel, by decide +kernel⟩
abbrev s_total_weights : Stmt := topS 23
theorem sc_total_weights : FnScope ["rows", "worlds", "weights", "world"] ["rows", "worlds"] (defScope s_total_weights) := ⟨rfl, rfl, rfl, by decide +kernel, rfl, by decide +kernel, by decide +kernel⟩
abbrev s_paid_for : Stmt := topS 25
theorem sc_paid_for : FnScope ["prior", "weights", "pays", "chance", "weight", "pay"] ["prior", "weights", "pays"] (defScope s_paid_for) := ⟨rfl, rfl, rfl, by decide +kernel, rfl, by decide +kernel, by decide +kernel⟩
abbrev s_are_gains : Stmt := topS 28
theorem sc_are_gains : FnScope ["thing", "worlds", "deed"] ["thing", "worlds"] (defScope s_are_gains) := ⟨rfl, rfl, rfl, by decide +kernel, rfl, by decide +kernel, by decide +kernel⟩
abbrev s_is_asker : Stmt := topS 29
theorem sc_is_asker : FnScope ["thing", "node", "deeds", "word", "number", "askers", "asker", "answer"] ["thing", "node", "deeds"] (defScope s_is_asker) := ⟨rfl, rfl, rfl, by decide +kernel, rfl, by decide +kernel, by decide +kernel⟩
abbrev s_check_prior : Stmt := topS 30
theorem sc_check_prior : FnScope ["prior", "worlds"] ["prior", "worlds"] (defScope s_check_prior) := ⟨rfl, rfl, rfl, by decide +kernel, rfl, by decide +kernel, by decide +kernel⟩
abbrev s_check_gains : Stmt := topS 31
theorem sc_check_gains : FnScope ["gains", "worlds"] ["gains", "worlds"] (defScope s_check_gains) := ⟨rfl, rfl, rfl, by decide +kernel, rfl, by decide +kernel, by decide +kernel⟩
abbrev s_gets_at : Stmt := topS 32
theorem sc_gets_at : FnScope ["node", "weights", "prior", "gains", "asker", "question", "answer", "inner"] ["node", "weights", "prior", "gains", "asker"] (defScope s_gets_at) := ⟨rfl, rfl, rfl, by decide +kernel, rfl, by decide +kernel, by decide +kernel⟩
abbrev s_asker_gets : Stmt := topS 33
theorem sc_asker_gets : FnScope ["house", "prior", "gains", "asker"] ["house", "prior", "gains", "asker"] (defScope s_asker_gets) := ⟨rfl, rfl, rfl, by decide +kernel, rfl, by decide +kernel, by decide +kernel⟩
abbrev s_best_stop : Stmt := topS 34
theorem sc_best_stop : FnScope ["weights", "prior", "gains", "got", "deed"] ["weights", "prior", "gains"] (defScope s_best_stop) := ⟨rfl, rfl, rfl, by decide +kernel, rfl, by decide +kernel, by decide +kernel⟩
abbrev s_best_at : Stmt := topS 35
theorem sc_best_at : FnScope ["node", "weights", "prior", "gains", "ways", "number", "question", "inner", "answer", "way"] ["node", "weights", "prior", "gains"] (defScope s_best_at) := ⟨rfl, rfl, rfl, by decide +kernel, rfl, by decide +kernel, by decide +kernel⟩
abbrev s_best_way : Stmt := topS 36
theorem sc_best_way : FnScope ["house", "prior", "gains"] ["house", "prior", "gains"] (defScope s_best_way) := ⟨rfl, rfl, rfl, by decide +kernel, rfl, by decide +kernel, by decide +kernel⟩
abbrev s_worth : Stmt := topS 37
theorem sc_worth : FnScope ["house", "prior", "gains"] ["house", "prior", "gains"] (defScope s_worth) := ⟨rfl, rfl, rfl, by decide +kernel, rfl, by decide +kernel, by decide +kernel⟩
abbrev s_best_asker : Stmt := topS 38
theorem sc_best_asker : FnScope ["house", "prior", "gains"] ["house", "prior", "gains"] (defScope s_best_asker) := ⟨rfl, rfl, rfl, by decide +kernel, rfl, by decide +kernel, by decide +kernel⟩
abbrev s_worth_unasked : Stmt := topS 39
theorem sc_worth_unasked : FnScope ["prior", "gains"] ["prior", "gains"] (defScope s_worth_unasked) := ⟨rfl, rfl, rfl, by decide +kernel, rfl, by decide +kernel, by decide +kernel⟩
abbrev s_is_word : Stmt := topS 46
theorem sc_is_word : FnScope ["thing", "number"] ["thing"] (defScope s_is_word) := ⟨rfl, rfl, rfl, by decide +kernel, rfl, by decide +kernel, by decide +kernel⟩
abbrev s_is_answer : Stmt := topS 47
theorem sc_is_answer : FnScope ["thing", "worlds"] ["thing", "worlds"] (defScope s_is_answer) := ⟨rfl, rfl, rfl, by decide +kernel, rfl, by decide +kernel, by decide +kernel⟩
abbrev s_is_ascending : Stmt := topS 48
theorem sc_is_ascending : FnScope ["rows", "low", "high"] ["rows"] (defScope s_is_ascending) := ⟨rfl, rfl, rfl, by decide +kernel, rfl, by decide +kernel, by decide +kernel⟩
abbrev s_check_tree : Stmt := topS 49
theorem sc_check_tree : FnScope ["worlds", "tree"] ["worlds", "tree"] (defScope s_check_tree) := ⟨rfl, rfl, rfl, by decide +kernel, rfl, by decide +kernel, by decide +kernel⟩
abbrev s_check_node : Stmt := topS 50
theorem sc_check_node : FnScope ["node", "place", "ahead", "number", "question"] ["node", "place", "ahead"] (defScope s_check_node) := ⟨rfl, rfl, rfl, by decide +kernel, rfl, by decide +kernel, by decide +kernel⟩
abbrev s_check_question : Stmt := topS 51
theorem sc_check_question : FnScope ["question", "place", "ahead", "number", "answer"] ["question", "place", "ahead"] (defScope s_check_question) := ⟨rfl, rfl, rfl, by decide +kernel, rfl, by decide +kernel, by decide +kernel⟩
abbrev s_answers_in : Stmt := topS 52
theorem sc_answers_in : FnScope ["node", "many", "question", "answer"] ["node"] (defScope s_answers_in) := ⟨rfl, rfl, rfl, by decide +kernel, rfl, by decide +kernel, by decide +kernel⟩
abbrev s_House_init : Stmt := inClass (topS 54) 0
theorem sc_House_init : FnScope ["self", "worlds", "tree"] ["self", "worlds", "tree"] (defScope s_House_init) := ⟨rfl, rfl, rfl, by decide +kernel, rfl, by decide +kernel, by decide +kernel⟩
abbrev s_House_eq : Stmt := inClass (topS 54) 1
theorem sc_House_eq : FnScope ["self", "other"] ["self", "other"] (defScope s_House_eq) := ⟨rfl, rfl, rfl, by decide +kernel, rfl, by decide +kernel, by decide +kernel⟩
abbrev s_law_bag : Stmt := topS 56
theorem sc_law_bag : FnScope ["script", "seed", "cell", "great", "always"] ["script"] (defScope s_law_bag) := ⟨rfl, rfl, rfl, by decide +kernel, rfl, by decide +kernel, by decide +kernel⟩
abbrev s_law_pick : Stmt := topS 57
theorem sc_law_pick : FnScope ["bag", "many", "great", "digit", "number"] ["bag", "many"] (defScope s_law_pick) := ⟨rfl, rfl, rfl, by decide +kernel, rfl, by decide +kernel, by decide +kernel⟩
abbrev s_law_some : Stmt := topS 58
theorem sc_law_some : FnScope ["bag", "things"] ["bag", "things"] (defScope s_law_some) := ⟨rfl, rfl, rfl, by decide +kernel, rfl, by decide +kernel, by decide +kernel⟩
abbrev s_law_common : Stmt := topS 59
theorem sc_law_common : FnScope ["one", "other"] ["one", "other"] (defScope s_law_common) := ⟨rfl, rfl, rfl, by decide +kernel, rfl, by decide +kernel, by decide +kernel⟩
abbrev s_law_low : Stmt := topS 60
theorem sc_law_low : FnScope ["top", "bottom", "common"] ["top", "bottom"] (defScope s_law_low) := ⟨rfl, rfl, rfl, by decide +kernel, rfl, by decide +kernel, by decide +kernel⟩
abbrev s_law_plus : Stmt := topS 61
theorem sc_law_plus : FnScope ["one", "other"] ["one", "other"] (defScope s_law_plus) := ⟨rfl, rfl, rfl, by decide +kernel, rfl, by decide +kernel, by decide +kernel⟩
abbrev s_law_times : Stmt := topS 62
theorem sc_law_times : FnScope ["one", "other"] ["one", "other"] (defScope s_law_times) := ⟨rfl, rfl, rfl, by decide +kernel, rfl, by decide +kernel, by decide +kernel⟩
abbrev s_law_total : Stmt := topS 63
theorem sc_law_total : FnScope ["parts", "found", "part"] ["parts"] (defScope s_law_total) := ⟨rfl, rfl, rfl, by decide +kernel, rfl, by decide +kernel, by decide +kernel⟩
abbrev s_law_below : Stmt := topS 64
theorem sc_law_below : FnScope ["one", "other"] ["one", "other"] (defScope s_law_below) := ⟨rfl, rfl, rfl, by decide +kernel, rfl, by decide +kernel, by decide +kernel⟩
abbrev s_law_shares : Stmt := topS 65
theorem sc_law_shares : FnScope ["bag", "many", "least", "parts", "k", "part"] ["bag", "many", "least"] (defScope s_law_shares) := ⟨rfl, rfl, rfl, by decide +kernel, rfl, by decide +kernel, by decide +kernel⟩
abbrev s_law_question : Stmt := topS 66
theorem sc_law_question : FnScope ["bag", "worlds", "ahead", "rounds", "left", "many", "rows", "world", "found", "k", "word", "weights"] ["bag", "worlds", "ahead", "rounds", "left"] (defScope s_law_question) := ⟨rfl, rfl, rfl, by decide +kernel, rfl, by decide +kernel, by decide +kernel⟩
abbrev s_law_node : Stmt := topS 67
theorem sc_law_node : FnScope ["bag", "worlds", "ahead", "rounds", "left", "k"] ["bag", "worlds", "ahead", "rounds", "left"] (defScope s_law_node) := ⟨rfl, rfl, rfl, by decide +kernel, rfl, by decide +kernel, by decide +kernel⟩
abbrev s_law_tree : Stmt := topS 68
theorem sc_law_tree : FnScope ["bag", "worlds", "rounds", "answers", "ahead", "left", "some", "k"] ["bag", "worlds", "rounds", "answers"] (defScope s_law_tree) := ⟨rfl, rfl, rfl, by decide +kernel, rfl, by decide +kernel, by decide +kernel⟩
abbrev s_law_deep : Stmt := topS 69
theorem sc_law_deep : FnScope ["bag", "found", "turn"] ["bag"] (defScope s_law_deep) := ⟨rfl, rfl, rfl, by decide +kernel, rfl, by decide +kernel, by decide +kernel⟩
abbrev s_law_int : Stmt := topS 70
theorem sc_law_int : FnScope ["thing", "least", "most"] ["thing", "least", "most"] (defScope s_law_int) := ⟨rfl, rfl, rfl, by decide +kernel, rfl, by decide +kernel, by decide +kernel⟩
abbrev s_law_gains : Stmt := topS 71
theorem sc_law_gains : FnScope ["bag", "worlds", "least", "found", "k", "deed", "world", "top"] ["bag", "worlds", "least"] (defScope s_law_gains) := ⟨rfl, rfl, rfl, by decide +kernel, rfl, by decide +kernel, by decide +kernel⟩
abbrev s_law_asker : Stmt := topS 72
theorem sc_law_asker : FnScope ["bag", "node", "deeds", "number", "answer"] ["bag", "node", "deeds"] (defScope s_law_asker) := ⟨rfl, rfl, rfl, by decide +kernel, rfl, by decide +kernel, by decide +kernel⟩
abbrev s_law_is_asker : Stmt := topS 73
theorem sc_law_is_asker : FnScope ["node", "deeds", "thing", "question", "answer", "one"] ["node", "deeds", "thing"] (defScope s_law_is_asker) := ⟨rfl, rfl, rfl, by decide +kernel, rfl, by decide +kernel, by decide +kernel⟩
abbrev s_law_is_fraction : Stmt := topS 74
theorem sc_law_is_fraction : FnScope ["thing", "one"] ["thing"] (defScope s_law_is_fraction) := ⟨rfl, rfl, rfl, by decide +kernel, rfl, by decide +kernel, by decide +kernel⟩
abbrev s_law_is_prior : Stmt := topS 75
theorem sc_law_is_prior : FnScope ["worlds", "thing", "one"] ["worlds", "thing"] (defScope s_law_is_prior) := ⟨rfl, rfl, rfl, by decide +kernel, rfl, by decide +kernel, by decide +kernel⟩
abbrev s_law_are_gains : Stmt := topS 76
theorem sc_law_are_gains : FnScope ["worlds", "thing", "deed", "one"] ["worlds", "thing"] (defScope s_law_are_gains) := ⟨rfl, rfl, rfl, by decide +kernel, rfl, by decide +kernel, by decide +kernel⟩
abbrev s_law_odd : Stmt := topS 77
theorem sc_law_odd : FnScope ["bag", "some"] ["bag"] (defScope s_law_odd) := ⟨rfl, rfl, rfl, by decide +kernel, rfl, by decide +kernel, by decide +kernel⟩
abbrev s_law_bent : Stmt := topS 78
theorem sc_law_bent : FnScope ["bag", "thing", "at"] ["bag", "thing"] (defScope s_law_bent) := ⟨rfl, rfl, rfl, by decide +kernel, rfl, by decide +kernel, by decide +kernel⟩
abbrev s_law_word : Stmt := topS 79
theorem sc_law_word : FnScope ["which", "house", "prior", "gains", "asker", "word", "told", "e"] ["which", "house", "prior", "gains", "asker"] (defScope s_law_word) := ⟨rfl, rfl, rfl, by decide +kernel, rfl, by decide +kernel, by decide +kernel⟩
abbrev s_law_due : Stmt := topS 80
theorem sc_law_due : FnScope ["which", "worlds", "tree", "prior", "gains", "asker"] ["which", "worlds", "tree", "prior", "gains", "asker"] (defScope s_law_due) := ⟨rfl, rfl, rfl, by decide +kernel, rfl, by decide +kernel, by decide +kernel⟩
abbrev s_law_asker_edge : Stmt := topS 81
theorem sc_law_asker_edge : FnScope ["bag", "node", "deeds", "thing", "number", "told", "at", "inner", "some"] ["bag", "node", "deeds", "thing"] (defScope s_law_asker_edge) := ⟨rfl, rfl, rfl, by decide +kernel, rfl, by decide +kernel, by decide +kernel⟩
abbrev s_law_edged : Stmt := topS 82
theorem sc_law_edged : FnScope ["bag", "worlds", "tree", "parts", "prior", "gains", "asker", "kind", "at", "number"] ["bag", "worlds", "tree", "parts"] (defScope s_law_edged) := ⟨rfl, rfl, rfl, by decide +kernel, rfl, by decide +kernel, by decide +kernel⟩
abbrev s_law : Stmt := topS 83
theorem sc_law : FnScope ["script", "bag", "turn", "worlds", "tree", "house", "again", "prior", "gains", "asker", "kind", "plain", "given", "more", "which", "due", "long"] ["script"] (defScope s_law) := ⟨rfl, rfl, rfl, by decide +kernel, rfl, by decide +kernel, by decide +kernel⟩
end Tl
namespace Tl
open PySem PySem.Spec PyProof.Rows L2 RZ
/-- a def of the text as it stands behind the top -/
structure Dn (K : PySem.W.Frag) (mg : Str → Option Value) (x : Str) (st : Stmt) (ps : List Str) (f : Addr) (fd : FuncData) : Prop where
  F : Fun K x x st f fd
  b : Binds K fd ps []
  m : mg x = some (.ref f)
/-- the built-in names that the text uses -/
structure Blt (mg : Str → Option Value) : Prop where
  len : mg "len" = none
  int : mg "int" = none
  abs : mg "abs" = none
  sum : mg "sum" = none
  range : mg "range" = none
  repr : mg "repr" = none
  isinstance : mg "isinstance" = none
  any : mg "any" = none
  all : mg "all" = none
  tuple : mg "tuple" = none
  list : mg "list" = none
  zip : mg "zip" = none
  enumerate : mg "enumerate" = none
  max : mg "max" = none
  bool : mg "bool" = none
def spPick : Sp := fun vs H Q _ => ∃ (b g : Addr) (m : Int), vs = [.ref b, .int m] ∧ Bag H b g ∧ 0 < m ∧ m < 1000000 ∧
  ∀ (r : Int) (H' : Hp), 0 ≤ r → r < m → Bag H' b g → Frm b g H H' → Q (.int r) H'
theorem Bag.mk2 {H : Hp} {b g : Addr} {s c : Int} {al : V} {gs : List Int} (ne : b ≠ g) (hal : al = .non ∨ ∃ n, al = .int n) (h1 : H b = some (.lst [.int s, .int c, .ref g, al])) (h2 : H g = some (.lst (gs.map V.int))) (h3 : gs.length ≤ 63) : Bag H b g :=
  ⟨ne, ⟨s, c, al, h1, hal⟩, ⟨gs, h2, h3⟩⟩
section
variable {P : Program} {w : World} {K : PySem.W.Frag} {mg : Str → Option Value} {base : Heap}
theorem ok_law_pick {f : Addr} {fd : FuncData} (D : Dn K mg "_law_pick" s_law_pick ["bag", "many"] f fd) (B : Blt mg) : FnOk P w K mg base CX0 1 f fd ["bag", "many"] spPick := by
  refine D.F.ok sc_law_pick (fun vs H Q E h => ?_) (fun cdv A outer s H vs Q E hr h => ?_)
  · obtain ⟨b, g, m, rfl, _⟩ := h
    rfl
  obtain ⟨b, g, m, rfl, hB, hm0, hm1, q⟩ := h
  have nd := sc_law_pick.nd
  refine ⟨_, (pss_cons (ps_if (pt_cmpR op_notN (pe_ix (k_ixL (K := K) rfl) (pv 0) pe_int (fun _ _ => rfl)) pe_non (nomark _)) (pss_one (ps_ret (pe_op op_mod (pe_callTy call_int1 (by rfl) B.int (by decide +kernel) (pa_cons (pe_ix (k_ixL (K := K) rfl) (pv 0) pe_int (fun _ _ => rfl)) pa_nil)) (pv 1)))) pss_nil)
      (pss_cons (ps_asg (pe_op op_add (pe_ix (k_ixL (K := K) rfl) (pv 0) pe_int (fun _ _ => rfl)) pe_int) (pg_sub (pv 0) pe_int set_list))
      (pss_cons (ps_set (i := 2) nd rfl (.inl rfl) (pe_ix (k_ixL (K := K) rfl) (pv 0) pe_int (fun _ _ => rfl)))
      (pss_cons (ps_if (pt_cmpR op_gt (pe_callB (k_len (K := K) rfl) (by rfl) B.len PySem.boot_len (pa_cons (pv 2) pa_nil)) pe_int (nomark _)) (pss_cons (ps_set (i := 3) nd rfl (.inl rfl) (pe_op op_mod (pe_callTy call_int1 (by rfl) B.int (by decide +kernel) (pa_cons (pe_ix (k_ixL (K := K) rfl) (pv 2) pe_int (fun _ _ => rfl)) pa_nil)) (pv 1)))
      (pss_cons (ps_asg (pe_op op_fdivW (pe_callTy call_int1 (by rfl) B.int (by decide +kernel) (pa_cons (pe_ix (k_ixL (K := K) rfl) (pv 2) pe_int (fun _ _ => rfl)) pa_nil)) (pv 1)) (pg_sub (pv 2) pe_int set_list))
      (pss_cons (ps_if (pt_cmpR op_eq (pe_ix (k_ixL (K := K) rfl) (pv 2) pe_int (fun _ _ => rfl)) pe_int (nomark _)) (pss_one (ps_expr (pe_bm PySem.F.plainAttrs_list PySem.F.slot_list_pop PySem.F.type_list_pop mt_popAt (pv 2) (pa_cons pe_int pa_nil)))) pss_nil)
      (pss_one (ps_ret (pv 3)))))) pss_nil)
      (pss_cons (ps_set (i := 4) nd rfl (.inl rfl) (pe_op op_mod (pe_callTy call_int1 (by rfl) B.int (by decide +kernel) (pa_cons (pe_op op_mul (pe_op op_add (pe_ix (k_ixL (K := K) rfl) (pv 0) pe_int (fun _ _ => rfl)) (pe_op op_mul pe_int (pe_ix (k_ixL (K := K) rfl) (pv 0) pe_int (fun _ _ => rfl)))) pe_int) pa_nil)) pe_int))
      (pss_cons (ps_set (i := 4) nd rfl (.inl rfl) (pe_op op_mod (pe_callTy call_int1 (by rfl) B.int (by decide +kernel) (pa_cons (pe_op op_mul (pv 4) (pe_op op_add (pe_op op_fdivW (pv 4) pe_int) pe_int)) pa_nil)) pe_int))
      (pss_cons (ps_set (i := 4) nd rfl (.inl rfl) (pe_op op_mod (pe_callTy call_int1 (by rfl) B.int (by decide +kernel) (pa_cons (pe_op op_mul (pv 4) (pe_op op_add (pe_op op_fdivW (pv 4) pe_int) pe_int)) pa_nil)) pe_int))
      (pss_one (ps_ret (pe_op op_mod (pe_callTy call_int1 (by rfl) B.int (by decide +kernel) (pa_cons (pe_op op_fdivW (pv 4) pe_int) pa_nil)) (pv 1))))))))))), ?_⟩
  obtain ⟨s0, c0, al, hb, hal⟩ := hB.hb
  obtain ⟨gs, hg, hgl⟩ := hB.hg
  have hne := hB.ne
  refine ⟨_, rfl, b, _, 3, _, rfl, rfl, SqL.of hb, at_of (j := 3) rfl rfl, rfl, _, rfl, ?_⟩
  refine ite2 (fun c => ?_) (fun c => ?_)
  · -- always
    have c' : al ≠ .non := by simpa using c
    obtain ⟨n, rfl⟩ : ∃ n, al = .int n := by
      rcases hal with h | h
      · exact absurd h c'
      · exact h
    refine ⟨_, rfl, b, _, 3, _, rfl, rfl, SqL.of hb, at_of (j := 3) rfl rfl, .inl ⟨_, rfl, _, rfl, _, _, rfl, rfl, hm0, ?_⟩⟩
    exact q _ H (Int.emod_nonneg _ (by omega)) (Int.emod_lt_of_pos _ hm0) hB (Frm.refl _ _ _)
  -- bag[1] = bag[1] + 1
  refine ⟨_, rfl, b, _, 1, _, rfl, rfl, SqL.of hb, at_of (j := 1) rfl rfl, _, _, rfl, rfl, _, rfl, b, _, 1, 1, rfl, rfl, hb, rfl, ?_⟩
  have hb1 : (upd H b (.lst ([V.int s0, V.int c0, V.ref g, al].set 1 (V.int (c0 + 1))))) b = some (.lst [V.int s0, V.int (c0 + 1), V.ref g, al]) := upd_same
  have hg1 : (upd H b (.lst ([V.int s0, V.int c0, V.ref g, al].set 1 (V.int (c0 + 1))))) g = some (.lst (gs.map V.int)) := by
    rw [upd_ne hne.symm]
    exact hg
  generalize hH1 : upd H b (.lst ([V.int s0, V.int c0, V.ref g, al].set 1 (V.int (c0 + 1)))) = H1 at hb1 hg1
  have f1 : Frm b g H H1 := by
    rw [← hH1]
    exact Frm.updB
  clear hH1
  -- great = bag[2]
  refine ⟨_, rfl, b, _, 2, _, rfl, rfl, SqL.of hb1, at_of (j := 2) rfl rfl, ?_⟩
  refine ⟨_, rfl, g, _, rfl, .inl (SqL.of hg1), _, _, rfl, rfl, _, rfl, ?_⟩
  refine ite2 (fun c => ?_) (fun c => ?_)
  · -- a great one
    cases gs with
    | nil => simp at c
    | cons z zs =>
      have e0 : atI ((z :: zs).map V.int) 0 = some (V.int z) := at_of (j := 0) rfl rfl
      refine ⟨_, rfl, g, _, 0, _, rfl, rfl, SqL.of hg1, e0, .inl ⟨_, rfl, _, rfl, _, _, rfl, rfl, hm0, ?_⟩⟩
      have hm2 : m.natAbs < 2 ^ 20 := by omega
      refine ⟨_, rfl, g, _, 0, _, rfl, rfl, SqL.of hg1, e0, .inl ⟨_, rfl, _, rfl, _, _, rfl, rfl, wide_div hm0 hm2 (by decide) (by decide), _, rfl, g, _, 0, 0, rfl, rfl, hg1, by simp [ixN], ?_⟩⟩
      have hg2 : (upd H1 g (.lst (((z :: zs).map V.int).set 0 (V.int (z / m))))) g = some (.lst (((z / m) :: zs).map V.int)) := upd_same
      have hb2 : (upd H1 g (.lst (((z :: zs).map V.int).set 0 (V.int (z / m))))) b = some (.lst [V.int s0, V.int (c0 + 1), V.ref g, al]) := by
        rw [upd_ne hne]
        exact hb1
      generalize hH2 : upd H1 g (.lst (((z :: zs).map V.int).set 0 (V.int (z / m)))) = H2 at hg2 hb2
      have f2 : Frm b g H H2 := by
        rw [← hH2]
        exact f1.trans Frm.updG
      clear hH2
      have e1 : atI (((z / m) :: zs).map V.int) 0 = some (V.int (z / m)) := at_of (j := 0) rfl rfl
      refine ⟨_, rfl, g, _, 0, _, rfl, rfl, SqL.of hg2, e1, rfl, _, rfl, ?_⟩
      refine ite2 (fun c => ?_) (fun c => ?_)
      · refine ⟨_, rfl, .inl ⟨rfl, _, SqL.of hg2⟩, g, _, 0, 0, _, rfl, rfl, hg2, by decide, by decide, by simp [seqIndex?], rfl, ?_⟩
        have hg3 : (upd H2 g (.lst ((((z / m) :: zs).map V.int).eraseIdx 0))) g = some (.lst (zs.map V.int)) := upd_same
        refine ⟨_, rfl, q _ _ (Int.emod_nonneg _ (by omega)) (Int.emod_lt_of_pos _ hm0) (.mk2 hne hal ((upd_ne hne).trans hb2) hg3 (by simp at hgl; omega)) (f2.trans Frm.updG)⟩
      · exact ⟨_, rfl, q _ H2 (Int.emod_nonneg _ (by omega)) (Int.emod_lt_of_pos _ hm0) (.mk2 hne hal hb2 hg2 (by simpa using hgl)) f2⟩
  · have mod0 : ∀ i j : Int, 0 < j → 0 ≤ i % j ∧ i % j < j := fun i j h => ⟨Int.emod_nonneg _ (by omega), Int.emod_lt_of_pos _ h⟩
    refine ⟨_, rfl, b, _, 0, _, rfl, rfl, SqL.of hb1, at_of (j := 0) rfl rfl, _, rfl, b, _, 1, _, rfl, rfl, SqL.of hb1, at_of (j := 1) rfl rfl, _, _, rfl, rfl, .inl ⟨by decide, by decide⟩, _, _, rfl, rfl, _, _, rfl, rfl, .inr ⟨by decide, by decide⟩, .inl ⟨_, rfl, _, _, rfl, rfl, (by show (0 : Int) < 2147483647; decide), ?_⟩⟩
    obtain ⟨l1, u1⟩ := mod0 ((s0 + 7919 * (c0 + 1)) * 48271) 2147483647 (by decide)
    generalize (s0 + 7919 * (c0 + 1)) * 48271 % 2147483647 = n1 at l1 u1 ⊢
    refine ⟨_, rfl, _, rfl, _, _, rfl, rfl, wide_div (b := 40) (by decide) (by decide) (by decide) (by decide), _, _, rfl, rfl, _, _, rfl, rfl, .inl ⟨by omega, by omega⟩, .inl ⟨_, rfl, _, _, rfl, rfl, (by show (0 : Int) < 2147483647; decide), ?_⟩⟩
    obtain ⟨l2, u2⟩ := mod0 (n1 * (n1 / 1009 + 69621)) 2147483647 (by decide)
    generalize n1 * (n1 / 1009 + 69621) % 2147483647 = n2 at l2 u2 ⊢
    refine ⟨_, rfl, _, rfl, _, _, rfl, rfl, wide_div (b := 40) (by decide) (by decide) (by decide) (by decide), _, _, rfl, rfl, _, _, rfl, rfl, .inl ⟨by omega, by omega⟩, .inl ⟨_, rfl, _, _, rfl, rfl, (by show (0 : Int) < 2147483399; decide), ?_⟩⟩
    generalize n2 * (n2 / 2003 + 40692) % 2147483399 = n3
    refine ⟨_, rfl, _, _, rfl, rfl, wide_div (b := 40) (by decide) (by decide) (by decide) (by decide), .inl ⟨_, rfl, _, rfl, _, _, rfl, rfl, hm0, ?_⟩⟩
    exact q _ H1 (mod0 _ _ hm0).1 (mod0 _ _ hm0).2 (.mk2 hne hal hb1 hg1 hgl) f1
end
end Tl
namespace Tl
open PySem PySem.Spec PyProof.Rows L2 RZ
theorem int_at {ns : List Int} {i : Nat} {y : V} (h : (ns.map V.int)[i]? = some y) : ∃ z, ns[i]? = some z ∧ y = .int z := by
  rw [List.getElem?_map] at h
  cases e : ns[i]? with
  | none =>
    rw [e] at h
    cases h
  | some z =>
    rw [e] at h
    exact ⟨z, rfl, (Option.some.inj h).symm⟩
theorem cut_ints (ns : List Int) (lo hi : Option Int) : ∃ ms : List Int, cutV (ns.map V.int) lo hi = ms.map V.int ∧ ms.length ≤ ns.length := by
  unfold cutV
  refine ⟨(ns.drop (HT.sIx (ns.map V.int).length 0 lo)).take (HT.sIx (ns.map V.int).length (ns.map V.int).length hi - HT.sIx (ns.map V.int).length 0 lo), by rw [List.map_take, List.map_drop], ?_⟩
  rw [List.length_take, List.length_drop]
  omega
def spBag (K : PySem.W.Frag) : Sp := fun vs H Q _ => ∃ (a : Addr) (ns : List Int), vs = [.ref a] ∧ SqL K H a (ns.map V.int) ∧ ns.length ≤ 63 ∧
  ∀ (b g : Addr) (H' : Hp), Same H H' → Bag H' b g → H b = none → H g = none → Q (.ref b) H'
theorem small63 {n : Nat} (h : n ≤ 63) : n < sizeLine := small1000 (by omega)
section
variable {P : Program} {w : World} {K : PySem.W.Frag} {mg : Str → Option Value} {base : Heap}
theorem ok_law_bag {f : Addr} {fd : FuncData} (D : Dn K mg "_law_bag" s_law_bag ["script"] f fd) (B : Blt mg) : FnOk P w K mg base CX0 1 f fd ["script"] (spBag K) := by
  refine D.F.ok sc_law_bag (fun vs H Q E h => ?_) (fun cdv A outer s H vs Q E hr h => ?_)
  · obtain ⟨a, ns, rfl, _⟩ := h
    rfl
  obtain ⟨a, ns, rfl, hS, hn, q⟩ := h
  have nd := sc_law_bag.nd
  refine ⟨_, (pss_cons (ps_set (i := 1) nd rfl (.inl rfl) (pe_op op_add pe_int (pe_callB (k_len (K := K) rfl) (by rfl) B.len PySem.boot_len (pa_cons (pv 0) pa_nil))))
      (pss_cons (ps_for PassesOwn.never rfl (k_iL (K := K) rfl (pe_slice (k_slL (K := K) rfl) (pv 0) po_none (po_some pe_int))) (pg_name (i := 2) nd rfl (.inl rfl)) (pss_one (ps_set (i := 1) nd rfl (.inl rfl) (pe_op op_mod (pe_callTy call_int1 (by rfl) B.int (by decide +kernel) (pa_cons (pe_op op_add (pe_op op_add (pe_op op_mul (pv 1) pe_int) (pe_op op_mod (pe_callTy call_int1 (by rfl) B.int (by decide +kernel) (pa_cons (pv 2) pa_nil)) pe_int)) pe_int) pa_nil)) pe_int))))
      (pss_cons (ps_setLc (i := 3) (own := [("cell", 2)]) rfl nd rfl rfl (sw_true rfl rfl rfl (by decide +kernel)) (k_iL (K := K) rfl (pe_slice (k_slL (K := K) rfl) (pv 0) po_none (po_some pe_int))) (blkOk_by (own := [("cell", 2)]) (by kernel_rfl)) (fun _ _ _ _ _ => (pg_name (i := 2) nd rfl (.inl rfl))) (fun _ _ _ _ _ => pts_one (pt_cmpR op_ge (pe_callB call_abs (by rfl) B.abs (by decide +kernel) (pa_cons (pe_callTy call_int1 (by rfl) B.int (by decide +kernel) (pa_cons (pv 2) pa_nil)) pa_nil)) (pe_op op_pow pe_int pe_int) (nomark _))) (fun _ _ _ _ _ => (pe_callB call_abs (by rfl) B.abs (by decide +kernel) (pa_cons (pe_callTy call_int1 (by rfl) B.int (by decide +kernel) (pa_cons (pv 2) pa_nil)) pa_nil))))
      (pss_cons (ps_set (i := 4) nd rfl (.inl rfl) pe_non)
      (pss_cons (ps_if (PW.pt (pw_and (pt_cmpR op_lt (pe_callB (k_len (K := K) rfl) (by rfl) B.len PySem.boot_len (pa_cons (pv 0) pa_nil)) pe_int (nomark _)) (pw_and1 (pt_cmpR op_eq (pe_callB (k_len (K := K) rfl) (by rfl) B.len PySem.boot_len (pa_cons (pv 3) pa_nil)) pe_int (nomark _))))) (pss_one (ps_set (i := 4) nd rfl (.inl rfl) (pe_callB call_abs (by rfl) B.abs (by decide +kernel) (pa_cons (pe_callB (k_sum (K := K) rfl rfl) (by rfl) B.sum (by decide +kernel) (pa_cons (pe_lc (own := [("cell", 2)]) rfl nd (k_iL (K := K) rfl (pv 0)) (blkOk_by (own := [("cell", 2)]) (by kernel_rfl)) (fun _ _ _ _ _ => (pg_name (i := 2) nd rfl (.inl rfl))) (fun _ _ _ _ _ => pts_nil) (fun _ _ _ _ _ => (pe_callTy call_int1 (by rfl) B.int (by decide +kernel) (pa_cons (pv 2) pa_nil)))) pa_nil)) pa_nil)))) pss_nil)
      (pss_one (ps_ret (pe_lst (pa_cons (pv 1) (pa_cons pe_int (pa_cons (pv 3) (pa_cons (pv 4) pa_nil)))))))))))), ?_⟩
  obtain ⟨ms, em, hm⟩ := cut_ints ns none (some 63)
  -- seed = 29 + len(script)
  refine ⟨_, rfl, a, _, rfl, .inl hS, _, _, rfl, rfl, ?_⟩
  -- for cell in script[:63]
  refine ⟨_, rfl, _, rfl, a, _, rfl, hS, fun p hp => ?_⟩
  rw [em]
  have s1 : Same H (upd H p (.lst (ms.map V.int))) := same_upd hp
  refine ⟨p, rfl, ⟨_, SqL.of upd_same⟩, for_list (K := K) (a := p) (xs := ms.map V.int) (fun i σ H2 => ∃ (z : Int) (v : Option V), σ = [some (.ref a), some (.int z), v, none, none] ∧ H2 = upd H p (.lst (ms.map V.int))) ⟨_, none, rfl, rfl⟩ (fun i σ H2 _ h => ?_) ?_ ?_⟩
  · obtain ⟨_, _, _, rfl⟩ := h
    exact SqL.of upd_same
  · rintro i y σ H2 hi ⟨z, v, rfl, rfl⟩
    obtain ⟨n, _, rfl⟩ := int_at hi
    refine ⟨_, rfl, _, _, rfl, rfl, .inr ⟨by decide, by decide⟩, _, rfl, .inl ⟨_, rfl, _, _, rfl, rfl, (by show (0 : Int) < 1000003; decide), _, _, rfl, rfl, _, _, rfl, rfl, .inl ⟨_, rfl, _, _, rfl, rfl, (by show (0 : Int) < 2147483647; decide), ?_⟩⟩⟩
    exact ⟨_, _, rfl, rfl⟩
  rintro σ H2 ⟨z, v, rfl, rfl⟩
  -- great = [..]
  refine ⟨_, rfl, _, rfl, a, _, rfl, s1.seq hS, fun p2 hp2 => ?_⟩
  rw [em]
  have s2 : Same (upd H p (.lst (ms.map V.int))) (upd (upd H p (.lst (ms.map V.int))) p2 (.lst (ms.map V.int))) := same_upd hp2
  generalize hH2 : upd (upd H p (.lst (ms.map V.int))) p2 (.lst (ms.map V.int)) = H2 at s2
  have hp2' : H2 p2 = some (.lst (ms.map V.int)) := by
    rw [← hH2]
    exact upd_same
  have s12 : Same H H2 := s1.trans s2
  clear hH2 s2 s1 hp
  refine ⟨p2, rfl, ⟨_, SqL.of hp2'⟩, fun g hg => ?_⟩
  have sg : Same H2 (upd H2 g (.lst [])) := same_upd hg
  refine lc_list (K := K) (a := p2) (xs := ms.map V.int) (fun i H3 => ∃ gs : List Int, gs.length ≤ i ∧ H3 g = some (.lst (gs.map V.int)) ∧ Same H2 H3) ⟨[], Nat.le_refl _, upd_same, sg⟩ (fun i H3 _ h => ?_) ?_ ?_
  · obtain ⟨_, _, _, h⟩ := h
    exact h.seq (SqL.of hp2')
  · rintro i y H3 hi ⟨gs, hl, h3, s3⟩
    obtain ⟨n, hn', rfl⟩ := int_at hi
    have hi2 : i < ms.length := (List.getElem?_eq_some_iff.mp hn').1
    refine ⟨rfl, ?_⟩
    refine ⟨_, rfl, .inl ⟨_, rfl, _, rfl, _, _, rfl, rfl, ⟨by decide, by decide, by decide⟩, _, _, rfl, rfl, _, rfl, ?_⟩⟩
    refine ite2 (fun c => ?_) (fun c => ?_)
    · refine ⟨_, rfl, .inl ⟨_, rfl, _, rfl, _, h3, by rw [List.length_map]; exact small63 (by omega), ?_⟩⟩
      refine ⟨gs ++ [_], by rw [List.length_append]; exact Nat.add_le_add_right hl 1, by rw [List.map_append]; exact upd_same, fun c o e => ?_⟩
      rw [upd_ne (ne_of_none e hg)]
      exact s3 _ _ e
    · exact ⟨gs, Nat.le_succ_of_le hl, h3, s3⟩
  rintro H3 ⟨gs, hl, h3, s3⟩
  rw [List.length_map] at hl
  have s13 := s12.trans s3
  -- always
  have fin : ∀ (H4 : Hp) (al : V), Same H3 H4 → (al = .non ∨ ∃ n, al = .int n) → (∀ b, H4 b = none → Q (.ref b) (upd H4 b (.lst [.int z, .int 1, .ref g, al]))) := by
    intro H4 al s4 hal b hb
    have e4 := s4 _ _ h3
    have hbg : b ≠ g := fun e => by
      rw [e, e4] at hb
      cases hb
    have hn1 : H b = none := (s13.trans s4).free hb
    exact q b g _ ((s13.trans s4).trans (same_upd hb)) (.mk2 hbg hal upd_same ((upd_ne hbg.symm).trans e4) (by omega)) hn1 (s12.free hg)
  refine ⟨_, rfl, a, _, rfl, .inl (s13.seq hS), _, _, rfl, rfl, _, rfl, ?_⟩
  refine ite2 (fun c => ?_) (fun c => ?_)
  · refine ⟨_, rfl, g, _, rfl, .inl (SqL.of h3), rfl, _, rfl, ?_⟩
    refine ite2 (fun c => ?_) (fun c => ?_)
    · -- sum([int(cell) for cell in script])
      refine ⟨_, rfl, a, rfl, ⟨_, s13.seq hS⟩, fun l hl2 => ?_⟩
      refine lc_list (K := K) (a := a) (xs := ns.map V.int) (fun i H4 => H4 l = some (.lst ((ns.take i).map V.int)) ∧ Same H3 H4) ⟨upd_same, same_upd hl2⟩ (fun i H4 _ h => h.2.seq (s13.seq hS)) ?_ ?_
      · rintro i y H4 hi ⟨h4, s4⟩
        obtain ⟨n, hn', rfl⟩ := int_at hi
        have hi2 : i < ns.length := (List.getElem?_eq_some_iff.mp hn').1
        refine ⟨rfl, ?_⟩
        refine iteT (B := H4 l = some (.lst ((ns.take (i + 1)).map V.int)) ∧ Same H3 H4) ?_
        refine ⟨_, rfl, .inl ⟨_, rfl, _, h4, ?_, ?_, fun c o e => ?_⟩⟩
        · rw [List.length_map, List.length_take]
          exact small63 (by omega)
        · rw [upd_same, List.take_add_one, hn', List.map_append]
          rfl
        · rw [upd_ne (ne_of_none e hl2)]
          exact s4 _ _ e
      · rintro H4 ⟨h4, s4⟩
        refine ⟨l, _, rfl, SqL.of h4, _, rfl, ?_⟩
        refine ⟨_, rfl, _, rfl, _, rfl, (by show 4 ≤ sizeLine; decide), fun b hb => ?_⟩
        exact fin H4 _ s4 (.inr ⟨_, rfl⟩) b hb
    · exact ⟨_, rfl, _, rfl, _, rfl, (by show 4 ≤ sizeLine; decide), fun b hb => fin H3 _ (Same.refl _) (.inl rfl) b hb⟩
  · exact iteF ⟨_, rfl, _, rfl, _, rfl, (by show 4 ≤ sizeLine; decide), fun b hb => fin H3 _ (Same.refl _) (.inl rfl) b hb⟩
end
end Tl
namespace Tl
open PySem PySem.Spec PyProof.Rows L2 RZ
/-! ### fractions -/
def rD (q : Rat) : PyData := .tuple [.int q.num, .int (q.den : Int)]
theorem mkRat_parts (t : Int) (b : Nat) (h : 0 < b) : (mkRat t b).num = t / (Nat.gcd t.natAbs b : Nat) ∧ ((mkRat t b).den : Int) = (b : Int) / (Nat.gcd t.natAbs b : Nat) := by
  have hb : b ≠ 0 := by omega
  rw [mkRat, dif_neg hb, Rat.normalize_eq]
  exact ⟨rfl, rfl⟩
theorem mkRat_den_le (t : Int) (b : Nat) (h : 0 < b) : (mkRat t b).den ≤ b := by
  rw [Rat.den_mkRat, if_neg (by omega)]
  exact Nat.div_le_self _ _
theorem rat_mk (q : Rat) : mkRat q.num q.den = q := Rat.mkRat_self q
theorem td_rD {K : PySem.W.Frag} {H : Hp} {p : Addr} {t : Int} {b : Nat} (h : 0 < b) (hp : H p = some (.tup [.int (t / (Nat.gcd t.natAbs b : Nat)), .int ((b : Int) / (Nat.gcd t.natAbs b : Nat))])) : Td K H (.ref p) (rD (mkRat t b)) := by
  obtain ⟨e1, e2⟩ := mkRat_parts t b h
  unfold rD
  rw [e1, e2]
  exact .tup (.inl (.inl hp)) (.cons (.int _) (.cons (.int _) .nil))
theorem Td.rE {K : PySem.W.Frag} {H : Hp} {v : V} {q : Rat} (h : Td K H v (rD q)) : ∃ a, v = .ref a ∧ SqT K H a [.int q.num, .int (q.den : Int)] := by
  obtain ⟨a, xs, rfl, hs, ht⟩ := h.tupE
  cases ht with
  | cons h1 t =>
    cases t with
    | cons h2 t =>
      cases t
      cases h1
      cases h2
      exact ⟨a, rfl, hs⟩
def spCommon : Sp := fun vs H Q _ => ∃ a b : Int, vs = [.int a, .int b] ∧ 0 ≤ a ∧ 0 ≤ b ∧ Q (.int ((Nat.gcd a.toNat b.toNat : Nat) : Int)) H
def spLow (K : PySem.W.Frag) : Sp := fun vs H Q _ => ∃ (t : Int) (b : Nat), vs = [.int t, .int (b : Int)] ∧ 0 < b ∧ b < 2 ^ 8500 ∧ ∀ v H', Same H H' → Td K H' v (rD (mkRat t b)) → Q v H'
def spTimes (K : PySem.W.Frag) : Sp := fun vs H Q _ => ∃ (x y : V) (p q : Rat), vs = [x, y] ∧ Td K H x (rD p) ∧ Td K H y (rD q) ∧ p.den < 2 ^ 4200 ∧ q.den < 2 ^ 4200 ∧ p.num.natAbs < 2 ^ 4200 ∧ q.num.natAbs < 2 ^ 4200 ∧ ∀ v H', Same H H' → Td K H' v (rD (p * q)) → Q v H'
theorem gcd_step {a b : Int} (ha : 0 ≤ a) (hb : 0 < b) : Nat.gcd b.toNat (a % b).toNat = Nat.gcd a.toNat b.toNat := by
  rw [Int.toNat_emod ha (by omega), Nat.gcd_comm a.toNat b.toNat, Nat.gcd_rec b.toNat a.toNat, Nat.gcd_comm]
section
variable {P : Program} {w : World} {K : PySem.W.Frag} {mg : Str → Option Value} {base : Heap}
theorem ok_law_common {f : Addr} {fd : FuncData} (D : Dn K mg "_law_common" s_law_common ["one", "other"] f fd) (B : Blt mg) : FnOk P w K mg base CX0 1 f fd ["one", "other"] spCommon := by
  refine D.F.ok sc_law_common (fun vs H Q E h => ?_) (fun cdv A outer s H vs Q E hr h => ?_)
  · obtain ⟨a, b, rfl, _⟩ := h
    rfl
  obtain ⟨a, b, rfl, ha, hb, q⟩ := h
  have nd := sc_law_common.nd
  refine ⟨_, (pss_cons (ps_while PassesOwn.never (pt_cmpR op_ne (pv 1) pe_int (nomark _)) (pss_one (ps_par (i := 0) (j := 1) rfl nd rfl rfl (by decide) rfl rfl (pa_cons (pv 1) (pa_cons (pe_op op_mod (pv 0) (pv 1)) pa_nil)) (by rfl))))
      (pss_one (ps_ret (pv 0)))), ?_⟩
  refine while_by (fun σ H2 => H2 = H ∧ ∃ x y : Int, σ = [some (.int x), some (.int y)] ∧ 0 ≤ x ∧ 0 ≤ y ∧ Nat.gcd x.toNat y.toNat = Nat.gcd a.toNat b.toNat) (fun σ _ => match σ with | [_, some (.int y)] => y.toNat | _ => 0) ⟨rfl, a, b, rfl, ha, hb, rfl⟩ ?_ ?_
  · rintro σ H2 ⟨rfl, x, y, rfl, hx, hy, e⟩
    refine ⟨_, rfl, rfl, _, rfl, ?_⟩
    refine ite2 (fun c => ?_) (fun c => ?_)
    · have hy0 : y ≠ 0 := by
        intro z
        rw [z] at c
        simp at c
      have hy1 : 0 < y := by omega
      refine ⟨_, rfl, _, rfl, _, rfl, _, _, rfl, rfl, hy1, _, _, rfl, ?_⟩
      refine ⟨⟨rfl, y, x % y, rfl, hy, Int.emod_nonneg _ hy0, (gcd_step hx hy1).trans e⟩, ?_⟩
      have l := Int.emod_lt_of_pos x hy1
      have l0 := Int.emod_nonneg x hy0
      show (x % y).toNat < y.toNat
      omega
    · have hy0 : y = 0 := by
        by_cases z : y = 0
        · exact z
        · exact absurd (by simp [z]) c
      subst hy0
      refine ⟨_, rfl, ?_⟩
      have e3 : x.toNat.gcd (Int.toNat 0) = x.toNat := Nat.gcd_zero_right _
      have e4 : ((x.toNat : Nat) : Int) = x := by omega
      rw [← e, e3, e4] at q
      exact q
  · rintro σ H2 Q1 Q2 h ⟨x, hx, h1, k, hk, h2⟩
    exact ⟨x, hx, h1, k, hk, h _ _ h2⟩
theorem ok_law_low {f f1 : Addr} {fd fd1 : FuncData} (D : Dn K mg "_law_low" s_law_low ["top", "bottom"] f fd) (B : Blt mg) (D_law_common : Dn K mg "_law_common" s_law_common ["one", "other"] f1 fd1) : FnOk P w K mg base CX0 2 f fd ["top", "bottom"] (spLow K) := by
  have G_law_common : FnOk P w K mg base CX0 1 f1 fd1 ["one", "other"] spCommon := ok_law_common D_law_common B
  refine D.F.ok sc_law_low (fun vs H Q E h => ?_) (fun cdv A outer s H vs Q E hr h => ?_)
  · obtain ⟨a, b, rfl, _⟩ := h
    rfl
  obtain ⟨t, b, rfl, hb, hz, q⟩ := h
  have nd := sc_law_low.nd
  refine ⟨_, (pss_cons (ps_set (i := 2) nd rfl (.inl rfl) (pe_call G_law_common (hr.mono (by omega)) (by rfl) D_law_common.m D_law_common.F.kp D_law_common.b .nil pass0 (pa_cons (pe_callB call_abs (by rfl) B.abs (by decide +kernel) (pa_cons (pv 0) pa_nil)) (pa_cons (pv 1) pa_nil))))
      (pss_one (ps_ret (pe_tup (pa_cons (pe_op op_fdivW (pv 0) (pv 2)) (pa_cons (pe_op op_fdivW (pv 1) (pv 2)) pa_nil)))))), ?_⟩
  refine ⟨_, rfl, _, rfl, _, rfl, _, _, rfl, ?_, by omega, ?_⟩
  · split <;> omega
  have e1 : (if t < 0 then -t else t).toNat = t.natAbs := by split <;> omega
  have e2 : (b : Int).toNat = b := Int.toNat_natCast b
  rw [e1, e2]
  have hg0 : 0 < Nat.gcd t.natAbs b := Nat.gcd_pos_of_pos_right _ hb
  have hg1 : Nat.gcd t.natAbs b ≤ b := Nat.gcd_le_right _ hb
  have hg2 : ((Nat.gcd t.natAbs b : Nat) : Int).natAbs < 2 ^ 8500 := by
    rw [Int.natAbs_natCast]
    omega
  have dv : ∀ i : Int, CDivW i ((Nat.gcd t.natAbs b : Nat) : Int) := fun i => wide_div (b := 8500) (by omega) hg2 (by decide) (by decide)
  refine ⟨_, rfl, _, rfl, _, _, rfl, rfl, dv _, _, rfl, _, rfl, _, _, rfl, rfl, dv _, (by show 2 ≤ sizeLine; decide), fun p hp => ?_⟩
  exact q _ _ (same_upd hp) (td_rD hb upd_same)
theorem ok_law_times {f f1 f2 : Addr} {fd fd1 fd2 : FuncData} (D : Dn K mg "_law_times" s_law_times ["one", "other"] f fd) (B : Blt mg) (D_law_low : Dn K mg "_law_low" s_law_low ["top", "bottom"] f1 fd1) (D_law_common : Dn K mg "_law_common" s_law_common ["one", "other"] f2 fd2) : FnOk P w K mg base CX0 3 f fd ["one", "other"] (spTimes K) := by
  have G_law_low : FnOk P w K mg base CX0 2 f1 fd1 ["top", "bottom"] (spLow K) := ok_law_low D_law_low B D_law_common
  refine D.F.ok sc_law_times (fun vs H Q E h => ?_) (fun cdv A outer s H vs Q E hr h => ?_)
  · obtain ⟨x, y, p, q, rfl, _⟩ := h
    rfl
  obtain ⟨x, y, p, q, rfl, hx, hy, z1, z2, z3, z4, k⟩ := h
  have nd := sc_law_times.nd
  refine ⟨_, (pss_one (ps_ret (pe_call G_law_low (hr.mono (by omega)) (by rfl) D_law_low.m D_law_low.F.kp D_law_low.b .nil pass0 (pa_cons (pe_op op_mulW (pe_ix (k_ixT (K := K) rfl) (pv 0) pe_int (fun _ _ => rfl)) (pe_ix (k_ixT (K := K) rfl) (pv 1) pe_int (fun _ _ => rfl))) (pa_cons (pe_op op_mulW (pe_ix (k_ixT (K := K) rfl) (pv 0) pe_int (fun _ _ => rfl)) (pe_ix (k_ixT (K := K) rfl) (pv 1) pe_int (fun _ _ => rfl))) pa_nil))))), ?_⟩
  obtain ⟨a, rfl, ha⟩ := hx.rE
  obtain ⟨b, rfl, hb⟩ := hy.rE
  have i0 : atI [V.int p.num, .int (p.den : Int)] 0 = some (.int p.num) := at_of (j := 0) rfl rfl
  have i1 : atI [V.int p.num, .int (p.den : Int)] 1 = some (.int (p.den : Int)) := at_of (j := 1) rfl rfl
  have j0 : atI [V.int q.num, .int (q.den : Int)] 0 = some (.int q.num) := at_of (j := 0) rfl rfl
  have j1 : atI [V.int q.num, .int (q.den : Int)] 1 = some (.int (q.den : Int)) := at_of (j := 1) rfl rfl
  have hp0 : 0 < p.den := Nat.pos_of_ne_zero p.den_nz
  have hq0 : 0 < q.den := Nat.pos_of_ne_zero q.den_nz
  have c1 : CMulW p.num q.num := wide_mul z3 z4 (by decide) (by decide) (by decide)
  have c2 : CMulW (p.den : Int) (q.den : Int) := wide_mul (a := 4200) (b := 4200) (by rw [Int.natAbs_natCast]; exact z1) (by rw [Int.natAbs_natCast]; exact z2) (by decide) (by decide) (by decide)
  refine ⟨_, rfl, a, _, 0, _, rfl, rfl, ha, i0, _, rfl, b, _, 0, _, rfl, rfl, hb, j0, _, _, rfl, rfl, c1, _, rfl, a, _, 1, _, rfl, rfl, ha, i1, _, rfl, b, _, 1, _, rfl, rfl, hb, j1, _, _, rfl, rfl, c2, ?_⟩
  refine ⟨p.num * q.num, p.den * q.den, by rw [Int.natCast_mul]; rfl, Nat.mul_pos hp0 hq0, ?_, fun v H' s' hv => k v H' s' ?_⟩
  · refine Nat.lt_of_lt_of_le ?_ (Nat.pow_le_pow_right (show 0 < 2 by decide) (show 4200 + 4200 ≤ 8500 by decide)); rw [Nat.pow_add]
    exact Nat.mul_lt_mul'' z1 z2
  · rw [← Rat.mkRat_mul_mkRat, rat_mk, rat_mk] at hv
    exact hv
end
end Tl
namespace Tl
open PySem PySem.Spec PyProof.Rows L2 RZ
theorem Frm.updN {b g p : Addr} {H H' : Hp} {o : HO} (f : Frm b g H H') (h : H p = none) : Frm b g H (upd H' p o) := fun a x e h1 h2 => by
  rw [upd_ne (ne_of_none e h)]
  exact f a x e h1 h2
theorem Bag.updN {b g p : Addr} {H : Hp} {o : HO} (B : Bag H b g) (h1 : p ≠ b) (h2 : p ≠ g) : Bag (upd H p o) b g := by
  obtain ⟨ne, ⟨s, c, al, h, r⟩, ⟨gs, h', r'⟩⟩ := B
  exact ⟨ne, ⟨s, c, al, by rw [upd_ne h1.symm]; exact h, r⟩, ⟨gs, by rw [upd_ne h2.symm]; exact h', r'⟩⟩
def nI (ps : List Nat) : List Int := ps.map fun (p : Nat) => (p : Int)
theorem nI_sum : ∀ ps : List Nat, (nI ps).sum = ((ps.sum : Nat) : Int)
  | [] => rfl
  | p :: r => by
    show ((p : Int)) + (nI r).sum = (((p + r.sum : Nat)) : Int)
    rw [nI_sum r]
    omega
/-- shares of a whole by small parts -/
def IsShares (m : Nat) (rs : List Rat) : Prop := ∃ ps : List Nat, ps.length = m ∧ 0 < ps.sum ∧ ps.sum ≤ 5 * m + 1 ∧ rs = ps.map fun (p : Nat) => mkRat (p : Int) ps.sum
theorem sum_le5 : ∀ ps : List Nat, (∀ p ∈ ps, p ≤ 4) → ps.sum ≤ 4 * ps.length
  | [], _ => Nat.le_refl _
  | p :: r, h => by
    have h1 := h p (List.mem_cons_self ..)
    have h2 := sum_le5 r fun x hx => h x (List.mem_cons_of_mem _ hx)
    show p + r.sum ≤ 4 * (r.length + 1)
    omega
theorem sum_bump : ∀ (ps : List Nat) (j : Nat) (v : Nat), ps[j]? = some v → (ps.set j (v + 1)).sum = ps.sum + 1
  | [], _, _, h => by simp at h
  | p :: r, 0, v, h => by
    have e : p = v := by simpa using h
    subst e
    show (p + 1) + r.sum = (p + r.sum) + 1
    omega
  | p :: r, j + 1, v, h => by
    have ih := sum_bump r j v (by simpa using h)
    show p + (r.set j (v + 1)).sum = (p + r.sum) + 1
    omega
def spShares (K : PySem.W.Frag) : Sp := fun vs H Q _ => ∃ (b g : Addr) (m : Nat) (l : Int), vs = [.ref b, .int (m : Int), .int l] ∧ Bag H b g ∧ 1 ≤ m ∧ m ≤ 12 ∧ 0 ≤ l ∧ l ≤ 1 ∧
  ∀ (r : Addr) (rs : List Rat) (us : List V) (H' : Hp), IsShares m rs → H' r = some (.lst us) → TdAll K H' us (rs.map rD) → H r = none → Bag H' b g → Frm b g H H' → Q (.ref r) H'
section
variable {P : Program} {w : World} {K : PySem.W.Frag} {mg : Str → Option Value} {base : Heap}
theorem ok_law_shares {f f1 f2 f3 : Addr} {fd fd1 fd2 fd3 : FuncData} (D : Dn K mg "_law_shares" s_law_shares ["bag", "many", "least"] f fd) (B : Blt mg) (D_law_low : Dn K mg "_law_low" s_law_low ["top", "bottom"] f1 fd1) (D_law_common : Dn K mg "_law_common" s_law_common ["one", "other"] f2 fd2)
    (D_law_pick : Dn K mg "_law_pick" s_law_pick ["bag", "many"] f3 fd3) : FnOk P w K mg base CX0 3 f fd ["bag", "many", "least"] (spShares K) := by
  have G_law_low : FnOk P w K mg base CX0 2 f1 fd1 ["top", "bottom"] (spLow K) := ok_law_low D_law_low B D_law_common
  have G_law_pick : FnOk P w K mg base CX0 1 f3 fd3 ["bag", "many"] spPick := ok_law_pick D_law_pick B
  refine D.F.ok sc_law_shares (fun vs H Q E h => ?_) (fun cdv A outer s H vs Q E hr h => ?_)
  · obtain ⟨b, g, m, l, rfl, _⟩ := h
    rfl
  obtain ⟨b, g, m, l, rfl, hB, hm1, hm2, hl0, hl1, q⟩ := h
  have nd := sc_law_shares.nd
  refine ⟨_, (pss_cons (ps_set (i := 3) nd rfl (.inr rfl) (pe_lc (own := [("k", 4)]) rfl nd (pi_range1 (by rfl) B.range (pa_cons (pv 1) pa_nil)) (blkOk_by (own := [("k", 4)]) (by kernel_rfl)) (fun _ _ _ _ _ => (pg_name (i := 4) nd rfl (.inl rfl))) (fun _ _ _ _ _ => pts_nil) (fun _ _ _ _ _ => (pe_op op_add (pv 2) (pe_call G_law_pick (hr.mono (by omega)) (by rfl) D_law_pick.m D_law_pick.F.kp D_law_pick.b .nil pass0 (pa_cons (pv 0) (pa_cons pe_int pa_nil)))))))
      (pss_cons (ps_augS (pv 3) (pe_call G_law_pick (hr.mono (by omega)) (by rfl) D_law_pick.m D_law_pick.F.kp D_law_pick.b .nil pass0 (pa_cons (pv 0) (pa_cons (pv 1) pa_nil))) (k_getL (K := K) rfl) pe_int ip_add set_list)
      (pss_one (ps_ret (pe_lc (own := [("part", 5)]) rfl nd (k_iL (K := K) rfl (pv 3)) (blkOk_by (own := [("part", 5)]) (by kernel_rfl)) (fun _ _ _ _ _ => (pg_name (i := 5) nd rfl (.inl rfl))) (fun _ _ _ _ _ => pts_nil) (fun _ _ _ _ _ => (pe_call G_law_low (hr.mono (by omega)) (by rfl) D_law_low.m D_law_low.F.kp D_law_low.b .nil pass0 (pa_cons (pv 5) (pa_cons (pe_callB (k_sum (K := K) rfl rfl) (by rfl) B.sum (by decide +kernel) (pa_cons (pv 3) pa_nil)) pa_nil))))))))), ?_⟩
  -- parts = [least + _law_pick(bag, 4) for k in range(many)]
  refine ⟨_, rfl, _, rfl, by omega, by omega, fun d hd => ?_⟩
  obtain ⟨db, dg⟩ := hB.neNew hd
  refine lc_range (lo := 0) (n := m) (fun i H3 => ∃ ps : List Nat, ps.length = i ∧ (∀ p ∈ ps, p ≤ 4) ∧ H3 d = some (.lst ((nI ps).map V.int)) ∧ Bag H3 b g ∧ Frm b g H H3) ⟨[], rfl, fun _ h => absurd h List.not_mem_nil, upd_same, hB.updN db dg, (Frm.refl b g H).updN hd⟩ ?_ ?_
  · rintro i H3 hi ⟨ps, hp1, hp2, h3, B3, F3⟩
    refine ⟨rfl, ?_⟩
    refine iteT (B := ∃ ps : List Nat, ps.length = i + 1 ∧ (∀ p ∈ ps, p ≤ 4) ∧ H3 d = some (.lst ((nI ps).map V.int)) ∧ Bag H3 b g ∧ Frm b g H H3) ?_
    refine ⟨_, rfl, _, rfl, b, g, 4, rfl, B3, by decide, by decide, fun r H4 r0 r1 B4 F4 => ⟨_, _, rfl, rfl, ?_⟩⟩
    have h4 := F4 d _ h3 db dg
    refine ⟨_, h4, by rw [List.length_map, nI, List.length_map]; exact small1000 (by omega), ps ++ [(l + r).toNat], by rw [List.length_append, hp1]; rfl, ?_, ?_, B4.updN db dg, (F3.trans F4).updN hd⟩
    · intro p hp
      rcases List.mem_append.mp hp with hp | hp
      · exact hp2 p hp
      · rw [List.mem_singleton.mp hp]
        omega
    · rw [upd_same, nI, nI, List.map_append, List.map_append]
      show some (HO.lst (_ ++ [V.int (l + r)])) = some (HO.lst (_ ++ [V.int (((l + r).toNat : Nat) : Int)]))
      rw [show (((l + r).toNat : Nat) : Int) = l + r by omega]
  rintro H3 ⟨ps, hp1, hp2, h3, B3, F3⟩
  -- parts[_law_pick(bag, many)] += 1
  refine ⟨_, rfl, _, rfl, _, rfl, b, g, (m : Int), rfl, B3, by omega, by omega, fun r H4 r0 r1 B4 F4 => ?_⟩
  have h4 := F4 d _ h3 db dg
  obtain ⟨j, ej⟩ : ∃ j : Nat, r = (j : Int) := ⟨r.toNat, by omega⟩
  have hj : j < ps.length := by omega
  have gj : ps[j]? = some ps[j] := List.getElem?_eq_getElem hj
  have gI : ((nI ps).map V.int)[j]? = some (.int ((ps[j] : Nat) : Int)) := by
    rw [List.getElem?_map, nI, List.getElem?_map, gj]
    rfl
  refine ⟨d, _, j, _, rfl, by rw [ej], SqL.of h4, gI, _, _, rfl, rfl, d, _, r, j, rfl, rfl, h4, ?_, ?_⟩
  · rw [List.length_map, nI, List.length_map]
    unfold ixN
    rw [if_pos r0, if_pos (by omega)]
    exact congrArg some (by omega)
  have h5 : (upd H4 d (.lst (((nI ps).map V.int).set j (.int (((ps[j] : Nat) : Int) + 1))))) d = some (.lst ((nI (ps.set j (ps[j] + 1))).map V.int)) := by
    rw [upd_same, nI, nI, List.map_set, List.map_set]
    rfl
  have B5 : Bag (upd H4 d (.lst (((nI ps).map V.int).set j (.int (((ps[j] : Nat) : Int) + 1))))) b g := B4.updN db dg
  have F5 : Frm b g H (upd H4 d (.lst (((nI ps).map V.int).set j (.int (((ps[j] : Nat) : Int) + 1))))) := (F3.trans F4).updN hd
  generalize upd H4 d (.lst (((nI ps).map V.int).set j (.int (((ps[j] : Nat) : Int) + 1)))) = H5 at h5 B5 F5
  have hsum := sum_bump ps j _ gj
  have hle := sum_le5 ps hp2
  have hlen : (ps.set j (ps[j] + 1)).length = m := by rw [List.length_set]; exact hp1
  generalize ps.set j (ps[j] + 1) = us at h5 hsum hlen
  -- return [_law_low(part, sum(parts)) for part in parts]
  have hs0 : 0 < us.sum := by omega
  have hs1 : us.sum ≤ 5 * m + 1 := by omega
  refine ⟨_, rfl, d, rfl, ⟨_, SqL.of h5⟩, fun e he => ?_⟩
  obtain ⟨eb, eg⟩ := B5.neNew he
  have heH : H e = none := by
    cases z : H e with
    | none => rfl
    | some o =>
      rw [F5 e o z eb eg] at he
      cases he
  have hl5 : ((nI us).map V.int).length = m := by rw [List.length_map, nI, List.length_map, hlen]
  refine lc_list (K := K) (a := d) (xs := (nI us).map V.int) (fun i H6 => ∃ ws : List V, H6 e = some (.lst ws) ∧ TdAll K H6 ws ((us.take i).map fun (p : Nat) => rD (mkRat (p : Int) us.sum)) ∧ Same H5 H6) ⟨[], upd_same, .nil, same_upd he⟩ (fun i H6 _ h => by obtain ⟨_, _, _, s6⟩ := h; exact s6.seq (SqL.of h5)) ?_ ?_
  · rintro i y H6 hi ⟨ws, h6, t6, s6⟩
    obtain ⟨z, hz, rfl⟩ := int_at hi
    obtain ⟨p, hp, rfl⟩ : ∃ p : Nat, us[i]? = some p ∧ z = (p : Int) := by
      rw [nI, List.getElem?_map] at hz
      cases q2 : us[i]? with
      | none =>
        rw [q2] at hz
        cases hz
      | some p =>
        rw [q2] at hz
        exact ⟨p, rfl, (Option.some.inj hz).symm⟩
    have hi2 : i < us.length := (List.getElem?_eq_some_iff.mp hp).1
    refine ⟨rfl, ?_⟩
    refine iteT (B := ∃ ws : List V, H6 e = some (.lst ws) ∧ TdAll K H6 ws ((us.take (i + 1)).map fun (p : Nat) => rD (mkRat (p : Int) us.sum)) ∧ Same H5 H6) ?_
    refine ⟨_, rfl, _, rfl, d, nI us, rfl, SqL.of (s6 _ _ h5), (p : Int), us.sum, by rw [nI_sum]; rfl, hs0, ?_, fun v H7 s7 hv => ?_⟩
    · exact Nat.lt_of_le_of_lt (Nat.le_trans hs1 (show 5 * m + 1 ≤ 2 ^ 10 by omega)) (Nat.pow_lt_pow_right (by decide) (by decide))
    · have h7 := s7 _ _ h6
      have kt7 : KT K H7 (upd H7 e (.lst (ws ++ [v]))) := KT.updL h7
      have kt : KT K H6 (upd H7 e (.lst (ws ++ [v]))) := (Same.kt s7).trans kt7
      refine ⟨ws, h7, ?_, ws ++ [v], upd_same, ?_, fun a o q => ?_⟩
      · rw [t6.len, List.length_map, List.length_take]
        exact small1000 (by omega)
      · rw [List.take_add_one, hp, List.map_append]
        exact (t6.keep kt).app (.cons (hv.keep kt7) .nil)
      · rw [upd_ne (ne_of_none q he)]
        exact s7 _ _ (s6 _ _ q)
  · rintro H6 ⟨ws, h6, t6, s6⟩
    rw [hl5, ← hlen, List.take_length] at t6
    have t7 : TdAll K H6 ws ((us.map fun (p : Nat) => mkRat (p : Int) us.sum).map rD) := by
      rw [List.map_map]
      exact t6
    exact q e _ ws H6 ⟨us, hlen, hs0, hs1, rfl⟩ h6 t7 heH (B5.keep s6) (F5.trans (Frm.of s6))
end
end Tl
/-! trees -/
namespace Tl
open PySem PySem.Spec PyProof.Rows L2 RZ
/-- nodes of at most n rounds: questions of answers (word, weights, node) -/
def Nd : Nat → Type
  | 0 => Unit
  | n + 1 => List (List (List Int × List Rat × Nd n))
abbrev An (n : Nat) : Type := List Int × List Rat × Nd n
abbrev Qn (n : Nat) : Type := List (An n)
def wdD (w : List Int) : PyData := .tuple (w.map .int)
def wsD (ws : List Rat) : PyData := .tuple (ws.map rD)
def ndD : (n : Nat) → Nd n → PyData
  | 0, _ => .tuple []
  | n + 1, qs => .tuple ((show List (Qn n) from qs).map fun q => .tuple (q.map fun a => .tuple [wdD a.1, wsD a.2.1, ndD n a.2.2]))
def anD (n : Nat) (a : An n) : PyData := .tuple [wdD a.1, wsD a.2.1, ndD n a.2.2]
def qnD (n : Nat) (q : Qn n) : PyData := .tuple (q.map (anD n))
theorem ndD_succ (n : Nat) (qs : List (Qn n)) : ndD (n + 1) qs = .tuple (qs.map (qnD n)) := rfl
/-- how many answers -/
def cnt : (n : Nat) → Nd n → Nat
  | 0, _ => 0
  | n + 1, qs => ((show List (Qn n) from qs).map fun q => (q.map fun a => 1 + cnt n a.2.2).sum).sum
def cntQ (n : Nat) (q : Qn n) : Nat := (q.map fun a => 1 + cnt n a.2.2).sum
theorem cnt_succ (n : Nat) (qs : List (Qn n)) : cnt (n + 1) qs = (qs.map (cntQ n)).sum := rfl
def emptyNd : (n : Nat) → Nd n
  | 0 => ()
  | _ + 1 => ([] : List _)
theorem ndD_empty (n : Nat) : ndD n (emptyNd n) = .tuple [] := by cases n <;> rfl
theorem cnt_empty (n : Nat) : cnt n (emptyNd n) = 0 := by cases n <;> rfl
/-! sums of fractions from the left -/
def fsum (l : List Rat) : Rat := l.foldl (· + ·) 0
theorem foldl_add (l : List Rat) : ∀ a : Rat, l.foldl (· + ·) a = a + fsum l := by
  induction l with
  | nil =>
    intro a
    exact (Rat.add_zero a).symm
  | cons x r ih =>
    intro a
    unfold fsum
    rw [List.foldl_cons, List.foldl_cons, ih, ih (0 + x), Rat.zero_add, Rat.add_assoc]
theorem fsum_nil : fsum [] = 0 := rfl
theorem fsum_cons (x : Rat) (r : List Rat) : fsum (x :: r) = x + fsum r := by
  unfold fsum
  rw [List.foldl_cons, foldl_add, Rat.zero_add]
  rfl
theorem fsum_snoc (l : List Rat) (x : Rat) : fsum (l ++ [x]) = fsum l + x := by
  unfold fsum
  rw [List.foldl_append]
  rfl
theorem fsum_mul (a : Rat) : ∀ l : List Rat, fsum (l.map fun x => a * x) = a * fsum l
  | [] => by
    rw [List.map_nil, fsum_nil, Rat.mul_zero]
  | x :: r => by
    rw [List.map_cons, fsum_cons, fsum_cons, fsum_mul a r, Rat.mul_add]
theorem mk_add (p q : Int) (s : Nat) (hs : 0 < s) : mkRat p s + mkRat q s = mkRat (p + q) s := by
  have h : s ≠ 0 := by omega
  rw [Rat.mkRat_add_mkRat _ _ h h, ← Int.add_mul, Rat.mkRat_mul_right h]
theorem fsum_mk (s : Nat) (hs : 0 < s) : ∀ ps : List Nat, fsum (ps.map fun (p : Nat) => mkRat (p : Int) s) = mkRat ((ps.sum : Nat) : Int) s
  | [] => by
    show (0 : Rat) = mkRat 0 s
    rw [Rat.zero_mkRat]
  | p :: r => by
    rw [List.map_cons, fsum_cons, fsum_mk s hs r, mk_add _ _ _ hs]
    congr 1
theorem mk_same (s : Nat) (hs : 0 < s) : mkRat (s : Int) s = 1 := by
  have h : s ≠ 0 := by omega
  have e := Rat.mkRat_mul_right (n := 1) (d := 1) h
  rw [Int.one_mul, Nat.one_mul] at e
  rw [e]
  rfl
theorem mk_nonneg (p s : Nat) (hs : 0 < s) : 0 ≤ mkRat (p : Int) s := by
  refine Rat.num_nonneg.mp ?_
  rw [(mkRat_parts (p : Int) s hs).1]
  exact Int.ediv_nonneg (by omega) (by omega)
theorem mk_le_one (p s : Nat) (hs : 0 < s) (h : p ≤ s) : mkRat (p : Int) s ≤ 1 := by
  refine (Rat.le_iff _ _).mpr ?_
  obtain ⟨e1, e2⟩ := mkRat_parts (p : Int) s hs
  rw [e2, e1]
  show _ / _ * 1 ≤ 1 * (_ / _)
  rw [Int.mul_one, Int.one_mul]
  exact Int.ediv_le_ediv (by have := Nat.gcd_pos_of_pos_right (p : Int).natAbs hs; omega) (by omega)
/-- all numbers up to 61 divide it -/
def LL : Nat := 59113344205141113375568080000000000000000000000000000000
theorem ll_dvd : ∀ s : Nat, 0 < s → s ≤ 61 → s ∣ LL := fun s h1 h2 => by
  have h : ∀ s : Fin 62, 0 < s.val → s.val ∣ LL := by decide +kernel
  exact h ⟨s, by omega⟩ h1
theorem ll_pos (e : Nat) : 0 < LL ^ e := Nat.pow_pos (by decide)
theorem ll_mono {e f : Nat} (h : e ≤ f) : LL ^ e ∣ LL ^ f := Nat.pow_dvd_pow LL h
theorem ll_le {e : Nat} : LL ^ e ≤ 2 ^ (186 * e) := by
  rw [Nat.pow_mul]
  exact Nat.pow_le_pow_left (by decide) e
theorem ll_small {e k : Nat} (h : 186 * e ≤ k) : LL ^ e ≤ 2 ^ k := Nat.le_trans ll_le (Nat.pow_le_pow_right (by decide) h)
/-- from NOUGHT to ONE, the bottom divides the e-th power -/
def Ch (e : Nat) (r : Rat) : Prop := 0 ≤ r ∧ r ≤ 1 ∧ r.den ∣ LL ^ e
theorem Ch.den {e : Nat} {r : Rat} (h : Ch e r) : r.den ≤ LL ^ e := Nat.le_of_dvd (ll_pos e) h.2.2
theorem Ch.num {e : Nat} {r : Rat} (h : Ch e r) : r.num.natAbs ≤ LL ^ e := by
  have d3 := h.den
  obtain ⟨h0, h1, h2⟩ := h
  have a := (Rat.le_iff r 1).mp h1
  have b := Rat.num_nonneg.mpr h0
  have c : (1 : Rat).num = 1 := rfl
  have d : (1 : Rat).den = 1 := rfl
  rw [c, d] at a
  omega
theorem Ch.mono {e f : Nat} {r : Rat} (h : Ch e r) (l : e ≤ f) : Ch f r := ⟨h.1, h.2.1, Nat.dvd_trans h.2.2 (ll_mono l)⟩
theorem mk_den_dvd {t : Int} {b : Nat} (h : 0 < b) : (mkRat t b).den ∣ b := by
  rw [Rat.den_mkRat, if_neg (by omega)]
  exact Nat.div_dvd_of_dvd (Nat.gcd_dvd_left _ _)
theorem mul_den_dvd (a b : Rat) : (a * b).den ∣ a.den * b.den := by
  have e : a * b = mkRat (a.num * b.num) (a.den * b.den) := by
    rw [← Rat.mkRat_mul_mkRat, rat_mk, rat_mk]
  rw [e]
  exact mk_den_dvd (Nat.mul_pos (Nat.pos_of_ne_zero a.den_nz) (Nat.pos_of_ne_zero b.den_nz))
theorem Ch.mul {e p s : Nat} {a : Rat} (h : Ch e a) (hs : 0 < s) (h21 : s ≤ 61) (hp : p ≤ s) : Ch (e + 1) (a * mkRat (p : Int) s) := by
  obtain ⟨h0, h1, h2⟩ := h
  have m0 := mk_nonneg p s hs
  have m1 := mk_le_one p s hs hp
  refine ⟨Rat.mul_nonneg h0 m0, ?_, Nat.dvd_trans (mul_den_dvd _ _) ?_⟩
  · have z := Rat.mul_le_mul_of_nonneg_left m1 h0
    rw [Rat.mul_one] at z
    exact Rat.le_trans z h1
  · rw [Nat.pow_succ]
    exact Nat.mul_dvd_mul h2 (Nat.dvd_trans (mk_den_dvd hs) (ll_dvd s hs h21))
theorem ch_zero {e : Nat} : Ch e 0 := ⟨by decide, by decide, Nat.one_dvd _⟩
theorem ch_one {e : Nat} : Ch e 1 := ⟨by decide, by decide, Nat.one_dvd _⟩
theorem ch_share {p s : Nat} (hs : 0 < s) (h21 : s ≤ 61) (hp : p ≤ s) : Ch 1 (mkRat (p : Int) s) := by
  have z := ch_one.mul (e := 0) hs h21 hp
  rw [Rat.one_mul] at z
  exact z
/-! ### right trees -/
def col {n : Nat} (q : Qn n) (j : Nat) : List Rat := q.map fun a => a.2.1.getD j 0
def WordOk (w : List Int) : Prop := w.length ≤ 8 ∧ ∀ x ∈ w, 0 ≤ x ∧ x ≤ 99
/-- one question right but for what is behind -/
structure QnOk (W : Nat) {n : Nat} (ahead : List Rat) (q : Qn n) : Prop where
  one : 1 ≤ q.length
  most : q.length ≤ 12
  words : ∀ a ∈ q, WordOk a.1
  asc : ∀ i (x y : An n), q[i]? = some x → q[i + 1]? = some y → HT.lexLt x.1 y.1 = true
  wide : ∀ a ∈ q, a.2.1.length = W
  chs : ∀ a ∈ q, ∀ r ∈ a.2.1, Ch 6 r
  whole : ∀ j, j < W → fsum (col q j) = ahead.getD j 0
def NdOk (W : Nat) : (n : Nat) → List Rat → Nd n → Prop
  | 0, _, _ => True
  | n + 1, ahead, qs => (show List (Qn n) from qs).length ≤ 5 ∧ ∀ q ∈ (show List (Qn n) from qs), QnOk W ahead q ∧ ∀ a ∈ q, NdOk W n a.2.1 a.2.2
theorem ndOk_empty (W n : Nat) (ws : List Rat) : NdOk W n ws (emptyNd n) := by
  cases n with
  | zero => trivial
  | succ n => exact ⟨Nat.zero_le _, fun q h => absurd h List.not_mem_nil⟩
end Tl
namespace Tl
open PySem PySem.Spec PyProof.Rows L2 RZ
/-- all but the lists at b, g, l stays -/
def Frl (b g l : Addr) (H H' : Hp) : Prop := ∀ a o, H a = some o → a ≠ b → a ≠ g → a ≠ l → H' a = some o
theorem Frl.refl (b g l : Addr) (H : Hp) : Frl b g l H H := fun _ _ h _ _ _ => h
theorem Frl.trans {b g l : Addr} {H1 H2 H3 : Hp} (x : Frl b g l H1 H2) (y : Frl b g l H2 H3) : Frl b g l H1 H3 := fun a o h h1 h2 h3 => y a o (x a o h h1 h2 h3) h1 h2 h3
theorem Frl.of {b g l : Addr} {H H' : Hp} (h : Same H H') : Frl b g l H H' := fun a o q _ _ _ => h a o q
theorem Frl.ofF {b g l : Addr} {H H' : Hp} (h : Frm b g H H') : Frl b g l H H' := fun a o q h1 h2 _ => h a o q h1 h2
theorem Frl.updL {b g l : Addr} {H : Hp} {o : HO} : Frl b g l H (upd H l o) := fun a x h _ _ h3 => by rw [upd_ne h3]; exact h
theorem Frl.updN {b g l p : Addr} {H H' : Hp} {o : HO} (f : Frl b g l H H') (h : H p = none) : Frl b g l H (upd H' p o) := fun a x e h1 h2 h3 => by
  rw [upd_ne (ne_of_none e h)]
  exact f a x e h1 h2 h3
/-- the bag and the list that tells how many answers are left -/
structure BagL (H : Hp) (b g l : Addr) (L : Int) : Prop where
  B : Bag H b g
  hl : H l = some (.lst [.int L])
  lb : l ≠ b
  lg : l ≠ g
theorem BagL.kt {K : PySem.W.Frag} {b g l : Addr} {L : Int} {H H' : Hp} (B : BagL H b g l L) (f : Frl b g l H H') : KT K H H' := fun a xs q => by
  have ne : ∀ {o : HO}, H a = some o → (∀ xs, o ≠ .lst xs) → a ≠ b ∧ a ≠ g ∧ a ≠ l := fun {o} e z => by
    obtain ⟨h1, h2⟩ := B.B.other e z
    exact ⟨h1, h2, fun y => by rw [y, B.hl] at e; exact z _ (Option.some.inj e).symm⟩
  rcases q with (q | ⟨o, q⟩) | q
  · obtain ⟨h1, h2, h3⟩ := ne q (fun xs z => by cases z)
    exact .inl (.inl (f _ _ q h1 h2 h3))
  · obtain ⟨h1, h2, h3⟩ := ne q (fun xs z => by cases z)
    exact .inl (.inr ⟨o, f _ _ q h1 h2 h3⟩)
  · exact .inr q
theorem BagL.keep {b g l : Addr} {L : Int} {H H' : Hp} (B : BagL H b g l L) (s : Same H H') : BagL H' b g l L := ⟨B.B.keep s, s _ _ B.hl, B.lb, B.lg⟩
theorem BagL.neNew {b g l p : Addr} {L : Int} {H : Hp} (B : BagL H b g l L) (h : H p = none) : p ≠ b ∧ p ≠ g ∧ p ≠ l := by
  obtain ⟨h1, h2⟩ := B.B.neNew h
  exact ⟨h1, h2, fun e => by rw [e, B.hl] at h; cases h⟩
theorem BagL.bag {b g l : Addr} {L : Int} {H H' : Hp} (B : BagL H b g l L) (B' : Bag H' b g) (f : Frm b g H H') : BagL H' b g l L := ⟨B', f _ _ B.hl B.lb B.lg, B.lb, B.lg⟩
theorem BagL.updN {b g l p : Addr} {L : Int} {H : Hp} {o : HO} (B : BagL H b g l L) (h1 : p ≠ b) (h2 : p ≠ g) (h3 : p ≠ l) : BagL (upd H p o) b g l L :=
  ⟨B.B.updN h1 h2, by rw [upd_ne h3.symm]; exact B.hl, B.lb, B.lg⟩
theorem BagL.updL {b g l : Addr} {L M : Int} {H : Hp} (B : BagL H b g l L) : BagL (upd H l (.lst [.int M])) b g l M :=
  ⟨B.B.updN B.lb B.lg, upd_same, B.lb, B.lg⟩
theorem Frl.none {b g l p : Addr} {H H' : Hp} (f : Frl b g l H H') (h : H' p = Option.none) (h1 : p ≠ b) (h2 : p ≠ g) (h3 : p ≠ l) : H p = Option.none := by
  cases e : H p with
  | none => rfl
  | some o =>
    rw [f p o e h1 h2 h3] at h
    cases h
def spSome : Sp := fun vs H Q _ => ∃ (b g t : Addr) (xs : List V), vs = [.ref b, .ref t] ∧ Bag H b g ∧ H t = some (.lst xs) ∧ t ≠ b ∧ t ≠ g ∧ 0 < xs.length ∧ xs.length ≤ 1000 ∧
  ∀ (i : Nat) (x : V) (H' : Hp), xs[i]? = some x → Bag H' b g → Frm b g H H' → Q x H'
section
variable {P : Program} {w : World} {K : PySem.W.Frag} {mg : Str → Option Value} {base : Heap}
theorem ok_law_some {f f3 : Addr} {fd fd3 : FuncData} (D : Dn K mg "_law_some" s_law_some ["bag", "things"] f fd) (B : Blt mg) (D_law_pick : Dn K mg "_law_pick" s_law_pick ["bag", "many"] f3 fd3) : FnOk P w K mg base CX0 2 f fd ["bag", "things"] spSome := by
  have G_law_pick : FnOk P w K mg base CX0 1 f3 fd3 ["bag", "many"] spPick := ok_law_pick D_law_pick B
  refine D.F.ok sc_law_some (fun vs H Q E h => ?_) (fun cdv A outer s H vs Q E hr h => ?_)
  · obtain ⟨b, g, t, xs, rfl, _⟩ := h
    rfl
  obtain ⟨b, g, t, xs, rfl, hB, ht, tb, tg, h1, h2, q⟩ := h
  have nd := sc_law_some.nd
  refine ⟨_, (pss_one (ps_ret (pe_ix (k_ixL (K := K) rfl) (pv 1) (pe_call G_law_pick (hr.mono (by omega)) (by rfl) D_law_pick.m D_law_pick.F.kp D_law_pick.b .nil pass0 (pa_cons (pv 0) (pa_cons (pe_callB (k_len (K := K) rfl) (by rfl) B.len PySem.boot_len (pa_cons (pv 1) pa_nil)) pa_nil))) (fun _ _ => rfl)))), ?_⟩
  refine ⟨_, rfl, _, rfl, _, rfl, t, _, rfl, .inl (SqL.of ht), b, g, _, rfl, hB, by omega, by omega, fun r H' r0 r1 B' F' => ?_⟩
  obtain ⟨j, ej⟩ : ∃ j : Nat, r = (j : Int) := ⟨r.toNat, by omega⟩
  have hj : j < xs.length := by omega
  have gj : xs[j]? = some xs[j] := List.getElem?_eq_getElem hj
  exact ⟨t, xs, r, xs[j], rfl, rfl, SqL.of (F' _ _ ht tb tg), at_of (j := j) ej gj, q j _ H' gj B' F'⟩
end
/-! ### questions and nodes that the law draws -/
/-- sharper weights -/
def Sharp {n : Nat} (q : Qn n) : Prop := ∀ a ∈ q, ∀ r ∈ a.2.1, Ch 5 r
def QnG (W : Nat) {n : Nat} (ahead : List Rat) (q : Qn n) : Prop := QnOk W ahead q ∧ Sharp q
def NdG (W : Nat) : (n : Nat) → List Rat → Nd n → Prop
  | 0, _, _ => True
  | n + 1, ahead, qs => (show List (Qn n) from qs).length ≤ 5 ∧ ∀ q ∈ (show List (Qn n) from qs), QnG W ahead q ∧ ∀ a ∈ q, NdG W n a.2.1 a.2.2
theorem ndG_empty (W n : Nat) (ws : List Rat) : NdG W n ws (emptyNd n) := by
  cases n with
  | zero => trivial
  | succ n => exact ⟨Nat.zero_le _, fun q h => absurd h List.not_mem_nil⟩
theorem NdG.ok : ∀ {W n : Nat} {ahead : List Rat} {t : Nd n}, NdG W n ahead t → NdOk W n ahead t
  | _, 0, _, _, _ => trivial
  | _, _ + 1, _, _, h => ⟨h.1, fun q hq => ⟨(h.2 q hq).1.1, fun a ha => NdG.ok ((h.2 q hq).2 a ha)⟩⟩
def Few {n : Nat} (q : Qn n) : Prop := q.length ≤ 3 ∧ Sharp q
/-- right nodes of questions of at most three answers -/
def NdF (W : Nat) : (n : Nat) → List Rat → Nd n → Prop
  | 0, _, _ => True
  | n + 1, ahead, qs => (show List (Qn n) from qs).length ≤ 5 ∧ ∀ q ∈ (show List (Qn n) from qs), (QnOk W ahead q ∧ Few q) ∧ ∀ a ∈ q, NdF W n a.2.1 a.2.2
theorem ndF_empty (W n : Nat) (ws : List Rat) : NdF W n ws (emptyNd n) := by
  cases n with
  | zero => trivial
  | succ n => exact ⟨Nat.zero_le _, fun q h => absurd h List.not_mem_nil⟩
theorem NdF.ok : ∀ {W n : Nat} {ahead : List Rat} {t : Nd n}, NdF W n ahead t → NdOk W n ahead t
  | _, 0, _, _, _ => trivial
  | _, _ + 1, _, _, h => ⟨h.1, fun q hq => ⟨(h.2 q hq).1.1, fun a ha => NdF.ok ((h.2 q hq).2 a ha)⟩⟩
theorem NdF.g : ∀ {W n : Nat} {ahead : List Rat} {t : Nd n}, NdF W n ahead t → NdG W n ahead t
  | _, 0, _, _, _ => trivial
  | _, _ + 1, _, _, h => ⟨h.1, fun q hq => ⟨⟨(h.2 q hq).1.1, (h.2 q hq).1.2.2⟩, fun a ha => NdF.g ((h.2 q hq).2 a ha)⟩⟩
def lowL (n : Nat) : Int := -(3 * (n : Int) + 2)
def spQ (K : PySem.W.Frag) : Nat → Sp
  | 0 => fun _ _ _ _ => False
  | n + 1 => fun vs H Q _ => ∃ (b g l : Addr) (W e : Nat) (av : V) (ahead : List Rat) (L : Int), vs = [.ref b, .int (W : Int), av, .int ((n + 1 : Nat) : Int), .ref l] ∧ BagL H b g l L ∧ Td K H av (wsD ahead) ∧
      ahead.length = W ∧ (∀ r ∈ ahead, Ch e r) ∧ e + (n + 1) ≤ 5 ∧ 1 ≤ W ∧ W ≤ 5 ∧
      ∀ (v : V) (q : Qn n) (L' : Int) (H' : Hp), Td K H' v (qnD n q) → (QnOk W ahead q ∧ Few q) → (∀ a ∈ q, NdF W n a.2.1 a.2.2) → ((cntQ n q : Nat) : Int) + L' = L → (L - 3 ≤ L' ∨ lowL n ≤ L') → BagL H' b g l L' → Frl b g l H H' → Q v H'
def spN (K : PySem.W.Frag) (n : Nat) : Sp := fun vs H Q _ => ∃ (b g l : Addr) (W e : Nat) (av : V) (ahead : List Rat) (L : Int), vs = [.ref b, .int (W : Int), av, .int (n : Int), .ref l] ∧ BagL H b g l L ∧ Td K H av (wsD ahead) ∧
      ahead.length = W ∧ (∀ r ∈ ahead, Ch e r) ∧ e + n ≤ 5 ∧ 1 ≤ W ∧ W ≤ 5 ∧
      ∀ (v : V) (t : Nd n) (L' : Int) (H' : Hp), Td K H' v (ndD n t) → NdF W n ahead t → ((cnt n t : Nat) : Int) + L' = L → (L ≤ L' ∨ lowL n ≤ L') → BagL H' b g l L' → Frl b g l H H' → Q v H'
/-- lists of fractions, told by their places, away from Z -/
def RowsAt (K : PySem.W.Frag) (b g l : Addr) (Z : Addr → Prop) (H : Hp) (R : Addr) (ds : List (List Rat)) : Prop := R ≠ b ∧ R ≠ g ∧ R ≠ l ∧ ¬ Z R ∧ ∃ rs : List Addr, H R = some (.lst (rs.map V.ref)) ∧ rs.length = ds.length ∧
  ∀ (i : Nat) (r : Addr) (d : List Rat), rs[i]? = some r → ds[i]? = some d → (r ≠ R ∧ ¬ Z r) ∧ r ≠ b ∧ r ≠ g ∧ r ≠ l ∧ ∃ us, H r = some (.lst us) ∧ TdAll K H us (d.map rD)
theorem RowsAt.keep {K : PySem.W.Frag} {b g l R : Addr} {Z : Addr → Prop} {H H' : Hp} {ds : List (List Rat)} (h : RowsAt K b g l Z H R ds) (k : KT K H H') (f : Frl b g l H H') : RowsAt K b g l Z H' R ds := by
  obtain ⟨n1, n2, n3, n4, rs, h1, h2, h3⟩ := h
  refine ⟨n1, n2, n3, n4, rs, f _ _ h1 n1 n2 n3, h2, fun i r d e1 e2 => ?_⟩
  obtain ⟨m0, m1, m2, m3, us, u1, u2⟩ := h3 i r d e1 e2
  exact ⟨m0, m1, m2, m3, us, f _ _ u1 m1 m2 m3, u2.keep k⟩
theorem RowsAt.avoid {K : PySem.W.Frag} {b g l R φ : Addr} {Z : Addr → Prop} {H : Hp} {ds : List (List Rat)} (h : RowsAt K b g l Z H R ds) (n : H φ = none) : RowsAt K b g l (fun x => x = φ) H R ds := by
  obtain ⟨n1, n2, n3, _, rs, h1, h2, h3⟩ := h
  refine ⟨n1, n2, n3, ne_of_none h1 n, rs, h1, h2, fun i r d e1 e2 => ?_⟩
  obtain ⟨m0, m1, m2, m3, us, u1, u2⟩ := h3 i r d e1 e2
  exact ⟨⟨m0.1, ne_of_none u1 n⟩, m1, m2, m3, us, u1, u2⟩
end Tl
namespace Tl
open PySem PySem.Spec PyProof.Rows L2 RZ
def cntB (n : Nat) (q : Qn n) : Nat := (q.map fun a => cnt n a.2.2).sum
theorem cntQ_eq (n : Nat) : ∀ q : Qn n, cntQ n q = q.length + cntB n q
  | [] => rfl
  | a :: r => by
    have ih := cntQ_eq n r
    show (1 + cnt n a.2.2) + cntQ n r = (r.length + 1) + (cnt n a.2.2 + cntB n r)
    omega
theorem cntB_snoc (n : Nat) (q : Qn n) (a : An n) : cntB n (q ++ [a]) = cntB n q + cnt n a.2.2 := by
  unfold cntB
  rw [List.map_append, List.sum_append]
  rfl
/-- the weights of the i-th answer -/
def wk (W : Nat) (ahead : List Rat) (ds : List (List Rat)) (i : Nat) : List Rat := (List.range W).map fun j => ahead.getD j 0 * (ds.getD j []).getD i 0
/-- a drawn answer in its place -/
structure AnIs (W n : Nat) (ahead : List Rat) (ds : List (List Rat)) (i : Nat) (a : An n) : Prop where
  w : ∃ r : List Int, a.1 = 11 * (i : Int) :: r ∧ r.length ≤ 7 ∧ ∀ x ∈ r, 0 ≤ x ∧ x ≤ 99
  ws : a.2.1 = wk W ahead ds i
  ok : NdF W n a.2.1 a.2.2
theorem getD_of {α : Type} {l : List α} {i : Nat} {x d : α} (h : l[i]? = some x) : l.getD i d = x := by
  rw [List.getD_eq_getElem?_getD, h]
  rfl
theorem wk_at {W : Nat} {ahead : List Rat} {ds : List (List Rat)} {i j : Nat} (hj : j < W) : (wk W ahead ds i).getD j 0 = ahead.getD j 0 * (ds.getD j []).getD i 0 := by
  refine getD_of ?_
  unfold wk
  rw [List.getElem?_map, List.getElem?_range hj]
  rfl
theorem mem_getD0 {l : List Rat} {P : Rat → Prop} (h : ∀ r ∈ l, P r) {j : Nat} (hj : j < l.length) : P (l.getD j 0) := by
  rw [getD_of (List.getElem?_eq_getElem hj)]
  exact h _ (List.getElem_mem hj)
theorem share_at {m i : Nat} {rs : List Rat} (h : IsShares m rs) (hi : i < m) : ∃ p s : Nat, 0 < s ∧ s ≤ 5 * m + 1 ∧ p ≤ s ∧ rs.getD i 0 = mkRat (p : Int) s := by
  obtain ⟨ps, h1, h2, h3, rfl⟩ := h
  have hi2 : i < ps.length := by omega
  refine ⟨ps[i], ps.sum, h2, h3, ?_, getD_of (by rw [List.getElem?_map, List.getElem?_eq_getElem hi2]; rfl)⟩
  have : ∀ (l : List Nat) (x : Nat), x ∈ l → x ≤ l.sum := fun l => by
    induction l with
    | nil =>
      intro x h
      exact absurd h List.not_mem_nil
    | cons y r ih =>
      intro x h
      rcases List.mem_cons.mp h with rfl | h
      · show x ≤ x + r.sum
        omega
      · have := ih x h
        show x ≤ y + r.sum
        omega
  exact this ps _ (List.getElem_mem hi2)
theorem shares_col {m : Nat} {rs : List Rat} (h : IsShares m rs) (a : Rat) : fsum (rs.map fun x => a * x) = a := by
  obtain ⟨ps, h1, h2, h3, rfl⟩ := h
  rw [fsum_mul, fsum_mk _ h2, mk_same _ h2, Rat.mul_one]
/-- a drawn question is right -/
theorem drawn_ok {W n m e : Nat} {ahead : List Rat} {ds : List (List Rat)} {q : Qn n} (hm1 : 1 ≤ m) (hm : m ≤ 3) (hq : q.length = m) (hd : ds.length = W) (ha : ahead.length = W) (hS : ∀ d ∈ ds, IsShares m d) (hA : ∀ r ∈ ahead, Ch e r) (he : e + 1 ≤ 6)
    (h : ∀ i a, q[i]? = some a → AnIs W n ahead ds i a) : QnOk W ahead q ∧ (∀ a ∈ q, ∀ r ∈ a.2.1, Ch (e + 1) r) := by
  have dj : ∀ j, j < W → IsShares m (ds.getD j []) := fun j hj => by
    have hj2 : j < ds.length := by omega
    rw [getD_of (List.getElem?_eq_getElem hj2)]
    exact hS _ (List.getElem_mem hj2)
  have aj : ∀ j, j < W → Ch e (ahead.getD j 0) := fun j hj => mem_getD0 hA (by omega)
  have chw : ∀ a ∈ q, ∀ r ∈ a.2.1, Ch (e + 1) r := by
    intro a hm' r hr
    obtain ⟨i, hi, rfl⟩ := List.getElem_of_mem hm'
    have A := h i _ (List.getElem?_eq_getElem hi)
    rw [A.ws] at hr
    unfold wk at hr
    obtain ⟨j, hj, rfl⟩ := List.mem_map.mp hr
    have hj := List.mem_range.mp hj
    obtain ⟨p, s, s0, s1, ps, e1⟩ := share_at (dj j hj) (show i < m by omega)
    rw [e1]
    exact (aj j hj).mul s0 (by omega) ps
  have colj : ∀ j, j < W → col q j = (ds.getD j []).map fun x => ahead.getD j 0 * x := by
    intro j hj
    have lj : (ds.getD j []).length = m := by
      obtain ⟨ps, h1, _, _, e1⟩ := dj j hj
      rw [e1, List.length_map, h1]
    refine List.ext_getElem? fun i => ?_
    unfold col
    rw [List.getElem?_map, List.getElem?_map]
    by_cases hi : i < m
    · have g1 : q[i]? = some q[i] := List.getElem?_eq_getElem (by omega)
      have g2 : (ds.getD j [])[i]? = some (ds.getD j [])[i] := List.getElem?_eq_getElem (by omega)
      rw [g1, g2]
      have e3 : (q[i]).2.1 = wk W ahead ds i := (h i _ g1).ws
      show some ((q[i]).2.1.getD j 0) = some (ahead.getD j 0 * (ds.getD j [])[i])
      rw [e3, wk_at hj, getD_of g2]
    · rw [List.getElem?_eq_none (by omega), List.getElem?_eq_none (by omega)]
      rfl
  refine ⟨⟨by omega, by omega, ?_, ?_, ?_, ?_, ?_⟩, chw⟩
  · intro a hm'
    obtain ⟨i, hi, rfl⟩ := List.getElem_of_mem hm'
    obtain ⟨r, e1, e2, e3⟩ := (h i _ (List.getElem?_eq_getElem hi)).w
    rw [e1]
    refine ⟨by rw [List.length_cons]; omega, fun x hx => ?_⟩
    rcases List.mem_cons.mp hx with rfl | hx
    · omega
    · exact e3 x hx
  · intro i x y hx hy
    obtain ⟨r, e1, _⟩ := (h i _ hx).w
    obtain ⟨r2, e2, _⟩ := (h (i + 1) _ hy).w
    rw [e1, e2]
    show (if 11 * (i : Int) = 11 * ((i + 1 : Nat) : Int) then HT.lexLt r r2 else decide (11 * (i : Int) < 11 * ((i + 1 : Nat) : Int))) = true
    rw [if_neg (by omega)]
    exact decide_eq_true (by omega)
  · intro a hm'
    obtain ⟨i, hi, rfl⟩ := List.getElem_of_mem hm'
    rw [(h i _ (List.getElem?_eq_getElem hi)).ws]
    unfold wk
    rw [List.length_map, List.length_range]
  · exact fun a h1 r h2 => (chw a h1 r h2).mono he
  · intro j hj
    rw [colj j hj]
    exact shares_col (dj j hj) _
end Tl
namespace Tl
open PySem PySem.Spec PyProof.Rows L2 RZ
theorem cmul_small {i j : Int} (h1 : i.natAbs < 1024) (h2 : j.natAbs < 1024) : CMulW i j := wide_mul (a := 10) (b := 10) h1 h2 (by decide) (by decide) (by decide)
theorem pow_lt2000 {e : Nat} (h : e ≤ 14) : LL ^ e < 2 ^ 4200 := Nat.lt_of_le_of_lt (ll_small (k := 2800) (by omega)) (Nat.pow_lt_pow_right (by decide) (by decide))
/-- the five words that the law picks from -/
def five (k : Int) : List (List Int) := [[k], [7 * k, 3], [9 * k + 1, 0, 99], List.replicate 7 (90 + k), []]
theorem five_ok {k : Int} (h0 : 0 ≤ k) (h2 : k ≤ 2) : ∀ r ∈ five k, r.length ≤ 7 ∧ ∀ x ∈ r, 0 ≤ x ∧ x ≤ 99 := by
  intro r hr
  unfold five at hr
  simp only [List.mem_cons, List.not_mem_nil, or_false] at hr
  rcases hr with rfl | rfl | rfl | rfl | rfl
  · exact ⟨by simp, fun x hx => by simp at hx; omega⟩
  · exact ⟨by simp, fun x hx => by simp at hx; omega⟩
  · exact ⟨by simp, fun x hx => by simp at hx; omega⟩
  · exact ⟨by simp, fun x hx => by rw [List.mem_replicate] at hx; omega⟩
  · exact ⟨by simp, fun x hx => absurd hx List.not_mem_nil⟩
section
variable {P : Program} {w : World} {K : PySem.W.Frag} {mg : Str → Option Value} {base : Heap}
theorem ok_law_question {m : Nat} {f f1 f2 f3 f4 f5 f6 f7 : Addr} {fd fd1 fd2 fd3 fd4 fd5 fd6 fd7 : FuncData} (D : Dn K mg "_law_question" s_law_question ["bag", "worlds", "ahead", "rounds", "left"] f fd) (B : Blt mg) (D_law_low : Dn K mg "_law_low" s_law_low ["top", "bottom"] f1 fd1) (D_law_common : Dn K mg "_law_common" s_law_common ["one", "other"] f2 fd2)
    (D_law_pick : Dn K mg "_law_pick" s_law_pick ["bag", "many"] f3 fd3) (D_law_shares : Dn K mg "_law_shares" s_law_shares ["bag", "many", "least"] f4 fd4) (D_law_some : Dn K mg "_law_some" s_law_some ["bag", "things"] f5 fd5) (D_law_times : Dn K mg "_law_times" s_law_times ["one", "other"] f6 fd6)
    (D_law_node : Dn K mg "_law_node" s_law_node ["bag", "worlds", "ahead", "rounds", "left"] f7 fd7) (G_law_node : FnOk P w K mg base CX0 (6 + 2 * m) f7 fd7 ["bag", "worlds", "ahead", "rounds", "left"] (spN K m)) :
    FnOk P w K mg base CX0 (7 + 2 * m) f fd ["bag", "worlds", "ahead", "rounds", "left"] (spQ K (m + 1)) := by
  have G_law_pick : FnOk P w K mg base CX0 1 f3 fd3 ["bag", "many"] spPick := ok_law_pick D_law_pick B
  have G_law_shares : FnOk P w K mg base CX0 3 f4 fd4 ["bag", "many", "least"] (spShares K) := ok_law_shares D_law_shares B D_law_low D_law_common D_law_pick
  have G_law_some : FnOk P w K mg base CX0 2 f5 fd5 ["bag", "things"] spSome := ok_law_some D_law_some B D_law_pick
  have G_law_times : FnOk P w K mg base CX0 3 f6 fd6 ["one", "other"] (spTimes K) := ok_law_times D_law_times B D_law_low D_law_common
  rw [show 7 + 2 * m = (6 + 2 * m) + 1 by omega]
  refine D.F.ok sc_law_question (fun vs H Q E h => ?_) (fun cdv A outer s H vs Q E hr h => ?_)
  · obtain ⟨b, g, l, W, e, av, ahead, L, rfl, _⟩ := h
    rfl
  obtain ⟨b, g, l, W, e, av, ahead, L, rfl, hB, hav, hla, hch, hel, hW1, hW5, q⟩ := h
  have nd := sc_law_question.nd
  refine ⟨_, (pss_cons (ps_set (i := 5) nd rfl (.inr rfl) (pe_op op_add pe_int (pe_call G_law_pick (hr.mono (by omega)) (by rfl) D_law_pick.m D_law_pick.F.kp D_law_pick.b .nil pass0 (pa_cons (pv 0) (pa_cons pe_int pa_nil)))))
      (pss_cons (ps_augS (pv 4) pe_int (k_getL (K := K) rfl) (pv 5) ip_sub set_list)
      (pss_cons (ps_set (i := 6) nd rfl (.inr rfl) (pe_lc (own := [("world", 7)]) rfl nd (pi_range1 (by rfl) B.range (pa_cons (pv 1) pa_nil)) (blkOk_by (own := [("world", 7)]) (by kernel_rfl)) (fun _ _ _ _ _ => (pg_name (i := 7) nd rfl (.inl rfl))) (fun _ _ _ _ _ => pts_nil) (fun _ _ _ _ _ => (pe_call G_law_shares (hr.mono (by omega)) (by rfl) D_law_shares.m D_law_shares.F.kp D_law_shares.b .nil pass0 (pa_cons (pv 0) (pa_cons (pv 5) (pa_cons (pe_call G_law_pick (hr.mono (by omega)) (by rfl) D_law_pick.m D_law_pick.F.kp D_law_pick.b .nil pass0 (pa_cons (pv 0) (pa_cons pe_int pa_nil))) pa_nil)))))))
      (pss_cons (ps_set (i := 8) nd rfl (.inl rfl) (pe_lst pa_nil))
      (pss_cons (ps_for PassesOwn.never rfl (pi_range1 (by rfl) B.range (pa_cons (pv 5) pa_nil)) (pg_name (i := 9) nd rfl (.inr rfl)) (pss_cons (ps_set (i := 10) nd rfl (.inl rfl) (pe_call G_law_some (hr.mono (by omega)) (by rfl) D_law_some.m D_law_some.F.kp D_law_some.b .nil pass0 (pa_cons (pv 0) (pa_cons (pe_lst (pa_cons (pe_tup (pa_cons (pv 9) pa_nil)) (pa_cons (pe_tup (pa_cons (pe_op op_mulW pe_int (pv 9)) (pa_cons pe_int pa_nil))) (pa_cons (pe_tup (pa_cons (pe_op op_add (pe_op op_mulW pe_int (pv 9)) pe_int) (pa_cons pe_int (pa_cons pe_int pa_nil)))) (pa_cons (pe_op (k_rep (K := K) rfl) (pe_tup (pa_cons (pe_op op_add pe_int (pv 9)) pa_nil)) pe_int) (pa_cons (pe_tup pa_nil) pa_nil)))))) pa_nil))))
      (pss_cons (ps_set (i := 11) nd rfl (.inl rfl) (pe_callTy (k_tupOf (K := K) rfl) (by rfl) B.tuple (by decide +kernel) (pa_cons (pe_lc (own := [("world", 7)]) rfl nd (pi_range1 (by rfl) B.range (pa_cons (pv 1) pa_nil)) (blkOk_by (own := [("world", 7)]) (by kernel_rfl)) (fun _ _ _ _ _ => (pg_name (i := 7) nd rfl (.inl rfl))) (fun _ _ _ _ _ => pts_nil) (fun _ _ _ _ _ => (pe_call G_law_times (hr.mono (by omega)) (by rfl) D_law_times.m D_law_times.F.kp D_law_times.b .nil pass0 (pa_cons (pe_ix (k_ixT (K := K) rfl) (pv 2) (pv 7) (fun _ _ => rfl)) (pa_cons (pe_ix (k_ixL (K := K) rfl) (pe_ix (k_ixL (K := K) rfl) (pv 6) (pv 7) (fun _ _ => rfl)) (pv 9) (fun _ _ => rfl)) pa_nil))))) pa_nil)))
      (pss_one (ps_expr (pe_bm PySem.F.plainAttrs_list PySem.F.slot_list_append PySem.F.type_list_append mt_append (pv 8) (pa_cons (pe_tup (pa_cons (pe_op (k_cat (K := K) rfl) (pe_tup (pa_cons (pe_op op_mulW pe_int (pv 9)) pa_nil)) (pv 10)) (pa_cons (pv 11) (pa_cons (pe_call G_law_node (hr.mono (by omega)) (by rfl) D_law_node.m D_law_node.F.kp D_law_node.b .nil pass0 (pa_cons (pv 0) (pa_cons (pv 1) (pa_cons (pv 11) (pa_cons (pe_op op_sub (pv 3) pe_int) (pa_cons (pv 4) pa_nil)))))) pa_nil)))) pa_nil)))))))
      (pss_one (ps_ret (pe_callTy (k_tupOf (K := K) rfl) (by rfl) B.tuple (by decide +kernel) (pa_cons (pv 8) pa_nil))))))))), ?_⟩
  -- many = 1 + _law_pick(bag, 3)
  refine ⟨_, rfl, b, g, 3, rfl, hB.B, by decide, by decide, fun r H1 r0 r1 B1 F1 => ⟨_, _, rfl, rfl, ?_⟩⟩
  obtain ⟨mm, em⟩ : ∃ mm : Nat, 1 + r = (mm : Int) := ⟨(1 + r).toNat, by omega⟩
  have mm1 : 1 ≤ mm := by omega
  have mm3 : mm ≤ 3 := by omega
  show gName 5 (V.int (1 + r)) _ _ _
  rw [em]
  have B1 := hB.bag B1 F1
  have F1 : Frl b g l H H1 := .ofF F1
  have hav1 := hav.keep (hB.kt F1)
  -- left[0] -= many
  refine ⟨_, rfl, l, _, 0, _, rfl, rfl, SqL.of B1.hl, rfl, _, rfl, _, _, rfl, rfl, l, _, 0, 0, rfl, rfl, B1.hl, rfl, ?_⟩
  have B2 : BagL (upd H1 l (.lst ([V.int L].set 0 (.int (L - (mm : Int)))))) b g l (L - (mm : Int)) := B1.updL
  have F2 : Frl b g l H1 (upd H1 l (.lst ([V.int L].set 0 (.int (L - (mm : Int)))))) := Frl.updL
  generalize upd H1 l (.lst ([V.int L].set 0 (.int (L - (mm : Int))))) = H2 at B2 F2
  have hav2 := hav1.keep (B1.kt F2)
  have F02 := F1.trans F2
  clear F1 F2 B1 hav1
  -- rows
  refine ⟨_, rfl, _, rfl, by omega, by omega, fun R hR => ?_⟩
  obtain ⟨Rb, Rg, Rl⟩ := B2.neNew hR
  refine lc_range (lo := 0) (n := W) (fun i H3 => ∃ ds : List (List Rat), ds.length = i ∧ RowsAt K b g l (fun _ => False) H3 R ds ∧ (∀ d ∈ ds, IsShares mm d) ∧ BagL H3 b g l (L - (mm : Int)) ∧ Frl b g l H2 H3)
    ⟨[], rfl, ⟨Rb, Rg, Rl, (fun z => z), [], upd_same, rfl, fun i r d e1 _ => by simp at e1⟩, fun d h => absurd h List.not_mem_nil, B2.updN Rb Rg Rl, (Frl.refl b g l H2).updN hR⟩ ?_ ?_
  · rintro i H3 hi ⟨ds, hd, hRows, hS, B3, F3⟩
    refine ⟨rfl, ?_⟩
    refine iteT (B := ∃ ds : List (List Rat), ds.length = i + 1 ∧ RowsAt K b g l (fun _ => False) H3 R ds ∧ (∀ d ∈ ds, IsShares mm d) ∧ BagL H3 b g l (L - (mm : Int)) ∧ Frl b g l H2 H3) ?_
    refine ⟨_, rfl, _, rfl, _, rfl, b, g, 2, rfl, B3.B, by decide, by decide, fun r H4 r0 r1 B4 F4 => ?_⟩
    refine ⟨b, g, mm, r, rfl, B4, mm1, by omega, r0, by omega, fun ρ d us H5 hI h5 t5 fr B5 F5 => ?_⟩
    have B4 := B3.bag B4 F4
    have F4 : Frl b g l H3 H4 := .ofF F4
    have k4 := B3.kt (K := K) F4
    have nρ4 := B4.neNew fr
    have B5 := B4.bag B5 F5
    have F5 : Frl b g l H4 H5 := .ofF F5
    have k5 := k4.trans (B4.kt F5)
    have F35 := F4.trans F5
    obtain ⟨_, _, _, _, rs, h1, h2, h3⟩ := hRows.keep k5 F35
    have ρR : ρ ≠ R := fun z => by
      rw [z] at fr
      obtain ⟨_, _, _, _, rs', h1', _⟩ := hRows.keep k4 F4
      rw [h1'] at fr
      cases fr
    have kR : KT K H5 (upd H5 R (.lst (rs.map V.ref ++ [V.ref ρ]))) := KT.updL h1
    refine ⟨_, h1, by rw [List.length_map]; exact small1000 (by omega), ds ++ [d], by rw [List.length_append, hd]; rfl, ⟨Rb, Rg, Rl, (fun z => z), rs ++ [ρ], by rw [upd_same, List.map_append]; rfl, by rw [List.length_append, List.length_append, h2]; rfl, ?_⟩, ?_, B5.updN Rb Rg Rl, (F3.trans F35).updN hR⟩
    · intro j ρ' d' e1 e2
      by_cases hj : j < rs.length
      · rw [List.getElem?_append_left hj] at e1
        rw [List.getElem?_append_left (by omega)] at e2
        obtain ⟨nR, m1, m2, m3, us', u1, u2⟩ := h3 j ρ' d' e1 e2
        exact ⟨nR, m1, m2, m3, us', by rw [upd_ne nR.1]; exact u1, u2.keep kR⟩
      · have ej : j = rs.length := by
          have := (List.getElem?_eq_some_iff.mp e1).1
          rw [List.length_append] at this
          simp at this
          omega
        subst ej
        rw [List.getElem?_append_right (Nat.le_refl _), Nat.sub_self] at e1
        rw [h2, List.getElem?_append_right (Nat.le_refl _), Nat.sub_self] at e2
        cases e1
        cases e2
        exact ⟨⟨ρR, fun z => z⟩, nρ4.1, nρ4.2.1, nρ4.2.2, us, by rw [upd_ne ρR]; exact h5, t5.keep kR⟩
    · intro d' hd'
      rcases List.mem_append.mp hd' with h | h
      · exact hS d' h
      · rw [List.mem_singleton.mp h]
        exact hI
  rintro H3 ⟨ds, hd, hRows, hS, B3, F3⟩
  have hav3 := hav2.keep (B2.kt F3)
  have F03 := F02.trans F3
  clear F3 F02 hav2 B2
  -- found = []
  refine ⟨Nat.zero_le _, fun φ hφ => ?_⟩
  obtain ⟨φb, φg, φl⟩ := B3.neNew hφ
  have sφ : Same H3 (upd H3 φ (.lst [])) := same_upd hφ
  have hφ0 : H φ = none := F03.none hφ φb φg φl
  -- for k in range(many)
  refine ⟨_, rfl, _, rfl, by omega, by omega, for_range (lo := 0) (n := mm) (fun i σ H4 => ∃ (qs : Qn m) (us : List V) (L4 : Int) (o7 o9 o10 o11 : Option V),
      σ = [some (.ref b), some (.int (W : Int)), some av, some (.int ((m + 1 : Nat) : Int)), some (.ref l), some (.int (mm : Int)), some (.ref R), o7, some (.ref φ), o9, o10, o11] ∧ qs.length = i ∧ H4 φ = some (.lst us) ∧ TdAll K H4 us (qs.map (anD m)) ∧
      (∀ j a, qs[j]? = some a → AnIs W m ahead ds j a) ∧ ((cntB m qs : Nat) : Int) + L4 = L - (mm : Int) ∧ (L - (mm : Int) ≤ L4 ∨ lowL m ≤ L4) ∧ RowsAt K b g l (fun x => x = φ) H4 R ds ∧ R ≠ φ ∧ Td K H4 av (wsD ahead) ∧ BagL H4 b g l L4 ∧ Frl b g l H H4)
    ⟨[], [], L - (mm : Int), none, none, none, none, rfl, rfl, upd_same, .nil, fun j a h => by simp at h, by show ((0 : Nat) : Int) + _ = _; omega, .inl (Int.le_refl _), (hRows.avoid hφ).keep (Same.kt sφ) (.of sφ), ?_, hav3.keep (Same.kt sφ), B3.updN φb φg φl, F03.updN hφ0⟩ ?_ ?_⟩
  · intro z
    obtain ⟨_, _, _, _, rs, h1, _⟩ := hRows
    rw [z, hφ] at h1
    cases h1
  · clear sφ hRows B3 F03 hφ hav3
    rintro i σ H4 hi ⟨qs, us, L4, o7, o9, o10, o11, rfl, hq, h4, t4, hA, hc, hlow, hRows, hRφ, hav4, B4, F4⟩
    have hk : (0 : Int) + (i : Int) = (i : Int) := by omega
    show gName 9 (.int (0 + (i : Int))) _ _ _
    rw [hk]
    -- the five words
    refine ⟨_, rfl, _, rfl, (by show 1 ≤ sizeLine; decide), fun p1 n1 => ?_⟩
    refine ⟨_, rfl, _, _, rfl, rfl, cmul_small (by decide) (by omega), (by show 2 ≤ sizeLine; decide), fun p2 n2 => ?_⟩
    refine ⟨_, rfl, _, _, rfl, rfl, cmul_small (by decide) (by omega), _, _, rfl, rfl, (by show 3 ≤ sizeLine; decide), fun p3 n3 => ?_⟩
    refine ⟨_, rfl, _, _, rfl, rfl, (by show 1 ≤ sizeLine; decide), fun p4 n4 => ?_⟩
    have s4 : Same H4 (upd (upd (upd (upd H4 p1 (.tup [.int (i : Int)])) p2 (.tup [.int (7 * (i : Int)), .int 3])) p3 (.tup [.int (9 * (i : Int) + 1), .int 0, .int 99])) p4 (.tup [.int (90 + (i : Int))])) :=
      (((same_upd n1).trans (same_upd n2)).trans (same_upd n3)).trans (same_upd n4)
    refine ⟨p4, 7, _, rfl, rfl, .inl (.inl upd_same), by simp, by decide, by decide, by simp, fun p5 H5 s5 t5 => ?_⟩
    refine ⟨Nat.zero_le _, fun p6 n6 => ?_⟩
    refine ⟨(by show 5 ≤ sizeLine; decide), fun t nt => ?_⟩
    have t1 : SqT K (upd (upd H5 p6 (.tup [])) t (.lst [.ref p1, .ref p2, .ref p3, .ref p5, .ref p6])) p1 [.int (i : Int)] := Same.kt (same_upd nt) _ _ (Same.kt (same_upd n6) _ _ (Same.kt s5 _ _ (Same.kt (same_upd n4) _ _ (Same.kt (same_upd n3) _ _ (Same.kt (same_upd n2) _ _ (.inl (.inl upd_same)))))))
    have t2 : SqT K (upd (upd H5 p6 (.tup [])) t (.lst [.ref p1, .ref p2, .ref p3, .ref p5, .ref p6])) p2 [.int (7 * (i : Int)), .int 3] := Same.kt (same_upd nt) _ _ (Same.kt (same_upd n6) _ _ (Same.kt s5 _ _ (Same.kt (same_upd n4) _ _ (Same.kt (same_upd n3) _ _ (.inl (.inl upd_same))))))
    have t3 : SqT K (upd (upd H5 p6 (.tup [])) t (.lst [.ref p1, .ref p2, .ref p3, .ref p5, .ref p6])) p3 [.int (9 * (i : Int) + 1), .int 0, .int 99] := Same.kt (same_upd nt) _ _ (Same.kt (same_upd n6) _ _ (Same.kt s5 _ _ (Same.kt (same_upd n4) _ _ (.inl (.inl upd_same)))))
    have t5' : SqT K (upd (upd H5 p6 (.tup [])) t (.lst [.ref p1, .ref p2, .ref p3, .ref p5, .ref p6])) p5 _ := Same.kt (same_upd nt) _ _ (Same.kt (same_upd n6) _ _ t5)
    have t6 : SqT K (upd (upd H5 p6 (.tup [])) t (.lst [.ref p1, .ref p2, .ref p3, .ref p5, .ref p6])) p6 [] := Same.kt (same_upd nt) _ _ (.inl (.inl upd_same))
    have s6 : Same H4 (upd (upd H5 p6 (.tup [])) t (.lst [.ref p1, .ref p2, .ref p3, .ref p5, .ref p6])) := ((s4.trans s5).trans (same_upd n6)).trans (same_upd nt)
    have ht : (upd (upd H5 p6 (.tup [])) t (.lst [.ref p1, .ref p2, .ref p3, .ref p5, .ref p6])) t = some (.lst [.ref p1, .ref p2, .ref p3, .ref p5, .ref p6]) := upd_same
    have nt4 : H4 t = none := ((s4.trans s5).trans (same_upd n6)).free nt
    generalize upd (upd H5 p6 (.tup [])) t (.lst [.ref p1, .ref p2, .ref p3, .ref p5, .ref p6]) = H6 at t1 t2 t3 t5' t6 s6 ht ⊢
    have tw : TdAll K H6 [.ref p1, .ref p2, .ref p3, .ref p5, .ref p6] ((five (i : Int)).map wdD) := by
      refine .cons (.tup t1 (tdAll_ints [(i : Int)])) (.cons (.tup t2 (tdAll_ints [7 * (i : Int), 3])) (.cons (.tup t3 (tdAll_ints [9 * (i : Int) + 1, 0, 99])) (.cons (.tup t5' ?_) (.cons (.tup t6 .nil) .nil))))
      have e : (List.replicate (Int.toNat 7) [V.int (90 + (i : Int))]).flatten = (List.replicate 7 (90 + (i : Int))).map V.int := rfl
      rw [e]
      exact tdAll_ints _
    clear t1 t2 t3 t5' t6 t5 n6 n4 n3 n2 n1 nt s5 s4
    obtain ⟨tb, tg, tl⟩ := B4.neNew nt4
    have B6 := B4.keep s6
    refine ⟨b, g, t, _, rfl, B6.B, ht, tb, tg, by simp, by simp, fun jj x H7 hx B7 F7 => ?_⟩
    obtain ⟨dx, hdx, tx⟩ := tw.getV hx
    obtain ⟨wd, hwd, rfl⟩ : ∃ wd, (five (i : Int))[jj]? = some wd ∧ dx = wdD wd := by
      rw [List.getElem?_map] at hdx
      cases e : (five (i : Int))[jj]? with
      | none =>
        rw [e] at hdx
        cases hdx
      | some wd =>
        rw [e] at hdx
        exact ⟨wd, rfl, (Option.some.inj hdx).symm⟩
    have hwok := five_ok (k := (i : Int)) (by omega) (by omega) wd (List.mem_of_getElem? hwd)
    have B7 := B6.bag B7 F7
    have F7 : Frl b g l H6 H7 := .ofF F7
    have F67 : Frl b g l H4 H7 := (Frl.of s6).trans F7
    have k67 : KT K H4 H7 := (Same.kt s6).trans (B6.kt F7)
    have tx7 := tx.keep (B6.kt F7)
    have hR7 := hRows.keep k67 F67
    have t7 := t4.keep k67
    have h7 := F67 φ _ h4 φb φg φl
    have hav7 := hav4.keep k67
    have F07 := F4.trans F67
    clear hRows t4 h4 hav4 F4 F67 k67 F7 tx tw hx hdx B6 ht s6 nt4 B4
    -- weights
    refine ⟨_, rfl, _, rfl, by omega, by omega, fun wd' nw => ?_⟩
    obtain ⟨wb, wg, wl⟩ := B7.neNew nw
    obtain ⟨aA, aX, rfl, aS, aT⟩ := hav7.tupE
    refine lc_range (lo := 0) (n := W) (fun j H8 => ∃ vs : List V, H8 wd' = some (.lst vs) ∧ TdAll K H8 vs (((wk W ahead ds i).take j).map rD) ∧ Same H7 H8) ⟨[], upd_same, .nil, same_upd nw⟩ ?_ ?_
    · rintro j H8 hj ⟨vs, h8, t8, s8⟩
      refine ⟨rfl, ?_⟩
      refine iteT (B := ∃ vs : List V, H8 wd' = some (.lst vs) ∧ TdAll K H8 vs (((wk W ahead ds i).take (j + 1)).map rD) ∧ Same H7 H8) ?_
      have aj : ahead[j]? = some ahead[j] := List.getElem?_eq_getElem (by omega)
      obtain ⟨va, ea, ta⟩ := aT.get (i := j) (d := rD ahead[j]) (by rw [List.getElem?_map, aj]; rfl)
      obtain ⟨_, _, _, _, rs, h1, h2, h3⟩ := hR7.keep (Same.kt s8) (.of s8)
      have rj : rs[j]? = some rs[j] := List.getElem?_eq_getElem (by omega)
      have dj : ds[j]? = some ds[j] := List.getElem?_eq_getElem (by omega)
      obtain ⟨_, _, _, _, us', u1, u2⟩ := h3 j _ _ rj dj
      obtain ⟨ps, c1, c2, c3, c4⟩ := hS _ (List.getElem_mem (show j < ds.length by omega))
      have lj : ds[j].length = mm := by rw [c4, List.length_map, c1]
      have di : ds[j][i]? = some (ds[j][i]'(by omega)) := List.getElem?_eq_getElem _
      obtain ⟨vb, eb, tb'⟩ := u2.get (i := i) (d := rD (ds[j][i]'(by omega))) (by rw [List.getElem?_map, di]; rfl)
      have hj0 : (0 : Int) + (j : Int) = ((j : Nat) : Int) := by omega
      have ca := hch _ (List.getElem_mem (show j < ahead.length by omega))
      obtain ⟨pp, ss, q1, q2, q3, q4⟩ := share_at (hS _ (List.getElem_mem (show j < ds.length by omega))) hi
      have eqi : ds[j][i]'(by omega) = mkRat (pp : Int) ss := by rw [← q4]; exact (getD_of di).symm
      have cb : Ch 1 (ds[j][i]'(by omega)) := by
        rw [eqi]
        exact ch_share q1 (by omega) q3
      have z1 : LL ^ e < 2 ^ 4200 := pow_lt2000 (by omega)
      have z2 : LL ^ 1 < 2 ^ 4200 := pow_lt2000 (by decide)
      refine ⟨_, rfl, _, rfl, aA, aX, _, va, rfl, by rw [hj0], Same.kt s8 _ _ aS, atI_nat ea, ?_⟩
      refine ⟨_, rfl, _, rfl, R, _, _, _, rfl, by rw [hj0], SqL.of h1, atI_nat (by rw [List.getElem?_map, rj]; rfl), _, rfl, rs[j], us', (i : Int), vb, rfl, rfl, SqL.of u1, atI_nat eb, ?_⟩
      refine ⟨va, vb, _, _, rfl, ta.keep (Same.kt s8), tb', Nat.lt_of_le_of_lt ca.den z1, Nat.lt_of_le_of_lt cb.den z2, Nat.lt_of_le_of_lt ca.num z1, Nat.lt_of_le_of_lt cb.num z2, fun v H9 s9 tv => ?_⟩
      have h9 := s9 _ _ h8
      have kw : KT K H9 (upd H9 wd' (.lst (vs ++ [v]))) := KT.updL h9
      refine ⟨vs, h9, ?_, vs ++ [v], upd_same, ?_, fun a o z => ?_⟩
      · rw [t8.len, List.length_map, List.length_take]
        exact small1000 (by omega)
      · have ewk : (wk W ahead ds i)[j]? = some (ahead[j] * (ds[j][i]'(by omega))) := by
          unfold wk
          rw [List.getElem?_map, List.getElem?_range hj]
          show some (ahead.getD j 0 * (ds.getD j []).getD i 0) = some (ahead[j] * (ds[j][i]'(by omega)))
          rw [getD_of aj, getD_of dj, getD_of di]
        rw [List.take_add_one, ewk, List.map_append]
        exact (t8.keep ((Same.kt s9).trans kw)).app (.cons (tv.keep kw) .nil)
      · rw [upd_ne (ne_of_none z nw)]
        exact s9 _ _ (s8 _ _ z)
    · rintro H8 ⟨vs, h8, t8, s8⟩
      have lw : (wk W ahead ds i).length = W := by
        unfold wk
        rw [List.length_map, List.length_range]
      rw [List.take_of_length_le (by omega)] at t8
      refine ⟨wd', vs, rfl, SqL.of h8, fun wt H9 s9 q9 => ?_⟩
      have s79 := s8.trans s9
      have twt : Td K H9 (.ref wt) (wsD (wk W ahead ds i)) := .tup q9 (t8.keep (Same.kt s9))
      -- found.append(..)
      have h9 := s79 _ _ h7
      refine ⟨_, rfl, .inl ⟨rfl, _, SqL.of h9⟩, _, rfl, _, _, rfl, rfl, cmul_small (by decide) (by omega), (by show 1 ≤ sizeLine; decide), fun p1 n1 => ?_⟩
      obtain ⟨xa, xs, rfl, xS, xT⟩ := tx7.tupE
      have xe := tdAll_intsE xT
      subst xe
      refine ⟨_, rfl, p1, xa, _, _, rfl, rfl, .inl (.inl upd_same), Same.kt (same_upd n1) _ _ (Same.kt s79 _ _ xS), ?_, fun pw H10 s10 q10 => ?_⟩
      · rw [List.length_map]
        have := hwok.1
        exact Nat.le_of_lt (small1000 (by simp; omega))
      have s910 : Same H9 H10 := (same_upd n1).trans s10
      have s710 := s79.trans s910
      have B10 := B7.keep s710
      have hlev : (((m + 1 : Nat) : Int)) - 1 = (m : Int) := by omega
      refine ⟨_, rfl, _, rfl, _, rfl, _, rfl, _, rfl, _, _, rfl, rfl, _, rfl, ?_⟩
      have hdr : ∀ (a : An m), NdF W m a.2.1 a.2.2 → a.1 = 11 * (i : Int) :: wd → a.2.1 = wk W ahead ds i → ∀ j a', (qs ++ [a])[j]? = some a' → AnIs W m ahead ds j a' := by
        intro a o1 o2 o3 j a' ea
        by_cases hj : j < qs.length
        · rw [List.getElem?_append_left hj] at ea
          exact hA j a' ea
        · have ej : j = qs.length := by
            have := (List.getElem?_eq_some_iff.mp ea).1
            rw [List.length_append] at this
            simp at this
            omega
          subst ej
          rw [List.getElem?_append_right (Nat.le_refl _), Nat.sub_self] at ea
          cases ea
          exact ⟨⟨wd, by rw [o2, hq], hwok.1, hwok.2⟩, by rw [o3, hq], o1⟩
      have chk : ∀ r ∈ wk W ahead ds i, Ch (e + 1) r := by
        intro r hr
        unfold wk at hr
        obtain ⟨j, hj, rfl⟩ := List.mem_map.mp hr
        have hj := List.mem_range.mp hj
        have hj2 : j < ds.length := by omega
        rw [getD_of (List.getElem?_eq_getElem hj2)]
        obtain ⟨p, s, s0, s1, ps, e1⟩ := share_at (hS _ (List.getElem_mem hj2)) hi
        rw [e1]
        exact (mem_getD0 hch (by omega)).mul s0 (by omega) ps
      refine ⟨b, g, l, W, e + 1, .ref wt, wk W ahead ds i, L4, congrArg (fun z => [V.ref b, V.int (W : Int), V.ref wt, V.int z, V.ref l]) hlev, B10, twt.keep (Same.kt s910), lw, chk, by omega, hW1, hW5, fun v tn L5 H11 tv nok hcnt hlow5 B11 F11 => ?_⟩
      refine ⟨(by show 3 ≤ sizeLine; decide), fun pa na => ?_⟩
      have F911 : Frl b g l H7 H11 := (Frl.of s710).trans F11
      have k711 : KT K H7 H11 := (Same.kt s710).trans (B10.kt F11)
      have h11 := F911 φ _ h7 φb φg φl
      have naφ : φ ≠ pa := ne_of_none h11 na
      have h12 : (upd H11 pa (.tup [.ref pw, .ref wt, v])) φ = some (.lst us) := by
        rw [upd_ne naφ]
        exact h11
      have s12 : Same H11 (upd H11 pa (.tup [.ref pw, .ref wt, v])) := same_upd na
      refine ⟨φ, us, _, rfl, rfl, h12, ?_, ?_⟩
      · rw [t7.len, List.length_map]
        exact small1000 (by omega)
      have kf : KT K (upd H11 pa (.tup [.ref pw, .ref wt, v])) (upd (upd H11 pa (.tup [.ref pw, .ref wt, v])) φ (.lst (us ++ [.ref pa]))) := KT.updL h12
      have kall : KT K H7 (upd (upd H11 pa (.tup [.ref pw, .ref wt, v])) φ (.lst (us ++ [.ref pa]))) := (k711.trans (Same.kt s12)).trans kf
      have k1011 : KT K H10 (upd (upd H11 pa (.tup [.ref pw, .ref wt, v])) φ (.lst (us ++ [.ref pa]))) := ((B10.kt F11).trans (Same.kt s12)).trans kf
      have tan : Td K (upd (upd H11 pa (.tup [.ref pw, .ref wt, v])) φ (.lst (us ++ [.ref pa]))) (.ref pa) (anD m (11 * (i : Int) :: wd, wk W ahead ds i, tn)) := by
        refine .tup (kf _ _ (.inl (.inl upd_same))) (.cons ?_ (.cons ?_ (.cons (tv.keep ((Same.kt s12).trans kf)) .nil)))
        · exact .tup (k1011 _ _ q10) (tdAll_ints (11 * (i : Int) :: wd))
        · exact twt.keep ((Same.kt s910).trans k1011)
      have F712 : Frl b g l H7 (upd H11 pa (.tup [.ref pw, .ref wt, v])) := F911.trans (.of s12)
      have R12 := hR7.keep (k711.trans (Same.kt s12)) F712
      refine ⟨qs ++ [(11 * (i : Int) :: wd, wk W ahead ds i, tn)], us ++ [.ref pa], L5, _, _, _, _, rfl, by rw [List.length_append, hq]; rfl, upd_same, ?_, hdr _ nok rfl rfl, ?_, ?_, ?_, hRφ, hav7.keep kall, ?_, ?_⟩
      · rw [List.map_append]
        exact (t7.keep kall).app (.cons tan .nil)
      · rw [cntB_snoc]
        show ((cntB m qs + cnt m tn : Nat) : Int) + L5 = _
        omega
      · rcases hlow with hl | hl <;> rcases hlow5 with hl5 | hl5 <;> omega
      · obtain ⟨_, _, _, _, rs, h1, h2, h3⟩ := R12
        refine ⟨Rb, Rg, Rl, hRφ, rs, by rw [upd_ne hRφ]; exact h1, h2, fun j r d e1 e2 => ?_⟩
        obtain ⟨m0, m1, m2, m3, us', u1, u2⟩ := h3 j r d e1 e2
        exact ⟨m0, m1, m2, m3, us', by rw [upd_ne m0.2]; exact u1, u2.keep kf⟩
      · exact (B11.keep s12).updN φb φg φl
      · exact (F07.trans F712).updN hφ0
  · rintro σ H4 ⟨qs, us, L4, o7, o9, o10, o11, rfl, hq, h4, t4, hA, hc, hlow, hRows, hRφ, hav4, B4, F4⟩
    refine ⟨_, rfl, φ, us, rfl, SqL.of h4, fun v H5 s5 q5 => ?_⟩
    obtain ⟨ok1, ok2⟩ := drawn_ok mm1 mm3 hq hd hla hS hch (by omega) hA
    refine q (.ref v) qs L4 H5 (.tup q5 (t4.keep (Same.kt s5))) ⟨ok1, by omega, fun a ha r hr => (ok2 a ha r hr).mono (by omega)⟩ ?_ ?_ ?_ (B4.keep s5) (F4.trans (.of s5))
    · intro a ha
      obtain ⟨j, hj, rfl⟩ := List.getElem_of_mem ha
      exact (hA j _ (List.getElem?_eq_getElem hj)).ok
    · rw [cntQ_eq]
      omega
    · rcases hlow with hl | hl
      · exact .inl (by omega)
      · exact .inr hl
end
end Tl
namespace Tl
open PySem PySem.Spec PyProof.Rows L2 RZ
theorem cnt_snoc (n : Nat) (qs : List (Qn n)) (q : Qn n) : cnt (n + 1) (qs ++ [q] : List (Qn n)) = cnt (n + 1) qs + cntQ n q := by
  rw [cnt_succ, cnt_succ, List.map_append, List.sum_append]
  rfl
section
variable {P : Program} {w : World} {K : PySem.W.Frag} {mg : Str → Option Value} {base : Heap}
theorem ok_law_node {n : Nat} {f f1 f2 : Addr} {fd fd1 fd2 : FuncData} (D : Dn K mg "_law_node" s_law_node ["bag", "worlds", "ahead", "rounds", "left"] f fd) (B : Blt mg) (D_law_pick : Dn K mg "_law_pick" s_law_pick ["bag", "many"] f1 fd1)
    (D_law_question : Dn K mg "_law_question" s_law_question ["bag", "worlds", "ahead", "rounds", "left"] f2 fd2) (G_law_question : FnOk P w K mg base CX0 (5 + 2 * n) f2 fd2 ["bag", "worlds", "ahead", "rounds", "left"] (spQ K n)) :
    FnOk P w K mg base CX0 (6 + 2 * n) f fd ["bag", "worlds", "ahead", "rounds", "left"] (spN K n) := by
  have G_law_pick : FnOk P w K mg base CX0 1 f1 fd1 ["bag", "many"] spPick := ok_law_pick D_law_pick B
  rw [show 6 + 2 * n = (5 + 2 * n) + 1 by omega]
  refine D.F.ok sc_law_node (fun vs H Q E h => ?_) (fun cdv A outer s H vs Q E hr h => ?_)
  · obtain ⟨b, g, l, W, e, av, ahead, L, rfl, _⟩ := h
    rfl
  obtain ⟨b, g, l, W, e, av, ahead, L, rfl, hB, hav, hla, hch, hel, hW1, hW5, q⟩ := h
  have nd := sc_law_node.nd
  refine ⟨_, (pss_cons (ps_if (PW.pt (pw_or (pt_cmpR op_eq (pv 3) pe_int (nomark _)) (pw_or1 (pt_cmpR op_le (pe_ix (k_ixL (K := K) rfl) (pv 4) pe_int (fun _ _ => rfl)) pe_int (nomark _))))) (pss_one (ps_ret (pe_tup pa_nil))) pss_nil)
      (pss_one (ps_ret (pe_callTy (k_tupOf (K := K) rfl) (by rfl) B.tuple (by decide +kernel) (pa_cons (pe_lc (own := [("k", 5)]) rfl nd (pi_range1 (by rfl) B.range (pa_cons (pe_call G_law_pick (hr.mono (by omega)) (by rfl) D_law_pick.m D_law_pick.F.kp D_law_pick.b .nil pass0 (pa_cons (pv 0) (pa_cons pe_int pa_nil))) pa_nil)) (blkOk_by (own := [("k", 5)]) (by kernel_rfl)) (fun _ _ _ _ _ => (pg_name (i := 5) nd rfl (.inl rfl))) (fun _ _ _ _ _ => pts_nil) (fun _ _ _ _ _ => (pe_call G_law_question (hr.mono (by omega)) (by rfl) D_law_question.m D_law_question.F.kp D_law_question.b .nil pass0 (pa_cons (pv 0) (pa_cons (pv 1) (pa_cons (pv 2) (pa_cons (pv 3) (pa_cons (pv 4) pa_nil)))))))) pa_nil))))), ?_⟩
  have none_ : ∀ p, H p = none → Q (.ref p) (upd H p (.tup [])) := fun p np => by
    refine q (.ref p) (emptyNd n) L _ ?_ (ndF_empty _ _ _) (by rw [cnt_empty]; omega) (.inl (Int.le_refl _)) (hB.keep (same_upd np)) (.of (same_upd np))
    rw [ndD_empty]
    exact .tup (.inl (.inl upd_same)) .nil
  refine ⟨_, rfl, rfl, _, rfl, ?_⟩
  refine ite2 (fun c => ?_) (fun c => ?_)
  · exact iteT ⟨Nat.zero_le _, none_⟩
  refine ⟨_, rfl, l, _, 0, _, rfl, rfl, SqL.of hB.hl, at_of (j := 0) rfl rfl, _, _, rfl, rfl, _, rfl, ?_⟩
  refine ite2 (fun c2 => ?_) (fun c2 => ?_)
  · exact ⟨Nat.zero_le _, none_⟩
  have hL : 0 < L := by
    have : ¬ L ≤ 0 := by simpa using c2
    omega
  cases n with
  | zero => exact absurd rfl c
  | succ n =>
    refine ⟨_, rfl, b, g, 3, rfl, hB.B, by decide, by decide, fun r H1 r0 r1 B1 F1 => ⟨_, rfl, by omega, by omega, fun T hT => ?_⟩⟩
    have B1 := hB.bag B1 F1
    have F1 : Frl b g l H H1 := .ofF F1
    have hav1 := hav.keep (hB.kt F1)
    obtain ⟨Tb, Tg, Tl'⟩ := B1.neNew hT
    obtain ⟨mm, em⟩ : ∃ mm : Nat, r = (mm : Int) := ⟨r.toNat, by omega⟩
    have emm : r.toNat = mm := by omega
    rw [emm]
    have T0 : H T = none := F1.none hT Tb Tg Tl'
    refine lc_range (lo := 0) (n := mm) (fun i H2 => ∃ (us : List V) (qs : List (Qn n)) (L2 : Int), qs.length = i ∧ H2 T = some (.lst us) ∧ TdAll K H2 us (qs.map (qnD n)) ∧ (∀ q ∈ qs, (QnOk W ahead q ∧ Few q) ∧ ∀ a ∈ q, NdF W n a.2.1 a.2.2) ∧ ((cnt (n + 1) qs : Nat) : Int) + L2 = L ∧
        (L2 = L ∨ lowL (n + 1) + 3 * ((2 : Int) - i) ≤ L2) ∧ Td K H2 av (wsD ahead) ∧ BagL H2 b g l L2 ∧ Frl b g l H H2)
      ⟨[], [], L, rfl, upd_same, .nil, fun q h => absurd h List.not_mem_nil, by show ((0 : Nat) : Int) + L = L; omega, .inl rfl, hav1.keep (Same.kt (same_upd hT)), B1.updN Tb Tg Tl', F1.updN T0⟩ ?_ ?_
    · rintro i H2 hi ⟨us, qs, L2, hq, h2, t2, ok2, c2, low2, av2, B2, F2⟩
      refine ⟨rfl, ?_⟩
      refine iteT (B := ∃ (us : List V) (qs : List (Qn n)) (L2 : Int), qs.length = i + 1 ∧ H2 T = some (.lst us) ∧ TdAll K H2 us (qs.map (qnD n)) ∧ (∀ q ∈ qs, (QnOk W ahead q ∧ Few q) ∧ ∀ a ∈ q, NdF W n a.2.1 a.2.2) ∧ ((cnt (n + 1) qs : Nat) : Int) + L2 = L ∧
        (L2 = L ∨ lowL (n + 1) + 3 * ((2 : Int) - ((i + 1 : Nat) : Int)) ≤ L2) ∧ Td K H2 av (wsD ahead) ∧ BagL H2 b g l L2 ∧ Frl b g l H H2) ?_
      refine ⟨_, rfl, _, rfl, _, rfl, _, rfl, _, rfl, ?_⟩
      refine ⟨b, g, l, W, e, av, ahead, L2, rfl, B2, av2, hla, hch, hel, hW1, hW5, fun v qn L3 H3 tv ok3 nok3 c3 low3 B3 F3 => ?_⟩
      have k3 := B2.kt (K := K) F3
      have h3 := F3 T _ h2 Tb Tg Tl'
      have kT : KT K H3 (upd H3 T (.lst (us ++ [v]))) := KT.updL h3
      refine ⟨us, h3, ?_, us ++ [v], qs ++ [qn], L3, by rw [List.length_append, hq]; rfl, upd_same, ?_, ?_, ?_, ?_, av2.keep (k3.trans kT), B3.updN Tb Tg Tl', (F2.trans F3).updN T0⟩
      · rw [t2.len, List.length_map]
        exact small1000 (by omega)
      · rw [List.map_append]
        exact (t2.keep (k3.trans kT)).app (.cons (tv.keep kT) .nil)
      · intro q' hq'
        rcases List.mem_append.mp hq' with h | h
        · exact ok2 q' h
        · rw [List.mem_singleton.mp h]
          exact ⟨ok3, nok3⟩
      · rw [cnt_snoc]
        omega
      · have e1 : lowL (n + 1) = lowL n - 3 := by
          unfold lowL
          omega
        have e2 : lowL n = -(3 * (n : Int) + 2) := rfl
        refine .inr ?_
        rcases low2 with l2 | l2 <;> rcases low3 with l3 | l3 <;> omega
    · rintro H2 ⟨us, qs, L2, hq, h2, t2, ok2, c2, low2, av2, B2, F2⟩
      refine ⟨T, us, rfl, SqL.of h2, fun v H3 s3 q3 => ?_⟩
      refine q (.ref v) qs L2 H3 (.tup q3 (t2.keep (Same.kt s3))) ⟨by show qs.length ≤ 5; omega, ok2⟩ c2 ?_ (B2.keep s3) (F2.trans (.of s3))
      rcases low2 with l2 | l2
      · exact .inl (by omega)
      · exact .inr (by omega)
/-- both, by the number of levels -/
theorem ok_law_qn {f f1 f2 f3 f4 f5 f6 f7 : Addr} {fd fd1 fd2 fd3 fd4 fd5 fd6 fd7 : FuncData} (D_law_question : Dn K mg "_law_question" s_law_question ["bag", "worlds", "ahead", "rounds", "left"] f fd) (B : Blt mg) (D_law_low : Dn K mg "_law_low" s_law_low ["top", "bottom"] f1 fd1) (D_law_common : Dn K mg "_law_common" s_law_common ["one", "other"] f2 fd2)
    (D_law_pick : Dn K mg "_law_pick" s_law_pick ["bag", "many"] f3 fd3) (D_law_shares : Dn K mg "_law_shares" s_law_shares ["bag", "many", "least"] f4 fd4) (D_law_some : Dn K mg "_law_some" s_law_some ["bag", "things"] f5 fd5) (D_law_times : Dn K mg "_law_times" s_law_times ["one", "other"] f6 fd6)
    (D_law_node : Dn K mg "_law_node" s_law_node ["bag", "worlds", "ahead", "rounds", "left"] f7 fd7) :
    ∀ n : Nat, FnOk P w K mg base CX0 (5 + 2 * n) f fd ["bag", "worlds", "ahead", "rounds", "left"] (spQ K n) ∧ FnOk P w K mg base CX0 (6 + 2 * n) f7 fd7 ["bag", "worlds", "ahead", "rounds", "left"] (spN K n)
  | 0 => by
    have h0 : FnOk P w K mg base CX0 (5 + 2 * 0) f fd ["bag", "worlds", "ahead", "rounds", "left"] (spQ K 0) := ⟨fun vs H Q E h => h.elim, fun A outer s H args us vs Q E _ _ _ _ h => h.elim⟩
    exact ⟨h0, ok_law_node D_law_node B D_law_pick D_law_question h0⟩
  | n + 1 => by
    have ih := ok_law_qn D_law_question B D_law_low D_law_common D_law_pick D_law_shares D_law_some D_law_times D_law_node n
    have h1 : FnOk P w K mg base CX0 (5 + 2 * (n + 1)) f fd ["bag", "worlds", "ahead", "rounds", "left"] (spQ K (n + 1)) := by
      have := ok_law_question D_law_question B D_law_low D_law_common D_law_pick D_law_shares D_law_some D_law_times D_law_node ih.2
      rw [show 5 + 2 * (n + 1) = 7 + 2 * n by omega]
      exact this
    exact ⟨h1, ok_law_node D_law_node B D_law_pick D_law_question h1⟩
end
end Tl
namespace Tl
open PySem PySem.Spec PyProof.Rows L2 RZ
def ones (W : Nat) : List Rat := List.replicate W 1
theorem ones_ch {W e : Nat} : ∀ r ∈ ones W, Ch e r := fun r hr => by
  rw [(List.mem_replicate.mp hr).2]
  exact ch_one
theorem rD_one : rD 1 = .tuple [.int 1, .int 1] := rfl
theorem rD_zero : rD 0 = .tuple [.int 0, .int 1] := rfl
theorem tdAll_rep {K : PySem.W.Frag} {H : Hp} {v : V} {d : PyData} (h : Td K H v d) : ∀ n : Nat, TdAll K H (List.replicate n v) (List.replicate n d)
  | 0 => .nil
  | n + 1 => by
    rw [List.replicate_succ, List.replicate_succ]
    exact .cons h (tdAll_rep h n)
theorem flat_rep {α : Type} (v : α) : ∀ n : Nat, (List.replicate n [v]).flatten = List.replicate n v
  | 0 => rfl
  | n + 1 => by
    rw [List.replicate_succ, List.flatten_cons, flat_rep v n, List.replicate_succ]
    rfl
theorem ones_td {K : PySem.W.Frag} {H : Hp} {p q : Addr} {W : Nat} (hq : Td K H (.ref q) (rD 1)) (hp : SqT K H p (List.replicate (W : Int).toNat [V.ref q]).flatten) : Td K H (.ref p) (wsD (ones W)) := by
  rw [flat_rep, Int.toNat_natCast] at hp
  refine .tup hp ?_
  unfold ones
  rw [List.map_replicate]
  exact tdAll_rep hq W
/-- a drawn tree -/
def spTree (K : PySem.W.Frag) (n : Nat) : Sp := fun vs H Q _ => ∃ (b g : Addr) (W : Nat) (A : Nat), vs = [.ref b, .int (W : Int), .int ((n + 1 : Nat) : Int), .int (A : Int)] ∧ Bag H b g ∧ n + 1 ≤ 5 ∧ 1 ≤ W ∧ W ≤ 5 ∧
  ∀ (v : V) (t : Nd (n + 1)) (H' : Hp), Td K H' v (ndD (n + 1) t) → NdF W (n + 1) (ones W) t → cnt (n + 1) t ≤ A + 3 * n + 8 → Bag H' b g → Frm b g H H' → Q v H'
section
variable {P : Program} {w : World} {K : PySem.W.Frag} {mg : Str → Option Value} {base : Heap}
theorem ok_law_tree {n : Nat} {f f1 f2 : Addr} {fd fd1 fd2 : FuncData} (D : Dn K mg "_law_tree" s_law_tree ["bag", "worlds", "rounds", "answers"] f fd) (B : Blt mg) (D_law_pick : Dn K mg "_law_pick" s_law_pick ["bag", "many"] f1 fd1)
    (D_law_question : Dn K mg "_law_question" s_law_question ["bag", "worlds", "ahead", "rounds", "left"] f2 fd2) (G_law_question : FnOk P w K mg base CX0 (5 + 2 * (n + 1)) f2 fd2 ["bag", "worlds", "ahead", "rounds", "left"] (spQ K (n + 1))) :
    FnOk P w K mg base CX0 (6 + 2 * (n + 1)) f fd ["bag", "worlds", "rounds", "answers"] (spTree K n) := by
  have G_law_pick : FnOk P w K mg base CX0 1 f1 fd1 ["bag", "many"] spPick := ok_law_pick D_law_pick B
  rw [show 6 + 2 * (n + 1) = (5 + 2 * (n + 1)) + 1 by omega]
  refine D.F.ok sc_law_tree (fun vs H Q E h => ?_) (fun cdv A outer s H vs Q E hr h => ?_)
  · obtain ⟨b, g, W, A, rfl, _⟩ := h
    rfl
  obtain ⟨b, g, W, A, rfl, hB, hn, hW1, hW5, q⟩ := h
  have nd := sc_law_tree.nd
  refine ⟨_, (pss_cons (ps_asg (pe_tup (pa_cons (pe_op (k_rep (K := K) rfl) (pe_tup (pa_cons (pe_tup (pa_cons pe_int (pa_cons pe_int pa_nil))) pa_nil)) (pv 1)) (pa_cons (pe_lst (pa_cons (pv 3) pa_nil)) pa_nil))) (k_tup (K := K) (n := 2) rfl rfl (pgs_cons (pg_name (i := 4) nd rfl (.inr rfl)) (pgs_cons (pg_name (i := 5) nd rfl (.inr rfl)) pgs_nil))))
      (pss_cons (ps_setLc (i := 6) (own := [("k", 7)]) rfl nd rfl rfl (sw_true rfl rfl rfl (by decide +kernel)) (pi_range1 (by rfl) B.range (pa_cons (pe_op op_add pe_int (pe_call G_law_pick (hr.mono (by omega)) (by rfl) D_law_pick.m D_law_pick.F.kp D_law_pick.b .nil pass0 (pa_cons (pv 0) (pa_cons pe_int pa_nil)))) pa_nil)) (blkOk_by (own := [("k", 7)]) (by kernel_rfl)) (fun _ _ _ _ _ => (pg_name (i := 7) nd rfl (.inl rfl))) (fun _ _ _ _ _ => pts_nil) (fun _ _ _ _ _ => (pe_call G_law_question (hr.mono (by omega)) (by rfl) D_law_question.m D_law_question.F.kp D_law_question.b .nil pass0 (pa_cons (pv 0) (pa_cons (pv 1) (pa_cons (pv 4) (pa_cons (pv 2) (pa_cons (pv 5) pa_nil))))))))
      (pss_one (ps_ret (pe_callTy (k_tupOf (K := K) rfl) (by rfl) B.tuple (by decide +kernel) (pa_cons (pv 6) pa_nil)))))), ?_⟩
  refine ⟨(by show 2 ≤ sizeLine; decide), fun p1 n1 => ⟨(by show 1 ≤ sizeLine; decide), fun p2 n2 => ?_⟩⟩
  have s2 : Same H (upd (upd H p1 (.tup [.int 1, .int 1])) p2 (.tup [.ref p1])) := (same_upd n1).trans (same_upd n2)
  refine ⟨_, rfl, p2, (W : Int), _, rfl, rfl, .inl (.inl upd_same), by simp, by omega, by omega, by simp, fun pa H3 s3 q3 => ?_⟩
  refine ⟨_, rfl, (by show 1 ≤ sizeLine; decide), fun l nl => ?_⟩
  refine ⟨(by show 2 ≤ sizeLine; decide), fun pt npt => ?_⟩
  have hl : (upd (upd H3 l (.lst [.int (A : Int)])) pt (.tup [.ref pa, .ref l])) l = some (.lst [.int (A : Int)]) := by
    rw [upd_ne (ne_of_none (H := upd H3 l (.lst [.int (A : Int)])) upd_same npt)]
    exact upd_same
  have s35 : Same H3 (upd (upd H3 l (.lst [.int (A : Int)])) pt (.tup [.ref pa, .ref l])) := (same_upd nl).trans (same_upd npt)
  have s5 := (s2.trans s3).trans s35
  have t1 : Td K (upd (upd H3 l (.lst [.int (A : Int)])) pt (.tup [.ref pa, .ref l])) (.ref p1) (rD 1) := by
    rw [rD_one]
    exact .tup (Same.kt s35 _ _ (Same.kt s3 _ _ (Same.kt (same_upd n2) _ _ (.inl (.inl upd_same))))) (tdAll_ints [1, 1])
  have ta : Td K (upd (upd H3 l (.lst [.int (A : Int)])) pt (.tup [.ref pa, .ref l])) (.ref pa) (wsD (ones W)) := ones_td t1 (Same.kt s35 _ _ q3)
  have nl0 : H l = none := (s2.trans s3).free nl
  obtain ⟨lb, lg⟩ := hB.neNew nl0
  refine ⟨pt, [.ref pa, .ref l], rfl, .inl (.inl upd_same), rfl, _, _, rfl, _, _, rfl, rfl, ?_⟩
  generalize upd (upd H3 l (.lst [.int (A : Int)])) pt (.tup [.ref pa, .ref l]) = H5 at hl s5 ta
  have B5 : BagL H5 b g l (A : Int) := ⟨hB.keep s5, hl, lb, lg⟩
  clear t1
  -- some
  refine ⟨_, rfl, b, g, 2, rfl, B5.B, by decide, by decide, fun r H6 r0 r1 B6 F6 => ⟨_, _, rfl, rfl, _, rfl, by omega, by omega, fun T hT => ?_⟩⟩
  have B6 := B5.bag B6 F6
  have F6 : Frl b g l H5 H6 := .ofF F6
  have ta6 := ta.keep (B5.kt F6)
  obtain ⟨Tb, Tg, Tl'⟩ := B6.neNew hT
  obtain ⟨mm, em⟩ : ∃ mm : Nat, (1 + r).toNat = mm := ⟨_, rfl⟩
  rw [em]
  have F06 : Frl b g l H H6 := (Frl.of s5).trans F6
  have T0 : H T = none := F06.none hT Tb Tg Tl'
  refine lc_range (lo := 0) (n := mm) (fun i H2 => ∃ (us : List V) (qs : List (Qn n)) (L2 : Int), qs.length = i ∧ H2 T = some (.lst us) ∧ TdAll K H2 us (qs.map (qnD n)) ∧ (∀ q ∈ qs, (QnOk W (ones W) q ∧ Few q) ∧ ∀ a ∈ q, NdF W n a.2.1 a.2.2) ∧ ((cnt (n + 1) qs : Nat) : Int) + L2 = (A : Int) ∧
      ((A : Int) - 3 * i ≤ L2 ∨ lowL n - 3 * i ≤ L2) ∧ Td K H2 (.ref pa) (wsD (ones W)) ∧ BagL H2 b g l L2 ∧ Frl b g l H H2)
    ⟨[], [], (A : Int), rfl, upd_same, .nil, fun q h => absurd h List.not_mem_nil, by show ((0 : Nat) : Int) + (A : Int) = A; omega, .inl (by omega), ta6.keep (Same.kt (same_upd hT)), B6.updN Tb Tg Tl', F06.updN T0⟩ ?_ ?_
  · rintro i H2 hi ⟨us, qs, L2, hq, h2, t2, ok2, c2, low2, av2, B2, F2⟩
    refine ⟨rfl, ?_⟩
    refine iteT (B := ∃ (us : List V) (qs : List (Qn n)) (L2 : Int), qs.length = i + 1 ∧ H2 T = some (.lst us) ∧ TdAll K H2 us (qs.map (qnD n)) ∧ (∀ q ∈ qs, (QnOk W (ones W) q ∧ Few q) ∧ ∀ a ∈ q, NdF W n a.2.1 a.2.2) ∧ ((cnt (n + 1) qs : Nat) : Int) + L2 = (A : Int) ∧
      ((A : Int) - 3 * ((i + 1 : Nat) : Int) ≤ L2 ∨ lowL n - 3 * ((i + 1 : Nat) : Int) ≤ L2) ∧ Td K H2 (.ref pa) (wsD (ones W)) ∧ BagL H2 b g l L2 ∧ Frl b g l H H2) ?_
    refine ⟨_, rfl, _, rfl, _, rfl, _, rfl, _, rfl, ?_⟩
    refine ⟨b, g, l, W, 0, .ref pa, ones W, L2, rfl, B2, av2, by unfold ones; rw [List.length_replicate], ones_ch, by omega, hW1, hW5, fun v qn L3 H3 tv ok3 nok3 c3 low3 B3 F3 => ?_⟩
    have k3 := B2.kt (K := K) F3
    have h3 := F3 T _ h2 Tb Tg Tl'
    have kT : KT K H3 (upd H3 T (.lst (us ++ [v]))) := KT.updL h3
    refine ⟨us, h3, ?_, us ++ [v], qs ++ [qn], L3, by rw [List.length_append, hq]; rfl, upd_same, ?_, ?_, ?_, ?_, av2.keep (k3.trans kT), B3.updN Tb Tg Tl', (F2.trans F3).updN T0⟩
    · rw [t2.len, List.length_map]
      exact small1000 (by omega)
    · rw [List.map_append]
      exact (t2.keep (k3.trans kT)).app (.cons (tv.keep kT) .nil)
    · intro q' hq'
      rcases List.mem_append.mp hq' with h | h
      · exact ok2 q' h
      · rw [List.mem_singleton.mp h]
        exact ⟨ok3, nok3⟩
    · rw [cnt_snoc]
      omega
    · rcases low2 with l2 | l2 <;> rcases low3 with l3 | l3 <;> omega
  · rintro H2 ⟨us, qs, L2, hq, h2, t2, ok2, c2, low2, av2, B2, F2⟩
    refine ⟨_, rfl, T, us, rfl, SqL.of h2, fun v H3 s3 q3 => ?_⟩
    refine q (.ref v) qs H3 (.tup q3 (t2.keep (Same.kt s3))) ⟨by show qs.length ≤ 5; omega, ok2⟩ ?_ ((B2.keep s3).B) ?_
    · have e2 : lowL n = -(3 * (n : Int) + 2) := rfl
      rcases low2 with l2 | l2 <;> omega
    · intro a o ha h1 h2'
      exact (F2.trans (.of s3)) a o ha h1 h2' (fun z => by rw [z, nl0] at ha; cases ha)
end
end Tl
namespace Tl
open PySem PySem.Spec PyProof.Rows L2 RZ
/-- the module's constants -/
structure Cst (K : PySem.W.Frag) (mg : Str → Option Value) (aN aO : Addr) (t1 t2 t3 t4 t5 t6 t7 : Tok) : Prop where
  gcd : mg "gcd" = some (.builtin "math.gcd")
  lcm : mg "lcm" = some (.builtin "math.lcm")
  ONE : mg "ONE" = some (.ref aO)
  tO : ∀ H, SqT K H aO [.int 1, .int 1]
  MOST_QUESTIONS : mg "MOST_QUESTIONS" = some (.int 5 t1)
  MOST_WORDS : mg "MOST_WORDS" = some (.int 12 t2)
  MOST_NUMBERS : mg "MOST_NUMBERS" = some (.int 8 t3)
  MOST_ON_A_WAY : mg "MOST_ON_A_WAY" = some (.int 8 t4)
  MOST_PASSED : mg "MOST_PASSED" = some (.int 1500 t5)
theorem tyx_tup {K : PySem.W.Frag} {H : Hp} {a : Addr} {xs : List V} (h : SqT K H a xs) : TyX K H (.ref a) (.type "tuple") := by
  rcases h with (h | ⟨o, h⟩) | ⟨o, its, n, h, c, _⟩
  · exact .base (.tup h)
  · exact .fTuple h
  · exact .kTuple h c
def spIntegral : Sp := fun vs H Q _ => ∃ i : Int, vs = [.int i] ∧ Q (.bl true) H
def spNumber : Sp := fun vs H Q _ => ∃ i lo hi : Int, vs = [.int i, .int lo, .int hi] ∧ Q (.bl (decide (lo ≤ i) && decide (i ≤ hi))) H
def spFraction (K : PySem.W.Frag) : Sp := fun vs H Q _ => ∃ (v : V) (q : Rat), vs = [v] ∧ Td K H v (rD q) ∧ Q (.bl true) H
def spChance (K : PySem.W.Frag) : Sp := fun vs H Q _ => ∃ (v : V) (q : Rat), vs = [v] ∧ Td K H v (rD q) ∧ 0 ≤ q ∧ q ≤ 1 ∧ Q (.bl true) H
def spReduced (K : PySem.W.Frag) : Sp := fun vs H Q _ => ∃ (t : Int) (b : Nat), vs = [.int t, .int (b : Int)] ∧ 0 < b ∧ b < 2 ^ 8500 ∧ ∀ v H', Same H H' → Td K H' v (rD (mkRat t b)) → Q v H'
/-- small enough to be reckoned with -/
def Sm (q : Rat) : Prop := q.den < 2 ^ 3300 ∧ q.num.natAbs < 2 ^ 3300
theorem ll_lt1500 {e : Nat} (h : e ≤ 16) : LL ^ e < 2 ^ 3300 := Nat.lt_of_le_of_lt (ll_small (k := 3000) (by omega)) (Nat.pow_lt_pow_right (by decide) (by decide))
theorem Ch.sm {e : Nat} {q : Rat} (h : Ch e q) (he : e ≤ 16) : Sm q := ⟨Nat.lt_of_le_of_lt h.den (ll_lt1500 he), Nat.lt_of_le_of_lt h.num (ll_lt1500 he)⟩
def spAdded (K : PySem.W.Frag) : Sp := fun vs H Q _ => ∃ (x y : V) (p q : Rat), vs = [x, y] ∧ Td K H x (rD p) ∧ Td K H y (rD q) ∧ Sm p ∧ Sm q ∧ ∀ v H', Same H H' → Td K H' v (rD (p + q)) → Q v H'
theorem mapAt {α β : Type} {l : List α} {f : α → β} {i : Nat} {y : β} (h : (l.map f)[i]? = some y) : ∃ x, l[i]? = some x ∧ y = f x := by
  rw [List.getElem?_map] at h
  cases e : l[i]? with
  | none =>
    rw [e] at h
    cases h
  | some x =>
    rw [e] at h
    exact ⟨x, rfl, (Option.some.inj h).symm⟩
/-! fractions with one bottom -/
def fr (D : Nat) (n : Int) : Rat := mkRat n D
theorem fr_add {D : Nat} (hD : 0 < D) (m n : Int) : fr D m + fr D n = fr D (m + n) := mk_add m n D hD
theorem fsum_fr {D : Nat} (hD : 0 < D) : ∀ ns : List Int, fsum (ns.map (fr D)) = fr D ns.sum
  | [] => by
    show (0 : Rat) = mkRat 0 D
    rw [Rat.zero_mkRat]
  | n :: r => by
    rw [List.map_cons, fsum_cons, fsum_fr hD r, fr_add hD]
    rfl
def abssum (ns : List Int) : Nat := (ns.map Int.natAbs).sum
theorem abssum_cons (n : Int) (r : List Int) : abssum (n :: r) = n.natAbs + abssum r := rfl
theorem abssum_mem {ns : List Int} {n : Int} (h : n ∈ ns) : n.natAbs ≤ abssum ns := by
  induction ns with
  | nil => exact absurd h List.not_mem_nil
  | cons x r ih =>
    rw [abssum_cons]
    rcases List.mem_cons.mp h with rfl | h
    · omega
    · have := ih h
      omega
theorem fr_sm {D : Nat} (hD : 0 < D) (h : D < 2 ^ 3300) {n : Int} (hn : n.natAbs < 2 ^ 3300) : Sm (fr D n) := by
  refine ⟨Nat.lt_of_le_of_lt (mkRat_den_le n D hD) h, Nat.lt_of_le_of_lt ?_ hn⟩
  show (mkRat n D).num.natAbs ≤ _
  rw [(mkRat_parts n D hD).1]
  exact Int.natAbs_ediv_le_natAbs _ _
/-- the sums of pairs -/
def prs : List Int → List Int
  | a :: b :: r => (a + b) :: prs r
  | _ => []
theorem prs_len : ∀ ns : List Int, (prs ns).length = ns.length / 2
  | [] => by
    show 0 = 0 / 2
    decide
  | [a] => by
    show 0 = 1 / 2
    decide
  | a :: b :: r => by
    show (prs r).length + 1 = (r.length + 1 + 1) / 2
    rw [prs_len r]
    omega
theorem prs_at : ∀ (ns : List Int) (i : Nat) (x y : Int), ns[2 * i]? = some x → ns[2 * i + 1]? = some y → (prs ns)[i]? = some (x + y)
  | [], i, x, y, h, _ => by simp at h
  | [a], i, x, y, _, h => by simp at h
  | a :: b :: r, 0, x, y, h1, h2 => by
    cases h1
    cases h2
    rfl
  | a :: b :: r, i + 1, x, y, h1, h2 => by
    rw [show 2 * (i + 1) = 2 * i + 1 + 1 by omega] at h1 h2
    exact prs_at r i x y (by simpa using h1) (by simpa using h2)
def pw (ns : List Int) : List Int := prs ns ++ ns.drop (2 * (prs ns).length)
theorem pw_cons (a b : Int) (r : List Int) : pw (a :: b :: r) = (a + b) :: pw r := rfl
theorem pw_sum : ∀ ns : List Int, (pw ns).sum = ns.sum
  | [] => rfl
  | [a] => rfl
  | a :: b :: r => by
    rw [pw_cons]
    show (a + b) + (pw r).sum = a + (b + r.sum)
    rw [pw_sum r]
    omega
theorem pw_abs : ∀ ns : List Int, abssum (pw ns) ≤ abssum ns
  | [] => Nat.le_refl _
  | [a] => Nat.le_refl _
  | a :: b :: r => by
    rw [pw_cons, abssum_cons, abssum_cons, abssum_cons]
    have := pw_abs r
    omega
theorem pw_len (ns : List Int) : (pw ns).length = ns.length - (prs ns).length := by
  unfold pw
  have := prs_len ns
  rw [List.length_append, List.length_drop]
  omega
def frN (D : Nat) (r : Rat) : Int := r.num * ((D / r.den : Nat) : Int)
theorem fr_frN {D : Nat} (hD : 0 < D) {r : Rat} (h : r.den ∣ D) : fr D (frN D r) = r := by
  obtain ⟨k, e⟩ := h
  have d0 : 0 < r.den := Nat.pos_of_ne_zero r.den_nz
  have k0 : k ≠ 0 := fun z => by
    rw [z, Nat.mul_zero] at e
    omega
  have ek : D / r.den = k := by rw [e]; exact Nat.mul_div_cancel_left k d0
  unfold fr frN
  rw [ek]
  show mkRat (r.num * (k : Int)) D = r
  rw [e, Rat.mkRat_mul_right k0]
  exact rat_mk r
theorem frs_frN {D : Nat} (hD : 0 < D) : ∀ {rs : List Rat}, (∀ r ∈ rs, r.den ∣ D) → (rs.map (frN D)).map (fr D) = rs
  | [], _ => rfl
  | r :: rs, h => by
    rw [List.map_cons, List.map_cons, fr_frN hD (h r (List.mem_cons_self ..)), frs_frN hD fun x hx => h x (List.mem_cons_of_mem _ hx)]
theorem frN_abs {D : Nat} {r : Rat} (h : r.den ∣ D) (h0 : 0 ≤ r) (h1 : r ≤ 1) : (frN D r).natAbs ≤ D := by
  have a := (Rat.le_iff r 1).mp h1
  have b := Rat.num_nonneg.mpr h0
  have c : (1 : Rat).num = 1 := rfl
  have d : (1 : Rat).den = 1 := rfl
  rw [c, d] at a
  have n1 : r.num.natAbs ≤ r.den := by omega
  unfold frN
  rw [Int.natAbs_mul, Int.natAbs_natCast]
  have := Nat.mul_le_mul_right (D / r.den) n1
  rw [Nat.mul_div_cancel' h] at this
  exact this
theorem frNs_abs {D : Nat} : ∀ {rs : List Rat}, (∀ r ∈ rs, r.den ∣ D ∧ 0 ≤ r ∧ r ≤ 1) → abssum (rs.map (frN D)) ≤ rs.length * D
  | [], _ => by
    rw [List.length_nil, Nat.zero_mul]
    exact Nat.le_refl 0
  | r :: rs, h => by
    rw [List.map_cons, abssum_cons, List.length_cons, Nat.add_mul, Nat.one_mul]
    obtain ⟨a, b, c⟩ := h r (List.mem_cons_self ..)
    have := frN_abs a b c
    have := frNs_abs fun x hx => h x (List.mem_cons_of_mem _ hx)
    omega
theorem TdAll.drop {K : PySem.W.Frag} {H : Hp} : ∀ {us : List V} {ds : List PyData} (k : Nat), TdAll K H us ds → TdAll K H (us.drop k) (ds.drop k)
  | _, _, 0, h => h
  | _, _, _ + 1, .nil => .nil
  | _, _, k + 1, .cons _ t => TdAll.drop k t
theorem cut_drop {xs : List V} {k : Nat} (h : k ≤ xs.length) : cutV xs (some (k : Int)) none = xs.drop k := by
  unfold cutV
  rw [HT.sIx_nat, HT.sIx_none, Nat.min_eq_left h]
  exact List.take_of_length_le (by rw [List.length_drop]; omega)
theorem rat0_td {K : PySem.W.Frag} {H : Hp} {a : Addr} (h : SqT K H a [.int 0, .int 1]) : Td K H (.ref a) (rD 0) := by
  have e : rD 0 = .tuple [.int 0, .int 1] := rfl
  rw [e]
  exact .tup h (tdAll_ints [0, 1])
def spTotal (K : PySem.W.Frag) : Sp := fun vs H Q _ => ∃ (r : Addr) (us : List V) (D : Nat) (ns : List Int), vs = [.ref r] ∧ (SqL K H r us ∨ SqT K H r us) ∧ TdAll K H us ((ns.map (fr D)).map rD) ∧ 0 < D ∧ D < 2 ^ 3300 ∧ abssum ns < 2 ^ 3300 ∧ ns.length ≤ 1000 ∧
  ∀ v H', Same H H' → Td K H' v (rD (fsum (ns.map (fr D)))) → Q v H'
def tot (W : Nat) (rows : List (List Rat)) : List Rat := (List.range W).map fun j => fsum (rows.map fun r => r.getD j 0)
def spTotW (K : PySem.W.Frag) : Sp := fun vs H Q _ => ∃ (r : Addr) (us : List V) (W : Nat) (rows : List (List Rat)), vs = [.ref r, .int (W : Int)] ∧ SqL K H r us ∧ TdAll K H us (rows.map wsD) ∧ 1 ≤ W ∧ W ≤ 5 ∧ rows.length ≤ 900 ∧ (∀ x ∈ rows, x.length = W) ∧
  (∀ j, j < W → ∃ D : Nat, 0 < D ∧ D < 2 ^ 3300 ∧ (∀ x ∈ rows, (x.getD j 0).den ∣ D) ∧ abssum ((rows.map fun x => x.getD j 0).map (frN D)) < 2 ^ 3300) ∧ ∀ v H', Same H H' → Td K H' v (wsD (tot W rows)) → Q v H'
def spChances (K : PySem.W.Frag) : Sp := fun vs H Q _ => ∃ (v : V) (ws : List Rat), vs = [v, .int ((ws.length : Nat) : Int)] ∧ Td K H v (wsD ws) ∧ ws.length ≤ 100 ∧ (∀ r ∈ ws, 0 ≤ r ∧ r ≤ 1) ∧ ∀ H', Same H H' → Q (.bl true) H'
theorem tot_len (W : Nat) (rows : List (List Rat)) : (tot W rows).length = W := by
  unfold tot
  rw [List.length_map, List.length_range]
/-! the least common bottom -/
def lcmL (rs : List Rat) : Nat := rs.foldl (fun b r => Nat.lcm b r.den) 1
theorem lcmL_snoc (rs : List Rat) (r : Rat) : lcmL (rs ++ [r]) = Nat.lcm (lcmL rs) r.den := by
  unfold lcmL
  rw [List.foldl_append]
  rfl
theorem foldlcm : ∀ (rs : List Rat) (b : Nat), b ∣ rs.foldl (fun b r => Nat.lcm b r.den) b ∧ (∀ r ∈ rs, r.den ∣ rs.foldl (fun b r => Nat.lcm b r.den) b) ∧ (∀ D, b ∣ D → (∀ r ∈ rs, r.den ∣ D) → rs.foldl (fun b r => Nat.lcm b r.den) b ∣ D)
  | [], b => ⟨Nat.dvd_refl _, fun r h => absurd h List.not_mem_nil, fun D h _ => h⟩
  | x :: rs, b => by
    obtain ⟨h1, h2, h3⟩ := foldlcm rs (Nat.lcm b x.den)
    rw [List.foldl_cons]
    refine ⟨Nat.dvd_trans (Nat.dvd_lcm_left b x.den) h1, fun r hr => ?_, fun D hb hr => h3 D (Nat.lcm_dvd hb (hr x (List.mem_cons_self ..))) fun r h => hr r (List.mem_cons_of_mem _ h)⟩
    rcases List.mem_cons.mp hr with rfl | hr
    · exact Nat.dvd_trans (Nat.dvd_lcm_right b r.den) h1
    · exact h2 r hr
theorem lcmL_mem {rs : List Rat} {r : Rat} (h : r ∈ rs) : r.den ∣ lcmL rs := (foldlcm rs 1).2.1 r h
theorem lcmL_dvd {rs : List Rat} {D : Nat} (h : ∀ r ∈ rs, r.den ∣ D) : lcmL rs ∣ D := (foldlcm rs 1).2.2 D (Nat.one_dvd _) h
theorem lcmL_pos {rs : List Rat} {D : Nat} (hD : 0 < D) (h : ∀ r ∈ rs, r.den ∣ D) : 0 < lcmL rs := Nat.pos_of_dvd_of_pos (lcmL_dvd h) hD
theorem fr_den {D : Nat} (hD : 0 < D) (n : Int) : (fr D n).den ∣ D := by
  unfold fr
  rw [Rat.den_mkRat, if_neg (by omega)]
  exact Nat.div_dvd_of_dvd (Nat.gcd_dvd_left _ _)
theorem fr_num_le {D : Nat} (hD : 0 < D) (n : Int) : (fr D n).num.natAbs ≤ n.natAbs := by
  show (mkRat n D).num.natAbs ≤ _
  rw [(mkRat_parts n D hD).1]
  exact Int.natAbs_ediv_le_natAbs _ _
theorem fsum_lcm {rs : List Rat} {D : Nat} (hD : 0 < D) (h : ∀ r ∈ rs, r.den ∣ D) : mkRat (rs.map (frN (lcmL rs))).sum (lcmL rs) = fsum rs := by
  have e := frs_frN (lcmL_pos hD h) (rs := rs) fun r hr => lcmL_mem hr
  have s := fsum_fr (lcmL_pos hD h) (rs.map (frN (lcmL rs)))
  rw [e] at s
  exact s.symm
def spCB (K : PySem.W.Frag) : Sp := fun vs H Q _ => ∃ (r : Addr) (us : List V) (D : Nat) (rs : List Rat), vs = [.ref r] ∧ (SqL K H r us ∨ SqT K H r us) ∧ TdAll K H us (rs.map rD) ∧ 0 < D ∧ D < 2 ^ 3300 ∧ (∀ x ∈ rs, x.den ∣ D) ∧ Q (.int ((lcmL rs : Nat) : Int)) H
def spTW (K : PySem.W.Frag) : Sp := fun vs H Q _ => ∃ (v : V) (r : Rat) (m : Nat), vs = [v, .int (m : Int)] ∧ Td K H v (rD r) ∧ m < 2 ^ 3300 ∧ r.num.natAbs < 2 ^ 3300 ∧ r.den < 2 ^ 3300 ∧ Q (.int (frN m r)) H
def DTot (K : PySem.W.Frag) (mg : Str → Option Value) (f : Addr) (fd : FuncData) : Prop := Dn K mg "common_bottom" s_common_bottom ["fractions"] f fd ∧ ∃ f2 fd2, Dn K mg "times_whole" s_times_whole ["fraction", "whole"] f2 fd2
section
variable {P : Program} {w : World} {K : PySem.W.Frag} {mg : Str → Option Value} {base : Heap} {aN aO : Addr} {t1 t2 t3 t4 t5 t6 t7 : Tok}
theorem ok_is_integral {f : Addr} {fd : FuncData} (D : Dn K mg "is_integral" s_is_integral ["thing"] f fd) (B : Blt mg) : FnOk P w K mg base CX0 1 f fd ["thing"] spIntegral := by
  refine D.F.ok sc_is_integral (fun vs H Q E h => ?_) (fun cdv A outer s H vs Q E hr h => ?_)
  · obtain ⟨i, rfl, _⟩ := h
    rfl
  obtain ⟨i, rfl, q⟩ := h
  have nd := sc_is_integral.nd
  refine ⟨_, (pss_one (ps_ret (pe_and (pe_callB (k_isi (K := K) rfl) (by rfl) B.isinstance (by decide +kernel) (pa_cons (pv 0) (pa_cons (pe_bltn (v := .ty "int") (u := .type "int") (by rfl) B.int (by decide +kernel) rfl) pa_nil))) (pe_one (pe_not (pe_callB (k_isi (K := K) rfl) (by rfl) B.isinstance (by decide +kernel) (pa_cons (pv 0) (pa_cons (pe_bltn (v := .ty "bool") (u := .type "bool") (by rfl) B.bool (by decide +kernel) rfl) pa_nil)))))))), ?_⟩
  refine ⟨_, rfl, _, _, _, _, true, rfl, .ty "int", .base (.int i), kit_ty (by decide +kernel), _, rfl, ?_⟩
  refine iteT ⟨_, rfl, _, _, _, _, false, rfl, .ty "bool", .base (.int i), kit_ty (by decide +kernel), _, rfl, q⟩
theorem ok_is_number {f f1 : Addr} {fd fd1 : FuncData} (D : Dn K mg "is_number" s_is_number ["thing", "least", "most"] f fd) (B : Blt mg) (D_is_integral : Dn K mg "is_integral" s_is_integral ["thing"] f1 fd1) : FnOk P w K mg base CX0 2 f fd ["thing", "least", "most"] spNumber := by
  have G_is_integral : FnOk P w K mg base CX0 1 f1 fd1 ["thing"] spIntegral := ok_is_integral D_is_integral B
  refine D.F.ok sc_is_number (fun vs H Q E h => ?_) (fun cdv A outer s H vs Q E hr h => ?_)
  · obtain ⟨i, lo, hi, rfl, _⟩ := h
    rfl
  obtain ⟨i, lo, hi, rfl, q⟩ := h
  have nd := sc_is_number.nd
  refine ⟨_, (pss_one (ps_ret (pe_and (pe_call G_is_integral (hr.mono (by omega)) (by rfl) D_is_integral.m D_is_integral.F.kp D_is_integral.b .nil pass0 (pa_cons (pv 0) pa_nil)) (pe_one (pe_chain op_le op_le (pv 1) (pv 0) (pv 2)))))), ?_⟩
  refine ⟨_, rfl, i, rfl, _, rfl, iteT ⟨_, rfl, _, rfl, _, _, rfl, rfl, _, rfl, ?_⟩⟩
  refine ite2 (fun c => ?_) (fun c => ?_)
  · have e : (decide (lo ≤ i) && decide (i ≤ hi)) = decide (i ≤ hi) := by rw [c, Bool.true_and]
    rw [e] at q
    exact ⟨_, rfl, _, _, rfl, rfl, q⟩
  · have c : decide (lo ≤ i) = false := Bool.eq_false_iff.mpr c
    rw [c, Bool.false_and] at q
    exact q
theorem ok_is_fraction {f f1 : Addr} {fd fd1 : FuncData} (D : Dn K mg "is_fraction" s_is_fraction ["thing"] f fd) (B : Blt mg) (C : Cst K mg aN aO t1 t2 t3 t4 t5 t6 t7) (D_is_integral : Dn K mg "is_integral" s_is_integral ["thing"] f1 fd1) : FnOk P w K mg base CX0 2 f fd ["thing"] (spFraction K) := by
  have G_is_integral : FnOk P w K mg base CX0 1 f1 fd1 ["thing"] spIntegral := ok_is_integral D_is_integral B
  refine D.F.ok sc_is_fraction (fun vs H Q E h => ?_) (fun cdv A outer s H vs Q E hr h => ?_)
  · obtain ⟨v, r, rfl, _⟩ := h
    rfl
  obtain ⟨v, r, rfl, hv, q⟩ := h
  have nd := sc_is_fraction.nd
  refine ⟨_, (pss_cons (ps_if (PW.pt (pw_or (pt_not (pt_val (pe_callB (k_isi (K := K) rfl) (by rfl) B.isinstance (by decide +kernel) (pa_cons (pv 0) (pa_cons (pe_bltn (v := .ty "tuple") (u := .type "tuple") (by rfl) B.tuple (by decide +kernel) rfl) pa_nil))))) (pw_or1 (pt_cmpR op_ne (pe_callB (k_len (K := K) rfl) (by rfl) B.len PySem.boot_len (pa_cons (pv 0) pa_nil)) pe_int (nomark _))))) (pss_one (ps_ret pe_bl)) pss_nil)
      (pss_cons (ps_asg (pv 0) (k_tup (K := K) (n := 2) rfl rfl (pgs_cons (pg_name (i := 1) nd rfl (.inl rfl)) (pgs_cons (pg_name (i := 2) nd rfl (.inl rfl)) pgs_nil))))
      (pss_one (ps_ret (pe_and (pe_call G_is_integral (hr.mono (by omega)) (by rfl) D_is_integral.m D_is_integral.F.kp D_is_integral.b .nil pass0 (pa_cons (pv 1) pa_nil)) (pe_and (pe_call G_is_integral (hr.mono (by omega)) (by rfl) D_is_integral.m D_is_integral.F.kp D_is_integral.b .nil pass0 (pa_cons (pv 2) pa_nil)) (pe_and (pe_cmpR op_ge (pv 2) pe_int (nomark _)) (pe_one (pe_cmpR op_eq (pe_callBfun cr_gcd (by rfl) C.gcd (pa_cons (pv 1) (pa_cons (pv 2) pa_nil))) pe_int (nomark _)))))))))), ?_⟩
  obtain ⟨a, rfl, hs⟩ := hv.rE
  refine ⟨_, rfl, _, _, _, _, true, rfl, .ty "tuple", tyx_tup hs, kit_ty (by decide +kernel), _, rfl, iteF ?_⟩
  refine ⟨_, rfl, a, _, rfl, .inr hs, rfl, _, rfl, iteF ?_⟩
  refine ⟨_, rfl, a, _, rfl, hs, rfl, _, _, rfl, _, _, rfl, rfl, ?_⟩
  have hd : 0 < r.den := Nat.pos_of_ne_zero r.den_nz
  have hd1 : decide ((r.den : Int) ≥ 1) = true := decide_eq_true (by omega)
  refine ⟨_, rfl, _, rfl, _, rfl, iteT ⟨_, rfl, _, rfl, _, rfl, iteT ⟨_, rfl, _, _, rfl, rfl, _, rfl, ?_⟩⟩⟩
  rw [hd1]
  refine iteT ⟨_, rfl, _, rfl, _, _, rfl, rfl, ?_⟩
  have hg : Nat.gcd r.num.natAbs ((r.den : Int)).natAbs = 1 := by
    rw [Int.natAbs_natCast]
    exact r.reduced
  show Q (.bl (decide (V.int ((Nat.gcd r.num.natAbs ((r.den : Int)).natAbs : Nat) : Int) = V.int 1))) H
  rw [hg]
  exact q
theorem rat_bound {q : Rat} (h0 : 0 ≤ q) (h1 : q ≤ 1) : 0 ≤ q.num ∧ q.num ≤ (q.den : Int) := by
  have a := (Rat.le_iff q 1).mp h1
  have b := Rat.num_nonneg.mpr h0
  have c : (1 : Rat).num = 1 := rfl
  have d : (1 : Rat).den = 1 := rfl
  rw [c, d] at a
  omega
theorem ok_is_chance {f f1 f2 : Addr} {fd fd1 fd2 : FuncData} (D : Dn K mg "is_chance" s_is_chance ["thing"] f fd) (B : Blt mg) (C : Cst K mg aN aO t1 t2 t3 t4 t5 t6 t7) (D_is_integral : Dn K mg "is_integral" s_is_integral ["thing"] f1 fd1) (D_is_fraction : Dn K mg "is_fraction" s_is_fraction ["thing"] f2 fd2) : FnOk P w K mg base CX0 3 f fd ["thing"] (spChance K) := by
  have G_is_fraction : FnOk P w K mg base CX0 2 f2 fd2 ["thing"] (spFraction K) := ok_is_fraction D_is_fraction B C D_is_integral
  refine D.F.ok sc_is_chance (fun vs H Q E h => ?_) (fun cdv A outer s H vs Q E hr h => ?_)
  · obtain ⟨v, r, rfl, _⟩ := h
    rfl
  obtain ⟨v, r, rfl, hv, h0, h1, q⟩ := h
  have nd := sc_is_chance.nd
  refine ⟨_, (pss_one (ps_ret (pe_and (pe_call G_is_fraction (hr.mono (by omega)) (by rfl) D_is_fraction.m D_is_fraction.F.kp D_is_fraction.b .nil pass0 (pa_cons (pv 0) pa_nil)) (pe_one (pe_chain op_le op_le pe_int (pe_ix (k_ixT (K := K) rfl) (pv 0) pe_int (fun _ _ => rfl)) (pe_ix (k_ixT (K := K) rfl) (pv 0) pe_int (fun _ _ => rfl))))))), ?_⟩
  obtain ⟨a, rfl, hs⟩ := id hv.rE
  obtain ⟨b0, b1⟩ := rat_bound h0 h1
  refine ⟨_, rfl, _, r, rfl, hv, _, rfl, iteT ⟨_, rfl, a, _, 0, _, rfl, rfl, hs, at_of (j := 0) rfl rfl, _, _, rfl, rfl, _, rfl, ?_⟩⟩
  rw [decide_eq_true b0]
  refine iteT ⟨_, rfl, a, _, 1, _, rfl, rfl, hs, at_of (j := 1) rfl rfl, _, _, rfl, rfl, ?_⟩
  show Q (.bl (decide (r.num ≤ (r.den : Int)))) H
  rw [decide_eq_true b1]
  exact q
theorem ok_reduced {f : Addr} {fd : FuncData} (D : Dn K mg "reduced" s_reduced ["top", "bottom"] f fd) (B : Blt mg) (C : Cst K mg aN aO t1 t2 t3 t4 t5 t6 t7) : FnOk P w K mg base CX0 1 f fd ["top", "bottom"] (spReduced K) := by
  refine D.F.ok sc_reduced (fun vs H Q E h => ?_) (fun cdv A outer s H vs Q E hr h => ?_)
  · obtain ⟨a, b, rfl, _⟩ := h
    rfl
  obtain ⟨t, b, rfl, hb, hz, q⟩ := h
  have nd := sc_reduced.nd
  refine ⟨_, (pss_cons (ps_set (i := 2) nd rfl (.inl rfl) (pe_callBfun cr_gcd (by rfl) C.gcd (pa_cons (pv 0) (pa_cons (pv 1) pa_nil))))
      (pss_one (ps_ret (pe_tup (pa_cons (pe_op op_fdivW (pv 0) (pv 2)) (pa_cons (pe_op op_fdivW (pv 1) (pv 2)) pa_nil)))))), ?_⟩
  refine ⟨_, rfl, _, rfl, _, _, rfl, ?_⟩
  rw [Int.natAbs_natCast]
  have hg0 : 0 < Nat.gcd t.natAbs b := Nat.gcd_pos_of_pos_right _ hb
  have hg1 : Nat.gcd t.natAbs b ≤ b := Nat.gcd_le_right _ hb
  have hg2 : ((Nat.gcd t.natAbs b : Nat) : Int).natAbs < 2 ^ 8500 := by
    rw [Int.natAbs_natCast]
    omega
  have dv : ∀ i : Int, CDivW i ((Nat.gcd t.natAbs b : Nat) : Int) := fun i => wide_div (b := 8500) (by omega) hg2 (by decide) (by decide)
  refine ⟨_, rfl, _, rfl, _, _, rfl, rfl, dv _, _, rfl, _, rfl, _, _, rfl, rfl, dv _, (by show 2 ≤ sizeLine; decide), fun p hp => ?_⟩
  exact q _ _ (same_upd hp) (td_rD hb upd_same)
theorem ok_common_bottom {f : Addr} {fd : FuncData} (D : Dn K mg "common_bottom" s_common_bottom ["fractions"] f fd) (B : Blt mg) (C : Cst K mg aN aO t1 t2 t3 t4 t5 t6 t7) : FnOk P w K mg base CX0 1 f fd ["fractions"] (spCB K) := by
  refine D.F.ok sc_common_bottom (fun vs H Q E h => ?_) (fun cdv A outer s H vs Q E hr h => ?_)
  · obtain ⟨r, us, D, rs, rfl, _⟩ := h
    rfl
  obtain ⟨r, us, d, rs, rfl, hS, tS, d0, d1, hdv, q⟩ := h
  have nd := sc_common_bottom.nd
  refine ⟨_, (pss_cons (ps_set (i := 1) nd rfl (.inl rfl) pe_int)
      (pss_cons (ps_for PassesOwn.never rfl (k_iLT (K := K) rfl (pv 0)) (pg_name (i := 2) nd rfl (.inl rfl)) (pss_one (ps_set (i := 1) nd rfl (.inl rfl) (pe_callBfun cr_lcm (by rfl) C.lcm (pa_cons (pv 1) (pa_cons (pe_ix (k_ixT (K := K) rfl) (pv 2) pe_int (fun _ _ => rfl)) pa_nil))))))
      (pss_one (ps_ret (pv 1))))), ?_⟩
  have lu : us.length = rs.length := by rw [tS.len, List.length_map]
  refine ⟨_, rfl, r, us, rfl, hS, fun J G w1 hG => for_it w1 (fun i σ H2 => H2 = H ∧ ∃ o2 : Option V, σ = [some (.ref r), some (.int ((lcmL (rs.take i) : Nat) : Int)), o2]) ⟨rfl, none, rfl⟩ (fun i σ H2 _ h => by rw [h.1]; exact hG _ (Same.refl _)) ?_ ?_⟩
  · rintro i x σ H0 H2 hi ⟨rfl, o2, rfl⟩ ⟨rfl, e1⟩
    obtain ⟨dx, ex, tx⟩ := tS.getV e1
    obtain ⟨x', er, rfl⟩ := mapAt ex
    obtain ⟨a, rfl, ha⟩ := tx.rE
    have l1 : lcmL (rs.take i) ∣ d := lcmL_dvd fun z hz => hdv z (List.mem_of_mem_take hz)
    have l2 := hdv x' (List.mem_of_getElem? er)
    have z : ∀ {m : Nat}, m ∣ d → m < 2 ^ 6000 := fun {m} h => Nat.lt_of_le_of_lt (Nat.le_of_dvd d0 h) (Nat.lt_trans d1 (Nat.pow_lt_pow_right (by decide) (by decide)))
    refine ⟨_, rfl, _, rfl, a, _, 1, _, rfl, rfl, ha, at_of (j := 1) rfl rfl, _, _, rfl, z l1, z l2, rfl, some (.ref a), ?_⟩
    rw [List.take_add_one, er]
    show [some (V.ref r), some (.int ((Nat.lcm (lcmL (rs.take i)) x'.den : Nat) : Int)), some (V.ref a)] = [some (V.ref r), some (.int ((lcmL (rs.take i ++ [x']) : Nat) : Int)), _]
    rw [lcmL_snoc]
  · rintro σ H2 ⟨rfl, o2, rfl⟩
    rw [lu, List.take_length]
    exact ⟨_, rfl, q⟩
theorem ok_times_whole {f : Addr} {fd : FuncData} (D : Dn K mg "times_whole" s_times_whole ["fraction", "whole"] f fd) (B : Blt mg) (C : Cst K mg aN aO t1 t2 t3 t4 t5 t6 t7) : FnOk P w K mg base CX0 1 f fd ["fraction", "whole"] (spTW K) := by
  refine D.F.ok sc_times_whole (fun vs H Q E h => ?_) (fun cdv A outer s H vs Q E hr h => ?_)
  · obtain ⟨v, r, m, rfl, _⟩ := h
    rfl
  obtain ⟨v, r, m, rfl, tv, m0, n0, b0, q⟩ := h
  have nd := sc_times_whole.nd
  refine ⟨_, (pss_one (ps_ret (pe_op op_mulW (pe_ix (k_ixT (K := K) rfl) (pv 0) pe_int (fun _ _ => rfl)) (pe_op op_fdivW (pv 1) (pe_ix (k_ixT (K := K) rfl) (pv 0) pe_int (fun _ _ => rfl)))))), ?_⟩
  obtain ⟨a, rfl, ha⟩ := tv.rE
  have hd : 0 < r.den := Nat.pos_of_ne_zero r.den_nz
  have q0 : ((m : Int) / (r.den : Int)) = ((m / r.den : Nat) : Int) := (Int.natCast_ediv _ _).symm
  have q1 : m / r.den < 2 ^ 3300 := Nat.lt_of_le_of_lt (Nat.div_le_self _ _) m0
  refine ⟨_, rfl, a, _, 0, _, rfl, rfl, ha, at_of (j := 0) rfl rfl, _, rfl, _, rfl, a, _, 1, _, rfl, rfl, ha, at_of (j := 1) rfl rfl, _, _, rfl, rfl, wide_div (b := 3300) (by omega) (by rw [Int.natAbs_natCast]; exact b0) (by decide) (by decide), _, _, rfl, rfl, ?_, ?_⟩
  · rw [q0]
    exact wide_mul n0 (by rw [Int.natAbs_natCast]; exact q1) (by decide) (by decide) (by decide)
  · show Q (.int (r.num * ((m : Int) / (r.den : Int)))) H
    rw [q0]
    exact q
theorem ok_total {f f1 f2 : Addr} {fd fd1 fd2 : FuncData} (D : Dn K mg "total" s_total ["fractions"] f fd) (B : Blt mg) (C : Cst K mg aN aO t1 t2 t3 t4 t5 t6 t7) (D_reduced : Dn K mg "reduced" s_reduced ["top", "bottom"] f1 fd1) (D_added : DTot K mg f2 fd2) : FnOk P w K mg base CX0 3 f fd ["fractions"] (spTotal K) := by
  obtain ⟨D_common_bottom, f3, fd3, D_times_whole⟩ := D_added
  have G_reduced : FnOk P w K mg base CX0 1 f1 fd1 ["top", "bottom"] (spReduced K) := ok_reduced D_reduced B C
  have G_common_bottom : FnOk P w K mg base CX0 1 f2 fd2 ["fractions"] (spCB K) := ok_common_bottom D_common_bottom B C
  have G_times_whole : FnOk P w K mg base CX0 1 f3 fd3 ["fraction", "whole"] (spTW K) := ok_times_whole D_times_whole B C
  refine D.F.ok sc_total (fun vs H Q E h => ?_) (fun cdv A outer s H vs Q E hr h => ?_)
  · obtain ⟨r, us, d, ns, rfl, _⟩ := h
    rfl
  obtain ⟨r, us, d, ns, rfl, hS, tS, hd0, hd1, hb, hl, k⟩ := h
  have nd := sc_total.nd
  refine ⟨_, (pss_cons (ps_set (i := 1) nd rfl (.inr rfl) (pe_call G_common_bottom (hr.mono (by omega)) (by rfl) D_common_bottom.m D_common_bottom.F.kp D_common_bottom.b .nil pass0 (pa_cons (pv 0) pa_nil)))
      (pss_one (ps_ret (pe_call G_reduced (hr.mono (by omega)) (by rfl) D_reduced.m D_reduced.F.kp D_reduced.b .nil pass0 (pa_cons (pe_callB (k_sum (K := K) rfl rfl) (by rfl) B.sum (by decide +kernel) (pa_cons (pe_lc (own := [("fraction", 2)]) rfl nd (k_iLT (K := K) rfl (pv 0)) (blkOk_by (own := [("fraction", 2)]) (by kernel_rfl)) (fun _ _ _ _ _ => (pg_name (i := 2) nd rfl (.inl rfl))) (fun _ _ _ _ _ => pts_nil) (fun _ _ _ _ _ => (pe_call G_times_whole (hr.mono (by omega)) (by rfl) D_times_whole.m D_times_whole.F.kp D_times_whole.b .nil pass0 (pa_cons (pv 2) (pa_cons (pv 1) pa_nil))))) pa_nil)) (pa_cons (pv 1) pa_nil)))))), ?_⟩
  have hdv : ∀ x ∈ ns.map (fr d), x.den ∣ d := fun x hx => by
    obtain ⟨n, _, rfl⟩ := List.mem_map.mp hx
    exact fr_den hd0 n
  have hnum : ∀ x ∈ ns.map (fr d), x.num.natAbs < 2 ^ 3300 := fun x hx => by
    obtain ⟨n, hn, rfl⟩ := List.mem_map.mp hx
    exact Nat.lt_of_le_of_lt (Nat.le_trans (fr_num_le hd0 n) (abssum_mem hn)) hb
  have lu : us.length = ns.length := by rw [tS.len, List.length_map, List.length_map]
  have lr : (ns.map (fr d)).length = ns.length := List.length_map ..
  have esum := fsum_lcm hd0 hdv
  have lpos := lcmL_pos hd0 hdv
  have lle := Nat.le_of_dvd hd0 (lcmL_dvd hdv)
  generalize ns.map (fr d) = rs at tS hdv hnum k esum lpos lle lr
  refine ⟨_, rfl, r, us, d, rs, rfl, hS, tS, hd0, hd1, hdv, ?_⟩
  refine ⟨_, rfl, r, us, rfl, hS, fun J G w1 hG T hT => lc_it w1 (fun i H2 => H2 T = some (.lst (((rs.map (frN (lcmL rs))).take i).map V.int)) ∧ Same H H2) ⟨upd_same, same_upd hT⟩ (fun i H2 _ h => hG H2 h.2) ?_ ?_⟩
  · rintro i x H0 H2 hi ⟨h2, s2⟩ ⟨rfl, e1⟩
    obtain ⟨dx, ex, tx⟩ := tS.getV e1
    obtain ⟨x', er, rfl⟩ := mapAt ex
    have m1 := List.mem_of_getElem? er
    refine ⟨rfl, ?_⟩
    refine iteT (B := H2 T = some (.lst (((rs.map (frN (lcmL rs))).take (i + 1)).map V.int)) ∧ Same H H2) ?_
    refine ⟨_, rfl, _, rfl, x, x', lcmL rs, rfl, tx.keep (Same.kt s2), Nat.lt_of_le_of_lt lle hd1, hnum _ m1, Nat.lt_of_le_of_lt (Nat.le_of_dvd hd0 (hdv _ m1)) hd1, _, h2, ?_, ?_, fun c o y => ?_⟩
    · rw [List.length_map, List.length_take]
      exact small1000 (by omega)
    · rw [upd_same, List.take_add_one, List.getElem?_map, er, List.map_append]
      rfl
    · rw [upd_ne (ne_of_none y hT)]
      exact s2 _ _ y
  · rintro H2 ⟨h2, s2⟩
    rw [lu, ← lr] at h2
    rw [List.take_of_length_le (by rw [List.length_map]; exact Nat.le_refl _)] at h2
    refine ⟨T, _, rfl, SqL.of h2, _, rfl, _, lcmL rs, rfl, lpos, Nat.lt_of_le_of_lt lle (Nat.lt_trans hd1 (Nat.pow_lt_pow_right (by decide) (by decide))), fun v H3 s3 tv => ?_⟩
    rw [esum] at tv
    exact k v H3 (s2.trans s3) tv
theorem ok_total_weights {f f1 f2 f3 : Addr} {fd fd1 fd2 fd3 : FuncData} (D : Dn K mg "total_weights" s_total_weights ["rows", "worlds"] f fd) (B : Blt mg) (C : Cst K mg aN aO t1 t2 t3 t4 t5 t6 t7) (D_reduced : Dn K mg "reduced" s_reduced ["top", "bottom"] f1 fd1) (D_added : DTot K mg f2 fd2)
    (D_total : Dn K mg "total" s_total ["fractions"] f3 fd3) : FnOk P w K mg base CX0 4 f fd ["rows", "worlds"] (spTotW K) := by
  have G_total : FnOk P w K mg base CX0 3 f3 fd3 ["fractions"] (spTotal K) := ok_total D_total B C D_reduced D_added
  refine D.F.ok sc_total_weights (fun vs H Q E h => ?_) (fun cdv A outer s H vs Q E hr h => ?_)
  · obtain ⟨x, y, p, q, rfl, _⟩ := h
    rfl
  obtain ⟨r, us, W, rows, rfl, hS, tS, hW1, hW5, hlr, hrow, hcol, k⟩ := h
  have nd := sc_total_weights.nd
  refine ⟨_, (pss_one (ps_ret (pe_callTy (k_tupOf (K := K) rfl) (by rfl) B.tuple (by decide +kernel) (pa_cons (pe_lc (own := [("world", 3)]) rfl nd (pi_range1 (by rfl) B.range (pa_cons (pv 1) pa_nil)) (blkOk_by (own := [("world", 3)]) (by kernel_rfl)) (fun _ _ _ _ _ => (pg_name (i := 3) nd rfl (.inr rfl))) (fun _ _ _ _ _ => pts_nil) (fun _ _ _ _ _ => (pe_call G_total (hr.mono (by omega)) (by rfl) D_total.m D_total.F.kp D_total.b .nil pass0 (pa_cons (pe_lc (own := [("weights", 2)]) rfl nd (k_iL (K := K) rfl (pv 0)) (blkOk_by (own := [("weights", 2)]) (by kernel_rfl)) (fun _ _ _ _ _ => (pg_name (i := 2) nd rfl (.inl rfl))) (fun _ _ _ _ _ => pts_nil) (fun _ _ _ _ _ => (pe_ix (k_ixT (K := K) rfl) (pv 2) (pv 3) (fun _ _ => rfl)))) pa_nil)))) pa_nil)))), ?_⟩
  have lu : us.length = rows.length := by rw [tS.len, List.length_map]
  refine ⟨_, rfl, _, rfl, by omega, by omega, fun T hT => ?_⟩
  refine lc_range (lo := 0) (n := W) (fun i H2 => ∃ vs : List V, H2 T = some (.lst vs) ∧ TdAll K H2 vs (((tot W rows).take i).map rD) ∧ Same H H2) ⟨[], upd_same, .nil, same_upd hT⟩ ?_ ?_
  · rintro i H2 hi ⟨vs, h2, t2, s2⟩
    refine ⟨rfl, ?_⟩
    refine iteT (B := ∃ vs : List V, H2 T = some (.lst vs) ∧ TdAll K H2 vs (((tot W rows).take (i + 1)).map rD) ∧ Same H H2) ?_
    obtain ⟨d, d0, d1, hdv, hab⟩ := hcol i hi
    refine ⟨_, rfl, r, rfl, ⟨_, s2.seq hS⟩, fun T2 hT2 => ?_⟩
    refine lc_list (K := K) (a := r) (xs := us) (fun j H3 => ∃ ws : List V, H3 T2 = some (.lst ws) ∧ TdAll K H3 ws (((rows.take j).map fun x => x.getD i 0).map rD) ∧ Same H2 H3) ⟨[], upd_same, .nil, same_upd hT2⟩ (fun j H3 _ h => ?_) ?_ ?_
    · obtain ⟨_, _, _, s3⟩ := h
      exact s3.seq (s2.seq hS)
    · rintro j y H3 hj ⟨ws, h3, t3, s3⟩
      obtain ⟨dy, ey, ty⟩ := tS.getV hj
      obtain ⟨x, hx, rfl⟩ := mapAt ey
      have lx := hrow x (List.mem_of_getElem? hx)
      have ty3 := ty.keep (Same.kt (s2.trans s3))
      obtain ⟨b, zs, rfl, hb, tz⟩ := ty3.tupE
      have gx : x[i]? = some (x.getD i 0) := by
        rw [List.getD_eq_getElem?_getD, List.getElem?_eq_getElem (show i < x.length by omega)]
        rfl
      obtain ⟨z, ez, tz1⟩ := tz.get (i := i) (d := rD (x.getD i 0)) (by rw [List.getElem?_map, gx]; rfl)
      have kT : KT K H3 (upd H3 T2 (.lst (ws ++ [z]))) := KT.updL h3
      refine ⟨rfl, ?_⟩
      refine iteT (B := ∃ ws : List V, H3 T2 = some (.lst ws) ∧ TdAll K H3 ws (((rows.take (j + 1)).map fun x => x.getD i 0).map rD) ∧ Same H2 H3) ?_
      refine ⟨_, rfl, _, rfl, b, zs, (0 + (i : Int)), z, rfl, rfl, hb, at_of (j := i) (by omega) ez, ws, h3, ?_, ws ++ [z], upd_same, ?_, fun c o w => ?_⟩
      · rw [t3.len, List.length_map, List.length_map, List.length_take]
        exact small1000 (by omega)
      · rw [List.take_add_one, hx, List.map_append, List.map_append]
        exact (t3.keep kT).app (.cons (tz1.keep kT) .nil)
      · rw [upd_ne (ne_of_none w hT2)]
        exact s3 _ _ w
    · rintro H3 ⟨ws, h3, t3, s3⟩
      rw [lu, List.take_length] at t3
      have er : ((rows.map fun x => x.getD i 0).map (frN d)).map (fr d) = rows.map fun x => x.getD i 0 := frs_frN d0 fun q hq => by
        obtain ⟨x, hx, rfl⟩ := List.mem_map.mp hq
        exact hdv x hx
      refine ⟨T2, ws, d, (rows.map fun x => x.getD i 0).map (frN d), rfl, .inl (SqL.of h3), by rw [er]; exact t3, d0, d1, hab, by rw [List.length_map, List.length_map]; omega, fun v H4 s4 tv => ?_⟩
      rw [er] at tv
      have s34 := s3.trans s4
      have h4 := s34 _ _ h2
      have kT : KT K H4 (upd H4 T (.lst (vs ++ [v]))) := KT.updL h4
      refine ⟨vs, h4, ?_, vs ++ [v], upd_same, ?_, fun c o w => ?_⟩
      · rw [t2.len, List.length_map, List.length_take]
        exact small1000 (by omega)
      · have et : (tot W rows)[i]? = some (fsum (rows.map fun x => x.getD i 0)) := by
          unfold tot
          rw [List.getElem?_map, List.getElem?_range hi]
          rfl
        rw [List.take_add_one, et, List.map_append]
        exact (t2.keep ((Same.kt s34).trans kT)).app (.cons (tv.keep kT) .nil)
      · rw [upd_ne (ne_of_none w hT)]
        exact s34 _ _ (s2 _ _ w)
  · rintro H2 ⟨vs, h2, t2, s2⟩
    rw [show (tot W rows).take W = tot W rows from List.take_of_length_le (by rw [tot_len]; omega)] at t2
    refine ⟨T, vs, rfl, SqL.of h2, fun l H3 s3 q3 => k (.ref l) H3 (s2.trans s3) (.tup q3 (t2.keep (Same.kt s3)))⟩
theorem ok_are_chances {f f2 f4 f5 : Addr} {fd fd2 fd4 fd5 : FuncData} (D : Dn K mg "are_chances" s_are_chances ["thing", "many"] f fd) (B : Blt mg) (C : Cst K mg aN aO t1 t2 t3 t4 t5 t6 t7) (D_is_integral : Dn K mg "is_integral" s_is_integral ["thing"] f2 fd2) (D_is_fraction : Dn K mg "is_fraction" s_is_fraction ["thing"] f4 fd4) (D_is_chance : Dn K mg "is_chance" s_is_chance ["thing"] f5 fd5) : FnOk P w K mg base CX0 4 f fd ["thing", "many"] (spChances K) := by
  have G_is_chance : FnOk P w K mg base CX0 3 f5 fd5 ["thing"] (spChance K) := ok_is_chance D_is_chance B C D_is_integral D_is_fraction
  refine D.F.ok sc_are_chances (fun vs H Q E h => ?_) (fun cdv A outer s H vs Q E hr h => ?_)
  · obtain ⟨v, ws, rfl, _⟩ := h
    rfl
  obtain ⟨v, ws, rfl, hv, hl, hch, q⟩ := h
  have nd := sc_are_chances.nd
  refine ⟨_, (pss_cons (ps_if (PW.pt (pw_or (pt_not (pt_val (pe_callB (k_isi (K := K) rfl) (by rfl) B.isinstance (by decide +kernel) (pa_cons (pv 0) (pa_cons (pe_bltn (v := .ty "tuple") (u := .type "tuple") (by rfl) B.tuple (by decide +kernel) rfl) pa_nil))))) (pw_or1 (pt_cmpR op_ne (pe_callB (k_len (K := K) rfl) (by rfl) B.len PySem.boot_len (pa_cons (pv 0) pa_nil)) (pv 1) (nomark _))))) (pss_one (ps_ret pe_bl)) pss_nil)
      (pss_one (ps_ret (pe_callB (k_all (K := K) rfl rfl) (by rfl) B.all (by decide +kernel) (pa_cons (pe_lc (own := [("chance", 2)]) rfl nd (k_iT (K := K) rfl (pv 0)) (blkOk_by (own := [("chance", 2)]) (by kernel_rfl)) (fun _ _ _ _ _ => (pg_name (i := 2) nd rfl (.inl rfl))) (fun _ _ _ _ _ => pts_nil) (fun _ _ _ _ _ => (pe_call G_is_chance (hr.mono (by omega)) (by rfl) D_is_chance.m D_is_chance.F.kp D_is_chance.b .nil pass0 (pa_cons (pv 2) pa_nil)))) pa_nil))))), ?_⟩
  obtain ⟨b, ys, rfl, hb, tb⟩ := hv.tupE
  have ly : ys.length = ws.length := by rw [tb.len, List.length_map]
  refine ⟨_, rfl, _, _, _, _, true, rfl, .ty "tuple", tyx_tup hb, kit_ty (by decide +kernel), _, rfl, iteF ?_⟩
  refine ⟨_, rfl, b, _, rfl, .inr hb, _, rfl, rfl, _, rfl, ?_⟩
  rw [ly, decide_eq_true rfl]
  refine iteF ?_
  refine ⟨_, rfl, b, rfl, ⟨_, hb⟩, fun T hT => ?_⟩
  refine lc_it (walk_tup (K := K) (a := b) (xs := ys)) (fun i H2 => H2 T = some (.lst ((List.replicate i true).map V.bl)) ∧ Same H H2) ⟨upd_same, same_upd hT⟩ (fun i H2 _ h => Same.kt h.2 _ _ hb) ?_ ?_
  · rintro i x H0 H2 hi ⟨h2, s2⟩ ⟨rfl, e1⟩
    obtain ⟨dx, ex, tx⟩ := tb.getV e1
    obtain ⟨r, er, rfl⟩ := mapAt ex
    obtain ⟨r0, r1⟩ := hch r (List.mem_of_getElem? er)
    refine ⟨rfl, ?_⟩
    refine iteT (B := H2 T = some (.lst ((List.replicate (i + 1) true).map V.bl)) ∧ Same H H2) ?_
    refine ⟨_, rfl, x, r, rfl, tx.keep (Same.kt s2), r0, r1, _, h2, ?_, ?_, fun c o y => ?_⟩
    · rw [List.length_map, List.length_replicate]
      exact small1000 (by omega)
    · rw [upd_same, List.replicate_succ', List.map_append]
      rfl
    · rw [upd_ne (ne_of_none y hT)]
      exact s2 _ _ y
  · rintro H2 ⟨h2, s2⟩
    refine ⟨T, _, rfl, SqL.of h2, ?_⟩
    have e : ∀ n : Nat, (List.replicate n true).all id = true := fun n => by
      induction n with
      | zero => rfl
      | succ n ih =>
        rw [List.replicate_succ]
        exact ih
    rw [e]
    exact q H2 s2
end
end Tl
namespace Tl
open PySem PySem.Spec PyProof.Rows L2 RZ
/-- data that may be compared -/
structure Good (k : Nat) (d : PyData) : Prop where
  lay : d.canLay0 = true
  deep : d.depth ≤ k
  dict : d.hasDict = false
theorem Good.mono {k k' : Nat} {d : PyData} (h : Good k d) (l : k ≤ k') : Good k' d := ⟨h.lay, Nat.le_trans h.deep l, h.dict⟩
theorem good_int (k : Nat) (i : Int) : Good k (.int i) := ⟨rfl, Nat.zero_le _, rfl⟩
theorem good_all {k : Nat} : ∀ {xs : List PyData}, (∀ x ∈ xs, Good k x) → PyData.canLayAll0 xs = true ∧ PyData.depthAll xs ≤ k ∧ PyData.hasDictAll xs = false
  | [], _ => ⟨rfl, Nat.zero_le _, rfl⟩
  | x :: xs, h => by
    obtain ⟨h1, h2, h3⟩ := h x (List.mem_cons_self ..)
    obtain ⟨a1, a2, a3⟩ := good_all fun y hy => h y (List.mem_cons_of_mem _ hy)
    refine ⟨?_, ?_, ?_⟩
    · show (PyData.canLay0 x && PyData.canLayAll0 xs) = true
      rw [h1, a1]
      rfl
    · show max (PyData.depth x) (PyData.depthAll xs) ≤ k
      omega
    · show (PyData.hasDict x || PyData.hasDictAll xs) = false
      rw [h3, a3]
      rfl
theorem good_tup {k : Nat} {xs : List PyData} (h : ∀ x ∈ xs, Good k x) : Good (k + 1) (.tuple xs) := by
  obtain ⟨a1, a2, a3⟩ := good_all h
  exact ⟨a1, Nat.succ_le_succ a2, a3⟩
theorem good_ints (ns : List Int) : Good 1 (.tuple (ns.map PyData.int)) := good_tup fun x hx => by
  obtain ⟨i, _, rfl⟩ := List.mem_map.mp hx
  exact good_int 0 i
theorem good_rD (q : Rat) : Good 1 (rD q) := good_ints [q.num, (q.den : Int)]
theorem good_wdD (w : List Int) : Good 1 (wdD w) := good_ints w
theorem good_wsD (ws : List Rat) : Good 2 (wsD ws) := good_tup fun x hx => by
  obtain ⟨q, _, rfl⟩ := List.mem_map.mp hx
  exact good_rD q
theorem good_ndD : ∀ (n : Nat) (t : Nd n), Good (3 * n + 2) (ndD n t)
  | 0, _ => (good_tup (k := 0) (xs := []) fun x hx => absurd hx List.not_mem_nil).mono (by decide)
  | n + 1, qs => by
    rw [show 3 * (n + 1) + 2 = ((3 * n + 2 + 1) + 1) + 1 by omega]
    refine good_tup fun x hx => ?_
    obtain ⟨q, _, rfl⟩ := List.mem_map.mp hx
    refine good_tup fun y hy => ?_
    obtain ⟨a, _, rfl⟩ := List.mem_map.mp hy
    refine good_tup fun z hz => ?_
    simp only [List.mem_cons, List.not_mem_nil, or_false] at hz
    rcases hz with rfl | rfl | rfl
    · exact (good_wdD _).mono (by omega)
    · exact (good_wsD _).mono (by omega)
    · exact good_ndD n _
theorem Good.shaped {k : Nat} {d : PyData} (h : Good k d) (l : k ≤ 64) : SeqAt.shaped d = true := by
  show (d.canLay0 && decide (d.depth ≤ 64)) = true
  rw [h.lay, decide_eq_true (Nat.le_trans h.deep l)]
  rfl
theorem Good.refl {k : Nat} {d : PyData} (h : Good k d) : PyData.eqv d d = true := SeqAt.eqv_refl d h.lay
theorem eqv_rD (p q : Rat) : PyData.eqv (rD p) (rD q) = decide (p = q) := by
  show ((p.num == q.num) && (((p.den : Int) == (q.den : Int)) && true)) = decide (p = q)
  rw [Bool.and_true]
  by_cases h : p = q
  · subst h
    rw [beq_self_eq_true, beq_self_eq_true, decide_eq_true rfl]
    rfl
  · rw [decide_eq_false h]
    by_cases h1 : p.num = q.num
    · have h2 : (p.den : Int) ≠ (q.den : Int) := fun e => h (Rat.ext h1 (by omega))
      rw [beq_eq_false_iff_ne.mpr h2, Bool.and_false]
    · rw [beq_eq_false_iff_ne.mpr h1, Bool.false_and]
end Tl
namespace Tl
open PySem PySem.Spec PyProof.Rows L2 RZ
def isZ (ws : List Rat) : Bool := ws.all fun q => decide (q = 0)
def spNought (K : PySem.W.Frag) : Sp := fun vs H Q _ => ∃ (v : V) (ws : List Rat), vs = [v] ∧ Td K H v (wsD ws) ∧ ws.length ≤ 100 ∧ ∀ H', Same H H' → Q (.bl (isZ ws)) H'
def spWord (K : PySem.W.Frag) : Sp := fun vs H Q _ => ∃ (v : V) (r : List Int), vs = [v] ∧ Td K H v (wdD r) ∧ WordOk r ∧ ∀ H', Same H H' → Q (.bl true) H'
def spAnswer (K : PySem.W.Frag) (n : Nat) : Sp := fun vs H Q _ => ∃ (v : V) (a : An n), vs = [v, .int ((a.2.1.length : Nat) : Int)] ∧ Td K H v (anD n a) ∧ WordOk a.1 ∧ a.2.1.length ≤ 100 ∧ (∀ r ∈ a.2.1, 0 ≤ r ∧ r ≤ 1) ∧ ∀ H', Same H H' → Q (.bl true) H'
def spAsc (K : PySem.W.Frag) : Sp := fun vs H Q _ => ∃ (r : Addr) (us : List V) (ws : List (List Int)), vs = [.ref r] ∧ SqL K H r us ∧ TdAll K H us (ws.map wdD) ∧ ws.length ≤ 900 ∧ (∀ i x y, ws[i]? = some x → ws[i + 1]? = some y → HT.lexLt x y = true) ∧ ∀ H', Same H H' → Q (.bl true) H'
theorem map_at {α β : Type} {l : List α} {f : α → β} {i : Nat} {y : β} (h : (l.map f)[i]? = some y) : ∃ x, l[i]? = some x ∧ y = f x := by
  rw [List.getElem?_map] at h
  cases e : l[i]? with
  | none =>
    rw [e] at h
    cases h
  | some x =>
    rw [e] at h
    exact ⟨x, rfl, (Option.some.inj h).symm⟩
theorem all_rep : ∀ n : Nat, (List.replicate n true).all id = true
  | 0 => rfl
  | n + 1 => by
    rw [List.replicate_succ]
    exact all_rep n
theorem rep_snoc {α : Type} (x : α) (n : Nat) : List.replicate n x ++ [x] = List.replicate (n + 1) x := List.replicate_succ'.symm
section
variable {P : Program} {w : World} {K : PySem.W.Frag} {mg : Str → Option Value} {base : Heap} {aN aO : Addr} {t1 t2 t3 t4 t5 t6 t7 : Tok}
theorem ok_is_word {f f1 f2 : Addr} {fd fd1 fd2 : FuncData} (D : Dn K mg "is_word" s_is_word ["thing"] f fd) (B : Blt mg) (C : Cst K mg aN aO t1 t2 t3 t4 t5 t6 t7) (D_is_number : Dn K mg "is_number" s_is_number ["thing", "least", "most"] f1 fd1) (D_is_integral : Dn K mg "is_integral" s_is_integral ["thing"] f2 fd2) : FnOk P w K mg base CX0 3 f fd ["thing"] (spWord K) := by
  have G_is_number : FnOk P w K mg base CX0 2 f1 fd1 ["thing", "least", "most"] spNumber := ok_is_number D_is_number B D_is_integral
  refine D.F.ok sc_is_word (fun vs H Q E h => ?_) (fun cdv A outer s H vs Q E hr h => ?_)
  · obtain ⟨v, ws, rfl, _⟩ := h
    rfl
  obtain ⟨v, ws, rfl, hv, hok, q⟩ := h
  have nd := sc_is_word.nd
  refine ⟨_, (pss_cons (ps_if (PW.pt (pw_or (pt_not (pt_val (pe_callB (k_isi (K := K) rfl) (by rfl) B.isinstance (by decide +kernel) (pa_cons (pv 0) (pa_cons (pe_bltn (v := .ty "tuple") (u := .type "tuple") (by rfl) B.tuple (by decide +kernel) rfl) pa_nil))))) (pw_or1 (pt_cmpR op_gt (pe_callB (k_len (K := K) rfl) (by rfl) B.len PySem.boot_len (pa_cons (pv 0) pa_nil)) (pe_glob (v := .int _) rfl C.MOST_NUMBERS ⟨_, rfl⟩) (nomark _))))) (pss_one (ps_ret pe_bl)) pss_nil)
      (pss_one (ps_ret (pe_callB (k_all (K := K) rfl rfl) (by rfl) B.all (by decide +kernel) (pa_cons (pe_lc (own := [("number", 1)]) rfl nd (k_iT (K := K) rfl (pv 0)) (blkOk_by (own := [("number", 1)]) (by kernel_rfl)) (fun _ _ _ _ _ => (pg_name (i := 1) nd rfl (.inl rfl))) (fun _ _ _ _ _ => pts_nil) (fun _ _ _ _ _ => (pe_call G_is_number (hr.mono (by omega)) (by rfl) D_is_number.m D_is_number.F.kp D_is_number.b .nil pass0 (pa_cons (pv 1) (pa_cons pe_int (pa_cons pe_int pa_nil)))))) pa_nil))))), ?_⟩
  obtain ⟨a, xs, rfl, ha, ta⟩ := hv.tupE
  have ex := tdAll_intsE ta
  subst ex
  have l8 := hok.1
  refine ⟨_, rfl, _, _, _, _, true, rfl, .ty "tuple", tyx_tup ha, kit_ty (by decide +kernel), _, rfl, iteF ?_⟩
  refine ⟨_, rfl, a, _, rfl, .inr ha, _, _, rfl, rfl, _, rfl, ?_⟩
  rw [List.length_map, decide_eq_false (show ¬ (8 : Int) < ((ws.length : Nat) : Int) by omega)]
  refine iteF ?_
  refine ⟨_, rfl, a, rfl, ⟨_, ha⟩, fun T hT => ?_⟩
  refine lc_it (walk_tup (K := K) (a := a) (xs := ws.map V.int)) (fun i H2 => H2 T = some (.lst ((List.replicate i true).map V.bl)) ∧ Same H H2) ⟨upd_same, same_upd hT⟩ (fun i H2 _ h => Same.kt h.2 _ _ ha) ?_ ?_
  · rintro i x H0 H2 hi ⟨h2, s2⟩ ⟨rfl, e1⟩
    obtain ⟨z, ez, rfl⟩ := int_at e1
    obtain ⟨z0, z1⟩ := hok.2 z (List.mem_of_getElem? ez)
    rw [List.length_map] at hi
    refine ⟨rfl, ?_⟩
    refine iteT (B := H2 T = some (.lst ((List.replicate (i + 1) true).map V.bl)) ∧ Same H H2) ?_
    refine ⟨_, rfl, z, 0, 99, rfl, _, h2, ?_, ?_, fun c o y => ?_⟩
    · rw [List.length_map, List.length_replicate]
      exact small1000 (by omega)
    · rw [upd_same, decide_eq_true z0, decide_eq_true z1, ← rep_snoc, List.map_append]
      rfl
    · rw [upd_ne (ne_of_none y hT)]
      exact s2 _ _ y
  · rintro H2 ⟨h2, s2⟩
    refine ⟨T, _, rfl, SqL.of h2, ?_⟩
    rw [all_rep]
    exact q H2 s2
theorem ok_is_answer {n : Nat} {f f1 f2 f3 f4 f5 f6 : Addr} {fd fd1 fd2 fd3 fd4 fd5 fd6 : FuncData} (D : Dn K mg "is_answer" s_is_answer ["thing", "worlds"] f fd) (B : Blt mg) (C : Cst K mg aN aO t1 t2 t3 t4 t5 t6 t7) (D_is_number : Dn K mg "is_number" s_is_number ["thing", "least", "most"] f1 fd1) (D_is_integral : Dn K mg "is_integral" s_is_integral ["thing"] f2 fd2)
    (D_is_word : Dn K mg "is_word" s_is_word ["thing"] f3 fd3) (D_is_fraction : Dn K mg "is_fraction" s_is_fraction ["thing"] f4 fd4) (D_is_chance : Dn K mg "is_chance" s_is_chance ["thing"] f5 fd5) (D_are_chances : Dn K mg "are_chances" s_are_chances ["thing", "many"] f6 fd6) : FnOk P w K mg base CX0 5 f fd ["thing", "worlds"] (spAnswer K n) := by
  have G_is_word : FnOk P w K mg base CX0 3 f3 fd3 ["thing"] (spWord K) := ok_is_word D_is_word B C D_is_number D_is_integral
  have G_are_chances : FnOk P w K mg base CX0 4 f6 fd6 ["thing", "many"] (spChances K) := ok_are_chances D_are_chances B C D_is_integral D_is_fraction D_is_chance
  refine D.F.ok sc_is_answer (fun vs H Q E h => ?_) (fun cdv A outer s H vs Q E hr h => ?_)
  · obtain ⟨v, ws, rfl, _⟩ := h
    rfl
  obtain ⟨v, an, rfl, hv, hok, hl, hch, q⟩ := h
  have nd := sc_is_answer.nd
  refine ⟨_, (pss_cons (ps_if (PW.pt (pw_or (pt_not (pt_val (pe_callB (k_isi (K := K) rfl) (by rfl) B.isinstance (by decide +kernel) (pa_cons (pv 0) (pa_cons (pe_bltn (v := .ty "tuple") (u := .type "tuple") (by rfl) B.tuple (by decide +kernel) rfl) pa_nil))))) (pw_or (pt_cmpR op_ne (pe_callB (k_len (K := K) rfl) (by rfl) B.len PySem.boot_len (pa_cons (pv 0) pa_nil)) pe_int (nomark _)) (pw_or1 (pt_not (pt_val (pe_call G_is_word (hr.mono (by omega)) (by rfl) D_is_word.m D_is_word.F.kp D_is_word.b .nil pass0 (pa_cons (pe_ix (k_ixT (K := K) rfl) (pv 0) pe_int (fun _ _ => rfl)) pa_nil)))))))) (pss_one (ps_ret pe_bl)) pss_nil)
      (pss_one (ps_ret (pe_call G_are_chances (hr.mono (by omega)) (by rfl) D_are_chances.m D_are_chances.F.kp D_are_chances.b .nil pass0 (pa_cons (pe_ix (k_ixT (K := K) rfl) (pv 0) pe_int (fun _ _ => rfl)) (pa_cons (pv 1) pa_nil)))))), ?_⟩
  obtain ⟨a, xs, rfl, ha, ta⟩ := id hv.tupE
  obtain ⟨vw, ew, tw⟩ := ta.get (i := 0) rfl
  obtain ⟨vs, es, ts⟩ := ta.get (i := 1) rfl
  have l3 : xs.length = 3 := ta.len
  refine ⟨_, rfl, _, _, _, _, true, rfl, .ty "tuple", tyx_tup ha, kit_ty (by decide +kernel), _, rfl, iteF ?_⟩
  refine ⟨_, rfl, a, _, rfl, .inr ha, rfl, _, rfl, ?_⟩
  rw [l3]
  refine iteF ?_
  refine ⟨_, rfl, a, _, 0, vw, rfl, rfl, ha, at_of (j := 0) rfl ew, vw, an.1, rfl, tw, hok, fun H1 s1 => ⟨_, rfl, iteF ?_⟩⟩
  have ha1 := Same.kt s1 _ _ ha
  exact ⟨_, rfl, a, _, 1, vs, rfl, rfl, ha1, at_of (j := 1) rfl es, _, rfl, vs, an.2.1, rfl, ts.keep (Same.kt s1), hl, hch, fun H2 s2 => q H2 (s1.trans s2)⟩
theorem ok_is_ascending {f : Addr} {fd : FuncData} (D : Dn K mg "is_ascending" s_is_ascending ["rows"] f fd) (B : Blt mg) : FnOk P w K mg base CX0 1 f fd ["rows"] (spAsc K) := by
  refine D.F.ok sc_is_ascending (fun vs H Q E h => ?_) (fun cdv A outer s H vs Q E hr h => ?_)
  · obtain ⟨v, ws, x, rfl, _⟩ := h
    rfl
  obtain ⟨r, us, ws, rfl, hS, tS, hl, hasc, q⟩ := h
  have nd := sc_is_ascending.nd
  refine ⟨_, (pss_one (ps_ret (pe_callB (k_all (K := K) rfl rfl) (by rfl) B.all (by decide +kernel) (pa_cons (pe_lc (own := [("low", 1), ("high", 2)]) rfl nd (k_zip (K := K) rfl (by rfl) B.zip (pa_cons (pv 0) (pa_cons (pe_slice (k_slL (K := K) rfl) (pv 0) (po_some pe_int) po_none) pa_nil))) (blkOk_by (own := [("low", 1), ("high", 2)]) (by kernel_rfl)) (fun _ _ _ _ _ => (k_tup (K := K) (n := 2) rfl rfl (pgs_cons (pg_name (i := 1) nd rfl (.inl rfl)) (pgs_cons (pg_name (i := 2) nd rfl (.inl rfl)) pgs_nil)))) (fun _ _ _ _ _ => pts_nil) (fun _ _ _ _ _ => (pe_cmpR (k_ltT (K := K) rfl hr.units0) (pv 1) (pv 2) (nomark _)))) pa_nil)))), ?_⟩
  have lu : us.length = ws.length := by rw [tS.len, List.length_map]
  refine ⟨_, rfl, _, rfl, _, rfl, r, us, rfl, hS, fun p hp => ?_⟩
  have s1 : Same H (upd H p (.lst (cutV us (some 1) none))) := same_upd hp
  have ec : cutV us (some 1) none = us.drop 1 := by
    unfold cutV
    rw [show HT.sIx us.length 0 (some 1) = min 1 us.length from HT.sIx_nat us.length 0 1, HT.sIx_none]
    cases us with
    | nil => rfl
    | cons x rr =>
      rw [show min 1 (x :: rr).length = 1 by rw [List.length_cons]; omega]
      exact List.take_of_length_le (by simp)
  rw [ec] at s1 ⊢
  refine ⟨r, p, us, us.drop 1, rfl, .inl ⟨s1.seq hS, SqL.of upd_same, fun T hT => ?_⟩⟩
  generalize hH1 : upd H p (.lst (us.drop 1)) = H1 at s1 hT ⊢
  have hp1 : H1 p = some (.lst (us.drop 1)) := by
    rw [← hH1]
    exact upd_same
  refine lc_it (walk_zip (K := K) (a := r) (b := p) (xs := us) (ys := us.drop 1) (n := min us.length (us.drop 1).length) rfl) (fun i H2 => H2 T = some (.lst ((List.replicate i true).map V.bl)) ∧ Same H1 H2) ⟨upd_same, same_upd hT⟩ (fun i H2 _ h => ⟨h.2.seq (s1.seq hS), h.2.seq (SqL.of hp1)⟩) ?_ ?_
  · rintro i x H2 H3 hi ⟨h2, s2⟩ ⟨T2, x', y', rfl, n2, rfl, e1, e2⟩
    replace e2 : (us.drop 1)[i]? = some y' := e2
    rw [List.getElem?_drop, Nat.add_comm 1 i] at e2
    obtain ⟨dx, ex, tx⟩ := tS.getV e1
    obtain ⟨dy, ey, ty⟩ := tS.getV e2
    obtain ⟨wx, gx, rfl⟩ := map_at ex
    obtain ⟨wy, gy, rfl⟩ := map_at ey
    have s3 : Same H2 (upd H2 T2 (.tup [x', y'])) := same_upd n2
    have k3 : KT K H (upd H2 T2 (.tup [x', y'])) := Same.kt ((s1.trans s2).trans s3)
    obtain ⟨ax, xs, rfl, hx, sx⟩ := (tx.keep k3).tupE
    obtain ⟨ay, ys, rfl, hy, sy⟩ := (ty.keep k3).tupE
    have e3 := tdAll_intsE sx
    have e4 := tdAll_intsE sy
    subst e3
    subst e4
    refine ⟨T2, _, rfl, .inl (.inl upd_same), rfl, _, _, rfl, _, _, rfl, rfl, rfl, ?_⟩
    refine iteT (B := (upd H2 T2 (.tup [V.ref ax, V.ref ay])) T = some (.lst ((List.replicate (i + 1) true).map V.bl)) ∧ Same H1 (upd H2 T2 (.tup [V.ref ax, V.ref ay]))) ?_
    have h3 := s3 _ _ h2
    refine ⟨_, rfl, _, rfl, ax, ay, wx, wy, rfl, rfl, hx, hy, _, h3, ?_, ?_, fun c o y => ?_⟩
    · rw [List.length_map, List.length_replicate]
      exact small1000 (by omega)
    · rw [upd_same, hasc i wx wy gx gy, ← rep_snoc, List.map_append]
      rfl
    · rw [upd_ne (ne_of_none y hT)]
      exact s3 _ _ (s2 _ _ y)
  · rintro H2 ⟨h2, s2⟩
    refine ⟨T, _, rfl, SqL.of h2, ?_⟩
    rw [all_rep]
    exact q H2 (s1.trans s2)
end
end Tl
namespace Tl
open PySem PySem.Spec PyProof.Rows L2 RZ
/-- a node judged: d answers ahead of it -/
def spCkN (K : PySem.W.Frag) (n : Nat) : Sp := fun vs H Q _ => ∃ (W d : Nat) (v av : V) (pl : Addr) (ps : List V) (ahead : List Rat) (t : Nd n), vs = [v, .ref pl, av] ∧ Td K H v (ndD n t) ∧ Td K H av (wsD ahead) ∧ SqT K H pl ps ∧ ps.length = 2 * d ∧ d + n ≤ 8 ∧
  1 ≤ W ∧ W ≤ 5 ∧ ahead.length = W ∧ NdOk W n ahead t ∧ ∀ H', Same H H' → Q .non H'
def spCkQ (K : PySem.W.Frag) : Nat → Sp
  | 0 => fun _ _ _ _ => False
  | n + 1 => fun vs H Q _ => ∃ (W d : Nat) (v av : V) (pl : Addr) (ps : List V) (ahead : List Rat) (q : Qn n), vs = [v, .ref pl, av] ∧ Td K H v (qnD n q) ∧ Td K H av (wsD ahead) ∧ SqT K H pl ps ∧ ps.length = 2 * d + 1 ∧ d + (n + 1) ≤ 8 ∧
      1 ≤ W ∧ W ≤ 5 ∧ ahead.length = W ∧ QnOk W ahead q ∧ (∀ a ∈ q, NdOk W n a.2.1 a.2.2) ∧ ∀ H', Same H H' → Q .non H'
theorem small25 {n : Nat} (h : n ≤ 25) : n ≤ sizeLine := Nat.le_of_lt (small1000 (by omega))
theorem tot_whole {W n : Nat} {ahead : List Rat} {q : Qn n} (ha : ahead.length = W) (h : QnOk W ahead q) : tot W (q.map fun a => a.2.1) = ahead := by
  refine List.ext_getElem? fun j => ?_
  unfold tot
  rw [List.getElem?_map]
  by_cases hj : j < W
  · rw [List.getElem?_range hj, List.getElem?_eq_getElem (show j < ahead.length by omega)]
    show some (fsum ((q.map fun a => a.2.1).map fun r => r.getD j 0)) = some _
    have e : ((q.map fun a => a.2.1).map fun r => r.getD j 0) = col q j := by
      unfold col
      rw [List.map_map]
      rfl
    rw [e, h.whole j hj, getD_of (List.getElem?_eq_getElem (show j < ahead.length by omega))]
  · rw [List.getElem?_eq_none (by rw [List.length_range]; omega), List.getElem?_eq_none (by omega)]
    rfl
theorem tot_cols {W n : Nat} {ahead : List Rat} {q : Qn n} (h : QnOk W ahead q) (j : Nat) (hj : j < W) : ∃ D : Nat, 0 < D ∧ D < 2 ^ 3300 ∧ (∀ x ∈ q.map (fun a => a.2.1), (x.getD j 0).den ∣ D) ∧ abssum (((q.map fun a => a.2.1).map fun x => x.getD j 0).map (frN D)) < 2 ^ 3300 := by
  have z2 : 12 * LL ^ 6 < 2 ^ 3300 := by
    have := @ll_small 6 1200 (by decide)
    have z3 : 12 * 2 ^ 1200 < 2 ^ 3300 := by
      rw [show (3300 : Nat) = 2100 + 1200 from rfl, Nat.pow_add]
      exact Nat.mul_lt_mul_of_pos_right (by decide) (Nat.two_pow_pos 1200)
    exact Nat.lt_of_le_of_lt (Nat.mul_le_mul_left 12 this) z3
  have d2 : ∀ r ∈ col q j, r.den ∣ LL ^ 6 ∧ 0 ≤ r ∧ r ≤ 1 := fun r hr => by
    unfold col at hr
    obtain ⟨a, ha, rfl⟩ := List.mem_map.mp hr
    have hw := h.wide a ha
    have hm := h.chs a ha (a.2.1.getD j 0) (by rw [getD_of (List.getElem?_eq_getElem (show j < a.2.1.length by omega))]; exact List.getElem_mem _)
    exact ⟨hm.2.2, hm.1, hm.2.1⟩
  have e : ((q.map fun a => a.2.1).map fun x => x.getD j 0) = col q j := by
    unfold col
    rw [List.map_map]
    rfl
  refine ⟨LL ^ 6, ll_pos 6, ll_lt1500 (by decide), fun x hx => ?_, ?_⟩
  · obtain ⟨a, ha, rfl⟩ := List.mem_map.mp hx
    exact (d2 _ (List.mem_map.mpr ⟨a, ha, rfl⟩)).1
  · rw [e]
    exact Nat.lt_of_le_of_lt (frNs_abs d2) (Nat.lt_of_le_of_lt (Nat.mul_le_mul_right _ (show (col q j).length ≤ 12 by unfold col; rw [List.length_map]; exact h.most)) z2)
section
variable {P : Program} {w : World} {K : PySem.W.Frag} {mg : Str → Option Value} {base : Heap} {aN aO : Addr} {t1 t2 t3 t4 t5 t6 t7 : Tok}
theorem ok_check_node {n : Nat} {f f1 : Addr} {fd fd1 : FuncData} (D : Dn K mg "check_node" s_check_node ["node", "place", "ahead"] f fd) (B : Blt mg) (C : Cst K mg aN aO t1 t2 t3 t4 t5 t6 t7) (D_check_question : Dn K mg "check_question" s_check_question ["question", "place", "ahead"] f1 fd1)
    (G_check_question : FnOk P w K mg base CX0 (5 + 2 * n) f1 fd1 ["question", "place", "ahead"] (spCkQ K n)) : FnOk P w K mg base CX0 (6 + 2 * n) f fd ["node", "place", "ahead"] (spCkN K n) := by
  rw [show 6 + 2 * n = (5 + 2 * n) + 1 by omega]
  refine D.F.ok sc_check_node (fun vs H Q E h => ?_) (fun cdv A outer s H vs Q E hr h => ?_)
  · obtain ⟨W, d, v, av, pl, ps, ahead, t, rfl, _⟩ := h
    rfl
  obtain ⟨W, d, v, av, pl, ps, ahead, t, rfl, hv, hav, hpl, lp, hd, hW1, hW5, hla, hok, q⟩ := h
  have nd := sc_check_node.nd
  refine ⟨_, (pss_cons (ps_if (PW.pt (pw_or (pt_not (pt_val (pe_callB (k_isi (K := K) rfl) (by rfl) B.isinstance (by decide +kernel) (pa_cons (pv 0) (pa_cons (pe_bltn (v := .ty "tuple") (u := .type "tuple") (by rfl) B.tuple (by decide +kernel) rfl) pa_nil))))) (pw_or1 (pt_cmpR op_gt (pe_callB (k_len (K := K) rfl) (by rfl) B.len PySem.boot_len (pa_cons (pv 0) pa_nil)) (pe_glob (v := .int _) rfl C.MOST_QUESTIONS ⟨_, rfl⟩) (nomark _))))) (pss_one ps_never) pss_nil)
      (pss_cons (ps_if (PW.pt (pw_and (pt_cmpR op_gt (pe_callB (k_len (K := K) rfl) (by rfl) B.len PySem.boot_len (pa_cons (pv 0) pa_nil)) pe_int (nomark _)) (pw_and1 (pt_cmpR op_ge (pe_callB (k_len (K := K) rfl) (by rfl) B.len PySem.boot_len (pa_cons (pv 1) pa_nil)) (pe_op op_mulW pe_int (pe_glob (v := .int _) rfl C.MOST_ON_A_WAY ⟨_, rfl⟩)) (nomark _))))) (pss_one ps_never) pss_nil)
      (pss_one (ps_for PassesOwn.never rfl (k_enum (K := K) rfl (by rfl) B.enumerate (pa_cons (pv 0) pa_nil)) (k_tup (K := K) (n := 2) rfl rfl (pgs_cons (pg_name (i := 3) nd rfl (.inl rfl)) (pgs_cons (pg_name (i := 4) nd rfl (.inl rfl)) pgs_nil))) (pss_one (ps_expr (pe_call G_check_question (hr.mono (by omega)) (by rfl) D_check_question.m D_check_question.F.kp D_check_question.b .nil pass0 (pa_cons (pv 4) (pa_cons (pe_op (k_cat (K := K) rfl) (pv 1) (pe_tup (pa_cons (pv 3) pa_nil))) (pa_cons (pv 2) pa_nil)))))))))), ?_⟩
  obtain ⟨ds, eds, l5, l0⟩ : ∃ ds, ndD n t = .tuple ds ∧ ds.length ≤ 5 ∧ (n = 0 → ds.length = 0) := by
    cases n with
    | zero => exact ⟨[], rfl, by decide, fun _ => rfl⟩
    | succ n => exact ⟨_, rfl, by rw [List.length_map]; exact hok.1, fun h => by cases h⟩
  have hv2 := hv
  rw [eds] at hv2
  obtain ⟨a, xs, rfl, ha, ta⟩ := hv2.tupE
  have lx := ta.len
  refine ⟨_, rfl, _, _, _, _, true, rfl, .ty "tuple", tyx_tup ha, kit_ty (by decide +kernel), _, rfl, iteF ?_⟩
  refine ⟨_, rfl, a, _, rfl, .inr ha, _, _, rfl, rfl, _, rfl, ?_⟩
  rw [decide_eq_false (show ¬ (5 : Int) < ((xs.length : Nat) : Int) by omega)]
  refine iteF ?_
  refine ⟨_, rfl, a, _, rfl, .inr ha, _, _, rfl, rfl, _, rfl, ?_⟩
  have rest : tFor (iEnumT K (tCons (tVar 0) tNil)) (gTup K 2 (gCons (gName 3) (gCons (gName 4) gNil))) (tDrop (tCall (spCkQ K n) [] E0 (tCons (tVar 4) (tCons (tOp (rCatP K) (tVar 1) (tTup (tCons (tVar 3) tNil))) (tCons (tVar 2) tNil))))) { nx := fun _ H' => Q .non H', rt := Q } [some (.ref a), some (.ref pl), some av, none, none] H := by
    refine ⟨_, rfl, a, xs, rfl, ha, for_it (walk_enumT (K := K) (a := a) (xs := xs)) (fun i σ H2 => ∃ o3 o4 : Option V, σ = [some (.ref a), some (.ref pl), some av, o3, o4] ∧ Same H H2) ⟨none, none, rfl, Same.refl _⟩ (fun i σ H2 _ h => ?_) ?_ ?_⟩
    · obtain ⟨_, _, _, s2⟩ := h
      exact Same.kt s2 _ _ ha
    · rintro i x σ H2 H3 hi ⟨o3, o4, rfl, s2⟩ ⟨T, x1, x2, rfl, nT, rfl, e1, e2⟩
      cases n with
      | zero =>
        have := l0 rfl
        omega
      | succ n =>
        cases eds
        have s3 : Same H2 (upd H2 T (.tup [x1, x2])) := same_upd nT
        cases e1
        obtain ⟨dx, ex, tx⟩ := ta.getV e2
        obtain ⟨qn, eq, rfl⟩ := map_at ex
        obtain ⟨qok, nok⟩ := hok.2 qn (List.mem_of_getElem? eq)
        refine ⟨T, _, rfl, .inl (.inl upd_same), rfl, _, _, rfl, _, _, rfl, rfl, ?_⟩
        refine ⟨_, rfl, _, rfl, _, rfl, (by show 1 ≤ sizeLine; decide), fun p np => ?_⟩
        have s4 : Same (upd H2 T (.tup [.int (i : Int), x2])) (upd (upd H2 T (.tup [.int (i : Int), x2])) p (.tup [.int (i : Int)])) := same_upd np
        have s24 := (s2.trans s3).trans s4
        refine ⟨pl, p, ps, _, rfl, rfl, Same.kt s24 _ _ hpl, .inl (.inl upd_same), by rw [lp]; exact small25 (by simp; omega), fun p2 H5 s5 q5 => ?_⟩
        have s25 := s24.trans s5
        refine ⟨_, rfl, W, d, x2, av, p2, _, ahead, qn, rfl, tx.keep (Same.kt s25), hav.keep (Same.kt s25), q5, by rw [List.length_append, lp]; rfl, by omega, hW1, hW5, hla, qok, nok, fun H6 s6 => ?_⟩
        exact ⟨_, _, rfl, s25.trans s6⟩
    · rintro σ H2 ⟨o3, o4, rfl, s2⟩
      exact q H2 s2
  refine ite2 (fun c => ?_) (fun c => ?_)
  · refine ⟨_, rfl, pl, _, rfl, .inr hpl, _, _, rfl, rfl, cmul_small (by decide) (by decide), _, _, rfl, rfl, _, rfl, ?_⟩
    have c0 : 0 < xs.length := by
      have := of_decide_eq_true c
      omega
    have n0 : n ≠ 0 := fun e => by
      have := l0 e
      omega
    rw [decide_eq_false (show ¬ ((ps.length : Nat) : Int) ≥ 2 * 8 by omega)]
    refine iteF ?_
    exact rest
  · refine iteF ?_
    exact rest
end
end Tl
namespace Tl
open PySem PySem.Spec PyProof.Rows L2 RZ
section
variable {P : Program} {w : World} {K : PySem.W.Frag} {mg : Str → Option Value} {base : Heap} {aN aO : Addr} {t1 t2 t3 t4 t5 t6 t7 : Tok}
theorem ok_check_question {n : Nat} {f f1 f2 f3 f4 : Addr} {fd fd1 fd2 fd3 fd4 : FuncData} (D : Dn K mg "check_question" s_check_question ["question", "place", "ahead"] f fd) (B : Blt mg) (C : Cst K mg aN aO t1 t2 t3 t4 t5 t6 t7) (D_check_node : Dn K mg "check_node" s_check_node ["node", "place", "ahead"] f1 fd1)
    (G_check_node : FnOk P w K mg base CX0 (6 + 2 * n) f1 fd1 ["node", "place", "ahead"] (spCkN K n)) (D_is_answer : Dn K mg "is_answer" s_is_answer ["thing", "worlds"] f2 fd2) (G_is_answer : FnOk P w K mg base CX0 5 f2 fd2 ["thing", "worlds"] (spAnswer K n))
    (D_is_ascending : Dn K mg "is_ascending" s_is_ascending ["rows"] f3 fd3) (G_is_ascending : FnOk P w K mg base CX0 1 f3 fd3 ["rows"] (spAsc K)) (D_total_weights : Dn K mg "total_weights" s_total_weights ["rows", "worlds"] f4 fd4) (G_total_weights : FnOk P w K mg base CX0 4 f4 fd4 ["rows", "worlds"] (spTotW K)) :
    FnOk P w K mg base CX0 (7 + 2 * n) f fd ["question", "place", "ahead"] (spCkQ K (n + 1)) := by
  rw [show 7 + 2 * n = (6 + 2 * n) + 1 by omega]
  refine D.F.ok sc_check_question (fun vs H Q E h => ?_) (fun cdv A outer s H vs Q E hr h => ?_)
  · obtain ⟨W, d, v, av, pl, ps, ahead, t, rfl, _⟩ := h
    rfl
  obtain ⟨W, d, v, av, pl, ps, ahead, qn, rfl, hv, hav, hpl, lp, hd, hW1, hW5, hla, qok, nok, q⟩ := h
  have nd := sc_check_question.nd
  refine ⟨_, (pss_cons (ps_if (PW.pt (pw_or (pt_not (pt_val (pe_callB (k_isi (K := K) rfl) (by rfl) B.isinstance (by decide +kernel) (pa_cons (pv 0) (pa_cons (pe_bltn (v := .ty "tuple") (u := .type "tuple") (by rfl) B.tuple (by decide +kernel) rfl) pa_nil))))) (pw_or1 (pt_not (pt_chain op_le op_le pe_int (pe_callB (k_len (K := K) rfl) (by rfl) B.len PySem.boot_len (pa_cons (pv 0) pa_nil)) (pe_glob (v := .int _) rfl C.MOST_WORDS ⟨_, rfl⟩)))))) (pss_one ps_never) pss_nil)
      (pss_cons (ps_for PassesOwn.never rfl (k_enum (K := K) rfl (by rfl) B.enumerate (pa_cons (pv 0) pa_nil)) (k_tup (K := K) (n := 2) rfl rfl (pgs_cons (pg_name (i := 3) nd rfl (.inl rfl)) (pgs_cons (pg_name (i := 4) nd rfl (.inl rfl)) pgs_nil))) (pss_one (ps_if (pt_not (pt_val (pe_call G_is_answer (hr.mono (by omega)) (by rfl) D_is_answer.m D_is_answer.F.kp D_is_answer.b .nil pass0 (pa_cons (pv 4) (pa_cons (pe_callB (k_len (K := K) rfl) (by rfl) B.len PySem.boot_len (pa_cons (pv 2) pa_nil)) pa_nil))))) (pss_one ps_never) pss_nil)))
      (pss_cons (ps_if (pt_not (pt_val (pe_call G_is_ascending (hr.mono (by omega)) (by rfl) D_is_ascending.m D_is_ascending.F.kp D_is_ascending.b .nil pass0 (pa_cons (pe_lc (own := [("answer", 4)]) rfl nd (k_iT (K := K) rfl (pv 0)) (blkOk_by (own := [("answer", 4)]) (by kernel_rfl)) (fun _ _ _ _ _ => (pg_name (i := 4) nd rfl (.inl rfl))) (fun _ _ _ _ _ => pts_nil) (fun _ _ _ _ _ => (pe_ix (k_ixT (K := K) rfl) (pv 4) pe_int (fun _ _ => rfl)))) pa_nil)))) (pss_one ps_never) pss_nil)
      (pss_cons (ps_if (pt_cmpR (k_neD (K := K) rfl hr.units) (pe_call G_total_weights (hr.mono (by omega)) (by rfl) D_total_weights.m D_total_weights.F.kp D_total_weights.b .nil pass0 (pa_cons (pe_lc (own := [("answer", 4)]) rfl nd (k_iT (K := K) rfl (pv 0)) (blkOk_by (own := [("answer", 4)]) (by kernel_rfl)) (fun _ _ _ _ _ => (pg_name (i := 4) nd rfl (.inl rfl))) (fun _ _ _ _ _ => pts_nil) (fun _ _ _ _ _ => (pe_ix (k_ixT (K := K) rfl) (pv 4) pe_int (fun _ _ => rfl)))) (pa_cons (pe_callB (k_len (K := K) rfl) (by rfl) B.len PySem.boot_len (pa_cons (pv 2) pa_nil)) pa_nil))) (pv 2) (nomark _)) (pss_one ps_never) pss_nil)
      (pss_one (ps_for PassesOwn.never rfl (k_enum (K := K) rfl (by rfl) B.enumerate (pa_cons (pv 0) pa_nil)) (k_tup (K := K) (n := 2) rfl rfl (pgs_cons (pg_name (i := 3) nd rfl (.inl rfl)) (pgs_cons (pg_name (i := 4) nd rfl (.inl rfl)) pgs_nil))) (pss_one (ps_expr (pe_call G_check_node (hr.mono (by omega)) (by rfl) D_check_node.m D_check_node.F.kp D_check_node.b .nil pass0 (pa_cons (pe_ix (k_ixT (K := K) rfl) (pv 4) pe_int (fun _ _ => rfl)) (pa_cons (pe_op (k_cat (K := K) rfl) (pv 1) (pe_tup (pa_cons (pv 3) pa_nil))) (pa_cons (pe_ix (k_ixT (K := K) rfl) (pv 4) pe_int (fun _ _ => rfl)) pa_nil)))))))))))), ?_⟩
  obtain ⟨a, xs, rfl, ha, ta⟩ := id hv.tupE
  obtain ⟨aa, axs, rfl, haa, taa⟩ := id hav.tupE
  have lx : xs.length = qn.length := by rw [ta.len, List.length_map]
  have la : axs.length = W := by rw [taa.len, List.length_map, hla]
  have o1 := qok.one
  have o12 := qok.most
  -- the answers at their places
  have at_ : ∀ {i : Nat} {x : V} {H2 : Hp}, xs[i]? = some x → Same H H2 → ∃ an, qn[i]? = some an ∧ an ∈ qn ∧ Td K H2 x (anD n an) ∧ ∃ p vw vs vt, x = .ref p ∧ SqT K H2 p [vw, vs, vt] ∧ Td K H2 vw (wdD an.1) ∧ Td K H2 vs (wsD an.2.1) ∧ Td K H2 vt (ndD n an.2.2) := by
    intro i x H2 e s2
    obtain ⟨dx, ex, tx⟩ := ta.getV e
    obtain ⟨an, ea, rfl⟩ := map_at ex
    have tx2 := tx.keep (Same.kt s2)
    obtain ⟨p, ys, rfl, hp, tp⟩ := id tx2.tupE
    cases tp with
    | cons h1 tp => cases tp with
      | cons h2 tp => cases tp with
        | cons h3 tp =>
          cases tp
          exact ⟨an, ea, List.mem_of_getElem? ea, tx2, p, _, _, _, rfl, hp, h1, h2, h3⟩
  refine ⟨_, rfl, _, _, _, _, true, rfl, .ty "tuple", tyx_tup ha, kit_ty (by decide +kernel), _, rfl, iteF ?_⟩
  refine ⟨_, rfl, a, _, rfl, .inr ha, _, _, rfl, rfl, _, rfl, ?_⟩
  rw [decide_eq_true (show (1 : Int) ≤ ((xs.length : Nat) : Int) by omega)]
  refine iteT ⟨_, _, rfl, rfl, _, rfl, ?_⟩
  rw [decide_eq_true (show ((xs.length : Nat) : Int) ≤ 12 by omega)]
  refine iteF ?_
  -- each answer
  refine ⟨_, rfl, a, xs, rfl, ha, for_it (walk_enumT (K := K) (a := a) (xs := xs)) (fun i σ H2 => ∃ o3 o4 : Option V, σ = [some (.ref a), some (.ref pl), some (.ref aa), o3, o4] ∧ Same H H2) ⟨none, none, rfl, Same.refl _⟩ (fun i σ H2 _ h => ?_) ?_ ?_⟩
  · obtain ⟨_, _, _, s2⟩ := h
    exact Same.kt s2 _ _ ha
  · rintro i x σ H2 H3 hi ⟨o3, o4, rfl, s2⟩ ⟨T, x1, x2, rfl, nT, rfl, e1, e2⟩
    have s3 : Same H2 (upd H2 T (.tup [x1, x2])) := same_upd nT
    have s23 := s2.trans s3
    obtain ⟨an, ea, ma, tan, _⟩ := at_ e2 s23
    refine ⟨T, _, rfl, .inl (.inl upd_same), rfl, _, _, rfl, _, _, rfl, rfl, ?_⟩
    refine ⟨_, rfl, _, rfl, aa, _, rfl, .inr (Same.kt s23 _ _ haa), x2, an, ?_, tan, qok.words _ ma, ?_, fun r hr => ?_, fun H4 s4 => ⟨_, rfl, iteF ⟨_, _, rfl, s23.trans s4⟩⟩⟩
    · rw [la, qok.wide _ ma]
      rfl
    · rw [qok.wide _ ma]
      omega
    · have := qok.chs _ ma r hr
      exact ⟨this.1, this.2.1⟩
  rintro σ H2 ⟨o3, o4, rfl, s2⟩
  -- ascending
  have ha2 := Same.kt s2 _ _ ha
  refine ⟨_, rfl, a, rfl, ⟨_, ha2⟩, fun T hT => ?_⟩
  refine lc_it (walk_tup (K := K) (a := a) (xs := xs)) (fun i H3 => ∃ us : List V, H3 T = some (.lst us) ∧ TdAll K H3 us ((qn.take i).map fun an => wdD an.1) ∧ Same H2 H3) ⟨[], upd_same, .nil, same_upd hT⟩ (fun i H3 _ h => ?_) ?_ ?_
  · obtain ⟨_, _, _, s3⟩ := h
    exact Same.kt s3 _ _ ha2
  · rintro i x H0 H3 hi ⟨us, h3, t3, s3⟩ ⟨rfl, e1⟩
    obtain ⟨an, ea, ma, tan, p, vw, vs, vt, rfl, hp, h1, h2, h4⟩ := at_ e1 (s2.trans s3)
    have kT : KT K H3 (upd H3 T (.lst (us ++ [vw]))) := KT.updL h3
    refine ⟨rfl, ?_⟩
    refine iteT (B := ∃ us : List V, H3 T = some (.lst us) ∧ TdAll K H3 us ((qn.take (i + 1)).map fun an => wdD an.1) ∧ Same H2 H3) ?_
    refine ⟨_, rfl, p, _, 0, vw, rfl, rfl, hp, at_of (j := 0) rfl rfl, us, h3, ?_, us ++ [vw], upd_same, ?_, fun c o y => ?_⟩
    · rw [t3.len, List.length_map, List.length_take]
      exact small1000 (by omega)
    · rw [List.take_add_one, ea, List.map_append]
      exact (t3.keep kT).app (.cons (h1.keep kT) .nil)
    · rw [upd_ne (ne_of_none y hT)]
      exact s3 _ _ y
  rintro H3 ⟨us, h3, t3, s3⟩
  rw [lx, List.take_length] at t3
  have s03 := s2.trans s3
  refine ⟨T, us, qn.map (fun an => an.1), rfl, SqL.of h3, by rw [List.map_map]; exact t3, by rw [List.length_map]; omega, ?_, fun H4 s4 => ⟨_, rfl, iteF ?_⟩⟩
  · intro i x y hx hy
    obtain ⟨ax, gx, rfl⟩ := map_at hx
    obtain ⟨ay, gy, rfl⟩ := map_at hy
    exact qok.asc i ax ay gx gy
  have s04 := s03.trans s4
  clear t3 h3 s3
  -- the weights
  have ha4 := Same.kt s04 _ _ ha
  refine ⟨_, rfl, a, rfl, ⟨_, ha4⟩, fun T2 hT2 => ?_⟩
  refine lc_it (walk_tup (K := K) (a := a) (xs := xs)) (fun i H3 => ∃ us : List V, H3 T2 = some (.lst us) ∧ TdAll K H3 us ((qn.take i).map fun an => wsD an.2.1) ∧ Same H4 H3) ⟨[], upd_same, .nil, same_upd hT2⟩ (fun i H3 _ h => ?_) ?_ ?_
  · obtain ⟨_, _, _, s3⟩ := h
    exact Same.kt s3 _ _ ha4
  · rintro i x H0 H5 hi ⟨us, h3, t3, s3⟩ ⟨rfl, e1⟩
    obtain ⟨an, ea, ma, tan, p, vw, vs, vt, rfl, hp, h1, h2, h4⟩ := at_ e1 (s04.trans s3)
    have kT : KT K H5 (upd H5 T2 (.lst (us ++ [vs]))) := KT.updL h3
    refine ⟨rfl, ?_⟩
    refine iteT (B := ∃ us : List V, H5 T2 = some (.lst us) ∧ TdAll K H5 us ((qn.take (i + 1)).map fun an => wsD an.2.1) ∧ Same H4 H5) ?_
    refine ⟨_, rfl, p, _, 1, vs, rfl, rfl, hp, at_of (j := 1) rfl rfl, us, h3, ?_, us ++ [vs], upd_same, ?_, fun c o y => ?_⟩
    · rw [t3.len, List.length_map, List.length_take]
      exact small1000 (by omega)
    · rw [List.take_add_one, ea, List.map_append]
      exact (t3.keep kT).app (.cons (h2.keep kT) .nil)
    · rw [upd_ne (ne_of_none y hT2)]
      exact s3 _ _ y
  rintro H5 ⟨us5, h5, t5, s5⟩
  rw [lx, List.take_length] at t5
  have s05 := s04.trans s5
  refine ⟨_, rfl, aa, _, rfl, .inr (Same.kt s05 _ _ haa), ?_⟩
  refine ⟨T2, us5, W, qn.map (fun an => an.2.1), by rw [la]; rfl, SqL.of h5, by rw [List.map_map]; exact t5, hW1, hW5, by rw [List.length_map]; omega, fun x hx => ?_, tot_cols qok, fun v6 H6 s6 t6 => ?_⟩
  · obtain ⟨an, ma, rfl⟩ := List.mem_map.mp hx
    exact qok.wide _ ma
  rw [tot_whole hla qok] at t6
  have s06 := s05.trans s6
  have g2 := good_wsD ahead
  refine ⟨_, rfl, wsD ahead, wsD ahead, t6.dp, (hav.keep (Same.kt s06)).dp, g2.shaped (by decide), g2.shaped (by decide), _, rfl, ?_⟩
  rw [g2.refl]
  refine iteF ?_
  clear t6 t5 h5 s5 s6 ha4 ha2 s4 s03 s2
  -- the nodes behind
  have ha6 := Same.kt s06 _ _ ha
  refine ⟨_, rfl, a, xs, rfl, ha6, for_it (walk_enumT (K := K) (a := a) (xs := xs)) (fun i σ H2 => ∃ o3 o4 : Option V, σ = [some (.ref a), some (.ref pl), some (.ref aa), o3, o4] ∧ Same H H2) ⟨_, _, rfl, s06⟩ (fun i σ H2 _ h => ?_) ?_ ?_⟩
  · obtain ⟨_, _, _, s2⟩ := h
    exact Same.kt s2 _ _ ha
  · rintro i x σ H2 H3 hi ⟨o3, o4, rfl, s2⟩ ⟨T, x1, x2, rfl, nT, rfl, e1, e2⟩
    have s3 : Same H2 (upd H2 T (.tup [x1, x2])) := same_upd nT
    cases e1
    have s23 := s2.trans s3
    obtain ⟨an, ea, ma, tan, p, vw, vs, vt, rfl, hp, h1, h2, h4⟩ := at_ e2 s23
    refine ⟨T, _, rfl, .inl (.inl upd_same), rfl, _, _, rfl, _, _, rfl, rfl, ?_⟩
    refine ⟨_, rfl, p, _, 2, vt, rfl, rfl, hp, at_of (j := 2) rfl rfl, ?_⟩
    refine ⟨_, rfl, _, rfl, (by show 1 ≤ sizeLine; decide), fun p3 np => ?_⟩
    have s4 : Same (upd H2 T (.tup [.int (i : Int), .ref p])) (upd (upd H2 T (.tup [.int (i : Int), .ref p])) p3 (.tup [.int (i : Int)])) := same_upd np
    have s24 := s23.trans s4
    refine ⟨pl, p3, ps, _, rfl, rfl, Same.kt s24 _ _ hpl, .inl (.inl upd_same), by rw [lp]; exact small25 (by simp; omega), fun p2 H5 s5 q5 => ?_⟩
    have s25 := s24.trans s5
    have k35 : KT K (upd H2 T (.tup [.int (i : Int), .ref p])) H5 := Same.kt (s4.trans s5)
    refine ⟨_, rfl, p, _, 1, vs, rfl, rfl, k35 _ _ hp, at_of (j := 1) rfl rfl, ?_⟩
    refine ⟨W, d + 1, vt, vs, p2, _, an.2.1, an.2.2, rfl, h4.keep k35, h2.keep k35, q5, by rw [List.length_append, lp]; show 2 * d + 1 + 1 = 2 * (d + 1); omega, by omega, hW1, hW5, qok.wide _ ma, nok _ ma, fun H6 s6 => ?_⟩
    exact ⟨_, _, rfl, s25.trans s6⟩
  · rintro σ H2 ⟨o3, o4, rfl, s2⟩
    exact q H2 s2
end
end Tl
namespace Tl
open PySem PySem.Spec PyProof.Rows L2 RZ
/-- a comprehension over two walks -/
theorem lc2_it {J : It} {n : Nat} {G : Hp → Prop} {Y : Nat → Hp → V → Hp → Prop} (w1 : Walk J n G Y) {wi1 : TI} {g g1 : TG} {tt tt1 : TT} {te : TE} {vs vs1 : List Nat} {σ : L2.St} {H1 : Hp} {D : Addr} {Qd : Hp → Prop} (Pv : Nat → Hp → Prop) (h0 : Pv 0 (upd H1 D (.lst []))) (hG : ∀ i H, i ≤ n → Pv i H → G H)
    (hs : ∀ i x H H', i < n → Pv i H → Y i H x H' → g x (wipe σ vs) H' fun σ2 H2 => wipe σ2 vs = wipe σ vs ∧ tt σ2 H2 fun b H3 => if b = true then wi1 σ2 H3 fun J1 H4 => ∃ (k : Nat) (G1 : Hp → Prop) (Y1 : Nat → Hp → V → Hp → Prop) (Pw : Nat → Hp → Prop), Walk J1 k G1 Y1 ∧ Pw 0 H4 ∧ (∀ j H, j ≤ k → Pw j H → G1 H) ∧ (∀ H, Pw k H → Pv (i + 1) H) ∧
        ∀ j y H H', j < k → Pw j H → Y1 j H y H' → g1 y (wipe σ2 vs1) H' fun σ3 H5 => wipe σ3 vs1 = wipe σ2 vs1 ∧ tt1 σ3 H5 fun b H6 => if b = true then te σ3 H6 fun z H7 => ∃ acc, H7 D = some (.lst acc) ∧ acc.length < sizeLine ∧ Pw (j + 1) (upd H7 D (.lst (acc ++ [z]))) else Pw (j + 1) H6 else Pv (i + 1) H3) (hd : ∀ H, Pv n H → Qd H)
    (mg1 : ∀ x σ H Q Q', (∀ σ' H', Q σ' H' → Q' σ' H') → g x σ H Q → g x σ H Q') (mt : ∀ σ H Q Q', (∀ b H', Q b H' → Q' b H') → tt σ H Q → tt σ H Q') (mw : ∀ σ H (Q Q' : It → Hp → Prop), (∀ J H', Q J H' → Q' J H') → wi1 σ H Q → wi1 σ H Q') :
    ∃ W : Nat → Nat → Hp → Prop, (∃ m, W 0 m (upd H1 D (.lst []))) ∧ ∀ i m H, W i m H →
      (J.stop i H ∧ Qd H) ∨ (J.go i H ∧ ∃ Nx : Hp → Prop, (∀ H', Nx H' → ∃ m', m' < m ∧ W (i + 1) m' H') ∧ ∀ x H', J.yld i H x H' → g x (wipe σ vs) H' fun σ2 H2 => wipe σ2 vs = wipe σ vs ∧ tt σ2 H2 fun b H3 =>
        if b = true then wi1 σ2 H3 fun J1 H4 => ∃ W1 : Nat → Nat → Hp → Prop, (∃ m, W1 0 m H4) ∧ ∀ j k H, W1 j k H →
          (J1.stop j H ∧ Nx H) ∨ (J1.go j H ∧ ∃ Nx1 : Hp → Prop, (∀ H', Nx1 H' → ∃ k', k' < k ∧ W1 (j + 1) k' H') ∧ ∀ x H', J1.yld j H x H' → g1 x (wipe σ2 vs1) H' fun σ3 H5 => wipe σ3 vs1 = wipe σ2 vs1 ∧ tt1 σ3 H5 fun b H6 =>
            if b = true then te σ3 H6 fun y H7 => ∃ acc, H7 D = some (.lst acc) ∧ acc.length < sizeLine ∧ Nx1 (upd H7 D (.lst (acc ++ [y]))) else Nx1 H6)
        else Nx H3) := by
  refine ⟨fun i m H => m = n - i ∧ i ≤ n ∧ Pv i H, ⟨n, by simp, Nat.zero_le _, h0⟩, ?_⟩
  rintro i m H ⟨rfl, hi, p⟩
  have q := hG i H hi p
  by_cases hlt : i < n
  · refine .inr ⟨w1.goes i H hlt q, Pv (i + 1), fun H' p' => ⟨n - (i + 1), by omega, rfl, hlt, p'⟩, fun x H' y => ?_⟩
    refine mg1 _ _ _ _ _ (fun σ2 H2 h => ⟨h.1, mt _ _ _ _ (fun b H3 h => ?_) h.2⟩) (hs i x H H' hlt p (w1.yields i H x H' hlt q y))
    cases b with
    | false => exact h
    | true =>
      refine mw _ _ _ _ (fun J1 H4 h => ?_) h
      obtain ⟨k, G1, Y1, Pw, v1, p0, pG, pe, ps⟩ := h
      refine ⟨fun j l H => l = k - j ∧ j ≤ k ∧ Pw j H, ⟨k, by simp, Nat.zero_le _, p0⟩, ?_⟩
      rintro j l H ⟨rfl, hj, pp⟩
      have q2 := pG j H hj pp
      by_cases hl2 : j < k
      · exact .inr ⟨v1.goes j H hl2 q2, Pw (j + 1), fun H' p' => ⟨k - (j + 1), by omega, rfl, hl2, p'⟩, fun x H' y => ps j x H H' hl2 pp (v1.yields j H x H' hl2 q2 y)⟩
      · obtain rfl : j = k := by omega
        exact .inl ⟨v1.stops H q2, pe H pp⟩
  · obtain rfl : i = n := by omega
    exact .inl ⟨w1.stops H q, hd H p⟩
def spCnt (K : PySem.W.Frag) (n : Nat) : Sp := fun vs H Q _ => ∃ (v : V) (t : Nd n), vs = [v] ∧ Td K H v (ndD n t) ∧ Q (.int ((cnt n t : Nat) : Int)) H
def spRnd (K : PySem.W.Frag) (n : Nat) : Sp := fun vs H Q _ => ∃ (v : V) (t : Nd n), vs = [v] ∧ Td K H v (ndD n t) ∧ cnt n t ≤ 10000 ∧ ∀ (r : Int) (H' : Hp), 0 ≤ r → r ≤ n → Same H H' → Q (.int r) H'
/-- the questions of a node at their places -/
theorem td_qs {K : PySem.W.Frag} {H : Hp} {n : Nat} {t : Nd n} {v : V} (h : Td K H v (ndD n t)) : ∃ (a : Addr) (xs : List V) (ds : List PyData), v = .ref a ∧ SqT K H a xs ∧ ndD n t = .tuple ds ∧ TdAll K H xs ds ∧ (n = 0 → xs = []) := by
  cases n with
  | zero =>
    obtain ⟨a, xs, e, hs, ht⟩ := Td.tupE (ds := []) h
    refine ⟨a, xs, [], e, hs, rfl, ht, fun _ => ?_⟩
    cases ht
    rfl
  | succ n =>
    obtain ⟨a, xs, e, hs, ht⟩ := Td.tupE h
    exact ⟨a, xs, _, e, hs, rfl, ht, fun z => by cases z⟩
theorem cntQ_take (n : Nat) (q : Qn n) (i : Nat) (an : An n) (h : q[i]? = some an) : cntQ n (q.take (i + 1)) = cntQ n (q.take i) + (1 + cnt n an.2.2) := by
  unfold cntQ
  rw [List.take_add_one, h, List.map_append, List.sum_append]
  rfl
theorem cnt_take (n : Nat) (qs : List (Qn n)) (i : Nat) (q : Qn n) (h : qs[i]? = some q) : cnt (n + 1) (qs.take (i + 1) : List (Qn n)) = cnt (n + 1) (qs.take i : List (Qn n)) + cntQ n q := by
  rw [List.take_add_one, h]
  exact cnt_snoc n _ q
section
variable {P : Program} {w : World} {K : PySem.W.Frag} {mg : Str → Option Value} {base : Heap} {aN aO : Addr} {t1 t2 t3 t4 t5 t6 t7 : Tok}
theorem ok_answers_in {f : Addr} {fd : FuncData} (D : Dn K mg "answers_in" s_answers_in ["node"] f fd) (B : Blt mg) : ∀ n : Nat, FnOk P w K mg base CX0 (1 + n) f fd ["node"] (spCnt K n) := by
  intro n
  have G_answers_in : n = 0 ∨ ∃ m, n = m + 1 ∧ FnOk P w K mg base CX0 n f fd ["node"] (spCnt K m) := by
    cases n with
    | zero => exact .inl rfl
    | succ m =>
      have := ok_answers_in D B m
      rw [show 1 + m = m + 1 by omega] at this
      exact .inr ⟨m, rfl, this⟩
  obtain ⟨sp0, G_answers_in, hsp⟩ : ∃ sp0, FnOk P w K mg base CX0 n f fd ["node"] sp0 ∧ (∀ m, n = m + 1 → sp0 = spCnt K m) := by
    rcases G_answers_in with h | ⟨m, h, G⟩
    · exact ⟨fun _ _ _ _ => False, ⟨fun vs H Q E h => h.elim, fun A outer s H args us vs Q E _ _ _ _ h => h.elim⟩, fun m e => by omega⟩
    · exact ⟨_, G, fun m' e => by rw [show m' = m by omega]⟩
  rw [show 1 + n = n + 1 by omega]
  refine D.F.ok sc_answers_in (fun vs H Q E h => ?_) (fun cdv A outer s H vs Q E hr h => ?_)
  · obtain ⟨v, t, rfl, _⟩ := h
    rfl
  obtain ⟨v, t, rfl, hv, q⟩ := h
  have nd := sc_answers_in.nd
  have D_answers_in := D
  refine ⟨_, (pss_cons (ps_set (i := 1) nd rfl (.inl rfl) pe_int)
      (pss_cons (ps_for PassesOwn.never rfl (k_iT (K := K) rfl (pv 0)) (pg_name (i := 2) nd rfl (.inl rfl)) (pss_one (ps_for PassesOwn.never rfl (k_iT (K := K) rfl (pv 2)) (pg_name (i := 3) nd rfl (.inl rfl)) (pss_one (ps_aug (i := 1) nd rfl (.inl rfl) (pe_op op_add pe_int (pe_call G_answers_in (hr.mono (by omega)) (by rfl) D_answers_in.m D_answers_in.F.kp D_answers_in.b .nil pass0 (pa_cons (pe_ix (k_ixT (K := K) rfl) (pv 3) pe_int (fun _ _ => rfl)) pa_nil))) ip_add)))))
      (pss_one (ps_ret (pv 1))))), ?_⟩
  obtain ⟨a, xs, ds, rfl, ha, ed, ta, l0⟩ := td_qs hv
  cases n with
  | zero =>
    have := l0 rfl
    subst this
    refine ⟨_, rfl, a, rfl, ⟨_, ha⟩, for_it (walk_tup (K := K) (a := a) (xs := [])) (fun i σ H2 => H2 = H ∧ σ = [some (.ref a), some (.int 0), none, none]) ⟨rfl, rfl⟩ (fun i σ H2 _ h => by rw [h.1]; exact ha) ?_ ?_⟩
    · rintro i x σ H2 H3 hi
      exact absurd hi (Nat.not_lt_zero _)
    · rintro σ H2 ⟨rfl, rfl⟩
      exact ⟨_, rfl, q⟩
  | succ n =>
    cases ed
    have hsp := hsp n rfl
    subst hsp
    have lx : xs.length = (show List (Qn n) from t).length := by rw [ta.len, List.length_map]
    refine ⟨_, rfl, a, rfl, ⟨_, ha⟩, for_it (walk_tup (K := K) (a := a) (xs := xs)) (fun i σ H2 => H2 = H ∧ ∃ o2 o3 : Option V, σ = [some (.ref a), some (.int ((cnt (n + 1) ((show List (Qn n) from t).take i : List (Qn n)) : Nat) : Int)), o2, o3]) ⟨rfl, none, none, rfl⟩ (fun i σ H2 _ h => by rw [h.1]; exact ha) ?_ ?_⟩
    · rintro i x σ H0 H2 hi ⟨rfl, o2, o3, rfl⟩ ⟨e0, e1⟩
      subst e0
      obtain ⟨dx, ex, tx⟩ := ta.getV e1
      obtain ⟨qn, eq, rfl⟩ := map_at ex
      obtain ⟨b, ys, rfl, hb, tb⟩ := id tx.tupE
      have ly : ys.length = qn.length := by rw [tb.len, List.length_map]
      refine ⟨_, rfl, b, rfl, ⟨_, hb⟩, for_it (walk_tup (K := K) (a := b) (xs := ys)) (fun j σ H3 => H3 = H2 ∧ ∃ o3 : Option V, σ = [some (.ref a), some (.int ((cnt (n + 1) ((show List (Qn n) from t).take i : List (Qn n)) + cntQ n (qn.take j) : Nat) : Int)), some (.ref b), o3]) ⟨rfl, _, rfl⟩ (fun j σ H3 _ h => by rw [h.1]; exact hb) ?_ ?_⟩
      · rintro j y σ H0 H3 hj ⟨rfl, o3, rfl⟩ ⟨e0, e2⟩
        subst e0
        obtain ⟨dy, ey, ty⟩ := tb.getV e2
        obtain ⟨an, ea, rfl⟩ := map_at ey
        obtain ⟨p, zs, rfl, hp, tp⟩ := id ty.tupE
        obtain ⟨vt, et, tt⟩ := tp.get (i := 2) rfl
        refine ⟨_, rfl, _, rfl, p, zs, 2, vt, rfl, rfl, hp, at_of (j := 2) rfl et, vt, an.2.2, rfl, tt, _, _, rfl, rfl, _, _, rfl, rfl, ?_⟩
        refine ⟨rfl, some (.ref p), ?_⟩
        rw [cntQ_take n qn j an ea]
        show [some (V.ref a), some (V.int (_ + (1 + ((cnt n an.2.2 : Nat) : Int)))), _, _] = _
        have e9 : (((cnt (n + 1) ((show List (Qn n) from t).take i : List (Qn n)) + cntQ n (qn.take j) : Nat) : Int)) + (1 + ((cnt n an.2.2 : Nat) : Int)) = ((cnt (n + 1) ((show List (Qn n) from t).take i : List (Qn n)) + (cntQ n (qn.take j) + (1 + cnt n an.2.2)) : Nat) : Int) := by omega
        rw [e9]
      · rintro σ H3 ⟨rfl, o3, rfl⟩
        refine ⟨rfl, some (.ref b), o3, ?_⟩
        rw [ly, List.take_length, cnt_take n _ i qn eq]
    · rintro σ H2 ⟨rfl, o2, o3, rfl⟩
      rw [lx, List.take_length]
      exact ⟨_, rfl, q⟩
end
end Tl
namespace Tl
open PySem PySem.Spec PyProof.Rows L2 RZ
theorem max_le {n : Int} : ∀ (l : List Int) (x : Int), 0 ≤ x → x ≤ n → (∀ y ∈ l, 0 ≤ y ∧ y ≤ n) → 0 ≤ l.foldl max x ∧ l.foldl max x ≤ n
  | [], x, h0, h1, _ => ⟨h0, h1⟩
  | y :: r, x, h0, h1, h => by
    obtain ⟨y0, y1⟩ := h y (List.mem_cons_self ..)
    exact max_le r (max x y) (by omega) (by omega) fun z hz => h z (List.mem_cons_of_mem _ hz)
theorem top_le {n : Int} (hn : 0 ≤ n) (l : List Int) (h : ∀ y ∈ l, 0 ≤ y ∧ y ≤ n) : 0 ≤ topOf 0 l ∧ topOf 0 l ≤ n := by
  cases l with
  | nil => exact ⟨Int.le_refl _, hn⟩
  | cons x r =>
    obtain ⟨x0, x1⟩ := h x (List.mem_cons_self ..)
    exact max_le r x x0 x1 fun z hz => h z (List.mem_cons_of_mem _ hz)
theorem cntQ_len (n : Nat) (q : Qn n) : q.length ≤ cntQ n q := by
  rw [cntQ_eq]
  omega
theorem cnt_le_of_mem {n : Nat} {q : Qn n} : ∀ {qs : List (Qn n)}, q ∈ qs → cntQ n q ≤ cnt (n + 1) qs
  | [], h => absurd h List.not_mem_nil
  | x :: r, h => by
    rw [cnt_succ, List.map_cons, List.sum_cons]
    rcases List.mem_cons.mp h with rfl | h
    · omega
    · have := cnt_le_of_mem h
      rw [cnt_succ] at this
      omega
theorem cnt_le_ans {n : Nat} {an : An n} : ∀ {q : Qn n}, an ∈ q → cnt n an.2.2 ≤ cntQ n q
  | [], h => absurd h List.not_mem_nil
  | x :: r, h => by
    unfold cntQ
    rw [List.map_cons, List.sum_cons]
    rcases List.mem_cons.mp h with rfl | h
    · omega
    · have := cnt_le_ans h
      unfold cntQ at this
      omega
theorem cnt_take_le {n : Nat} (qs : List (Qn n)) (i : Nat) : cnt (n + 1) (qs.take i : List (Qn n)) ≤ cnt (n + 1) qs := by
  have e : cnt (n + 1) (qs.take i ++ qs.drop i : List (Qn n)) = cnt (n + 1) (qs.take i : List (Qn n)) + cnt (n + 1) (qs.drop i : List (Qn n)) := by
    rw [cnt_succ, cnt_succ, cnt_succ, List.map_append, List.sum_append]
  rw [List.take_append_drop] at e
  omega
section
variable {P : Program} {w : World} {K : PySem.W.Frag} {mg : Str → Option Value} {base : Heap} {aN aO : Addr} {t1 t2 t3 t4 t5 t6 t7 : Tok}
end
end Tl
namespace Tl
open PySem PySem.Spec PyProof.Rows L2 RZ
/-- a method as it stands behind the top -/
structure Dm (K : PySem.W.Frag) (x q : Str) (st : Stmt) (ps : List Str) (f : Addr) (fd : FuncData) : Prop where
  F : Fun K x q st f fd
  b : Binds K fd ps []
/-- the class House -/
structure Hcl (K : PySem.W.Frag) (mg : Str → Option Value) (C fi fe : Addr) : Prop where
  cl : Cls K C
  nw : NoAttr K C "worlds"
  nt : NoAttr K C "tree"
  mkH : Mk K C fi
  eq : PySem.W.findIn K (.ref C) "__eq__" = some (some (.ref fe))
  eqf : PySem.W.isFn K (.ref fe) = true
  gHouse : mg "House" = some (.ref C)
  ha : PySem.W.findIn K (.ref C) "__class__" = some (some (.builtin "object.__class__"))
  hn : PySem.W.specialIn K (.builtin "object.__class__") "__get__" = some (some (.builtin "getset_descriptor.__get__"))
  htk : PySem.W.takesIn K (.builtin "object.__class__") = some true
  hm : PySem.W.mroIn K C (.type "object") = some true
def hf (W : Nat) (v : V) : List (Str × V) := putF "tree" v (putF "worlds" (.int (W : Int)) [])
theorem wt : ¬ (("worlds" : Str) = "tree") := by decide +kernel
theorem hf_eq (W : Nat) (v : V) : hf W v = ([("worlds", .int (W : Int)), ("tree", v)] : List (Str × V)) := by
  show (if ("worlds" : Str) = "tree" then [(("worlds" : Str), v)] else (("worlds" : Str), V.int (W : Int)) :: putF "tree" v []) = ([("worlds", V.int (W : Int)), ("tree", v)] : List (Str × V))
  rw [if_neg wt]
  all_goals rfl
theorem hf_w (W : Nat) (v : V) : (hf W v).lookup ("worlds" : Str) = some (.int (W : Int)) := by
  unfold hf
  rw [lookup_putF, if_neg wt, lookup_putF, if_pos rfl]
theorem hf_t (W : Nat) (v : V) : (hf W v).lookup ("tree" : Str) = some v := by
  unfold hf
  rw [lookup_putF, if_pos rfl]
theorem hf_putw (W : Nat) (v : V) (W' : Nat) : putF "worlds" (.int (W' : Int)) (hf W v) = hf W' v := by
  rw [hf_eq, hf_eq]
  show (if ("worlds" : Str) = "worlds" then (("worlds" : Str), V.int (W' : Int)) :: [(("tree" : Str), v)] else _) = _
  rw [if_pos rfl]
theorem hf_putt (W : Nat) (v v' : V) : putF "tree" v' (hf W v) = hf W v' := by
  rw [hf_eq, hf_eq]
  show (if ("worlds" : Str) = "tree" then _ else (("worlds" : Str), V.int (W : Int)) :: (if ("tree" : Str) = "tree" then [(("tree" : Str), v')] else _)) = _
  rw [if_neg wt, if_pos rfl]
/-- a house of W worlds stands at p, its tree is v -/
def HouseAt (C : Addr) (H : Hp) (p : Addr) (W : Nat) (v : V) : Prop := ∃ dx, H p = some (.ins C dx (hf W v))
theorem HouseAt.keep {C p : Addr} {H H' : Hp} {W : Nat} {v : V} (h : HouseAt C H p W v) (s : Same H H') : HouseAt C H' p W v := let ⟨dx, e⟩ := h; ⟨dx, s _ _ e⟩
/-- the tree of a right house -/
structure TreeOk (K : PySem.W.Frag) (H : Hp) (W n : Nat) (v : V) (t : Nd n) : Prop where
  td : Td K H v (ndD n t)
  ok : NdOk W n (ones W) t
  few : cnt n t ≤ 1500
  deep : n ≤ 8
  w1 : 1 ≤ W
  w5 : W ≤ 5
def spCkT (K : PySem.W.Frag) (n : Nat) : Sp := fun vs H Q _ => ∃ (W : Nat) (v : V) (t : Nd n), vs = [.int (W : Int), v] ∧ TreeOk K H W n v t ∧ ∀ H', Same H H' → Q .non H'
def spInit (K : PySem.W.Frag) (C : Addr) (n : Nat) : Sp := fun vs H Q _ => ∃ (p dx : Addr) (W : Nat) (v : V) (t : Nd n), vs = [.ref p, .int (W : Int), v] ∧ H p = some (.ins C dx []) ∧ TreeOk K H W n v t ∧ ∀ H', H' p = some (.ins C dx (hf W v)) → (∀ b o, H b = some o → b ≠ p → H' b = some o) → Q .non H'
def spMade (K : PySem.W.Frag) (C : Addr) (n : Nat) : Sp := fun vs H Q _ => ∃ (W : Nat) (v : V) (t : Nd n), vs = [.int (W : Int), v] ∧ Td K H v (ndD n t) ∧ n ≤ 12 ∧ cnt n t ≤ 3000 ∧ ∀ p H', Same H H' → HouseAt C H' p W v → Q (.ref p) H'
/-- two houses of equal worlds and trees -/
def HEq2 (K : PySem.W.Frag) (C : Addr) : Addr → Addr → Hp → Prop := fun a b H => ∃ (W : Nat) (v v' : V) (d : PyData) (k : Nat), HouseAt C H a W v ∧ HouseAt C H b W v' ∧ Td K H v d ∧ Td K H v' d ∧ Good k d ∧ k ≤ 64
section
variable {P : Program} {w : World} {K : PySem.W.Frag} {mg : Str → Option Value} {base : Heap} {aN aO : Addr} {t1 t2 t3 t4 t5 t6 t7 : Tok}
/-- both judges, by the rounds -/
theorem ok_checks {f1 f2 f3 f4 f5 f6 f7 f8 f9 g1 g2 g3 : Addr} {fd1 fd2 fd3 fd4 fd5 fd6 fd7 fd8 fd9 gd1 gd2 gd3 : FuncData} (B : Blt mg) (C : Cst K mg aN aO t1 t2 t3 t4 t5 t6 t7) (D_check_node : Dn K mg "check_node" s_check_node ["node", "place", "ahead"] f1 fd1) (D_check_question : Dn K mg "check_question" s_check_question ["question", "place", "ahead"] f2 fd2)
    (D_is_answer : Dn K mg "is_answer" s_is_answer ["thing", "worlds"] f3 fd3) (D_is_ascending : Dn K mg "is_ascending" s_is_ascending ["rows"] f4 fd4) (D_total_weights : Dn K mg "total_weights" s_total_weights ["rows", "worlds"] f5 fd5)
    (D_is_number : Dn K mg "is_number" s_is_number ["thing", "least", "most"] f6 fd6) (D_is_integral : Dn K mg "is_integral" s_is_integral ["thing"] f7 fd7) (D_is_word : Dn K mg "is_word" s_is_word ["thing"] f8 fd8) (D_is_fraction : Dn K mg "is_fraction" s_is_fraction ["thing"] f9 fd9) (D_is_chance : Dn K mg "is_chance" s_is_chance ["thing"] g1 gd1)
    (D_reduced : Dn K mg "reduced" s_reduced ["top", "bottom"] g2 gd2) (D_added : DTot K mg g3 gd3) {h1 h2 : Addr} {hd1 hd2 : FuncData} (D_total : Dn K mg "total" s_total ["fractions"] h1 hd1) (D_are_chances : Dn K mg "are_chances" s_are_chances ["thing", "many"] h2 hd2) :
    ∀ n : Nat, FnOk P w K mg base CX0 (5 + 2 * n) f2 fd2 ["question", "place", "ahead"] (spCkQ K n) ∧ FnOk P w K mg base CX0 (6 + 2 * n) f1 fd1 ["node", "place", "ahead"] (spCkN K n)
  | 0 => by
    have h0 : FnOk P w K mg base CX0 (5 + 2 * 0) f2 fd2 ["question", "place", "ahead"] (spCkQ K 0) := ⟨fun vs H Q E h => h.elim, fun A outer s H args us vs Q E _ _ _ _ h => h.elim⟩
    exact ⟨h0, ok_check_node D_check_node B C D_check_question h0⟩
  | n + 1 => by
    have ih := ok_checks B C D_check_node D_check_question D_is_answer D_is_ascending D_total_weights D_is_number D_is_integral D_is_word D_is_fraction D_is_chance D_reduced D_added D_total D_are_chances n
    have h1 : FnOk P w K mg base CX0 (5 + 2 * (n + 1)) f2 fd2 ["question", "place", "ahead"] (spCkQ K (n + 1)) := by
      have := ok_check_question D_check_question B C D_check_node ih.2 D_is_answer (ok_is_answer D_is_answer B C D_is_number D_is_integral D_is_word D_is_fraction D_is_chance D_are_chances) D_is_ascending (ok_is_ascending D_is_ascending B) D_total_weights (ok_total_weights D_total_weights B C D_reduced D_added D_total)
      rw [show 5 + 2 * (n + 1) = 7 + 2 * n by omega]
      exact this
    exact ⟨h1, ok_check_node D_check_node B C D_check_question h1⟩
theorem ok_check_tree {n : Nat} {f f1 f2 : Addr} {fd fd1 fd2 : FuncData} (D : Dn K mg "check_tree" s_check_tree ["worlds", "tree"] f fd) (B : Blt mg) (C : Cst K mg aN aO t1 t2 t3 t4 t5 t6 t7) (D_check_node : Dn K mg "check_node" s_check_node ["node", "place", "ahead"] f1 fd1) (G_check_node : FnOk P w K mg base CX0 (6 + 2 * n) f1 fd1 ["node", "place", "ahead"] (spCkN K n))
    (D_answers_in : Dn K mg "answers_in" s_answers_in ["node"] f2 fd2) : FnOk P w K mg base CX0 (7 + 2 * n) f fd ["worlds", "tree"] (spCkT K n) := by
  have G_answers_in : FnOk P w K mg base CX0 (1 + n) f2 fd2 ["node"] (spCnt K n) := ok_answers_in D_answers_in B n
  rw [show 7 + 2 * n = (6 + 2 * n) + 1 by omega]
  refine D.F.ok sc_check_tree (fun vs H Q E h => ?_) (fun cdv A outer s H vs Q E hr h => ?_)
  · obtain ⟨W, v, t, rfl, _⟩ := h
    rfl
  obtain ⟨W, v, t, rfl, T, q⟩ := h
  have nd := sc_check_tree.nd
  refine ⟨_, (pss_cons (ps_expr (pe_call G_check_node (hr.mono (by omega)) (by rfl) D_check_node.m D_check_node.F.kp D_check_node.b .nil pass0 (pa_cons (pv 1) (pa_cons (pe_tup pa_nil) (pa_cons (pe_op (k_rep (K := K) rfl) (pe_tup (pa_cons (pe_glob (v := .ref _) rfl C.ONE rfl) pa_nil)) (pv 0)) pa_nil)))))
      (pss_one (ps_if (pt_cmpR op_gt (pe_call G_answers_in (hr.mono (by omega)) (by rfl) D_answers_in.m D_answers_in.F.kp D_answers_in.b .nil pass0 (pa_cons (pv 1) pa_nil)) (pe_glob (v := .int _) rfl C.MOST_PASSED ⟨_, rfl⟩) (nomark _)) (pss_one ps_never) pss_nil))), ?_⟩
  have w1 := T.w1
  have w5 := T.w5
  refine ⟨_, rfl, Nat.zero_le _, fun p1 n1 => ⟨(by show 1 ≤ sizeLine; decide), fun p2 n2 => ?_⟩⟩
  have s2 : Same H (upd (upd H p1 (.tup [])) p2 (.tup [.ref aO])) := (same_upd n1).trans (same_upd n2)
  refine ⟨_, rfl, p2, (W : Int), _, rfl, rfl, .inl (.inl upd_same), by simp, by omega, by omega, by simp, fun pa H3 s3 q3 => ?_⟩
  have s03 := s2.trans s3
  have tO : Td K H3 (.ref aO) (rD 1) := by
    rw [rD_one]
    exact .tup (C.tO _) (tdAll_ints [1, 1])
  refine ⟨W, 0, v, .ref pa, p1, [], ones W, t, rfl, T.td.keep (Same.kt s03), ones_td tO q3, Same.kt (((same_upd n2)).trans s3) _ _ (.inl (.inl upd_same)), rfl, by have := T.deep; omega, w1, w5, by unfold ones; rw [List.length_replicate], T.ok, fun H4 s4 => ?_⟩
  have s04 := s03.trans s4
  refine ⟨_, rfl, v, t, rfl, T.td.keep (Same.kt s04), _, _, rfl, rfl, _, rfl, ?_⟩
  have few := T.few
  rw [decide_eq_false (show ¬ (1500 : Int) < ((cnt n t : Nat) : Int) by omega)]
  exact iteF (q H4 s04)
theorem ok_House_init {n : Nat} {Cc f fe f1 f2 f3 : Addr} {fd fd1 fd2 fd3 : FuncData} (D : Dm K "__init__" "House.__init__" s_House_init ["self", "worlds", "tree"] f fd) (B : Blt mg) (C : Cst K mg aN aO t1 t2 t3 t4 t5 t6 t7) (U : Hcl K mg Cc f fe) (D_check_tree : Dn K mg "check_tree" s_check_tree ["worlds", "tree"] f1 fd1) (G_check_tree : FnOk P w K mg base CX0 (7 + 2 * n) f1 fd1 ["worlds", "tree"] (spCkT K n))
    (D_is_number : Dn K mg "is_number" s_is_number ["thing", "least", "most"] f2 fd2) (D_is_integral : Dn K mg "is_integral" s_is_integral ["thing"] f3 fd3) : FnOk P w K mg base CX0 (8 + 2 * n) f fd ["self", "worlds", "tree"] (spInit K Cc n) := by
  have G_is_number : FnOk P w K mg base CX0 2 f2 fd2 ["thing", "least", "most"] spNumber := ok_is_number D_is_number B D_is_integral
  rw [show 8 + 2 * n = (7 + 2 * n) + 1 by omega]
  refine D.F.ok sc_House_init (fun vs H Q E h => ?_) (fun cdv A outer s H vs Q E hr h => ?_)
  · obtain ⟨p, dx, W, v, t, rfl, _⟩ := h
    rfl
  obtain ⟨p, dx, W, v, t, rfl, hp, T, q⟩ := h
  have nd := sc_House_init.nd
  refine ⟨_, (pss_cons (ps_if (pt_not (pt_val (pe_call G_is_number (hr.mono (by omega)) (by rfl) D_is_number.m D_is_number.F.kp D_is_number.b .nil pass0 (pa_cons (pv 1) (pa_cons pe_int (pa_cons pe_int pa_nil)))))) (pss_one ps_never) pss_nil)
      (pss_cons (ps_expr (pe_call G_check_tree (hr.mono (by omega)) (by rfl) D_check_tree.m D_check_tree.F.kp D_check_tree.b .nil pass0 (pa_cons (pv 1) (pa_cons (pv 2) pa_nil))))
      (pss_cons (ps_fld (pv 0) (pv 1) rfl)
      (pss_one (ps_fld (pv 0) (pv 2) rfl))))), ?_⟩
  have w1 := T.w1
  have w5 := T.w5
  refine ⟨_, rfl, _, _, _, rfl, _, rfl, ?_⟩
  rw [decide_eq_true (show (1 : Int) ≤ (W : Int) by omega), decide_eq_true (show (W : Int) ≤ 5 by omega)]
  refine iteF ?_
  refine ⟨_, rfl, _, rfl, W, v, t, rfl, T, fun H1 s1 => ?_⟩
  have h1 := s1 _ _ hp
  refine ⟨_, rfl, _, rfl, p, Cc, dx, [], rfl, h1, U.cl, U.nw, (by show 0 < 1000; decide), ?_⟩
  refine ⟨_, rfl, _, rfl, p, Cc, dx, _, rfl, upd_same, U.cl, U.nt, (by show 1 < 1000; decide), ?_⟩
  exact q _ upd_same fun b o e hb => by
    rw [upd_ne hb, upd_ne hb]
    exact s1 _ _ e
theorem ok_House_eq {Cc fi f : Addr} {fd : FuncData} (D : Dm K "__eq__" "House.__eq__" s_House_eq ["self", "other"] f fd) (B : Blt mg) (U : Hcl K mg Cc fi f) : FnOk P w K mg base CX0 1 f fd ["self", "other"] (spEq (HEq2 K Cc)) := by
  refine D.F.ok sc_House_eq (fun vs H Q E h => ?_) (fun cdv A outer s H vs Q E hr h => ?_)
  · obtain ⟨a, b, rfl, _⟩ := h
    rfl
  obtain ⟨a, b, rfl, ⟨W, v, v', d, k, ⟨dx, h1⟩, ⟨dy, h2⟩, e1, e2, g, hk⟩, q⟩ := h
  have nd := sc_House_eq.nd
  refine ⟨_, (pss_one (ps_ret (pe_and (pe_callB (k_isi (K := K) rfl) (by rfl) B.isinstance (by decide +kernel) (pa_cons (pv 1) (pa_cons (pe_glob (v := .ref _) rfl U.gHouse rfl) pa_nil))) (pe_and (pe_cmpR op_eq (k_fld (K := K) rfl (pv 0) rfl) (k_fld (K := K) rfl (pv 1) rfl) (nomark _)) (pe_one (pe_cmpR (k_eqD (K := K) rfl hr.units) (k_fld (K := K) rfl (pv 0) rfl) (k_fld (K := K) rfl (pv 1) rfl) (nomark _))))))), ?_⟩
  have kk : PySem.W.kitOne K (.ref Cc) (.ref Cc) = some true := by
    unfold PySem.W.kitOne
    rw [if_pos (beq_self_eq_true _)]
  refine ⟨_, rfl, _, .ref Cc, .ref Cc, .ref Cc, true, rfl, .own Cc, .base (.ins h2 U.cl U.ha U.hn U.htk U.hm), kk, _, rfl, iteT ?_⟩
  refine ⟨_, rfl, a, Cc, dx, _, _, rfl, h1, U.cl, U.nw, hf_w _ _, _, rfl, b, Cc, dy, _, _, rfl, h2, U.cl, U.nw, hf_w _ _, rfl, _, rfl, ?_⟩
  rw [decide_eq_true rfl]
  refine iteT ?_
  refine ⟨_, rfl, a, Cc, dx, _, _, rfl, h1, U.cl, U.nt, hf_t _ _, _, rfl, b, Cc, dy, _, _, rfl, h2, U.cl, U.nt, hf_t _ _, d, d, e1.dp, e2.dp, g.shaped hk, g.shaped hk, ?_⟩
  rw [g.refl]
  exact q H Ext.rfl'
end
end Tl
namespace Tl
open PySem PySem.Spec PyProof.Rows L2 RZ
/-! the house without hopeless answers -/
def hope : (n : Nat) → Nd n → Nd n
  | 0, t => t
  | n + 1, qs => (show List (Qn n) from qs).map fun q => (q.filter fun a => !isZ a.2.1).map fun a => (a.1, a.2.1, hope n a.2.2)
def hopeA (n : Nat) (a : An n) : An n := (a.1, a.2.1, hope n a.2.2)
def hopeQ (n : Nat) (q : Qn n) : Qn n := (q.filter fun a => !isZ a.2.1).map (hopeA n)
theorem hope_succ (n : Nat) (qs : List (Qn n)) : hope (n + 1) qs = (qs.map (hopeQ n) : List (Qn n)) := rfl
theorem cntQ_nil (n : Nat) : cntQ n [] = 0 := rfl
theorem cntQ_cons (n : Nat) (a : An n) (q : Qn n) : cntQ n (a :: q) = 1 + cnt n a.2.2 + cntQ n q := rfl
theorem cnt_cons (n : Nat) (q : Qn n) (qs : List (Qn n)) : cnt (n + 1) (q :: qs : List (Qn n)) = cntQ n q + cnt (n + 1) qs := rfl
theorem hopeQ_cons (n : Nat) (a : An n) (q : Qn n) : hopeQ n (a :: q) = if isZ a.2.1 = true then hopeQ n q else hopeA n a :: hopeQ n q := by
  unfold hopeQ
  rw [List.filter_cons]
  cases isZ a.2.1 <;> rfl
theorem cnt_hope : ∀ (n : Nat) (t : Nd n), cnt n (hope n t) ≤ cnt n t
  | 0, _ => Nat.le_refl _
  | n + 1, qs => by
    have hq : ∀ q : Qn n, cntQ n (hopeQ n q) ≤ cntQ n q := by
      intro q
      induction q with
      | nil => exact Nat.le_refl _
      | cons a r ih =>
        rw [hopeQ_cons, cntQ_cons]
        have := cnt_hope n a.2.2
        split
        · omega
        · rw [cntQ_cons]
          show 1 + cnt n (hope n a.2.2) + _ ≤ _
          omega
    have all : ∀ l : List (Qn n), cnt (n + 1) (l.map (hopeQ n) : List (Qn n)) ≤ cnt (n + 1) l := by
      intro l
      induction l with
      | nil => exact Nat.le_refl _
      | cons q r ih =>
        have := hq q
        rw [List.map_cons, cnt_cons, cnt_cons]
        omega
    exact all qs
theorem isZ_false {ws : List Rat} (h : isZ ws = true) {j : Nat} : ws.getD j 0 = 0 := by
  by_cases hj : j < ws.length
  · rw [getD_of (List.getElem?_eq_getElem hj)]
    unfold isZ at h
    exact of_decide_eq_true (List.all_eq_true.mp h _ (List.getElem_mem hj))
  · rw [List.getD_eq_getElem?_getD, List.getElem?_eq_none (by omega)]
    rfl
theorem isZ_of {W : Nat} {ws : List Rat} (hl : ws.length = W) (h : ∀ j, j < W → ws.getD j 0 = 0) : isZ ws = true := by
  unfold isZ
  refine List.all_eq_true.mpr fun x hx => ?_
  obtain ⟨j, hj, rfl⟩ := List.getElem_of_mem hx
  have := h j (by omega)
  rw [getD_of (List.getElem?_eq_getElem hj)] at this
  exact decide_eq_true this
theorem fsum_zero : ∀ l : List Rat, (∀ x ∈ l, x = 0) → fsum l = 0
  | [], _ => rfl
  | x :: r, h => by
    rw [fsum_cons, h x (List.mem_cons_self ..), fsum_zero r fun y hy => h y (List.mem_cons_of_mem _ hy), Rat.zero_add]
theorem col_cons {n : Nat} (a : An n) (q : Qn n) (j : Nat) : col (a :: q) j = a.2.1.getD j 0 :: col q j := rfl
theorem hope_sub {n : Nat} (j : Nat) (q : Qn n) : ∀ r ∈ col (hopeQ n q) j, r ∈ col q j := by
  intro r hr
  unfold col hopeQ at hr
  rw [List.map_map] at hr
  obtain ⟨a, ha, rfl⟩ := List.mem_map.mp hr
  exact List.mem_map.mpr ⟨a, (List.mem_filter.mp ha).1, rfl⟩
theorem hope_whole {n : Nat} (j : Nat) : ∀ q : Qn n, fsum (col (hopeQ n q) j) = fsum (col q j)
  | [] => rfl
  | a :: q => by
    rw [hopeQ_cons]
    by_cases h : isZ a.2.1 = true
    · rw [if_pos h, hope_whole j q, col_cons, fsum_cons, isZ_false h, Rat.zero_add]
    · rw [if_neg h, col_cons, col_cons, fsum_cons, fsum_cons, hope_whole j q]
      rfl
theorem lex_trans : ∀ {a b c : List Int}, HT.lexLt a b = true → HT.lexLt b c = true → HT.lexLt a c = true
  | [], [], _, h, _ => by cases h
  | [], _ :: _, [], _, h => by cases h
  | [], _ :: _, _ :: _, _, _ => rfl
  | _ :: _, [], _, h, _ => by cases h
  | _ :: _, _ :: _, [], _, h => by cases h
  | x :: xs, y :: ys, z :: zs, h1, h2 => by
    unfold HT.lexLt at h1 h2 ⊢
    by_cases e1 : x = y
    · subst e1
      rw [if_pos rfl] at h1
      by_cases e2 : x = z
      · subst e2
        rw [if_pos rfl] at h2 ⊢
        exact lex_trans h1 h2
      · rw [if_neg e2] at h2 ⊢
        exact h2
    · rw [if_neg e1] at h1
      have l1 := of_decide_eq_true h1
      by_cases e2 : y = z
      · subst e2
        rw [if_neg (by omega)]
        exact h1
      · rw [if_neg e2] at h2
        have l2 := of_decide_eq_true h2
        rw [if_neg (by omega)]
        exact decide_eq_true (by omega)
def AscP {n : Nat} (q : Qn n) : Prop := q.Pairwise fun x y => HT.lexLt x.1 y.1 = true
theorem asc_pair {n : Nat} : ∀ {q : Qn n}, (∀ i (x y : An n), q[i]? = some x → q[i + 1]? = some y → HT.lexLt x.1 y.1 = true) → AscP q
  | [], _ => List.Pairwise.nil
  | [a], _ => List.pairwise_singleton _ _
  | a :: b :: r, h => by
    have ih : AscP (b :: r) := asc_pair fun i x y hx hy => h (i + 1) x y hx hy
    have ab := h 0 a b rfl rfl
    refine List.Pairwise.cons (fun z hz => ?_) ih
    rcases List.mem_cons.mp hz with rfl | hz
    · exact ab
    · exact lex_trans ab (List.rel_of_pairwise_cons ih hz)
theorem pair_asc {n : Nat} {q : Qn n} (h : AscP q) (i : Nat) (x y : An n) (hx : q[i]? = some x) (hy : q[i + 1]? = some y) : HT.lexLt x.1 y.1 = true := by
  have h1 := (List.getElem?_eq_some_iff.mp hx)
  have h2 := (List.getElem?_eq_some_iff.mp hy)
  obtain ⟨l1, e1⟩ := h1
  obtain ⟨l2, e2⟩ := h2
  have := (List.pairwise_iff_getElem.mp h) i (i + 1) l1 l2 (by omega)
  rw [e1, e2] at this
  exact this
theorem hope_asc {n : Nat} {q : Qn n} (h : AscP q) : AscP (hopeQ n q) := by
  unfold AscP hopeQ
  rw [List.pairwise_map]
  exact List.Pairwise.filter _ h
theorem hope_ok : ∀ {W n : Nat} {ahead : List Rat} {t : Nd n}, ahead.length = W → isZ ahead = false → NdOk W n ahead t → NdOk W n ahead (hope n t)
  | _, 0, _, _, _, _, _ => trivial
  | W, n + 1, ahead, qs, hl, hz, h => by
    refine ⟨?_, ?_⟩
    · show (List.map _ _).length ≤ 5
      rw [List.length_map]
      exact h.1
    · intro q' hq'
      obtain ⟨q, hq, rfl⟩ := List.mem_map.mp hq'
      obtain ⟨ok, nok⟩ := h.2 q hq
      have mem : ∀ a' ∈ hopeQ n q, ∃ a ∈ q, isZ a.2.1 = false ∧ a' = hopeA n a := by
        intro a' ha'
        unfold hopeQ at ha'
        obtain ⟨a, ha, rfl⟩ := List.mem_map.mp ha'
        obtain ⟨h1, h2⟩ := List.mem_filter.mp ha
        exact ⟨a, h1, by simpa using h2, rfl⟩
      refine ⟨⟨?_, ?_, ?_, ?_, ?_, ?_, ?_⟩, ?_⟩
      · show 1 ≤ (hopeQ n q).length
        cases e : hopeQ n q with
        | cons a r => simp
        | nil =>
          have : isZ ahead = true := isZ_of hl fun j hj => by
            rw [← ok.whole j hj, ← hope_whole j q, e]
            rfl
          rw [hz] at this
          cases this
      · show (hopeQ n q).length ≤ 12
        unfold hopeQ
        rw [List.length_map]
        exact Nat.le_trans (List.length_filter_le _ _) ok.most
      · intro a' ha'
        obtain ⟨a, h1, h2, rfl⟩ := mem a' ha'
        exact ok.words a h1
      · exact fun i x y => pair_asc (hope_asc (asc_pair ok.asc)) i x y
      · intro a' ha'
        obtain ⟨a, h1, h2, rfl⟩ := mem a' ha'
        exact ok.wide a h1
      · intro a' ha'
        obtain ⟨a, h1, h2, rfl⟩ := mem a' ha'
        exact ok.chs a h1
      · intro j hj
        show fsum (col (hopeQ n q) j) = _
        rw [hope_whole]
        exact ok.whole j hj
      · intro a' ha'
        obtain ⟨a, h1, h2, rfl⟩ := mem a' ha'
        exact hope_ok (ok.wide a h1) h2 (nok a h1)
theorem ones_not {W : Nat} (h : 1 ≤ W) : isZ (ones W) = false := by
  cases W with
  | zero => omega
  | succ W =>
    unfold isZ ones
    rw [List.replicate_succ, List.all_cons]
    rfl
/-- without hopeless answers once more -/
theorem hope_hope : ∀ (n : Nat) (t : Nd n), hope n (hope n t) = hope n t
  | 0, _ => rfl
  | n + 1, qs => by
    have hq : ∀ q : Qn n, hopeQ n (hopeQ n q) = hopeQ n q := by
      intro q
      induction q with
      | nil => rfl
      | cons a r ih =>
        rw [hopeQ_cons]
        by_cases h : isZ a.2.1 = true
        · rw [if_pos h, ih]
        · rw [if_neg h, hopeQ_cons]
          have h2 : ¬ isZ (hopeA n a).2.1 = true := h
          rw [if_neg h2, ih]
          have e : hopeA n (hopeA n a) = hopeA n a := by
            unfold hopeA
            rw [hope_hope n a.2.2]
          rw [e]
    have all : ∀ l : List (Qn n), (l.map (hopeQ n)).map (hopeQ n) = l.map (hopeQ n) := by
      intro l
      rw [List.map_map]
      exact List.map_congr_left fun q _ => hq q
    exact all qs
end Tl
namespace Tl
open PySem PySem.Spec PyProof.Rows L2 RZ
def spHope (K : PySem.W.Frag) (n : Nat) : Sp := fun vs H Q _ => ∃ (W : Nat) (v : V) (ahead : List Rat) (t : Nd n), vs = [v] ∧ Td K H v (ndD n t) ∧ NdOk W n ahead t ∧ W ≤ 5 ∧ ∀ v' H', Same H H' → Td K H' v' (ndD n (hope n t)) → Q v' H'
theorem hopeQ_snoc {n : Nat} (q : Qn n) (i : Nat) (an : An n) (h : q[i]? = some an) : hopeQ n (q.take (i + 1)) = hopeQ n (q.take i) ++ (if isZ an.2.1 = true then [] else [hopeA n an]) := by
  unfold hopeQ
  rw [List.take_add_one, h, List.filter_append, List.map_append]
  congr 1
  show List.map (hopeA n) (List.filter _ [an]) = _
  rw [List.filter_cons]
  cases isZ an.2.1 <;> rfl
theorem hopeQ_len {n : Nat} (q : Qn n) : (hopeQ n q).length ≤ q.length := by
  unfold hopeQ
  rw [List.length_map]
  exact List.length_filter_le _ _
/-- an answer at its place -/
theorem td_an {K : PySem.W.Frag} {H : Hp} {n : Nat} {an : An n} {v : V} (h : Td K H v (anD n an)) : ∃ p vw vs vt, v = .ref p ∧ SqT K H p [vw, vs, vt] ∧ Td K H vw (wdD an.1) ∧ Td K H vs (wsD an.2.1) ∧ Td K H vt (ndD n an.2.2) := by
  obtain ⟨p, ys, rfl, hp, tp⟩ := id h.tupE
  cases tp with
  | cons h1 tp => cases tp with
    | cons h2 tp => cases tp with
      | cons h3 tp =>
        cases tp
        exact ⟨p, _, _, _, rfl, hp, h1, h2, h3⟩
section
variable {P : Program} {w : World} {K : PySem.W.Frag} {mg : Str → Option Value} {base : Heap} {aN aO : Addr} {t1 t2 t3 t4 t5 t6 t7 : Tok}
end
end Tl
namespace Tl
open PySem PySem.Spec PyProof.Rows L2 RZ
/-- how many questions -/
def nq : (n : Nat) → Nd n → Nat
  | 0, _ => 0
  | n + 1, qs => (show List (Qn n) from qs).length
/-- answers told by their numbers and by what is behind -/
def cntd : (n : Nat) → Nd n → Nd n
  | 0, t => t
  | n + 1, qs => (show List (Qn n) from qs).map fun q => q.mapIdx fun i a => ([(i : Int), (nq n a.2.2 : Int)], a.2.1, cntd n a.2.2)
def cntdA (n : Nat) (i : Nat) (a : An n) : An n := ([(i : Int), (nq n a.2.2 : Int)], a.2.1, cntd n a.2.2)
def cntdQ (n : Nat) (q : Qn n) : Qn n := q.mapIdx (cntdA n)
theorem cntdQ_snoc {n : Nat} (q : Qn n) (i : Nat) (an : An n) (h : q[i]? = some an) : cntdQ n (q.take (i + 1)) = cntdQ n (q.take i) ++ [cntdA n i an] := by
  unfold cntdQ
  have hi := (List.getElem?_eq_some_iff.mp h).1
  rw [List.take_add_one, h]
  show List.mapIdx _ (_ ++ [an]) = _
  rw [List.mapIdx_concat, List.length_take, Nat.min_eq_left (Nat.le_of_lt hi)]
theorem cnt_cntd : ∀ (n : Nat) (t : Nd n), cnt n (cntd n t) = cnt n t
  | 0, _ => rfl
  | n + 1, qs => by
    have hq : ∀ q : Qn n, cntQ n (cntdQ n q) = cntQ n q := by
      intro q
      unfold cntQ cntdQ
      congr 1
      refine List.ext_getElem? fun i => ?_
      rw [List.getElem?_map, List.getElem?_map, List.getElem?_mapIdx]
      cases q[i]? with
      | none => rfl
      | some a =>
        show some (1 + cnt n (cntd n a.2.2)) = some (1 + cnt n a.2.2)
        rw [cnt_cntd n]
    have all : ∀ l : List (Qn n), cnt (n + 1) (l.map (cntdQ n) : List (Qn n)) = cnt (n + 1) l := by
      intro l
      induction l with
      | nil => rfl
      | cons q r ih =>
        have := hq q
        rw [List.map_cons, cnt_cons, cnt_cons]
        omega
    exact all qs
theorem nq_td {K : PySem.W.Frag} {H : Hp} {n : Nat} {t : Nd n} {v : V} (h : Td K H v (ndD n t)) : ∃ (a : Addr) (xs : List V), v = .ref a ∧ SqT K H a xs ∧ xs.length = nq n t := by
  obtain ⟨a, xs, ds, rfl, ha, ed, ta, l0⟩ := td_qs h
  refine ⟨a, xs, rfl, ha, ?_⟩
  cases n with
  | zero => rw [l0 rfl]; rfl
  | succ n =>
    cases ed
    rw [ta.len, List.length_map]
    rfl
def spCntd (K : PySem.W.Frag) (n : Nat) : Sp := fun vs H Q _ => ∃ (W : Nat) (v : V) (ahead : List Rat) (t : Nd n), vs = [v] ∧ Td K H v (ndD n t) ∧ NdOk W n ahead t ∧ ∀ v' H', Same H H' → Td K H' v' (ndD n (cntd n t)) → Q v' H'
section
variable {P : Program} {w : World} {K : PySem.W.Frag} {mg : Str → Option Value} {base : Heap} {aN aO : Addr} {t1 t2 t3 t4 t5 t6 t7 : Tok}
end
end Tl
namespace Tl
open PySem PySem.Spec PyProof.Rows L2 RZ
section
variable {P : Program} {w : World} {K : PySem.W.Frag} {mg : Str → Option Value} {base : Heap} {aN aO : Addr} {t1 t2 t3 t4 t5 t6 t7 : Tok}
/-- a house and its tree -/
structure HsOk (K : PySem.W.Frag) (C : Addr) (H : Hp) (p : Addr) (W n : Nat) (t : Nd n) (v : V) : Prop where
  at_ : HouseAt C H p W v
  td : Td K H v (ndD n t)
  ok : NdOk W n (ones W) t
  few : cnt n t ≤ 1500
  deep : n ≤ 8
  w1 : 1 ≤ W
  w5 : W ≤ 5
theorem HsOk.tree {C p : Addr} {H : Hp} {W n : Nat} {t : Nd n} {v : V} (h : HsOk K C H p W n t v) : TreeOk K H W n v t := ⟨h.td, h.ok, h.few, h.deep, h.w1, h.w5⟩
theorem HsOk.keep {C p : Addr} {H H' : Hp} {W n : Nat} {t : Nd n} {v : V} (h : HsOk K C H p W n t v) (s : Same H H') : HsOk K C H' p W n t v := ⟨h.at_.keep s, h.td.keep (Same.kt s), h.ok, h.few, h.deep, h.w1, h.w5⟩
def spHopeful (K : PySem.W.Frag) (C : Addr) (n : Nat) : Sp := fun vs H Q _ => ∃ (p : Addr) (W : Nat) (t : Nd n) (v : V), vs = [.ref p] ∧ HsOk K C H p W n t v ∧ ∀ p' v' H', Same H H' → HsOk K C H' p' W n (hope n t) v' → Q (.ref p') H'
/-- the one answer with which a house begins -/
def beg (W n : Nat) (t : Nd n) : Nd (n + 1) := ([[([(nq n t : Int)], ones W, cntd n t)]] : List (Qn n))
theorem cnt_beg (W n : Nat) (t : Nd n) : cnt (n + 1) (beg W n t) = 1 + cnt n t := by
  show 1 + cnt n (cntd n t) + 0 + 0 = _
  rw [cnt_cntd]
  rfl
def spBegun (K : PySem.W.Frag) (C : Addr) (n : Nat) : Sp := fun vs H Q _ => ∃ (p : Addr) (W : Nat) (t : Nd n) (v : V), vs = [.ref p] ∧ HsOk K C H p W n t v ∧ ∀ p' v' H', Same H H' → HouseAt C H' p' W v' → Td K H' v' (ndD (n + 1) (beg W n t)) → Q (.ref p') H'
end
end Tl
namespace Tl
open PySem PySem.Spec PyProof.Rows L2 RZ
section
variable {P : Program} {w : World} {K : PySem.W.Frag} {mg : Str → Option Value} {base : Heap} {aN aO : Addr} {t1 t2 t3 t4 t5 t6 t7 : Tok}
end
end Tl
namespace Tl
open PySem PySem.Spec PyProof.Rows L2 RZ
def fq {n : Nat} (q : Qn n) : Qn n := q.filter fun a => !isZ a.2.1
theorem fq_snoc {n : Nat} (q : Qn n) (i : Nat) (an : An n) (h : q[i]? = some an) : fq (q.take (i + 1)) = fq (q.take i) ++ (if isZ an.2.1 = true then [] else [an]) := by
  unfold fq
  rw [List.take_add_one, h, List.filter_append]
  congr 1
  show List.filter _ [an] = _
  rw [List.filter_cons]
  cases isZ an.2.1 <;> rfl
theorem fq_len {n : Nat} (q : Qn n) : (fq q).length ≤ q.length := List.length_filter_le _ _
theorem hopeQ_fq {n : Nat} (q : Qn n) : hopeQ n q = (fq q).map (hopeA n) := rfl
theorem any_pos : ∀ ws : List Rat, (∀ r ∈ ws, 0 ≤ r) → (ws.map fun r => decide (0 < r.num)).any id = !isZ ws
  | [], _ => rfl
  | r :: l, h => by
    have ih := any_pos l fun x hx => h x (List.mem_cons_of_mem _ hx)
    have h0 := Rat.num_nonneg.mpr (h r (List.mem_cons_self ..))
    show (decide (0 < r.num) || ((l.map fun r => decide (0 < r.num)).any id)) = !(decide (r = 0) && isZ l)
    rw [ih]
    by_cases e : r = 0
    · subst e
      rw [decide_eq_false (show ¬ 0 < (0 : Rat).num by decide), decide_eq_true rfl]
      rfl
    · have hn : r.num ≠ 0 := fun z => e (Rat.num_eq_zero.mp z)
      rw [decide_eq_true (show 0 < r.num by omega), decide_eq_false e]
      rfl
section
variable {P : Program} {w : World} {K : PySem.W.Frag} {mg : Str → Option Value} {base : Heap} {aN aO : Addr} {t1 t2 t3 t4 t5 t6 t7 : Tok}
end
end Tl
namespace Tl
open PySem PySem.Spec PyProof.Rows L2 RZ
def key {n : Nat} (a : An n) : List Int × List Rat := (a.1, a.2.1)
theorem key_at {n m : Nat} {q : Qn n} {q' : Qn m} (e : q'.map key = q.map key) {i : Nat} {x : An m} (h : q'[i]? = some x) : ∃ y : An n, q[i]? = some y ∧ y.1 = x.1 ∧ y.2.1 = x.2.1 := by
  have h1 : (q'.map key)[i]? = some (key x) := by rw [List.getElem?_map, h]; rfl
  rw [e] at h1
  obtain ⟨y, ey, ky⟩ := map_at h1
  have k1 : x.1 = y.1 := congrArg Prod.fst ky
  have k2 : x.2.1 = y.2.1 := congrArg Prod.snd ky
  exact ⟨y, ey, k1.symm, k2.symm⟩
theorem key_col {n m : Nat} {q : Qn n} {q' : Qn m} (e : q'.map key = q.map key) (j : Nat) : col q' j = col q j := by
  have f : ∀ {k : Nat} (r : Qn k), col r j = (r.map key).map fun z => z.2.getD j 0 := fun r => by
    rw [List.map_map]
    rfl
  rw [f q', f q, e]
theorem qnOk_key {W n m : Nat} {ahead : List Rat} {q : Qn n} {q' : Qn m} (e : q'.map key = q.map key) (h : QnOk W ahead q) : QnOk W ahead q' := by
  have hl : q'.length = q.length := by
    have := congrArg List.length e
    rw [List.length_map, List.length_map] at this
    exact this
  have mem : ∀ a ∈ q', ∃ y ∈ q, y.1 = a.1 ∧ y.2.1 = a.2.1 := fun a ha => by
    obtain ⟨i, hi, rfl⟩ := List.getElem_of_mem ha
    obtain ⟨y, ey, k⟩ := key_at e (List.getElem?_eq_getElem hi)
    exact ⟨y, List.mem_of_getElem? ey, k⟩
  refine ⟨by have := h.one; omega, by have := h.most; omega, fun a ha => ?_, fun i x y hx hy => ?_, fun a ha => ?_, fun a ha => ?_, fun j hj => ?_⟩
  · obtain ⟨y, hy, k1, k2⟩ := mem a ha
    rw [← k1]
    exact h.words y hy
  · obtain ⟨x', ex, k1, _⟩ := key_at e hx
    obtain ⟨y', ey, k2, _⟩ := key_at e hy
    rw [← k1, ← k2]
    exact h.asc i x' y' ex ey
  · obtain ⟨y, hy, k1, k2⟩ := mem a ha
    rw [← k2]
    exact h.wide y hy
  · obtain ⟨y, hy, k1, k2⟩ := mem a ha
    rw [← k2]
    exact h.chs y hy
  · rw [key_col e]
    exact h.whole j hj
def zer (W : Nat) : List Rat := List.replicate W 0
theorem zer_at (W j : Nat) : (zer W).getD j 0 = 0 := by
  unfold zer
  by_cases h : j < W
  · exact getD_of (by rw [List.getElem?_replicate, if_pos h])
  · rw [List.getD_eq_getElem?_getD, List.getElem?_eq_none (by rw [List.length_replicate]; omega)]
    rfl
/-- a hopeless answer more at the end -/
theorem qnOk_more {W n : Nat} {ahead : List Rat} {q : Qn n} (h : QnOk W ahead q) (l : q.length ≤ 11) {wd : List Int} (hw : WordOk wd) {nd : Nd n} {x : An n} (hx : q[q.length - 1]? = some x) (hlt : HT.lexLt x.1 wd = true) : QnOk W ahead (q ++ [(wd, zer W, nd)]) := by
  have c : ∀ j, col (q ++ [((wd, zer W, nd) : An n)]) j = col q j ++ [0] := fun j => by
    unfold col
    rw [List.map_append]
    show _ ++ [(zer W).getD j 0] = _
    rw [zer_at]
  have o1 := h.one
  refine ⟨by rw [List.length_append]; omega, by rw [List.length_append]; show q.length + 1 ≤ 12; omega, fun a ha => ?_, fun i x' y' h1 h2 => ?_, fun a ha => ?_, fun a ha => ?_, fun j hj => ?_⟩
  · rcases List.mem_append.mp ha with z | z
    · exact h.words a z
    · rw [List.mem_singleton.mp z]
      exact hw
  · by_cases hi : i + 1 < q.length
    · rw [List.getElem?_append_left hi] at h2
      rw [List.getElem?_append_left (by omega)] at h1
      exact h.asc i x' y' h1 h2
    · have hb := (List.getElem?_eq_some_iff.mp h2).1
      rw [List.length_append] at hb
      have hb2 : i + 1 < q.length + 1 := hb
      have ei : i + 1 = q.length := by omega
      rw [ei, List.getElem?_append_right (Nat.le_refl _), Nat.sub_self] at h2
      rw [List.getElem?_append_left (by omega), show i = q.length - 1 by omega, hx] at h1
      cases h1
      cases h2
      exact hlt
  · rcases List.mem_append.mp ha with z | z
    · exact h.wide a z
    · rw [List.mem_singleton.mp z]
      show (zer W).length = W
      unfold zer
      rw [List.length_replicate]
  · rcases List.mem_append.mp ha with z | z
    · exact h.chs a z
    · rw [List.mem_singleton.mp z]
      intro r hr
      have : r = 0 := (List.mem_replicate.mp hr).2
      rw [this]
      exact ch_zero
  · rw [c, fsum_snoc, Rat.add_zero]
    exact h.whole j hj
/-- a node of one round where more may be -/
def upA (m : Nat) (a : An 0) : An m := (a.1, a.2.1, emptyNd m)
def upN (m : Nat) (qs : List (Qn 0)) : Nd (m + 1) := (qs.map fun q => q.map (upA m) : List (Qn m))
theorem upN_D (m : Nat) (qs : List (Qn 0)) : ndD (m + 1) (upN m qs) = ndD 1 (show Nd 1 from qs) := by
  show PyData.tuple _ = PyData.tuple _
  refine congrArg PyData.tuple ?_
  unfold upN
  show List.map _ (List.map _ qs) = _
  rw [List.map_map]
  refine List.map_congr_left fun q _ => ?_
  show PyData.tuple (List.map _ (List.map _ q)) = PyData.tuple _
  rw [List.map_map]
  refine congrArg PyData.tuple (List.map_congr_left fun a _ => ?_)
  show PyData.tuple [wdD a.1, wsD a.2.1, ndD m (emptyNd m)] = PyData.tuple [wdD a.1, wsD a.2.1, ndD 0 a.2.2]
  rw [ndD_empty]
  rfl
theorem upN_cnt (m : Nat) (qs : List (Qn 0)) : cnt (m + 1) (upN m qs) = cnt 1 (show Nd 1 from qs) := by
  show List.sum _ = List.sum _
  congr 1
  unfold upN
  show List.map _ (List.map _ qs) = _
  rw [List.map_map]
  refine List.map_congr_left fun q _ => ?_
  show List.sum (List.map _ (List.map _ q)) = List.sum _
  rw [List.map_map]
  congr 1
  refine List.map_congr_left fun a _ => ?_
  show 1 + cnt m (emptyNd m) = 1 + 0
  rw [cnt_empty]
theorem upN_ok {W m : Nat} {ws : List Rat} {qs : List (Qn 0)} (h : NdOk W 1 ws (show Nd 1 from qs)) : NdOk W (m + 1) ws (upN m qs) := by
  refine ⟨by show (List.map _ qs).length ≤ 5; rw [List.length_map]; exact h.1, fun q' hq' => ?_⟩
  obtain ⟨q, hq, rfl⟩ := List.mem_map.mp hq'
  refine ⟨qnOk_key (by rw [List.map_map]; rfl) (h.2 q hq).1, fun a' ha' => ?_⟩
  obtain ⟨a, ha, rfl⟩ := List.mem_map.mp ha'
  exact ndOk_empty _ _ _
theorem sharp_key {n m : Nat} {q : Qn n} {q' : Qn m} (e : q'.map key = q.map key) (h : Sharp q) : Sharp q' := fun a ha => by
  obtain ⟨i, hi, rfl⟩ := List.getElem_of_mem ha
  obtain ⟨y, ey, k1, k2⟩ := key_at e (List.getElem?_eq_getElem hi)
  rw [← k2]
  exact h y (List.mem_of_getElem? ey)
theorem sharp_more {n W : Nat} {q : Qn n} (h : Sharp q) {wd : List Int} {nd : Nd n} : Sharp (q ++ [(wd, zer W, nd)]) := fun a ha r hr => by
  rcases List.mem_append.mp ha with z | z
  · exact h a z r hr
  · rw [List.mem_singleton.mp z] at hr
    have : r = 0 := (List.mem_replicate.mp hr).2
    rw [this]
    exact ch_zero
theorem upN_g {W m : Nat} {ws : List Rat} {qs : List (Qn 0)} (h : NdG W 1 ws (show Nd 1 from qs)) : NdG W (m + 1) ws (upN m qs) := by
  refine ⟨by show (List.map _ qs).length ≤ 5; rw [List.length_map]; exact h.1, fun q' hq' => ?_⟩
  obtain ⟨q, hq, rfl⟩ := List.mem_map.mp hq'
  refine ⟨⟨qnOk_key (by rw [List.map_map]; rfl) (h.2 q hq).1.1, sharp_key (by rw [List.map_map]; rfl) (h.2 q hq).1.2⟩, fun a' ha' => ?_⟩
  obtain ⟨a, ha, rfl⟩ := List.mem_map.mp ha'
  exact ndG_empty _ _ _
end Tl
namespace Tl
open PySem PySem.Spec PyProof.Rows L2 RZ
theorem atI_neg1 {xs : List V} {v : V} (h : xs[xs.length - 1]? = some v) : atI xs (-1) = some v := by
  have hl := (List.getElem?_eq_some_iff.mp h).1
  have hne : xs ≠ [] := fun e => by subst e; exact absurd hl (Nat.not_lt_zero _)
  have e := List.dropLast_concat_getLast hne
  have g : xs.getLast hne = v := by
    rw [List.getLast_eq_getElem]
    exact (List.getElem?_eq_some_iff.mp h).2
  rw [g] at e
  rw [← e]
  exact atI_last _ _
theorem zer_td {K : PySem.W.Frag} {H : Hp} {p q : Addr} {W : Nat} (hq : Td K H (.ref q) (rD 0)) (hp : SqT K H p (List.replicate (W : Int).toNat [V.ref q]).flatten) : Td K H (.ref p) (wsD (zer W)) := by
  rw [flat_rep, Int.toNat_natCast] at hp
  refine .tup hp ?_
  unfold zer
  rw [List.map_replicate]
  exact tdAll_rep hq W
def spWH (K : PySem.W.Frag) (n : Nat) : Sp := fun vs H Q _ => ∃ (b g : Addr) (W : Nat) (v : V) (ahead : List Rat) (t : Nd n), vs = [.ref b, .int (W : Int), v] ∧ Bag H b g ∧ Td K H v (ndD n t) ∧ NdF W n ahead t ∧ 1 ≤ W ∧ W ≤ 5 ∧
  ∀ (v' : V) (t' : Nd (n + 1)) (H' : Hp), Td K H' v' (ndD (n + 1) t') → NdG W (n + 1) ahead t' → cnt (n + 1) t' ≤ 11 * cnt n t → Bag H' b g → Frm b g H H' → Q v' H'
/-- what stands when i questions are done -/
structure WhI (K : PySem.W.Frag) (b g T : Addr) (W n : Nat) (ahead : List Rat) (qs : List (Qn n)) (H : Hp) (i : Nat) (H2 : Hp) (us : List V) (qs' : List (Qn (n + 1))) : Prop where
  len : qs'.length = i
  h : H2 T = some (.lst us)
  t : TdAll K H2 us (qs'.map (qnD (n + 1)))
  ok : ∀ q ∈ qs', QnG W ahead q ∧ ∀ a ∈ q, NdG W (n + 1) a.2.1 a.2.2
  c : cnt (n + 2) (qs' : List (Qn (n + 1))) ≤ 11 * cnt (n + 1) (qs.take i : List (Qn n))
  B : Bag H2 b g
  F : Frm b g H H2
theorem wh_fin {K : PySem.W.Frag} {b g T : Addr} {W n : Nat} {ahead : List Rat} {qs : List (Qn n)} {H H2 H5 : Hp} {i : Nat} {us : List V} {qs' : List (Qn (n + 1))} {qn : Qn n} {qa : Qn (n + 1)} {l : Addr} (I : WhI K b g T W n ahead qs H i H2 us qs') (eq : qs[i]? = some qn) (F5 : Frm b g H2 H5) (B5 : Bag H5 b g) (t5 : Td K H5 (.ref l) (qnD (n + 1) qa)) (o1 : QnG W ahead qa)
    (o2 : ∀ a ∈ qa, NdG W (n + 1) a.2.1 a.2.2) (c5 : cntQ (n + 1) qa ≤ 11 * cntQ n qn) (Tb : T ≠ b) (Tg : T ≠ g) (T0 : H T = none) : H5 T = some (.lst us) ∧ WhI K b g T W n ahead qs H (i + 1) (upd H5 T (.lst (us ++ [.ref l]))) (us ++ [.ref l]) (qs' ++ [qa]) := by
  have h5 := F5 _ _ I.h Tb Tg
  have kT : KT K H5 (upd H5 T (.lst (us ++ [.ref l]))) := KT.updL h5
  refine ⟨h5, by rw [List.length_append, I.len]; rfl, upd_same, ?_, fun q hq => ?_, ?_, B5.updN Tb Tg, (I.F.trans F5).updN T0⟩
  · rw [List.map_append]
    exact (I.t.keep ((I.B.kt F5).trans kT)).app (.cons (t5.keep kT) .nil)
  · rcases List.mem_append.mp hq with z | z
    · exact I.ok q z
    · rw [List.mem_singleton.mp z]
      exact ⟨o1, o2⟩
  · rw [cnt_snoc, cnt_take n qs i qn eq]
    have := I.c
    show cnt (n + 2) (qs' : List (Qn (n + 1))) + _ ≤ _
    omega
section
variable {P : Program} {w : World} {K : PySem.W.Frag} {mg : Str → Option Value} {base : Heap}
end
end Tl
/-! dicts whose keys are tuples of tuples -/
namespace Tl
open PySem PySem.Spec PyProof.Rows L2 RZ
/-- the object of such a dict -/
def ndo (w : World) (d : Addr) (xs : List (NestedKey × Addr × Value)) : HO := .ext fun h => ∃ o es ep, h.get? d = some o ∧ o.ExactDict ∧ o.data = .dict es ep ∧ es.toList = xs.map (fun x => (⟨x.1.hash w, .ref x.2.1, x.2.2⟩ : DictEntry))
/-- at d a dict of at most n pairs, told by f -/
def NDc (K : PySem.W.Frag) (w : World) (H : Hp) (d : Addr) (n : Nat) (f : NestedKey → Option V) : Prop := ∃ xs : List (NestedKey × Addr × Value), H d = some (ndo w d xs) ∧ (d == sysModules) = false ∧ xs.length ≤ n ∧ (xs.map (·.1)).Nodup ∧
  (∀ x ∈ xs, Td K H (.ref x.2.1) x.1.data ∧ x.1.depth ≤ 8) ∧ ∀ k, RelO (f k) ((atKey xs k).map (·.2))
theorem NDc.keep {K : PySem.W.Frag} {w : World} {H H' : Hp} {d : Addr} {n : Nat} {f : NestedKey → Option V} (h : NDc K w H d n f) (k : KT K H H') (e : ∀ o, H d = some o → H' d = some o) : NDc K w H' d n f := by
  obtain ⟨xs, h1, h2, h3, h4, h5, h6⟩ := h
  exact ⟨xs, e _ h1, h2, h3, h4, fun x hx => ⟨(h5 x hx).1.keep k, (h5 x hx).2⟩, h6⟩
theorem NDc.mono {K : PySem.W.Frag} {w : World} {H : Hp} {d : Addr} {n m : Nat} {f : NestedKey → Option V} (h : NDc K w H d n f) (l : n ≤ m) : NDc K w H d m f := by
  obtain ⟨xs, h1, h2, h3, h4⟩ := h
  exact ⟨xs, h1, h2, Nat.le_trans h3 l, h4⟩
theorem NDc.at_ {K : PySem.W.Frag} {w : World} {H : Hp} {d : Addr} {n : Nat} {f : NestedKey → Option V} (h : NDc K w H d n f) : ∃ φ, H d = some (.ext φ) := let ⟨_, h1, _⟩ := h; ⟨_, h1⟩
section
variable {X : Cx} {pins : List (Addr × Obj)} {σ : L2.St} {H : Hp} {s : Shared}
mutual
theorem nested_is (I : Inv X pins σ H s) : ∀ (k : NestedKey) (v : V) (u : Value), Td X.K H v k.data → RelV v u → NestedIs s.heap k u
  | .none, _, u, h, r => by
    cases h
    cases (show u = Value.none from r)
    exact .none
  | .num i, _, u, h, r => by
    cases h
    obtain ⟨t, rfl⟩ := r
    exact .int i t
  | .text x, _, u, h, r => by
    cases h
    obtain ⟨t, rfl⟩ := r
    exact .text x t
  | .tup ks, _, u, h, r => by
    cases h with
    | tup hs ha =>
      rename_i a xs
      cases (show u = Value.ref a from r)
      obtain ⟨its, rv, ⟨o, h1, h2, n, h3⟩, _⟩ := I.tuple hs
      exact .tup h1 h2 h3 (by simpa using nested_all I ks xs its ha rv)
theorem nested_all (I : Inv X pins σ H s) : ∀ (ks : List NestedKey) (vs : List V) (us : List Value), TdAll X.K H vs (NestedKey.datas ks) → Vals vs us → NestedAll s.heap ks us
  | [], _, us, h, r => by
    cases h
    cases r
    exact .nil
  | k :: ks, _, us, h, r => by
    cases h with
    | cons h1 h2 =>
      cases r with
      | cons r1 r2 => exact .cons (nested_is I k _ _ h1 r1) (nested_all I ks _ _ h2 r2)
end
theorem NDc.of (I : Inv X pins σ H s) {d : Addr} {n : Nat} {f : NestedKey → Option V} (D : NDc X.K X.w H d n f) : ∃ xs, s.heap.DictOfH (nestedKind X.prog X.w) d xs ∧ H d = some (ndo X.w d xs) ∧ (d == sysModules) = false ∧ xs.length ≤ n ∧ (xs.map (·.1)).Nodup ∧ (∀ x ∈ xs, Td X.K H (.ref x.2.1) x.1.data ∧ x.1.depth ≤ 8) ∧ ∀ k, RelO (f k) ((atKey xs k).map (·.2)) := by
  obtain ⟨xs, h1, h2, h3, h4, h5, h6⟩ := D
  obtain ⟨⟨o, es, ep, e1, e2, e3, e4⟩, _⟩ := (show ObjOk X.prog X.w H s.heap d (ndo X.w d xs) from I.hok d _ h1)
  exact ⟨xs, ⟨o, es, ep, e1, e2, e3, e4, fun x hx => ⟨nested_is I _ _ _ (h5 x hx).1 rfl, (h5 x hx).2⟩, h4⟩, h1, h2, h3, h4, h5, h6⟩
theorem ndo_ok {P : Program} {w : World} {H : Hp} {h : Heap} {d : Addr} {xs : List (NestedKey × Addr × Value)} (e : ∃ o es ep, h.get? d = some o ∧ o.ExactDict ∧ o.data = .dict es ep ∧ es.toList = xs.map (fun x => (⟨x.1.hash w, .ref x.2.1, x.2.2⟩ : DictEntry))) : ObjOk P w H h d (ndo w d xs) := by
  refine ⟨e, ?_, fun h1 h2 q k => ?_⟩
  · obtain ⟨o, _, _, e1, _⟩ := e
    exact ⟨o, e1⟩
  · obtain ⟨o, es, ep, e1, e2⟩ := q
    exact ⟨o, es, ep, k _ e1, e2⟩
end
theorem atKey_nil {k : NestedKey} : atKey ([] : List (NestedKey × Addr × Value)) k = none := rfl
theorem atKey_cons (x : NestedKey × Addr × Value) (r : List (NestedKey × Addr × Value)) (k : NestedKey) : atKey (x :: r) k = if x.1 = k then some x.2 else atKey r k := by
  unfold atKey
  rw [List.find?_cons]
  by_cases e : x.1 = k
  · rw [if_pos e, decide_eq_true e]
    rfl
  · rw [if_neg e, decide_eq_false e]
theorem atKey_snoc (r : List (NestedKey × Addr × Value)) (x : NestedKey × Addr × Value) (k : NestedKey) : atKey (r ++ [x]) k = (atKey r k).or (if x.1 = k then some x.2 else none) := by
  induction r with
  | nil =>
    rw [List.nil_append, atKey_cons, atKey_nil]
    rfl
  | cons y r ih =>
    rw [List.cons_append, atKey_cons, atKey_cons, ih]
    by_cases e : y.1 = k
    · rw [if_pos e, if_pos e]
      rfl
    · rw [if_neg e, if_neg e]
theorem atKey_put (k : NestedKey) (v : Value) (j : NestedKey) : ∀ r : List (NestedKey × Addr × Value), (atKey (r.map (putAt k v)) j).map (·.2) = if j = k then (atKey r j).map (fun _ => v) else (atKey r j).map (·.2)
  | [] => by
    rw [List.map_nil, atKey_nil]
    split <;> rfl
  | x :: r => by
    have ih := atKey_put k v j r
    rw [List.map_cons, atKey_cons, atKey_cons]
    have e1 : (putAt k v x).1 = x.1 := by unfold putAt; split <;> rfl
    rw [e1]
    by_cases e : x.1 = j
    · rw [if_pos e, if_pos e]
      by_cases f : j = k
      · rw [if_pos f]
        unfold putAt
        rw [if_pos (e.trans f)]
        rfl
      · rw [if_neg f]
        unfold putAt
        rw [if_neg (fun z => f (e.symm.trans z))]
    · rw [if_neg e, if_neg e]
      exact ih
theorem atKey_stored (r : List (NestedKey × Addr × Value)) (k : NestedKey) (b : Addr) (v : Value) (j : NestedKey) : (atKey (storedH r k b v) j).map (·.2) = if j = k then some v else (atKey r j).map (·.2) := by
  cases h : atKey r k with
  | none =>
    rw [storedH_new h, atKey_snoc]
    by_cases e : j = k
    · rw [if_pos e, e, h]
      show Option.map _ (if k = k then _ else _) = _
      rw [if_pos rfl]
      rfl
    · rw [if_neg e]
      show Option.map _ ((atKey r j).or (if k = j then _ else _)) = _
      rw [if_neg (fun z => e z.symm), Option.or_none]
  | some p =>
    rw [storedH_old h, atKey_put]
    by_cases e : j = k
    · rw [if_pos e, if_pos e, e, h]
      rfl
    · rw [if_neg e, if_neg e]
theorem stored_keys (r : List (NestedKey × Addr × Value)) (k : NestedKey) (b : Addr) (v : Value) (x : NestedKey × Addr × Value) (h : x ∈ storedH r k b v) : (∃ y ∈ r, x.1 = y.1 ∧ x.2.1 = y.2.1) ∨ (x.1 = k ∧ x.2.1 = b) := by
  cases e : atKey r k with
  | none =>
    rw [storedH_new e] at h
    rcases List.mem_append.mp h with h | h
    · exact .inl ⟨x, h, rfl, rfl⟩
    · rw [List.mem_singleton.mp h]
      exact .inr ⟨rfl, rfl⟩
  | some p =>
    rw [storedH_old e] at h
    obtain ⟨y, hy, rfl⟩ := List.mem_map.mp h
    refine .inl ⟨y, hy, ?_, ?_⟩ <;> (unfold putAt; split <;> rfl)
theorem stored_len (r : List (NestedKey × Addr × Value)) (k : NestedKey) (b : Addr) (v : Value) : (storedH r k b v).length ≤ r.length + 1 := by
  cases e : atKey r k with
  | none =>
    rw [storedH_new e, List.length_append]
    exact Nat.le_refl _
  | some p =>
    rw [storedH_old e, List.length_map]
    omega
/-! the rules -/
def tDNewN (K : PySem.W.Frag) (w : World) : TE := fun _ H Q => ∀ p H', H p = none → Same H H' → NDc K w H' p 0 (fun _ => none) → Q (.ref p) H'
def tDGetN (K : PySem.W.Frag) (w : World) (td ty : TE) : TE := fun σ H Q => td σ H fun x H1 => ty σ H1 fun y H2 => ∃ d n f k v, x = .ref d ∧ NDc K w H2 d n f ∧ Td K H2 y (NestedKey.data k) ∧ (∃ b, y = .ref b) ∧ k.depth ≤ 8 ∧ f k = some v ∧ Q v H2
def sDPutN (K : PySem.W.Frag) (w : World) (td ty tv : TE) : TS := fun D σ H => tv σ H fun v H1 => td σ H1 fun x H2 => ty σ H2 fun y H3 => ∃ d n f k, x = .ref d ∧ NDc K w H3 d n f ∧ n ≤ 100000 ∧ Td K H3 y (NestedKey.data k) ∧ (∃ b, y = .ref b) ∧ k.depth ≤ 8 ∧
  ∀ H4, (∀ a o, H3 a = some o → a ≠ d → H4 a = some o) → KT K H3 H4 → NDc K w H4 d (n + 1) (fun j => if j = k then some v else f j) → D.nx σ H4
theorem ext_tup {φ : Heap → Prop} {xs : List V} : HO.ext φ ≠ .tup xs := fun z => by cases z
section
variable {X : Cx} {K : PySem.W.Frag} {w : World} (hK : X.K = K) (hw : X.w = w)
include hK hw
theorem k_dnewN {pos : Pos} : PE X (.Dict [] [] pos) (tDNewN K w) := by
  subst hK hw
  constructor
  intro pins s σ H Q I want
  have n0 := I.hok.fresh (Nat.le_refl s.heap.objs.size)
  have big : (s.heap.objs.size == sysModules) = false := beq_eq_false_iff_ne.mpr (Ne.symm (Nat.ne_of_lt I.big))
  refine wpAny_Dict_empty ⟨.ref s.heap.objs.size, _, I.laid (a := s.heap.objs.size) (o := ndo X.w s.heap.objs.size []) (t' := s.toks) (fun _ _ q => Heap.get?_push_of_some _ q) (Nat.le_refl _) ?_, rfl, want _ _ n0 (same_upd n0) ⟨[], upd_same, big, Nat.le_refl _, List.nodup_nil, fun x hx => absurd hx List.not_mem_nil, fun k => ?_⟩⟩
  · exact ndo_ok ⟨_, #[], 0, Heap.get?_push_size _ rfl, ⟨rfl, rfl, rfl⟩, rfl, rfl⟩
  · exact True.intro
theorem k_dgetN {o i : Expr} {td ty : TE} {pos : Pos} (hu : X.A.units + 64 < cLine) (eo : PE X o td) (ei : PE X i ty) (hs : NoSl i) : PE X (.Subscript o i pos) (tDGetN K w td ty) := by
  subst hK hw
  constructor
  intro pins s σ H Q I want
  refine subD_of PySem.F.slot_dict_getitem.lookup hs (thn (eo.run pins s σ H _ I want) fun u sa za => ?_)
  obtain ⟨x, Ha, Ia, rx, want⟩ := za
  refine thn (ei.run pins sa σ Ha _ Ia want) fun iv sb zb => ?_
  obtain ⟨y, Hb, Ib, ry, d, n, f, k, v, rfl, D, tk, ⟨b, rfl⟩, hd, hf, want⟩ := zb
  cases (show u = Value.ref d from rx)
  cases (show iv = Value.ref b from ry)
  obtain ⟨xs, dd, h1, h2, h3, h4, h5, h6⟩ := D.of Ib
  obtain ⟨w', hw', rw'⟩ := RelO.some_of (v := v) (o := (atKey xs k).map (·.2)) (by rw [← hf]; exact h6 k)
  obtain ⟨p, hp, hp2⟩ := Option.map_eq_some_iff.mp hw'
  refine ⟨dd.typeIs, wpAny_getItem_heap (knd := nestedKind X.prog X.w) (k := k) ?_ ⟨nested_is Ib k _ _ tk rfl, hd⟩ dd hp ?_⟩
  · show X.A.in1.units + 8 < cLine
    have : X.A.in1.units = X.A.units + 1 := rfl
    omega
  · rw [hp2]
    exact ⟨v, Hb, Ib.tok _, rw', want⟩
theorem k_dputN {o i value : Expr} {td ty tv : TE} {pos pos' : Pos} (hu : X.A.units + 64 < cLine) (eo : PE X o td) (ei : PE X i ty) (ev : PE X value tv) (hs : swapsWith value (some (.Subscript o i pos')) pos.line X.env = pure false) :
    PS X (.Assign [.Subscript o i pos'] value pos) (sDPutN K w td ty tv) := by
  subst hK hw
  constructor
  intro pins s σ H D I want
  refine wpAny_Assign_Subscript (thn (ev.run pins s σ H _ I want) fun r sa za => ?_) hs
  obtain ⟨v, Ha, Ia, rv, want⟩ := za
  refine thn (eo.run pins sa σ Ha _ Ia want) fun u sb zb => ?_
  obtain ⟨x, Hb, Ib, rx, want⟩ := zb
  refine thn (ei.run pins sb σ Hb _ Ib want) fun iv sc zc => ?_
  obtain ⟨y, Hc, Ic, ry, d, n, f, k, rfl, ND, hn, tk, ⟨b, rfl⟩, hd, want⟩ := zc
  cases (show u = Value.ref d from rx)
  cases (show iv = Value.ref b from ry)
  obtain ⟨xs, dd, h1, h2, h3, h4, h5, h6⟩ := ND.of Ic
  have hz : xs.length ≤ sizeLine := by rw [sizeLine_eq]; omega
  refine wpAny_setItem_heap (knd := nestedKind X.prog X.w) (k := k) (hsz := hz) ?_ ⟨nested_is Ic k _ _ tk rfl, hd⟩ dd fun h' dd' hsb => ?_
  · show X.A.in1.units + 8 < cLine
    have : X.A.in1.units = X.A.units + 1 := rfl
    omega
  obtain ⟨q, es, ep, q1, q2, q3, q4, q5, q6⟩ := dd'
  have Id := d_write (t' := sc.toks + (nestedKind X.prog X.w).draws k) (ob := ndo X.w d (storedH xs k b r)) Ic (by rw [h1]; exact True.intro) hsb ⟨q, q1⟩ (ndo_ok ⟨q, es, ep, q1, q2, q3, q4⟩)
  have kt : KT X.K Hc (upd Hc d (ndo X.w d (storedH xs k b r))) := fun a ys z => by
    rcases z with (z | ⟨oo, z⟩) | z
    · exact .inl (.inl (by rw [upd_ne (ne_of z h1 (fun e => by cases e))]; exact z))
    · exact .inl (.inr ⟨oo, by rw [upd_ne (ne_of z h1 (fun e => by cases e))]; exact z⟩)
    · exact .inr z
  refine ⟨σ, _, Id, want _ (fun a oo z ne => by rw [upd_ne ne]; exact z) kt ⟨storedH xs k b r, upd_same, h2, ?_, q6, fun x hx => ?_, fun j => ?_⟩⟩
  · have := stored_len xs k b r
    omega
  · rcases stored_keys xs k b r x hx with ⟨y, hy, e1, e2⟩ | ⟨e1, e2⟩
    · rw [e1, e2]
      exact ⟨(h5 y hy).1.keep kt, (h5 y hy).2⟩
    · rw [e1, e2]
      exact ⟨tk.keep kt, hd⟩
  · rw [atKey_stored]
    show RelO (if j = k then some v else f j) _
    by_cases e : j = k
    · rw [if_pos e, if_pos e]
      exact rv
    · rw [if_neg e, if_neg e]
      exact h6 j
end
end Tl
namespace Tl
open PySem PySem.Spec PyProof.Rows L2 RZ
/-! ### fractions of bounded size -/
def Bd (r : Rat) (m : Nat) : Prop := -(m : Rat) ≤ r ∧ r ≤ (m : Rat)
theorem le2 {a b c d : Rat} (h1 : a ≤ b) (h2 : c ≤ d) : a + c ≤ b + d := Rat.le_trans (Rat.add_le_add_right.mpr h1) (Rat.add_le_add_left.mpr h2)
theorem bd_add {r s : Rat} {m n : Nat} (h : Bd r m) (k : Bd s n) : Bd (r + s) (m + n) := by
  unfold Bd
  rw [Rat.natCast_add, Rat.neg_add]
  exact ⟨le2 h.1 k.1, le2 h.2 k.2⟩
theorem bd_mono {r : Rat} {m n : Nat} (h : Bd r m) (l : m ≤ n) : Bd r n := by
  have z : (m : Rat) ≤ (n : Rat) := Rat.natCast_le_natCast.mpr l
  exact ⟨Rat.le_trans (Rat.neg_le_neg z) h.1, Rat.le_trans h.2 z⟩
theorem bd_zero {m : Nat} : Bd 0 m := by
  have z : (0 : Rat) ≤ (m : Rat) := Rat.natCast_nonneg
  exact ⟨by have := Rat.neg_le_neg z; rw [Rat.neg_zero] at this; exact this, z⟩
theorem bd_mul {c r : Rat} {m : Nat} (h0 : 0 ≤ c) (h1 : c ≤ 1) (h : Bd r m) : Bd (c * r) m := by
  have z : (0 : Rat) ≤ (m : Rat) := Rat.natCast_nonneg
  have e1 : c * (m : Rat) ≤ m := by
    have := Rat.mul_le_mul_of_nonneg_right h1 z
    rw [Rat.one_mul] at this
    exact this
  have u := Rat.mul_le_mul_of_nonneg_left h.2 h0
  have l := Rat.mul_le_mul_of_nonneg_left h.1 h0
  rw [Rat.mul_neg] at l
  exact ⟨Rat.le_trans (Rat.neg_le_neg e1) l, Rat.le_trans u e1⟩
theorem bd_ch {e : Nat} {r : Rat} (h : Ch e r) : Bd r 1 := by
  have z : (((1 : Nat) : Rat)) = 1 := rfl
  refine ⟨?_, by rw [z]; exact h.2.1⟩
  rw [z]
  exact Rat.le_trans (by decide) h.1
theorem bd_num {r : Rat} {m : Nat} (h : Bd r m) : r.num.natAbs ≤ m * r.den := by
  have a := (Rat.le_iff _ _).mp h.1
  have b := (Rat.le_iff _ _).mp h.2
  rw [Rat.neg_num, Rat.neg_den, Rat.num_natCast, Rat.den_natCast] at a
  rw [Rat.num_natCast, Rat.den_natCast] at b
  have c : ((m * r.den : Nat) : Int) = (m : Int) * (r.den : Int) := Int.natCast_mul _ _
  rw [Int.neg_mul] at a
  omega
/-- the bottom divides the k-th power, at most m either way -/
def Fd (k m : Nat) (r : Rat) : Prop := r.den ∣ LL ^ k ∧ Bd r m
theorem add_den_dvd {a b : Rat} {D : Nat} (h1 : a.den ∣ D) (h2 : b.den ∣ D) (hD : 0 < D) : (a + b).den ∣ D := by
  rw [← fr_frN hD h1, ← fr_frN hD h2, fr_add hD]
  exact mk_den_dvd hD
theorem Fd.add {k m n : Nat} {r s : Rat} (h : Fd k m r) (g : Fd k n s) : Fd k (m + n) (r + s) := ⟨add_den_dvd h.1 g.1 (ll_pos k), bd_add h.2 g.2⟩
theorem Fd.mono {k k' m m' : Nat} {r : Rat} (h : Fd k m r) (l : k ≤ k') (l' : m ≤ m') : Fd k' m' r := ⟨Nat.dvd_trans h.1 (ll_mono l), bd_mono h.2 l'⟩
theorem Fd.mul {e k m : Nat} {c r : Rat} (hc : Ch e c) (h : Fd k m r) : Fd (e + k) m (c * r) := by
  refine ⟨Nat.dvd_trans (mul_den_dvd _ _) ?_, bd_mul hc.1 hc.2.1 h.2⟩
  rw [Nat.pow_add]
  exact Nat.mul_dvd_mul hc.2.2 h.1
theorem Ch.prod {e f : Nat} {c d : Rat} (hc : Ch e c) (hd : Ch f d) : Ch (e + f) (c * d) := by
  refine ⟨Rat.mul_nonneg hc.1 hd.1, ?_, ?_⟩
  · have := Rat.mul_le_mul_of_nonneg_left hd.2.1 hc.1
    rw [Rat.mul_one] at this
    exact Rat.le_trans this hc.2.1
  · rw [Nat.pow_add]
    exact Nat.dvd_trans (mul_den_dvd _ _) (Nat.mul_dvd_mul hc.2.2 hd.2.2)
theorem fd_zero {k m : Nat} : Fd k m 0 := ⟨Nat.one_dvd _, bd_zero⟩
theorem Ch.fd {e : Nat} {r : Rat} (h : Ch e r) : Fd e 1 r := ⟨h.2.2, bd_ch h⟩
theorem Fd.den {k m : Nat} {r : Rat} (h : Fd k m r) : r.den ≤ LL ^ k := Nat.le_of_dvd (ll_pos k) h.1
theorem Fd.num {k m : Nat} {r : Rat} (h : Fd k m r) : r.num.natAbs ≤ m * LL ^ k := Nat.le_trans (bd_num h.2) (Nat.mul_le_mul_left m h.den)
theorem ll_big {k m : Nat} (hk : k ≤ 15) (hm : m ≤ 2 ^ 400) : m * LL ^ k < 2 ^ 3300 := by
  have a : LL ^ k ≤ 2 ^ 2790 := ll_small (by omega)
  have b := Nat.mul_le_mul hm a
  rw [← Nat.pow_add] at b
  exact Nat.lt_of_le_of_lt b (Nat.pow_lt_pow_right (by decide) (by decide))
theorem Fd.sm {k m : Nat} {r : Rat} (h : Fd k m r) (hk : k ≤ 15) (hm : m ≤ 2 ^ 400) : Sm r := by
  refine ⟨?_, Nat.lt_of_le_of_lt h.num (ll_big hk hm)⟩
  have := ll_big (m := 1) hk (Nat.one_le_two_pow)
  rw [Nat.one_mul] at this
  exact Nat.lt_of_le_of_lt h.den this
theorem fd_sum {k m : Nat} : ∀ {rs : List Rat}, (∀ r ∈ rs, Fd k m r) → Fd k (rs.length * m) (fsum rs)
  | [], _ => fd_zero
  | r :: rs, h => by
    rw [fsum_cons, List.length_cons, Nat.add_mul, Nat.one_mul, Nat.add_comm]
    exact (h r (List.mem_cons_self ..)).add (fd_sum fun x hx => h x (List.mem_cons_of_mem _ hx))
theorem frN_absM {D m : Nat} {r : Rat} (h : r.den ∣ D) (hb : Bd r m) : (frN D r).natAbs ≤ m * D := by
  have n1 := bd_num hb
  unfold frN
  rw [Int.natAbs_mul, Int.natAbs_natCast]
  have := Nat.mul_le_mul_right (D / r.den) n1
  rw [Nat.mul_assoc, Nat.mul_div_cancel' h] at this
  exact this
theorem frNs_absM {D m : Nat} : ∀ {rs : List Rat}, (∀ r ∈ rs, r.den ∣ D ∧ Bd r m) → abssum (rs.map (frN D)) ≤ rs.length * (m * D)
  | [], _ => by
    rw [List.length_nil, Nat.zero_mul]
    exact Nat.le_refl 0
  | r :: rs, h => by
    rw [List.map_cons, abssum_cons, List.length_cons, Nat.add_mul, Nat.one_mul]
    obtain ⟨a, b⟩ := h r (List.mem_cons_self ..)
    have := frN_absM a b
    have := frNs_absM fun x hx => h x (List.mem_cons_of_mem _ hx)
    omega
/-- a sum of such fractions, as total wants it -/
theorem tot_fd {k m : Nat} {rs : List Rat} (h : ∀ r ∈ rs, Fd k m r) (hk : k ≤ 14) (hm : rs.length * m ≤ 2 ^ 400) : ((rs.map (frN (LL ^ k))).map (fr (LL ^ k)) = rs) ∧ 0 < LL ^ k ∧ LL ^ k < 2 ^ 3300 ∧ abssum (rs.map (frN (LL ^ k))) < 2 ^ 3300 := by
  refine ⟨frs_frN (ll_pos k) fun r hr => (h r hr).1, ll_pos k, ll_lt1500 (by omega), Nat.lt_of_le_of_lt (frNs_absM h) ?_⟩
  rw [← Nat.mul_assoc]
  exact ll_big (by omega) hm
/-! ### tables -/
def Tb : Nat → Type
  | 0 => Unit
  | n + 1 => List (Rat × List (List Rat × Tb n))
abbrev Rw (n : Nat) : Type := List Rat × Tb n
abbrev Ask (n : Nat) : Type := Rat × List (Rw n)
def tbD : (n : Nat) → Tb n → PyData
  | 0, _ => .tuple []
  | n + 1, xs => .tuple ((show List (Ask n) from xs).map fun x => .tuple [rD x.1, .tuple (x.2.map fun r => .tuple [wsD r.1, tbD n r.2])])
def rwD (n : Nat) (r : Rw n) : PyData := .tuple [wsD r.1, tbD n r.2]
def rwsD (n : Nat) (rs : List (Rw n)) : PyData := .tuple (rs.map (rwD n))
def askD (n : Nat) (x : Ask n) : PyData := .tuple [rD x.1, rwsD n x.2]
theorem tbD_succ (n : Nat) (xs : List (Ask n)) : tbD (n + 1) xs = .tuple (xs.map (askD n)) := rfl
structure PaysOk (W : Nat) (ps : List Rat) : Prop where
  len : ps.length = W
  fd : ∀ p ∈ ps, Fd 1 4 p
/-- two lists of one length, place by place -/
inductive Al {α β : Type} (R : α → β → Prop) : List α → List β → Prop
  | nil : Al R [] []
  | cons {a : α} {b : β} {as : List α} {bs : List β} : R a b → Al R as bs → Al R (a :: as) (b :: bs)
theorem Al.len {α β : Type} {R : α → β → Prop} : ∀ {as : List α} {bs : List β}, Al R as bs → as.length = bs.length
  | _, _, .nil => rfl
  | _, _, .cons _ t => congrArg (· + 1) (Al.len t)
theorem Al.get {α β : Type} {R : α → β → Prop} : ∀ {as : List α} {bs : List β} {i : Nat} {a : α}, Al R as bs → as[i]? = some a → ∃ b, bs[i]? = some b ∧ R a b
  | _, _, _, _, .nil, e => by simp at e
  | _, _, 0, _, .cons h _, e => by
    simp at e
    subst e
    exact ⟨_, rfl, h⟩
  | _, _, i + 1, a, .cons _ t, e => by
    obtain ⟨b, h1, h2⟩ := Al.get (i := i) (a := a) t (by simpa using e)
    exact ⟨b, by simpa using h1, h2⟩
theorem Al.imp {α β : Type} {R S : α → β → Prop} (h : ∀ a b, R a b → S a b) : ∀ {as : List α} {bs : List β}, Al R as bs → Al S as bs
  | _, _, .nil => .nil
  | _, _, .cons x t => .cons (h _ _ x) (Al.imp h t)
theorem Al.snoc {α β : Type} {R : α → β → Prop} {a : α} {b : β} (h : R a b) : ∀ {as : List α} {bs : List β}, Al R as bs → Al R (as ++ [a]) (bs ++ [b])
  | _, _, .nil => .cons h .nil
  | _, _, .cons x t => .cons x (Al.snoc h t)
theorem Al.of {α β : Type} {R : α → β → Prop} : ∀ {as : List α} {bs : List β}, as.length = bs.length → (∀ (i : Nat) (a : α) (b : β), as[i]? = some a → bs[i]? = some b → R a b) → Al R as bs
  | [], [], _, _ => .nil
  | [], _ :: _, e, _ => by simp at e
  | _ :: _, [], e, _ => by simp at e
  | a :: as, b :: bs, e, h => .cons (h 0 a b rfl rfl) (Al.of (by simpa using e) fun i x y h1 h2 => h (i + 1) x y (by simpa using h1) (by simpa using h2))
/-- a table for a node -/
def TbOk (W : Nat) : (n : Nat) → Nd n → Tb n → Prop
  | 0, _, _ => True
  | n + 1, qs, xs => (∀ x ∈ (show List (Ask n) from xs), Ch 1 x.1) ∧ fsum ((show List (Ask n) from xs).map (·.1)) ≤ 1 ∧ Al (fun (q : Qn n) (x : Ask n) => Al (fun (a : An n) (r : Rw n) => PaysOk W r.1 ∧ TbOk W n a.2.2 r.2) q x.2) qs xs
/-! ### what is paid -/
def dot3 : List Rat → List Rat → List Rat → List Rat
  | p :: ps, w :: ws, y :: ys => p * w * y :: dot3 ps ws ys
  | _, _, _ => []
def payF (prior ws ps : List Rat) : Rat := fsum (dot3 prior ws ps)
def paidT (prior : List Rat) : (n : Nat) → Nd n → Tb n → Rat
  | 0, _, _ => 0
  | n + 1, qs, xs => fsum (List.zipWith (fun (q : Qn n) (x : Ask n) => x.1 * fsum (List.zipWith (fun (a : An n) (r : Rw n) => payF prior a.2.1 r.1 + paidT prior n a.2.2 r.2) q x.2)) qs xs)
def paidA (prior : List Rat) (n : Nat) (a : An n) (r : Rw n) : Rat := payF prior a.2.1 r.1 + paidT prior n a.2.2 r.2
def paidQ (prior : List Rat) (n : Nat) (q : Qn n) (x : Ask n) : Rat := x.1 * fsum (List.zipWith (paidA prior n) q x.2)
theorem paidT_succ (prior : List Rat) (n : Nat) (qs : List (Qn n)) (xs : List (Ask n)) : paidT prior (n + 1) qs xs = fsum (List.zipWith (paidQ prior n) qs xs) := rfl
theorem dot3_len : ∀ {W : Nat} {a b c : List Rat}, a.length = W → b.length = W → c.length = W → (dot3 a b c).length = W
  | 0, [], [], [], _, _, _ => rfl
  | W + 1, x :: a, y :: b, z :: c, h1, h2, h3 => congrArg (· + 1) (dot3_len (W := W) (by simpa using h1) (by simpa using h2) (by simpa using h3))
theorem dot3_at : ∀ {a b c : List Rat} {i : Nat} {x y z : Rat}, a[i]? = some x → b[i]? = some y → c[i]? = some z → (dot3 a b c)[i]? = some (x * y * z)
  | [], _, _, _, _, _, _, h, _, _ => by simp at h
  | _ :: _, [], _, _, _, _, _, _, h, _ => by simp at h
  | _ :: _, _ :: _, [], _, _, _, _, _, _, h => by simp at h
  | x :: a, y :: b, z :: c, 0, _, _, _, h1, h2, h3 => by
    cases h1
    cases h2
    cases h3
    rfl
  | x :: a, y :: b, z :: c, i + 1, x', y', z', h1, h2, h3 => by
    have := dot3_at (a := a) (b := b) (c := c) (i := i) (x := x') (y := y') (z := z') (by simpa using h1) (by simpa using h2) (by simpa using h3)
    simpa [dot3] using this
theorem dot3_mem {a b c : List Rat} {r : Rat} (h : r ∈ dot3 a b c) : ∃ x ∈ a, ∃ y ∈ b, ∃ z ∈ c, r = x * y * z := by
  induction a generalizing b c with
  | nil => exact absurd h (by simp [dot3])
  | cons x a ih =>
    cases b with
    | nil => exact absurd h (by simp [dot3])
    | cons y b =>
      cases c with
      | nil => exact absurd h (by simp [dot3])
      | cons z c =>
        rcases List.mem_cons.mp h with rfl | h
        · exact ⟨x, List.mem_cons_self .., y, List.mem_cons_self .., z, List.mem_cons_self .., rfl⟩
        · obtain ⟨x', h1, y', h2, z', h3, e⟩ := ih h
          exact ⟨x', List.mem_cons_of_mem _ h1, y', List.mem_cons_of_mem _ h2, z', List.mem_cons_of_mem _ h3, e⟩
/-- a prior -/
structure PriorOk (W : Nat) (p : List Rat) : Prop where
  len : p.length = W
  ch : ∀ r ∈ p, Ch 1 r
  one : fsum p = 1
theorem dot3_fd {W : Nat} {p ws ps : List Rat} (hp : PriorOk W p) (hw : ∀ r ∈ ws, Ch 6 r) (hy : ∀ r ∈ ps, Fd 1 4 r) : ∀ r ∈ dot3 p ws ps, Fd 8 4 r := fun r hr => by
  obtain ⟨x, hx, y, hy', z, hz, rfl⟩ := dot3_mem hr
  exact Fd.mul ((hp.ch x hx).prod (hw y hy')) (hy z hz)
theorem payF_fd {W : Nat} {p ws ps : List Rat} (hp : PriorOk W p) (h5 : W ≤ 5) (hl : ws.length = W) (hw : ∀ r ∈ ws, Ch 6 r) (hy : PaysOk W ps) : Fd 8 20 (payF p ws ps) := by
  have z := fd_sum (dot3_fd hp hw hy.fd)
  rw [dot3_len hp.len hl hy.len] at z
  exact z.mono (Nat.le_refl _) (by omega)
/-- how much at most -/
def MB : Nat → Nat
  | 0 => 0
  | n + 1 => 60 * (20 + MB n)
theorem mb_le : ∀ n, n ≤ 9 → MB n ≤ 2 ^ 70 := by
  intro n h
  have h' : ∀ k : Fin 10, MB k.val ≤ 2 ^ 70 := by decide +kernel
  exact h' ⟨n, by omega⟩
theorem zip_fd {α β : Type} {f : α → β → Rat} {R : α → β → Prop} {k m : Nat} (h : ∀ a b, R a b → Fd k m (f a b)) : ∀ {as : List α} {bs : List β}, Al R as bs → ∀ r ∈ List.zipWith f as bs, Fd k m r
  | _, _, .nil, r, hr => by simp at hr
  | _, _, .cons x t, r, hr => by
    rw [List.zipWith_cons_cons] at hr
    rcases List.mem_cons.mp hr with rfl | hr
    · exact h _ _ x
    · exact zip_fd h t r hr
theorem zip_len {α β γ : Type} {f : α → β → γ} {R : α → β → Prop} : ∀ {as : List α} {bs : List β}, Al R as bs → (List.zipWith f as bs).length = as.length
  | _, _, .nil => rfl
  | _, _, .cons _ t => by
    rw [List.zipWith_cons_cons, List.length_cons, List.length_cons, zip_len t]
theorem zip_at {α β γ : Type} {f : α → β → γ} {as : List α} {bs : List β} {i : Nat} {a : α} {b : β} (h1 : as[i]? = some a) (h2 : bs[i]? = some b) : (List.zipWith f as bs)[i]? = some (f a b) := by
  rw [List.getElem?_zipWith, h1, h2]
theorem Al.mem {α β : Type} {R : α → β → Prop} {as : List α} {bs : List β} (h : Al R as bs) : Al (fun a b => a ∈ as ∧ b ∈ bs ∧ R a b) as bs := Al.of h.len fun i a b h1 h2 => by
  obtain ⟨b', e1, e2⟩ := h.get h1
  rw [h2] at e1
  cases e1
  exact ⟨List.mem_of_getElem? h1, List.mem_of_getElem? h2, e2⟩
/-- what each part is worth: in bounds -/
theorem paidA_fd0 {W : Nat} {prior : List Rat} (hp : PriorOk W prior) (h5 : W ≤ 5) {n : Nat} (ih : ∀ (ahead : List Rat) (t : Nd n) (tb : Tb n), NdOk W n ahead t → TbOk W n t tb → Fd (8 + n) (MB n) (paidT prior n t tb)) {ahead : List Rat} {q : Qn n} {rs : List (Rw n)} (qok : QnOk W ahead q) (nok : ∀ a ∈ q, NdOk W n a.2.1 a.2.2) (hal : Al (fun (a : An n) (r : Rw n) => PaysOk W r.1 ∧ TbOk W n a.2.2 r.2) q rs) : ∀ z ∈ List.zipWith (paidA prior n) q rs, Fd (8 + n) (20 + MB n) z := by
  refine zip_fd (fun a r ⟨ha, _, hpay, htb⟩ => ?_) hal.mem
  have f1 := payF_fd hp h5 (qok.wide a ha) (qok.chs a ha) hpay
  have f2 := ih _ _ _ (nok a ha) htb
  exact (f1.mono (by omega) (Nat.le_refl _)).add f2
theorem paidQ_fd0 {W : Nat} {prior : List Rat} (hp : PriorOk W prior) (h5 : W ≤ 5) {n : Nat} (ih : ∀ (ahead : List Rat) (t : Nd n) (tb : Tb n), NdOk W n ahead t → TbOk W n t tb → Fd (8 + n) (MB n) (paidT prior n t tb)) {ahead : List Rat} {qs : List (Qn n)} {xs : List (Ask n)} (ok : NdOk W (n + 1) ahead qs) (c1 : ∀ x ∈ xs, Ch 1 x.1) (al : Al (fun (q : Qn n) (x : Ask n) => Al (fun (a : An n) (r : Rw n) => PaysOk W r.1 ∧ TbOk W n a.2.2 r.2) q x.2) qs xs) : ∀ z ∈ List.zipWith (paidQ prior n) qs xs, Fd (8 + (n + 1)) (12 * (20 + MB n)) z := by
  refine zip_fd (fun q x ⟨hq, hx, hal⟩ => ?_) al.mem
  have s := fd_sum (paidA_fd0 hp h5 ih (ok.2 q hq).1 (ok.2 q hq).2 hal)
  rw [zip_len hal] at s
  have o12 := (ok.2 q hq).1.most
  have := Fd.mul (c1 x hx) (s.mono (Nat.le_refl _) (Nat.mul_le_mul_right _ o12))
  exact this.mono (by omega) (Nat.le_refl _)
theorem paid_fd {W : Nat} {prior : List Rat} (hp : PriorOk W prior) (h5 : W ≤ 5) : ∀ (n : Nat) (ahead : List Rat) (t : Nd n) (tb : Tb n), NdOk W n ahead t → TbOk W n t tb → Fd (8 + n) (MB n) (paidT prior n t tb)
  | 0, _, _, _, _, _ => fd_zero
  | n + 1, ahead, qs, xs, ok, tok => by
    show Fd (8 + (n + 1)) (MB (n + 1)) (fsum (List.zipWith (paidQ prior n) (show List (Qn n) from qs) (show List (Ask n) from xs)))
    have z := fd_sum (paidQ_fd0 hp h5 (paid_fd hp h5 n) ok tok.1 tok.2.2)
    rw [zip_len tok.2.2] at z
    refine z.mono (Nat.le_refl _) ?_
    have l5 : (show List (Qn n) from qs).length ≤ 5 := ok.1
    show (show List (Qn n) from qs).length * (12 * (20 + MB n)) ≤ 60 * (20 + MB n)
    have := Nat.mul_le_mul_right (12 * (20 + MB n)) l5
    omega
theorem paidA_fd {W : Nat} {prior : List Rat} (hp : PriorOk W prior) (h5 : W ≤ 5) {n : Nat} {ahead : List Rat} {q : Qn n} {rs : List (Rw n)} (qok : QnOk W ahead q) (nok : ∀ a ∈ q, NdOk W n a.2.1 a.2.2) (hal : Al (fun (a : An n) (r : Rw n) => PaysOk W r.1 ∧ TbOk W n a.2.2 r.2) q rs) : ∀ z ∈ List.zipWith (paidA prior n) q rs, Fd (8 + n) (20 + MB n) z := paidA_fd0 hp h5 (paid_fd hp h5 n) qok nok hal
theorem paidQ_fd {W : Nat} {prior : List Rat} (hp : PriorOk W prior) (h5 : W ≤ 5) {n : Nat} {ahead : List Rat} {qs : List (Qn n)} {xs : List (Ask n)} (ok : NdOk W (n + 1) ahead qs) (c1 : ∀ x ∈ xs, Ch 1 x.1) (al : Al (fun (q : Qn n) (x : Ask n) => Al (fun (a : An n) (r : Rw n) => PaysOk W r.1 ∧ TbOk W n a.2.2 r.2) q x.2) qs xs) : ∀ z ∈ List.zipWith (paidQ prior n) qs xs, Fd (8 + (n + 1)) (12 * (20 + MB n)) z := paidQ_fd0 hp h5 (paid_fd hp h5 n) ok c1 al
end Tl
/-! zip of three tuples -/
namespace Tl
open PySem PySem.Spec PyProof.Rows L2 RZ
/-- three tuples side by side, the items in new triples -/
def ItzT3 (K : PySem.W.Frag) (a b c : Addr) : It :=
  ⟨fun i H => ∃ (xs ys zs : List V) (x y z : V), SqT K H a xs ∧ SqT K H b ys ∧ SqT K H c zs ∧ xs[i]? = some x ∧ ys[i]? = some y ∧ zs[i]? = some z,
   fun i H v H' => ∃ T x y z, v = .ref T ∧ H T = none ∧ H' = upd H T (.tup [x, y, z]) ∧ (∀ xs, SqT K H a xs → xs[i]? = some x) ∧ (∀ ys, SqT K H b ys → ys[i]? = some y) ∧ ∀ zs, SqT K H c zs → zs[i]? = some z,
   fun i H => ∃ xs ys zs : List V, SqT K H a xs ∧ SqT K H b ys ∧ SqT K H c zs ∧ i = min (min xs.length ys.length) zs.length⟩
def Y3 (xs ys zs : Nat → Option V) : Nat → Hp → V → Hp → Prop := fun i H v H' => ∃ T x y z, v = .ref T ∧ H T = none ∧ H' = upd H T (.tup [x, y, z]) ∧ xs i = some x ∧ ys i = some y ∧ zs i = some z
theorem turn_zipT3 {P : Program} {w : World} {K : PySem.W.Frag} {elts : List Expr} {kk : Nat} {tpos : Pos} (N a b c : Addr) (la : a < N) (lb : b < N) (lc : c < N) :
    Turn P w K (.Tuple elts kk tpos) (ItzT3 K a b c) [(N + 5 : Nat), (N + 3 : Nat), (N + 4 : Nat), N, (N + 1 : Nat), (N + 2 : Nat)] (N + 5 : Nat) (fun i h => IsZip h (N + 5 : Nat) (N + 3 : Nat) (N + 4 : Nat) .none ∧ IsTupOf3 h (N + 3 : Nat) (.ref N) (.ref (N + 1 : Nat)) (.ref (N + 2 : Nat)) ∧ (∃ a1 a2 a3, IsTupOf3 h (N + 4 : Nat) a1 a2 a3) ∧ h.IsTupleIter N a i ∧ h.IsTupleIter (N + 1 : Nat) b i ∧ h.IsTupleIter (N + 2 : Nat) c i) where
  mem := List.mem_cons_self
  obj := by
    rintro i h ⟨g1, g2, ⟨a1, a2, a3, g3⟩, ⟨o1, e1, _, d1⟩, ⟨o2, e2, _, d2⟩, ⟨o3, e3, _, d3⟩⟩ q hq
    simp only [List.mem_cons, List.not_mem_nil, or_false] at hq
    rcases hq with z | z | z | z | z | z
    · rw [z]; exact ⟨_, g1, fun v y => nomatch y⟩
    · rw [z]; exact ⟨_, g2, fun v y => nomatch y⟩
    · rw [z]; exact ⟨_, g3, fun v y => nomatch y⟩
    · rw [z]; exact ⟨o1, e1, fun v y => by rw [d1] at y; cases y⟩
    · rw [z]; exact ⟨o2, e2, fun v y => by rw [d2] at y; cases y⟩
    · rw [z]; exact ⟨o3, e3, fun v y => by rw [d3] at y; cases y⟩
  keep := by
    rintro i h h' ⟨g1, g2, ⟨a1, a2, a3, g3⟩, i1, i2, i3⟩ k
    exact ⟨k _ (by simp) _ g1, k _ (by simp) _ g2, ⟨a1, a2, a3, k _ (by simp) _ g3⟩, i1.at fun o y => k _ (by simp) o y, i2.at fun o y => k _ (by simp) o y, i3.at fun o y => k _ (by simp) o y⟩
  item := by
    intro X hP hw hK hcalm i pins s σ H E I hf st hg
    subst hP hw hK
    obtain ⟨g1, g2, g3, i1, i2, i3⟩ := st
    obtain ⟨xs, ys, zs, x, y, z, q1, q2, q3, e1, e2, e3⟩ := hg
    obtain ⟨us1, rv1, p1, _⟩ := I.tuple q1
    obtain ⟨us2, rv2, p2, _⟩ := I.tuple q2
    obtain ⟨us3, rv3, p3, _⟩ := I.tuple q3
    obtain ⟨u1, f1, r1⟩ := rv1.get e1
    obtain ⟨u2, f2, r2⟩ := rv2.get e2
    obtain ⟨u3, f3, r3⟩ := rv3.get e3
    have n1 : i < us1.toArray.size := by rw [List.size_toArray]; exact (List.getElem?_eq_some_iff.mp f1).1
    have n2 : i < us2.toArray.size := by rw [List.size_toArray]; exact (List.getElem?_eq_some_iff.mp f2).1
    have n3 : i < us3.toArray.size := by rw [List.size_toArray]; exact (List.getElem?_eq_some_iff.mp f3).1
    have D1 := Draws.tuple (prog := X.prog) (w := X.w) (A := X.A.in1) (I.ok.hd hcalm) N a (Nat.ne_of_lt la) us1.toArray
    have D2 := Draws.tuple (prog := X.prog) (w := X.w) (A := X.A.in1) (I.ok.hd hcalm) (N + 1 : Nat) b (Nat.ne_of_lt (Nat.lt_succ_of_lt lb)) us2.toArray
    have D3 := Draws.tuple (prog := X.prog) (w := X.w) (A := X.A.in1) (I.ok.hd hcalm) (N + 2 : Nat) c (Nat.ne_of_lt (Nat.lt_succ_of_lt (Nat.lt_succ_of_lt lc))) us3.toArray
    have one : ∀ {t : Addr}, t < N → ∀ q ∈ [t], q < N := fun h q hq => by rw [List.mem_singleton.mp hq]; exact h
    have G := GoesN.zip3 (elts := elts) (x1 := kk) (pos := tpos) (zip_sep3 (one la) (one lb) (one lc)) D1 D2 D3
    refine G.goes i s (fun v s2 => ∃ x H', Inv X pins σ H' s2 ∧ RelV x v ∧ (ItzT3 X.K a b c).yld i H x H' ∧ _ ∧ ∀ q ∈ [(N + 5 : Nat), (N + 3 : Nat), (N + 4 : Nat), N, (N + 1 : Nat), (N + 2 : Nat)], H' q = none) E (by omega) ⟨g1, g2, g3, ⟨i1, p1⟩, ⟨i2, p2⟩, ⟨i3, p3⟩⟩ fun v h' tk hY st' hk htk => ?_
    obtain ⟨T, v1, v2, v3, rfl, hT, w1, w2, w3, hTt⟩ := hY
    have e1' : us1[i]? = some v1 := by simpa using w1
    have e2' : us2[i]? = some v2 := by simpa using w2
    have e3' : us3[i]? = some v3 := by simpa using w3
    rw [f1] at e1'
    rw [f2] at e2'
    rw [f3] at e3'
    cases e1'
    cases e2'
    cases e3'
    obtain ⟨k1, k2, k3, ⟨k4, _⟩, ⟨k5, _⟩, ⟨k6, _⟩⟩ := st'
    have new : ObjOk X.prog X.w (upd H T (.tup [x, y, z])) h' T (.tup [x, y, z]) := ⟨by show 3 ≤ sizeLine; decide, [u1, u2, u3], .cons r1 (.cons r2 (.cons r3 .nil)), hTt⟩
    have hlt : ∀ q ∈ [(N + 5 : Nat), (N + 3 : Nat), (N + 4 : Nat), N, (N + 1 : Nat), (N + 2 : Nat)], q < s.heap.objs.size := fun q hq => by
      simp only [List.mem_cons, List.not_mem_nil, or_false] at hq
      obtain ⟨a1, a2, a3, g3⟩ := g3
      rcases hq with z | z | z | z | z | z
      · rw [z]; exact Heap.lt_size g1
      · rw [z]; exact Heap.lt_size g2
      · rw [z]; exact Heap.lt_size g3
      · rw [z]; obtain ⟨_, y, _⟩ := i1; exact Heap.lt_size y
      · rw [z]; obtain ⟨_, y, _⟩ := i2; exact Heap.lt_size y
      · rw [z]; obtain ⟨_, y, _⟩ := i3; exact Heap.lt_size y
    refine ⟨.ref T, upd H T (.tup [x, y, z]), I.turnedNew (t' := tk) (ch := [(N + 5 : Nat), (N + 3 : Nat), (N + 4 : Nat), N, (N + 1 : Nat), (N + 2 : Nat)]) (fun q o hq e => hk q o (fun m => hq ?_) e) hf hT new, rfl, ⟨T, x, y, z, rfl, I.hok.fresh hT, rfl, fun l hl => ?_, fun l hl => ?_, fun l hl => ?_⟩, ⟨k1, k2, k3, k4, k5, k6⟩, fun q hq => ?_⟩
    · simp only [List.mem_cons, List.not_mem_nil, or_false] at m ⊢
      rcases m with m | m | m | m | m
      · exact .inl m
      · exact .inr (.inr (.inl m))
      · exact .inr (.inr (.inr (.inl m)))
      · exact .inr (.inr (.inr (.inr (.inl m))))
      · exact .inr (.inr (.inr (.inr (.inr m))))
    · rw [I.tuple_inj hl q1]
      exact e1
    · rw [I.tuple_inj hl q2]
      exact e2
    · rw [I.tuple_inj hl q3]
      exact e3
    · rw [upd_ne (Nat.ne_of_lt (Nat.lt_of_lt_of_le (hlt q hq) hT))]
      exact (hf q hq).1
  done := by
    intro X hP hw hK hcalm i pins s σ H E I hf st hg
    subst hP hw hK
    obtain ⟨g1, g2, g3, i1, i2, i3⟩ := st
    obtain ⟨xs, ys, zs, q1, q2, q3, hi⟩ := hg
    obtain ⟨us1, rv1, p1, _⟩ := I.tuple q1
    obtain ⟨us2, rv2, p2, _⟩ := I.tuple q2
    obtain ⟨us3, rv3, p3, _⟩ := I.tuple q3
    have D1 := Draws.tuple (prog := X.prog) (w := X.w) (A := X.A.in1) (I.ok.hd hcalm) N a (Nat.ne_of_lt la) us1.toArray
    have D2 := Draws.tuple (prog := X.prog) (w := X.w) (A := X.A.in1) (I.ok.hd hcalm) (N + 1 : Nat) b (Nat.ne_of_lt (Nat.lt_succ_of_lt lb)) us2.toArray
    have D3 := Draws.tuple (prog := X.prog) (w := X.w) (A := X.A.in1) (I.ok.hd hcalm) (N + 2 : Nat) c (Nat.ne_of_lt (Nat.lt_succ_of_lt (Nat.lt_succ_of_lt lc))) us3.toArray
    have one : ∀ {t : Addr}, t < N → ∀ q ∈ [t], q < N := fun h q hq => by rw [List.mem_singleton.mp hq]; exact h
    have G := GoesN.zip3 (elts := elts) (x1 := kk) (pos := tpos) (zip_sep3 (one la) (one lb) (one lc)) D1 D2 D3
    have hn : i = min (min us1.toArray.size us2.toArray.size) us3.toArray.size := by
      rw [hi, rv1.length, rv2.length, rv3.length, List.size_toArray, List.size_toArray, List.size_toArray]
    rw [hn] at i1 i2 i3
    refine G.stops s (fun s1 => Inv X pins σ H s1) E ⟨g1, g2, g3, ⟨i1, p1⟩, ⟨i2, p2⟩, ⟨i3, p3⟩⟩ fun h' tk hk htk => ?_
    refine I.turnedL (t' := tk) (ch := [(N + 5 : Nat), (N + 3 : Nat), (N + 4 : Nat), N, (N + 1 : Nat), (N + 2 : Nat)]) (fun q o hq e => hk q o (fun m => hq ?_) e) hf
    simp only [List.mem_cons, List.not_mem_nil, or_false] at m ⊢
    rcases m with m | m | m | m | m
    · exact .inl m
    · exact .inr (.inr (.inl m))
    · exact .inr (.inr (.inr (.inl m)))
    · exact .inr (.inr (.inr (.inr (.inl m))))
    · exact .inr (.inr (.inr (.inr (.inr m))))
  self := fun A i s Q E st h => wpAny_pyIter_zip st.1 h
def iZip3 (K : PySem.W.Frag) (ta : TA) : TI := fun σ H R => ta σ H fun vs H1 => ∃ a b c xs ys zs, vs = [.ref a, .ref b, .ref c] ∧ SqT K H1 a xs ∧ SqT K H1 b ys ∧ SqT K H1 c zs ∧ R (ItzT3 K a b c) H1
section
variable {X : Cx} {K : PySem.W.Frag} (hK : X.K = K)
include hK
theorem k_zip3 {e1 e2 e3 : Expr} {ta : TA} {p pos tpos : Pos} {elts : List Expr} {kk : Nat} (hg : Gl X "zip") (hm : X.mg "zip" = none) (ha : PA X [e1, e2, e3] ta)
    (hs : starEach [e1, e2, e3] X.env = (false, eval e1 X.env) :: starEach [e2, e3] X.env := by rfl) (hpl : (backTo pos (starEach [e2, e3] X.env)).any (·.1) = false := by rfl) :
    PI X (.Tuple elts kk tpos) (.Call (.Name "zip" p) [e1, e2, e3] [] pos) (iZip3 K ta) := by
  subst hK
  constructor
  intro pins s σ H R I want
  refine Call_ (ld_blt I hg hm PyProof.Rows.boot_zip (PyProof.Rows.callWith_type1 (thn (ha.run pos pins s σ H _ I want) fun us sa za => ?_) hs hpl))
  obtain ⟨vs, Ha, Ia, rs, a, b, c, xs, ys, zs, rfl, qa, qb, qc, want⟩ := za
  obtain ⟨u1, u2, u3, rfl, r1, r2, r3⟩ : ∃ u1 u2 u3, us = [u1, u2, u3] ∧ RelV (.ref a) u1 ∧ RelV (.ref b) u2 ∧ RelV (.ref c) u3 := by
    cases rs with
    | cons r1 rs =>
      cases rs with
      | cons r2 rs =>
        cases rs with
        | cons r3 rs =>
          cases rs
          exact ⟨_, _, _, rfl, r1, r2, r3⟩
  cases r1
  cases r2
  cases r3
  obtain ⟨us1, rv1, p1, _⟩ := Ia.tuple qa
  obtain ⟨us2, rv2, p2, _⟩ := Ia.tuple qb
  obtain ⟨us3, rv3, p3, _⟩ := Ia.tuple qc
  obtain ⟨o1, h1, _⟩ := id p1
  obtain ⟨o2, h2, _⟩ := id p2
  obtain ⟨o3, h3, _⟩ := id p3
  refine zip_begins3 (begins_tuple a us1.toArray) (begins_tuple b us2.toArray) (begins_tuple c us3.toArray) p1 p2 p3 fun h' gz gT gO g1 g2 g3 hsz hk => wpAny_pyIter_zip gz ?_
  have Ib : Inv X pins σ Ha { sa with heap := h' } := Ia.kept (t' := sa.toks) hk
  refine ⟨_, _, _, _, Ha, rfl, Ib, turn_zipT3 sa.heap.objs.size a b c (Heap.lt_size h1) (Heap.lt_size h2) (Heap.lt_size h3), ⟨gz, gT, ⟨_, _, _, gO⟩, ⟨_, g1, rfl, rfl⟩, ⟨_, g2, rfl, rfl⟩, ⟨_, g3, rfl, rfl⟩⟩, fun q hq => ?_, want⟩
  have hle : sa.heap.objs.size ≤ q := by
    simp only [List.mem_cons, List.not_mem_nil, or_false] at hq
    rcases hq with z | z | z | z | z | z
    · rw [z]; exact Nat.le_add_right _ _
    · rw [z]; exact Nat.le_add_right _ _
    · rw [z]; exact Nat.le_add_right _ _
    · rw [z]; exact Nat.le_refl _
    · rw [z]; exact Nat.le_add_right _ _
    · rw [z]; exact Nat.le_add_right _ _
  exact Ia.fpOk hle (Ia.hok.fresh hle)
end
theorem walk_zip3 {K : PySem.W.Frag} {a b c : Addr} {xs ys zs : List V} {n : Nat} (h1 : xs.length = n) (h2 : ys.length = n) (h3 : zs.length = n) : Walk (ItzT3 K a b c) n (fun H => SqT K H a xs ∧ SqT K H b ys ∧ SqT K H c zs) (Y3 (fun i => xs[i]?) (fun i => ys[i]?) (fun i => zs[i]?)) := by
  refine ⟨fun i _ hi q => ⟨xs, ys, zs, xs[i]'(by omega), ys[i]'(by omega), zs[i]'(by omega), q.1, q.2.1, q.2.2, List.getElem?_eq_getElem _, List.getElem?_eq_getElem _, List.getElem?_eq_getElem _⟩, fun _ q => ⟨xs, ys, zs, q.1, q.2.1, q.2.2, by omega⟩, fun i H v H' _ q y => ?_⟩
  obtain ⟨T, x, y, z, e1, e2, e3, f1, f2, f3⟩ := y
  exact ⟨T, x, y, z, e1, e2, e3, f1 xs q.1, f2 ys q.2.1, f3 zs q.2.2⟩
end Tl
namespace Tl
open PySem PySem.Spec PyProof.Rows L2 RZ
def spMul (K : PySem.W.Frag) : Sp := fun vs H Q _ => ∃ (x y : V) (p q : Rat), vs = [x, y] ∧ Td K H x (rD p) ∧ Td K H y (rD q) ∧ Sm p ∧ Sm q ∧ ∀ v H', Same H H' → Td K H' v (rD (p * q)) → Q v H'
def spFractions (K : PySem.W.Frag) : Sp := fun vs H Q _ => ∃ (v : V) (ws : List Rat), vs = [v, .int ((ws.length : Nat) : Int)] ∧ Td K H v (wsD ws) ∧ ws.length ≤ 100 ∧ ∀ H', Same H H' → Q (.bl true) H'
def spPrior (K : PySem.W.Frag) : Sp := fun vs H Q _ => ∃ (v : V) (p : List Rat) (W : Nat), vs = [v, .int (W : Int)] ∧ Td K H v (wsD p) ∧ PriorOk W p ∧ W ≤ 5 ∧ ∀ H', Same H H' → Q (.bl true) H'
def spTbl (K : PySem.W.Frag) (n : Nat) : Sp := fun vs H Q _ => ∃ (W : Nat) (v u : V) (ahead : List Rat) (t : Nd n) (tb : Tb n), vs = [v, u, .int (W : Int)] ∧ Td K H v (tbD n tb) ∧ Td K H u (ndD n t) ∧ W ≤ 5 ∧ NdOk W n ahead t ∧ TbOk W n t tb ∧ ∀ H', Same H H' → Q (.bl true) H'
def spPaying (K : PySem.W.Frag) (n : Nat) : Sp := fun vs H Q _ => ∃ (W : Nat) (v u : V) (a : An n) (r : Rw n), vs = [v, u, .int (W : Int)] ∧ Td K H v (rwD n r) ∧ Td K H u (anD n a) ∧ W ≤ 5 ∧ NdOk W n a.2.1 a.2.2 ∧ PaysOk W r.1 ∧ TbOk W n a.2.2 r.2 ∧ ∀ H', Same H H' → Q (.bl true) H'
def spAsking (K : PySem.W.Frag) : Nat → Sp
  | 0 => fun _ _ _ _ => False
  | n + 1 => fun vs H Q _ => ∃ (W : Nat) (v u : V) (q : Qn n) (x : Ask n), vs = [v, u, .int (W : Int)] ∧ Td K H v (askD n x) ∧ Td K H u (qnD n q) ∧ W ≤ 5 ∧ q.length ≤ 12 ∧ Ch 1 x.1 ∧ (∀ a ∈ q, NdOk W n a.2.1 a.2.2) ∧ Al (fun (a : An n) (r : Rw n) => PaysOk W r.1 ∧ TbOk W n a.2.2 r.2) q x.2 ∧ ∀ H', Same H H' → Q (.bl true) H'
def spPF (K : PySem.W.Frag) : Sp := fun vs H Q _ => ∃ (W : Nat) (vp vw vy : V) (prior ws ps : List Rat), vs = [vp, vw, vy] ∧ Td K H vp (wsD prior) ∧ Td K H vw (wsD ws) ∧ Td K H vy (wsD ps) ∧ PriorOk W prior ∧ W ≤ 5 ∧ ws.length = W ∧ (∀ r ∈ ws, Ch 6 r) ∧ PaysOk W ps ∧ ∀ v H', Same H H' → Td K H' v (rD (payF prior ws ps)) → Q v H'
def spPA (K : PySem.W.Frag) (n : Nat) : Sp := fun vs H Q _ => ∃ (W : Nat) (vp v u : V) (prior ahead : List Rat) (t : Nd n) (tb : Tb n), vs = [vp, v, u] ∧ Td K H vp (wsD prior) ∧ Td K H v (ndD n t) ∧ Td K H u (tbD n tb) ∧ PriorOk W prior ∧ W ≤ 5 ∧ NdOk W n ahead t ∧ TbOk W n t tb ∧ n ≤ 6 ∧ ∀ r H', Same H H' → Td K H' r (rD (paidT prior n t tb)) → Q r H'
theorem td_inj {K : PySem.W.Frag} {H : Hp} {a : Addr} (h : SqT K H a [.int 1, .int 1]) : Td K H (.ref a) (rD 1) := by
  rw [rD_one]
  exact .tup h (tdAll_ints [1, 1])
theorem rat_le_one {q : Rat} (h : q ≤ 1) : q.num ≤ (q.den : Int) := by
  have a := (Rat.le_iff q 1).mp h
  have c : (1 : Rat).num = 1 := rfl
  have d : (1 : Rat).den = 1 := rfl
  rw [c, d] at a
  omega
section
variable {P : Program} {w : World} {K : PySem.W.Frag} {mg : Str → Option Value} {base : Heap} {aN aO : Addr} {t1 t2 t3 t4 t5 t6 t7 : Tok}
theorem ok_multiplied {f f1 : Addr} {fd fd1 : FuncData} (D : Dn K mg "multiplied" s_multiplied ["first", "second"] f fd) (B : Blt mg) (C : Cst K mg aN aO t1 t2 t3 t4 t5 t6 t7) (D_reduced : Dn K mg "reduced" s_reduced ["top", "bottom"] f1 fd1) : FnOk P w K mg base CX0 2 f fd ["first", "second"] (spMul K) := by
  have G_reduced : FnOk P w K mg base CX0 1 f1 fd1 ["top", "bottom"] (spReduced K) := ok_reduced D_reduced B C
  refine D.F.ok sc_multiplied (fun vs H Q E h => ?_) (fun cdv A outer s H vs Q E hr h => ?_)
  · obtain ⟨x, y, p, q, rfl, _⟩ := h
    rfl
  obtain ⟨x, y, p, q, rfl, hx, hy, z1, z2, k⟩ := h
  have nd := sc_multiplied.nd
  refine ⟨_, (pss_one (ps_ret (pe_call G_reduced (hr.mono (by omega)) (by rfl) D_reduced.m D_reduced.F.kp D_reduced.b .nil pass0 (pa_cons (pe_op op_mulW (pe_ix (k_ixT (K := K) rfl) (pv 0) pe_int (fun _ _ => rfl)) (pe_ix (k_ixT (K := K) rfl) (pv 1) pe_int (fun _ _ => rfl))) (pa_cons (pe_op op_mulW (pe_ix (k_ixT (K := K) rfl) (pv 0) pe_int (fun _ _ => rfl)) (pe_ix (k_ixT (K := K) rfl) (pv 1) pe_int (fun _ _ => rfl))) pa_nil))))), ?_⟩
  obtain ⟨a, rfl, ha⟩ := hx.rE
  obtain ⟨b, rfl, hb⟩ := hy.rE
  have i0 : atI [V.int p.num, .int (p.den : Int)] 0 = some (.int p.num) := at_of (j := 0) rfl rfl
  have i1 : atI [V.int p.num, .int (p.den : Int)] 1 = some (.int (p.den : Int)) := at_of (j := 1) rfl rfl
  have j0 : atI [V.int q.num, .int (q.den : Int)] 0 = some (.int q.num) := at_of (j := 0) rfl rfl
  have j1 : atI [V.int q.num, .int (q.den : Int)] 1 = some (.int (q.den : Int)) := at_of (j := 1) rfl rfl
  have hp0 : 0 < p.den := Nat.pos_of_ne_zero p.den_nz
  have hq0 : 0 < q.den := Nat.pos_of_ne_zero q.den_nz
  have dp : ((p.den : Int)).natAbs < 2 ^ 3300 := by rw [Int.natAbs_natCast]; exact z1.1
  have dq : ((q.den : Int)).natAbs < 2 ^ 3300 := by rw [Int.natAbs_natCast]; exact z2.1
  have c1 : CMulW p.num q.num := wide_mul z1.2 z2.2 (by decide) (by decide) (by decide)
  have c3 : CMulW (p.den : Int) (q.den : Int) := wide_mul dp dq (by decide) (by decide) (by decide)
  refine ⟨_, rfl, a, _, 0, _, rfl, rfl, ha, i0, _, rfl, b, _, 0, _, rfl, rfl, hb, j0, _, _, rfl, rfl, c1, _, rfl, a, _, 1, _, rfl, rfl, ha, i1, _, rfl, b, _, 1, _, rfl, rfl, hb, j1, _, _, rfl, rfl, c3, ?_⟩
  refine ⟨p.num * q.num, p.den * q.den, by rw [Int.natCast_mul]; rfl, Nat.mul_pos hp0 hq0, ?_, fun v H' s' hv => k v H' s' ?_⟩
  · have z := Nat.mul_lt_mul'' z1.1 z2.1
    rw [← Nat.pow_add] at z
    exact Nat.lt_trans z (Nat.pow_lt_pow_right (by decide) (by decide))
  · rw [← Rat.mkRat_mul_mkRat, rat_mk, rat_mk] at hv
    exact hv
theorem ok_are_fractions {f f2 f4 : Addr} {fd fd2 fd4 : FuncData} (D : Dn K mg "are_fractions" s_are_fractions ["thing", "many"] f fd) (B : Blt mg) (C : Cst K mg aN aO t1 t2 t3 t4 t5 t6 t7) (D_is_integral : Dn K mg "is_integral" s_is_integral ["thing"] f2 fd2) (D_is_fraction : Dn K mg "is_fraction" s_is_fraction ["thing"] f4 fd4) : FnOk P w K mg base CX0 3 f fd ["thing", "many"] (spFractions K) := by
  have G_is_fraction : FnOk P w K mg base CX0 2 f4 fd4 ["thing"] (spFraction K) := ok_is_fraction D_is_fraction B C D_is_integral
  refine D.F.ok sc_are_fractions (fun vs H Q E h => ?_) (fun cdv A outer s H vs Q E hr h => ?_)
  · obtain ⟨v, ws, rfl, _⟩ := h
    rfl
  obtain ⟨v, ws, rfl, hv, hl, q⟩ := h
  have nd := sc_are_fractions.nd
  refine ⟨_, (pss_cons (ps_if (PW.pt (pw_or (pt_not (pt_val (pe_callB (k_isi (K := K) rfl) (by rfl) B.isinstance (by decide +kernel) (pa_cons (pv 0) (pa_cons (pe_bltn (v := .ty "tuple") (u := .type "tuple") (by rfl) B.tuple (by decide +kernel) rfl) pa_nil))))) (pw_or1 (pt_cmpR op_ne (pe_callB (k_len (K := K) rfl) (by rfl) B.len PySem.boot_len (pa_cons (pv 0) pa_nil)) (pv 1) (nomark _))))) (pss_one (ps_ret pe_bl)) pss_nil)
      (pss_one (ps_ret (pe_callB (k_all (K := K) rfl rfl) (by rfl) B.all (by decide +kernel) (pa_cons (pe_lc (own := [("fraction", 2)]) rfl nd (k_iT (K := K) rfl (pv 0)) (blkOk_by (own := [("fraction", 2)]) (by kernel_rfl)) (fun _ _ _ _ _ => (pg_name (i := 2) nd rfl (.inl rfl))) (fun _ _ _ _ _ => pts_nil) (fun _ _ _ _ _ => (pe_call G_is_fraction (hr.mono (by omega)) (by rfl) D_is_fraction.m D_is_fraction.F.kp D_is_fraction.b .nil pass0 (pa_cons (pv 2) pa_nil)))) pa_nil))))), ?_⟩
  obtain ⟨b, ys, rfl, hb, tb⟩ := hv.tupE
  have ly : ys.length = ws.length := by rw [tb.len, List.length_map]
  refine ⟨_, rfl, _, _, _, _, true, rfl, .ty "tuple", tyx_tup hb, kit_ty (by decide +kernel), _, rfl, iteF ?_⟩
  refine ⟨_, rfl, b, _, rfl, .inr hb, _, rfl, rfl, _, rfl, ?_⟩
  rw [ly, decide_eq_true rfl]
  refine iteF ?_
  refine ⟨_, rfl, b, rfl, ⟨_, hb⟩, fun T hT => ?_⟩
  refine lc_it (walk_tup (K := K) (a := b) (xs := ys)) (fun i H2 => H2 T = some (.lst ((List.replicate i true).map V.bl)) ∧ Same H H2) ⟨upd_same, same_upd hT⟩ (fun i H2 _ h => Same.kt h.2 _ _ hb) ?_ ?_
  · rintro i x H0 H2 hi ⟨h2, s2⟩ ⟨rfl, e1⟩
    obtain ⟨dx, ex, tx⟩ := tb.getV e1
    obtain ⟨r, er, rfl⟩ := mapAt ex
    refine ⟨rfl, ?_⟩
    refine iteT (B := H2 T = some (.lst ((List.replicate (i + 1) true).map V.bl)) ∧ Same H H2) ?_
    refine ⟨_, rfl, x, r, rfl, tx.keep (Same.kt s2), _, h2, ?_, ?_, fun c o y => ?_⟩
    · rw [List.length_map, List.length_replicate]
      exact small1000 (by omega)
    · rw [upd_same, ← rep_snoc, List.map_append]
      rfl
    · rw [upd_ne (ne_of_none y hT)]
      exact s2 _ _ y
  · rintro H2 ⟨h2, s2⟩
    refine ⟨T, _, rfl, SqL.of h2, ?_⟩
    rw [all_rep]
    exact q H2 s2
theorem ok_is_prior {f f1 f2 f3 f4 f5 f6 f7 : Addr} {fd fd1 fd2 fd3 fd4 fd5 fd6 fd7 : FuncData} (D : Dn K mg "is_prior" s_is_prior ["thing", "worlds"] f fd) (B : Blt mg) (C : Cst K mg aN aO t1 t2 t3 t4 t5 t6 t7) (D_is_integral : Dn K mg "is_integral" s_is_integral ["thing"] f1 fd1) (D_is_fraction : Dn K mg "is_fraction" s_is_fraction ["thing"] f2 fd2) (D_is_chance : Dn K mg "is_chance" s_is_chance ["thing"] f3 fd3)
    (D_are_chances : Dn K mg "are_chances" s_are_chances ["thing", "many"] f4 fd4) (D_total : Dn K mg "total" s_total ["fractions"] f5 fd5) (D_reduced : Dn K mg "reduced" s_reduced ["top", "bottom"] f6 fd6) (D_added : DTot K mg f7 fd7) : FnOk P w K mg base CX0 5 f fd ["thing", "worlds"] (spPrior K) := by
  have G_are_chances : FnOk P w K mg base CX0 4 f4 fd4 ["thing", "many"] (spChances K) := ok_are_chances D_are_chances B C D_is_integral D_is_fraction D_is_chance
  have G_total : FnOk P w K mg base CX0 3 f5 fd5 ["fractions"] (spTotal K) := ok_total D_total B C D_reduced D_added
  refine D.F.ok sc_is_prior (fun vs H Q E h => ?_) (fun cdv A outer s H vs Q E hr h => ?_)
  · obtain ⟨v, p, W, rfl, _⟩ := h
    rfl
  obtain ⟨v, p, W, rfl, hv, hp, h5, q⟩ := h
  have nd := sc_is_prior.nd
  refine ⟨_, (pss_one (ps_ret (pe_and (pe_call G_are_chances (hr.mono (by omega)) (by rfl) D_are_chances.m D_are_chances.F.kp D_are_chances.b .nil pass0 (pa_cons (pv 0) (pa_cons (pv 1) pa_nil))) (pe_one (pe_cmpR (k_eqD (K := K) rfl hr.units) (pe_call G_total (hr.mono (by omega)) (by rfl) D_total.m D_total.F.kp D_total.b .nil pass0 (pa_cons (pv 0) pa_nil)) (pe_glob (v := .ref _) rfl C.ONE rfl) (nomark _)))))), ?_⟩
  have lp := hp.len
  refine ⟨_, rfl, _, rfl, v, p, by rw [lp]; rfl, hv, by omega, fun r hr => ⟨(hp.ch r hr).1, (hp.ch r hr).2.1⟩, fun H1 s1 => ⟨_, rfl, iteT ?_⟩⟩
  obtain ⟨a, xs, rfl, ha, ta⟩ := (hv.keep (Same.kt s1)).tupE
  obtain ⟨e, d0, d1, ab⟩ := tot_fd (k := 1) (m := 1) (fun r hr => (hp.ch r hr).fd) (by decide) (by rw [lp]; omega)
  refine ⟨_, rfl, a, xs, LL ^ 1, p.map (frN (LL ^ 1)), rfl, .inr ha, by rw [e]; exact ta, d0, d1, ab, by rw [List.length_map, lp]; omega, fun v2 H2 s2 tv => ?_⟩
  rw [e, hp.one] at tv
  have tO := td_inj (C.tO H2)
  refine ⟨rD 1, rD 1, tv.dp, tO.dp, (good_rD 1).shaped (by decide), (good_rD 1).shaped (by decide), ?_⟩
  rw [(good_rD 1).refl]
  exact q H2 (s1.trans s2)
end
end Tl
namespace Tl
open PySem PySem.Spec PyProof.Rows L2 RZ
def tsD (n : Nat) (prior : List Rat) (tb : Tb n) : PyData := .tuple [wsD prior, tbD n tb]
def spTest (K : PySem.W.Frag) (C : Addr) (n : Nat) : Sp := fun vs H Q _ => ∃ (p : Addr) (u v : V) (W : Nat) (t : Nd n) (prior : List Rat) (tb : Tb n), vs = [.ref p, u] ∧ HsOk K C H p W n t v ∧ Td K H u (tsD n prior tb) ∧ PriorOk W prior ∧ TbOk W n t tb ∧ ∀ H', Same H H' → Q (.bl true) H'
def spCkTest (K : PySem.W.Frag) (C : Addr) (n : Nat) : Sp := fun vs H Q _ => ∃ (p : Addr) (u v : V) (W : Nat) (t : Nd n) (prior : List Rat) (tb : Tb n), vs = [.ref p, u] ∧ HsOk K C H p W n t v ∧ Td K H u (tsD n prior tb) ∧ PriorOk W prior ∧ TbOk W n t tb ∧ ∀ H', Same H H' → Q .non H'
def spPaid (K : PySem.W.Frag) (C : Addr) (n : Nat) : Sp := fun vs H Q _ => ∃ (p : Addr) (u v : V) (W : Nat) (t : Nd n) (prior : List Rat) (tb : Tb n), vs = [.ref p, u] ∧ HsOk K C H p W n t v ∧ Td K H u (tsD n prior tb) ∧ PriorOk W prior ∧ TbOk W n t tb ∧ n ≤ 6 ∧ ∀ r H', Same H H' → Td K H' r (rD (paidT prior n t tb)) → Q r H'
theorem td_two {K : PySem.W.Frag} {H : Hp} {v : V} {d e : PyData} (h : Td K H v (.tuple [d, e])) : ∃ p x y, v = .ref p ∧ SqT K H p [x, y] ∧ Td K H x d ∧ Td K H y e := by
  obtain ⟨p, xs, rfl, hp, t⟩ := h.tupE
  cases t with
  | cons t1 t =>
    cases t with
    | cons t2 t =>
      cases t
      exact ⟨p, _, _, rfl, hp, t1, t2⟩
theorem take_zip_succ {α β γ : Type} {f : α → β → γ} {as : List α} {bs : List β} {i : Nat} {a : α} {b : β} (h1 : as[i]? = some a) (h2 : bs[i]? = some b) : (List.zipWith f as bs).take (i + 1) = (List.zipWith f as bs).take i ++ [f a b] := by
  rw [List.take_add_one, zip_at h1 h2]
  rfl
section
variable {P : Program} {w : World} {K : PySem.W.Frag} {mg : Str → Option Value} {base : Heap} {aN aO : Addr} {t1 t2 t3 t4 t5 t6 t7 : Tok}
theorem ok_paid_for {f f1 f2 f3 f4 : Addr} {fd fd1 fd2 fd3 fd4 : FuncData} (D : Dn K mg "paid_for" s_paid_for ["prior", "weights", "pays"] f fd) (B : Blt mg) (C : Cst K mg aN aO t1 t2 t3 t4 t5 t6 t7) (D_total : Dn K mg "total" s_total ["fractions"] f1 fd1) (D_reduced : Dn K mg "reduced" s_reduced ["top", "bottom"] f2 fd2) (D_added : DTot K mg f3 fd3)
    (D_multiplied : Dn K mg "multiplied" s_multiplied ["first", "second"] f4 fd4) : FnOk P w K mg base CX0 4 f fd ["prior", "weights", "pays"] (spPF K) := by
  have G_total : FnOk P w K mg base CX0 3 f1 fd1 ["fractions"] (spTotal K) := ok_total D_total B C D_reduced D_added
  have G_multiplied : FnOk P w K mg base CX0 2 f4 fd4 ["first", "second"] (spMul K) := ok_multiplied D_multiplied B C D_reduced
  refine D.F.ok sc_paid_for (fun vs H Q E h => ?_) (fun cdv A outer s H vs Q E hr h => ?_)
  · obtain ⟨W, vp, vw, vy, prior, ws, ps, rfl, _⟩ := h
    rfl
  obtain ⟨W, vp, vw, vy, prior, ws, ps, rfl, tp, tw, ty, hp, h5, hlw, hw, hy, q⟩ := h
  have nd := sc_paid_for.nd
  refine ⟨_, (pss_one (ps_ret (pe_call G_total (hr.mono (by omega)) (by rfl) D_total.m D_total.F.kp D_total.b .nil pass0 (pa_cons (pe_lc (own := [("chance", 3), ("weight", 4), ("pay", 5)]) rfl nd (k_zip3 (K := K) rfl (by rfl) B.zip (pa_cons (pv 0) (pa_cons (pv 1) (pa_cons (pv 2) pa_nil)))) (blkOk_by (own := [("chance", 3), ("weight", 4), ("pay", 5)]) (by kernel_rfl)) (fun _ _ _ _ _ => (k_tup (K := K) (n := 3) rfl rfl (pgs_cons (pg_name (i := 3) nd rfl (.inl rfl)) (pgs_cons (pg_name (i := 4) nd rfl (.inl rfl)) (pgs_cons (pg_name (i := 5) nd rfl (.inl rfl)) pgs_nil))))) (fun _ _ _ _ _ => pts_nil) (fun _ _ _ _ _ => (pe_call G_multiplied (hr.mono (by omega)) (by rfl) D_multiplied.m D_multiplied.F.kp D_multiplied.b .nil pass0 (pa_cons (pe_call G_multiplied (hr.mono (by omega)) (by rfl) D_multiplied.m D_multiplied.F.kp D_multiplied.b .nil pass0 (pa_cons (pv 3) (pa_cons (pv 4) pa_nil))) (pa_cons (pv 5) pa_nil))))) pa_nil)))), ?_⟩
  obtain ⟨a, xs, rfl, ha, ta⟩ := tp.tupE
  obtain ⟨b, ys, rfl, hb, tb⟩ := tw.tupE
  obtain ⟨c, zs, rfl, hc, tc⟩ := ty.tupE
  have lx : xs.length = W := by rw [ta.len, List.length_map, hp.len]
  have ly : ys.length = W := by rw [tb.len, List.length_map, hlw]
  have lz : zs.length = W := by rw [tc.len, List.length_map, hy.len]
  have ld := dot3_len hp.len hlw hy.len
  refine ⟨_, rfl, _, rfl, _, rfl, a, b, c, xs, ys, zs, rfl, ha, hb, hc, fun T hT => ?_⟩
  refine lc_it (walk_zip3 (K := K) (a := a) (b := b) (c := c) lx ly lz) (fun i H2 => ∃ us : List V, H2 T = some (.lst us) ∧ TdAll K H2 us (((dot3 prior ws ps).take i).map rD) ∧ Same H H2) ⟨[], upd_same, .nil, same_upd hT⟩ (fun i H2 _ h => ?_) ?_ ?_
  · obtain ⟨_, _, _, s2⟩ := h
    exact ⟨Same.kt s2 _ _ ha, Same.kt s2 _ _ hb, Same.kt s2 _ _ hc⟩
  · rintro i x H2 H3 hi ⟨us, h2, t2, s2⟩ ⟨T2, x', y', z', rfl, n2, rfl, g1, g2, g3⟩
    obtain ⟨dx, ex, tx⟩ := ta.getV g1
    obtain ⟨dy, ey, ty⟩ := tb.getV g2
    obtain ⟨dz, ez, tz⟩ := tc.getV g3
    obtain ⟨r1, er1, rfl⟩ := mapAt ex
    obtain ⟨r2, er2, rfl⟩ := mapAt ey
    obtain ⟨r3, er3, rfl⟩ := mapAt ez
    have c1 := hp.ch r1 (List.mem_of_getElem? er1)
    have c2 := hw r2 (List.mem_of_getElem? er2)
    have c3 := hy.fd r3 (List.mem_of_getElem? er3)
    have s3 : Same H2 (upd H2 T2 (.tup [x', y', z'])) := same_upd n2
    have k3 := Same.kt (K := K) (s2.trans s3)
    refine ⟨T2, _, rfl, .inl (.inl upd_same), rfl, _, _, rfl, _, _, rfl, _, _, rfl, rfl, ?_⟩
    refine ⟨rfl, ?_⟩
    refine iteT (B := ∃ us : List V, (upd H2 T2 (.tup [x', y', z'])) T = some (.lst us) ∧ TdAll K (upd H2 T2 (.tup [x', y', z'])) us (((dot3 prior ws ps).take (i + 1)).map rD) ∧ Same H (upd H2 T2 (.tup [x', y', z']))) ?_
    refine ⟨_, rfl, _, rfl, x', y', r1, r2, rfl, tx.keep k3, ty.keep k3, c1.sm (by decide), c2.sm (by decide), fun v1 H4 s4 tv1 => ?_⟩
    refine ⟨_, rfl, v1, z', r1 * r2, r3, rfl, tv1, tz.keep (k3.trans (Same.kt s4)), (c1.prod c2).sm (by decide), c3.sm (by decide) (by decide), fun v H5 s5 tv => ?_⟩
    have s45 := s4.trans s5
    have h5' := s45 _ _ (s3 _ _ h2)
    have kT : KT K H5 (upd H5 T (.lst (us ++ [v]))) := KT.updL h5'
    refine ⟨us, h5', ?_, us ++ [v], upd_same, ?_, fun c o z => ?_⟩
    · rw [t2.len, List.length_map, List.length_take]
      exact small1000 (by omega)
    · rw [List.take_add_one, dot3_at er1 er2 er3, List.map_append]
      exact (t2.keep ((Same.kt (s3.trans s45)).trans kT)).app (.cons (tv.keep kT) .nil)
    · rw [upd_ne (ne_of_none z hT)]
      exact s45 _ _ (s3 _ _ (s2 _ _ z))
  · rintro H2 ⟨us, h2, t2, s2⟩
    rw [show (dot3 prior ws ps).take W = dot3 prior ws ps from List.take_of_length_le (by omega)] at t2
    obtain ⟨e, d0, d1, ab⟩ := tot_fd (dot3_fd hp hw hy.fd) (by decide) (by rw [ld]; omega)
    refine ⟨T, us, LL ^ 8, (dot3 prior ws ps).map (frN (LL ^ 8)), rfl, .inl (SqL.of h2), by rw [e]; exact t2, d0, d1, ab, by rw [List.length_map, ld]; omega, fun v H3 s3 tv => ?_⟩
    rw [e] at tv
    exact q v H3 (s2.trans s3) tv
end
end Tl
namespace Tl
open PySem PySem.Spec PyProof.Rows L2 RZ
/-! ### what the law draws for a test -/
theorem shares_ch {m : Nat} {rs : List Rat} (h : IsShares m rs) (hm : m ≤ 12) : ∀ r ∈ rs, Ch 1 r := by
  obtain ⟨ps, h1, h2, h3, rfl⟩ := h
  intro r hr
  obtain ⟨p, hp, rfl⟩ := List.mem_map.mp hr
  refine ch_share h2 (by omega) ?_
  have : ∀ (l : List Nat) (x : Nat), x ∈ l → x ≤ l.sum := fun l => by
    induction l with
    | nil =>
      intro x h
      exact absurd h List.not_mem_nil
    | cons y r ih =>
      intro x h
      rcases List.mem_cons.mp h with rfl | h
      · show x ≤ x + r.sum
        omega
      · have := ih x h
        show x ≤ y + r.sum
        omega
  exact this ps p hp
theorem shares_sum {m : Nat} {rs : List Rat} (h : IsShares m rs) : fsum rs = 1 ∧ rs.length = m ∧ ∀ i, fsum (rs.take i) ≤ 1 := by
  obtain ⟨ps, h1, h2, h3, rfl⟩ := h
  refine ⟨by rw [fsum_mk _ h2, mk_same _ h2], by rw [List.length_map, h1], fun i => ?_⟩
  rw [← List.map_take, fsum_mk _ h2]
  refine mk_le_one _ _ h2 ?_
  have e : (ps.take i ++ ps.drop i).sum = (ps.take i).sum + (ps.drop i).sum := List.sum_append
  rw [List.take_append_drop] at e
  omega
theorem shares_prior {W : Nat} {rs : List Rat} (h : IsShares W rs) (h5 : W ≤ 5) : PriorOk W rs := ⟨(shares_sum h).2.1, shares_ch h (by omega), (shares_sum h).1⟩
theorem pay_fd {t : Int} {b : Nat} (h1 : -4 ≤ t) (h2 : t ≤ 4) (b1 : 1 ≤ b) (b3 : b ≤ 3) : Fd 1 4 (mkRat t b) := by
  have hb : 0 < b := b1
  refine ⟨?_, ?_⟩
  · rw [Nat.pow_one]
    exact Nat.dvd_trans (mk_den_dvd hb) (ll_dvd b hb (by omega))
  · have dp : (1 : Int) ≤ ((mkRat t b).den : Int) := by
      have := Nat.pos_of_ne_zero (mkRat t b).den_nz
      omega
    have nl : (mkRat t b).num.natAbs ≤ 4 := by
      rw [(mkRat_parts t b hb).1]
      exact Nat.le_trans (Int.natAbs_ediv_le_natAbs _ _) (by omega)
    constructor
    · refine (Rat.le_iff _ _).mpr ?_
      rw [Rat.neg_num, Rat.neg_den, Rat.num_natCast, Rat.den_natCast]
      show -(4 : Int) * ((mkRat t b).den : Int) ≤ (mkRat t b).num * 1
      omega
    · refine (Rat.le_iff _ _).mpr ?_
      rw [Rat.num_natCast, Rat.den_natCast]
      show (mkRat t b).num * 1 ≤ 4 * ((mkRat t b).den : Int)
      omega
def spPlus (K : PySem.W.Frag) : Sp := fun vs H Q _ => ∃ (x y : V) (p q : Rat), vs = [x, y] ∧ Td K H x (rD p) ∧ Td K H y (rD q) ∧ Sm p ∧ Sm q ∧ ∀ v H', Same H H' → Td K H' v (rD (p + q)) → Q v H'
def spTab (K : PySem.W.Frag) (n : Nat) : Sp := fun vs H Q _ => ∃ (b g : Addr) (W : Nat) (v : V) (ahead : List Rat) (t : Nd n), vs = [.ref b, .int (W : Int), v] ∧ Bag H b g ∧ Td K H v (ndD n t) ∧ NdOk W n ahead t ∧ 1 ≤ W ∧ W ≤ 5 ∧
  ∀ (v' : V) (tb : Tb n) (H' : Hp), Td K H' v' (tbD n tb) → TbOk W n t tb → Bag H' b g → Frm b g H H' → Q v' H'
def spTst (K : PySem.W.Frag) (n : Nat) : Sp := fun vs H Q _ => ∃ (b g : Addr) (W : Nat) (v : V) (ahead : List Rat) (t : Nd n), vs = [.ref b, .int (W : Int), v] ∧ Bag H b g ∧ Td K H v (ndD n t) ∧ NdOk W n ahead t ∧ 1 ≤ W ∧ W ≤ 5 ∧
  ∀ (v' : V) (prior : List Rat) (tb : Tb n) (H' : Hp), Td K H' v' (tsD n prior tb) → PriorOk W prior → TbOk W n t tb → Bag H' b g → Frm b g H H' → Q v' H'
theorem Sm.big {q : Rat} (h : Sm q) : q.den < 2 ^ 4200 ∧ q.num.natAbs < 2 ^ 4200 := by
  have z : 2 ^ 3300 < 2 ^ 4200 := Nat.pow_lt_pow_right (by decide) (by decide)
  exact ⟨Nat.lt_trans h.1 z, Nat.lt_trans h.2 z⟩
section
variable {P : Program} {w : World} {K : PySem.W.Frag} {mg : Str → Option Value} {base : Heap}
theorem ok_law_plus {f f1 f2 : Addr} {fd fd1 fd2 : FuncData} (D : Dn K mg "_law_plus" s_law_plus ["one", "other"] f fd) (B : Blt mg) (D_law_low : Dn K mg "_law_low" s_law_low ["top", "bottom"] f1 fd1) (D_law_common : Dn K mg "_law_common" s_law_common ["one", "other"] f2 fd2) : FnOk P w K mg base CX0 3 f fd ["one", "other"] (spPlus K) := by
  have G_law_low : FnOk P w K mg base CX0 2 f1 fd1 ["top", "bottom"] (spLow K) := ok_law_low D_law_low B D_law_common
  refine D.F.ok sc_law_plus (fun vs H Q E h => ?_) (fun cdv A outer s H vs Q E hr h => ?_)
  · obtain ⟨x, y, p, q, rfl, _⟩ := h
    rfl
  obtain ⟨x, y, p, q, rfl, hx, hy, z1, z2, k⟩ := h
  have nd := sc_law_plus.nd
  refine ⟨_, (pss_one (ps_ret (pe_call G_law_low (hr.mono (by omega)) (by rfl) D_law_low.m D_law_low.F.kp D_law_low.b .nil pass0 (pa_cons (pe_op op_add (pe_op op_mulW (pe_ix (k_ixT (K := K) rfl) (pv 0) pe_int (fun _ _ => rfl)) (pe_ix (k_ixT (K := K) rfl) (pv 1) pe_int (fun _ _ => rfl))) (pe_op op_mulW (pe_ix (k_ixT (K := K) rfl) (pv 1) pe_int (fun _ _ => rfl)) (pe_ix (k_ixT (K := K) rfl) (pv 0) pe_int (fun _ _ => rfl)))) (pa_cons (pe_op op_mulW (pe_ix (k_ixT (K := K) rfl) (pv 0) pe_int (fun _ _ => rfl)) (pe_ix (k_ixT (K := K) rfl) (pv 1) pe_int (fun _ _ => rfl))) pa_nil))))), ?_⟩
  obtain ⟨a, rfl, ha⟩ := hx.rE
  obtain ⟨b, rfl, hb⟩ := hy.rE
  have i0 : atI [V.int p.num, .int (p.den : Int)] 0 = some (.int p.num) := at_of (j := 0) rfl rfl
  have i1 : atI [V.int p.num, .int (p.den : Int)] 1 = some (.int (p.den : Int)) := at_of (j := 1) rfl rfl
  have j0 : atI [V.int q.num, .int (q.den : Int)] 0 = some (.int q.num) := at_of (j := 0) rfl rfl
  have j1 : atI [V.int q.num, .int (q.den : Int)] 1 = some (.int (q.den : Int)) := at_of (j := 1) rfl rfl
  have hp0 : 0 < p.den := Nat.pos_of_ne_zero p.den_nz
  have hq0 : 0 < q.den := Nat.pos_of_ne_zero q.den_nz
  have dp : ((p.den : Int)).natAbs < 2 ^ 3300 := by rw [Int.natAbs_natCast]; exact z1.1
  have dq : ((q.den : Int)).natAbs < 2 ^ 3300 := by rw [Int.natAbs_natCast]; exact z2.1
  have c1 : CMulW p.num (q.den : Int) := wide_mul z1.2 dq (by decide) (by decide) (by decide)
  have c2 : CMulW q.num (p.den : Int) := wide_mul z2.2 dp (by decide) (by decide) (by decide)
  have c3 : CMulW (p.den : Int) (q.den : Int) := wide_mul dp dq (by decide) (by decide) (by decide)
  refine ⟨_, rfl, a, _, 0, _, rfl, rfl, ha, i0, _, rfl, b, _, 1, _, rfl, rfl, hb, j1, _, _, rfl, rfl, c1, _, rfl, b, _, 0, _, rfl, rfl, hb, j0, _, rfl, a, _, 1, _, rfl, rfl, ha, i1, _, _, rfl, rfl, c2, _, _, rfl, rfl,
    _, rfl, a, _, 1, _, rfl, rfl, ha, i1, _, rfl, b, _, 1, _, rfl, rfl, hb, j1, _, _, rfl, rfl, c3, ?_⟩
  refine ⟨p.num * q.den + q.num * p.den, p.den * q.den, by rw [Int.natCast_mul]; rfl, Nat.mul_pos hp0 hq0, ?_, fun v H' s' hv => k v H' s' ?_⟩
  · have z := Nat.mul_lt_mul'' z1.1 z2.1
    rw [← Nat.pow_add] at z
    exact Nat.lt_trans z (Nat.pow_lt_pow_right (by decide) (by decide))
  · rw [← Rat.mkRat_add_mkRat _ _ p.den_nz q.den_nz, rat_mk, rat_mk] at hv
    exact hv
end
end Tl
namespace Tl
open PySem PySem.Spec PyProof.Rows L2 RZ
/-! a comprehension whose items are told by what holds of them -/
theorem lc_ex {K : PySem.W.Frag} {J : It} {n : Nat} {G : Hp → Prop} {Y : Nat → Hp → V → Hp → Prop} (w : Walk J n G Y) {α : Type} (dat : α → PyData) (Pr : Nat → α → Prop) {g : TG} {tt : TT} {te : TE} {vs : List Nat} {σ : L2.St} {H : Hp} {T : Addr} {Qd : Hp → Prop} (hn : n ≤ 3000) (hT : H T = none) (hG : ∀ H', Same H H' → G H')
    (hs : ∀ (i : Nat) (x : V) (H2 H3 : Hp) (Qy : V → Hp → Prop) (N : Hp → Prop), i < n → Same H H2 → Y i H2 x H3 → (∀ y a H5, Same H2 H5 → Pr i a → Td K H5 y (dat a) → Qy y H5) → g x (wipe σ vs) H3 fun σ2 H4 => wipe σ2 vs = wipe σ vs ∧ tt σ2 H4 fun b H5 => if b = true then te σ2 H5 Qy else N H5)
    (hd : ∀ H2 ws (as : List α), as.length = n → (∀ i a, as[i]? = some a → Pr i a) → H2 T = some (.lst ws) → TdAll K H2 ws (as.map dat) → Same H H2 → Qd H2) :
    ∃ W : Nat → Nat → Hp → Prop, (∃ m, W 0 m (upd H T (.lst []))) ∧ ∀ i m H, W i m H →
      (J.stop i H ∧ Qd H) ∨ (J.go i H ∧ ∃ Nx : Hp → Prop, (∀ H', Nx H' → ∃ m', m' < m ∧ W (i + 1) m' H') ∧ ∀ x H', J.yld i H x H' → g x (wipe σ vs) H' fun σ2 H2 => wipe σ2 vs = wipe σ vs ∧ tt σ2 H2 fun b H3 =>
        if b = true then te σ2 H3 fun y H4 => ∃ acc, H4 T = some (.lst acc) ∧ acc.length < sizeLine ∧ Nx (upd H4 T (.lst (acc ++ [y]))) else Nx H3) := by
  refine lc_it w (fun i H2 => ∃ (ws : List V) (as : List α), as.length = i ∧ (∀ i a, as[i]? = some a → Pr i a) ∧ H2 T = some (.lst ws) ∧ TdAll K H2 ws (as.map dat) ∧ Same H H2) ⟨[], [], rfl, fun i a h => by simp at h, upd_same, .nil, same_upd hT⟩ (fun i H2 _ h => by obtain ⟨_, _, _, _, _, _, s⟩ := h; exact hG _ s) ?_ ?_
  · rintro i x H2 H3 hi ⟨ws, as, la, pa, h2, t2, s2⟩ y
    refine hs i x H2 H3 _ _ hi s2 y fun v a H5 s5 pv tv => ?_
    have h5 := s5 _ _ h2
    have kT : KT K H5 (upd H5 T (.lst (ws ++ [v]))) := KT.updL h5
    refine ⟨ws, h5, ?_, ws ++ [v], as ++ [a], by rw [List.length_append, la]; rfl, fun j b e => ?_, upd_same, ?_, fun c o z => ?_⟩
    · rw [t2.len, List.length_map, la]
      have : (3000 : Nat) < sizeLine := by decide
      omega
    · by_cases hj : j < as.length
      · rw [List.getElem?_append_left hj] at e
        exact pa j b e
      · have ej : j = as.length := by
          have := (List.getElem?_eq_some_iff.mp e).1
          rw [List.length_append] at this
          simp at this
          omega
        subst ej
        rw [List.getElem?_append_right (Nat.le_refl _), Nat.sub_self] at e
        cases e
        rw [la]
        exact pv
    · rw [List.map_append]
      exact (t2.keep ((Same.kt s5).trans kT)).app (.cons (tv.keep kT) .nil)
    · rw [upd_ne (ne_of_none z hT)]
      exact s5 _ _ (s2 _ _ z)
  · rintro H2 ⟨ws, as, la, pa, h2, t2, s2⟩
    exact hd H2 ws as la pa h2 t2 s2
/-! ### the greatest of a list -/
def gtr (a b : Rat) : Rat := if a < b then b else a
def maxL : List Rat → Rat
  | [] => 0
  | x :: r => r.foldl gtr x
theorem gtr_l (a b : Rat) : a ≤ gtr a b := by
  unfold gtr
  split
  · rename_i h
    exact Rat.le_of_lt h
  · exact Rat.le_refl
theorem gtr_r (a b : Rat) : b ≤ gtr a b := by
  unfold gtr
  split
  · exact Rat.le_refl
  · rename_i h
    exact Rat.not_lt.mp h
theorem gtr_or (a b : Rat) : gtr a b = a ∨ gtr a b = b := by
  unfold gtr
  split
  · exact .inr rfl
  · exact .inl rfl
theorem fold_gtr : ∀ (r : List Rat) (y : Rat), (r.foldl gtr y = y ∨ r.foldl gtr y ∈ r) ∧ y ≤ r.foldl gtr y ∧ ∀ x ∈ r, x ≤ r.foldl gtr y
  | [], y => ⟨.inl rfl, Rat.le_refl, fun x h => absurd h List.not_mem_nil⟩
  | z :: r, y => by
    obtain ⟨h1, h2, h3⟩ := fold_gtr r (gtr y z)
    rw [List.foldl_cons]
    refine ⟨?_, Rat.le_trans (gtr_l y z) h2, fun x hx => ?_⟩
    · rcases h1 with h1 | h1
      · rw [h1]
        rcases gtr_or y z with e | e
        · exact .inl e
        · exact .inr (by rw [e]; exact List.mem_cons_self ..)
      · exact .inr (List.mem_cons_of_mem _ h1)
    · rcases List.mem_cons.mp hx with rfl | hx
      · exact Rat.le_trans (gtr_r y x) h2
      · exact h3 x hx
theorem maxL_mem {l : List Rat} (h : l ≠ []) : maxL l ∈ l := by
  cases l with
  | nil => exact absurd rfl h
  | cons x r =>
    rcases (fold_gtr r x).1 with e | e
    · show r.foldl gtr x ∈ x :: r
      rw [e]
      exact List.mem_cons_self ..
    · exact List.mem_cons_of_mem _ e
theorem maxL_ge {l : List Rat} {x : Rat} (h : x ∈ l) : x ≤ maxL l := by
  cases l with
  | nil => exact absurd h List.not_mem_nil
  | cons y r =>
    rcases List.mem_cons.mp h with rfl | h
    · exact (fold_gtr r x).2.1
    · exact (fold_gtr r y).2.2 x h
theorem maxL_le {l : List Rat} {m : Rat} (h0 : l ≠ []) (h : ∀ x ∈ l, x ≤ m) : maxL l ≤ m := h _ (maxL_mem h0)
theorem maxL_uniq {l : List Rat} {m : Rat} (hm : m ∈ l) (h : ∀ x ∈ l, x ≤ m) : maxL l = m := Rat.le_antisymm (maxL_le (List.ne_nil_of_mem hm) h) (maxL_ge hm)
theorem maxL_one (x : Rat) : maxL [x] = x := rfl
theorem maxL_snoc {l : List Rat} (h : l ≠ []) (x : Rat) : maxL (l ++ [x]) = gtr (maxL l) x := by
  cases l with
  | nil => exact absurd rfl h
  | cons y r =>
    show (r ++ [x]).foldl gtr y = _
    rw [List.foldl_append]
    rfl
theorem maxL_head {ds qs : List Rat} (h : ds ≠ []) : maxL (maxL ds :: qs) = maxL (ds ++ qs) := by
  refine maxL_uniq ?_ fun x hx => ?_
  · rcases List.mem_append.mp (maxL_mem (l := ds ++ qs) (by simp [h])) with e | e
    · have z : maxL (ds ++ qs) = maxL ds := Rat.le_antisymm (maxL_ge e) (maxL_ge (List.mem_append_left _ (maxL_mem h)))
      rw [z]
      exact List.mem_cons_self ..
    · exact List.mem_cons_of_mem _ e
  · rcases List.mem_cons.mp hx with rfl | hx
    · exact maxL_ge (List.mem_append_left _ (maxL_mem h))
    · exact maxL_ge (List.mem_append_right _ hx)
theorem maxL_map {l : List Rat} {f : Rat → Rat} (h : l ≠ []) (hf : ∀ x y, x ≤ y → f x ≤ f y) : maxL (l.map f) = f (maxL l) :=
  maxL_uniq (List.mem_map.mpr ⟨_, maxL_mem h, rfl⟩) fun x hx => by
    obtain ⟨y, hy, rfl⟩ := List.mem_map.mp hx
    exact hf _ _ (maxL_ge hy)
theorem maxL_at {l : List Rat} (h : l ≠ []) : ∃ k : Nat, l[k]? = some (maxL l) := List.mem_iff_getElem?.mp (maxL_mem h)
theorem rat_lt_num (p q : Rat) : decide (p.num * (q.den : Int) < q.num * (p.den : Int)) = decide (p < q) := by
  have := Rat.lt_iff p q
  by_cases h : p < q
  · rw [decide_eq_true h, decide_eq_true (this.mp h)]
  · rw [decide_eq_false h, decide_eq_false fun z => h (this.mpr z)]
/-! ### askers -/
def Ak : Nat → Type
  | 0 => Nat
  | n + 1 => Nat ⊕ (Nat × List (Ak n))
def stopA : (n : Nat) → Nat → Ak n
  | 0, d => d
  | _ + 1, d => .inl d
def stopD (d : Nat) : PyData := .tuple [.str "stop", .int (d : Int)]
def akD : (n : Nat) → Ak n → PyData
  | 0, d => stopD d
  | _ + 1, .inl d => stopD d
  | n + 1, .inr (q, xs) => .tuple [.str "ask", .int (q : Int), .tuple (xs.map (akD n))]
theorem akD_stop (n : Nat) (d : Nat) : akD n (stopA n d) = stopD d := by cases n <;> rfl
def IsAk (m : Nat) : (n : Nat) → Nd n → Ak n → Prop
  | 0, _, d => (show Nat from d) < m
  | _ + 1, _, .inl d => d < m
  | n + 1, qs, .inr (k, xs) => ∃ q, (show List (Qn n) from qs)[k]? = some q ∧ Al (fun (a : An n) (x : Ak n) => IsAk m n a.2.2 x) q xs
theorem isAk_stop {m : Nat} {n : Nat} {t : Nd n} {d : Nat} (h : d < m) : IsAk m n t (stopA n d) := by cases n <;> exact h
def gotA (f : List Rat → Nat → Rat) : (n : Nat) → List Rat → Nd n → Ak n → Rat
  | 0, ws, _, d => f ws d
  | _ + 1, ws, _, .inl d => f ws d
  | n + 1, _, qs, .inr (k, xs) => fsum (List.zipWith (fun (a : An n) (x : Ak n) => gotA f n a.2.1 a.2.2 x) ((show List (Qn n) from qs).getD k []) xs)
theorem gotA_stop {f : List Rat → Nat → Rat} {n : Nat} {ws : List Rat} {t : Nd n} {d : Nat} : gotA f n ws t (stopA n d) = f ws d := by cases n <;> rfl
/-! ### the most that is got -/
def bst (F : List Rat → List Rat) : (n : Nat) → List Rat → Nd n → Rat
  | 0, ws, _ => maxL (F ws)
  | n + 1, ws, qs => maxL (maxL (F ws) :: (show List (Qn n) from qs).map fun q => fsum (q.map fun a => bst F n a.2.1 a.2.2))
def bstA (F : List Rat → List Rat) (n : Nat) (a : An n) : Rat := bst F n a.2.1 a.2.2
def bstQ (F : List Rat → List Rat) (n : Nat) (q : Qn n) : Rat := fsum (q.map (bstA F n))
theorem bst_succ (F : List Rat → List Rat) (n : Nat) (ws : List Rat) (qs : List (Qn n)) : bst F (n + 1) ws qs = maxL (maxL (F ws) :: qs.map (bstQ F n)) := rfl
def qvals (F : List Rat → List Rat) : (n : Nat) → Nd n → List Rat
  | 0, _ => []
  | n + 1, qs => (show List (Qn n) from qs).map (bstQ F n)
theorem bst_q (F : List Rat → List Rat) (n : Nat) (ws : List Rat) (t : Nd n) : bst F n ws t = maxL (maxL (F ws) :: qvals F n t) := by
  cases n <;> rfl
def WsOk (W : Nat) (ws : List Rat) : Prop := ws.length = W ∧ ∀ r ∈ ws, Ch 6 r
theorem ones_ws {W : Nat} : WsOk W (ones W) := ⟨List.length_replicate, ones_ch⟩
theorem QnOk.ws {W n : Nat} {ahead : List Rat} {q : Qn n} (h : QnOk W ahead q) {a : An n} (ha : a ∈ q) : WsOk W a.2.1 := ⟨h.wide a ha, h.chs a ha⟩
/-- stops whose worths are small -/
def FOk (W k m : Nat) (F : List Rat → List Rat) : Prop := ∀ ws, WsOk W ws → F ws ≠ [] ∧ ∀ z ∈ F ws, Fd k m z
theorem maxL_fd {k m : Nat} {l : List Rat} (h0 : l ≠ []) (h : ∀ z ∈ l, Fd k m z) : Fd k m (maxL l) := h _ (maxL_mem h0)
theorem twelve (m n : Nat) : m * 12 ^ (n + 1) = 12 * (m * 12 ^ n) := by rw [Nat.pow_succ, ← Nat.mul_assoc, Nat.mul_comm (m * 12 ^ n) 12]
theorem bst_fd {W k m : Nat} {F : List Rat → List Rat} (hF : FOk W k m F) : ∀ (n : Nat) (ahead : List Rat) (t : Nd n), WsOk W ahead → NdOk W n ahead t → Fd k (m * 12 ^ n) (bst F n ahead t)
  | 0, ahead, _, hw, _ => by
    rw [Nat.pow_zero, Nat.mul_one]
    exact maxL_fd (hF _ hw).1 (hF _ hw).2
  | n + 1, ahead, qs, hw, ok => by
    show Fd k (m * 12 ^ (n + 1)) (maxL (maxL (F ahead) :: (show List (Qn n) from qs).map (bstQ F n)))
    refine maxL_fd (List.cons_ne_nil _ _) fun z hz => ?_
    rcases List.mem_cons.mp hz with rfl | hz
    · exact (maxL_fd (hF _ hw).1 (hF _ hw).2).mono (Nat.le_refl _) (Nat.le_mul_of_pos_right _ (Nat.pow_pos (by decide)))
    · obtain ⟨q, hq, rfl⟩ := List.mem_map.mp hz
      obtain ⟨qok, nk⟩ := ok.2 q hq
      have s := fd_sum (k := k) (m := m * 12 ^ n) (rs := q.map (bstA F n)) fun r hr => by
        obtain ⟨a, ha, rfl⟩ := List.mem_map.mp hr
        exact bst_fd hF n a.2.1 a.2.2 (qok.ws ha) (nk a ha)
      refine s.mono (Nat.le_refl _) ?_
      rw [List.length_map, twelve]
      exact Nat.mul_le_mul_right _ qok.most
theorem bstQ_fd {W k m : Nat} {F : List Rat → List Rat} (hF : FOk W k m F) {n : Nat} {ahead : List Rat} {q : Qn n} (qok : QnOk W ahead q) (nk : ∀ a ∈ q, NdOk W n a.2.1 a.2.2) : (∀ r ∈ q.map (bstA F n), Fd k (m * 12 ^ n) r) ∧ Fd k (m * 12 ^ (n + 1)) (bstQ F n q) := by
  have h : ∀ r ∈ q.map (bstA F n), Fd k (m * 12 ^ n) r := fun r hr => by
    obtain ⟨a, ha, rfl⟩ := List.mem_map.mp hr
    exact bst_fd hF n a.2.1 a.2.2 (qok.ws ha) (nk a ha)
  refine ⟨h, (fd_sum h).mono (Nat.le_refl _) ?_⟩
  rw [List.length_map, twelve]
  exact Nat.mul_le_mul_right _ qok.most
/-- an asker never gets more than the most -/
theorem zip_sum_le {α β : Type} {f : α → β → Rat} {g : α → Rat} {R : α → β → Prop} (h : ∀ a b, R a b → f a b ≤ g a) : ∀ {as : List α} {bs : List β}, Al R as bs → fsum (List.zipWith f as bs) ≤ fsum (as.map g)
  | _, _, .nil => Rat.le_refl
  | _, _, .cons x t => by
    rw [List.zipWith_cons_cons, List.map_cons, fsum_cons, fsum_cons]
    exact le2 (h _ _ x) (zip_sum_le h t)
theorem zip_sum_eq {α β : Type} {f : α → β → Rat} {g : α → Rat} {R : α → β → Prop} (h : ∀ a b, R a b → f a b = g a) : ∀ {as : List α} {bs : List β}, Al R as bs → List.zipWith f as bs = as.map g
  | _, _, .nil => rfl
  | _, _, .cons x t => by
    rw [List.zipWith_cons_cons, List.map_cons, h _ _ x, zip_sum_eq h t]
theorem getD_some {α : Type} {l : List α} {k : Nat} {q d : α} (h : l[k]? = some q) : l.getD k d = q := by
  rw [List.getD_eq_getElem?_getD, h]
  rfl
theorem gotA_le {F : List Rat → List Rat} {f : List Rat → Nat → Rat} {m : Nat} (hf : ∀ ws d, d < m → f ws d ≤ maxL (F ws)) : ∀ (n : Nat) (ws : List Rat) (t : Nd n) (a : Ak n), IsAk m n t a → gotA f n ws t a ≤ bst F n ws t
  | 0, ws, _, d, h => hf ws d h
  | n + 1, ws, qs, .inl d, h => by
    show f ws d ≤ maxL (maxL (F ws) :: _)
    exact Rat.le_trans (hf ws d h) (maxL_ge (List.mem_cons_self ..))
  | n + 1, ws, qs, .inr (k, xs), h => by
    obtain ⟨q, hq, al⟩ := h
    show fsum (List.zipWith (fun (a : An n) (x : Ak n) => gotA f n a.2.1 a.2.2 x) ((show List (Qn n) from qs).getD k []) xs) ≤ maxL (maxL (F ws) :: (show List (Qn n) from qs).map (bstQ F n))
    rw [getD_some hq]
    refine Rat.le_trans (zip_sum_le (g := bstA F n) (fun a x hx => gotA_le hf n a.2.1 a.2.2 x hx) al) (maxL_ge (List.mem_cons_of_mem _ (List.mem_map.mpr ⟨q, List.mem_of_getElem? hq, rfl⟩)))
/-! ### gains -/
structure PaysM (W m : Nat) (ps : List Rat) : Prop where
  len : ps.length = W
  fd : ∀ p ∈ ps, Fd 1 m p
structure GainsOk (W m : Nat) (gs : List (List Rat)) : Prop where
  one : 1 ≤ gs.length
  most : gs.length ≤ 20
  pays : ∀ g ∈ gs, PaysM W m g
  small : m ≤ 1606938044258990275541962092341162602522202993782792835301376
def gsD (gs : List (List Rat)) : PyData := .tuple (gs.map wsD)
def wayD (n : Nat) (x : Rat) (a : Ak n) : PyData := .tuple [rD x, akD n a]
def gF (prior : List Rat) (gs : List (List Rat)) : List Rat → List Rat := fun ws => gs.map (payF prior ws)
def gf (prior : List Rat) (gs : List (List Rat)) : List Rat → Nat → Rat := fun ws d => payF prior ws (gs.getD d [])
theorem dot3_fdM {W m : Nat} {p ws ps : List Rat} (hp : PriorOk W p) (hw : ∀ r ∈ ws, Ch 6 r) (hy : ∀ r ∈ ps, Fd 1 m r) : ∀ r ∈ dot3 p ws ps, Fd 8 m r := fun r hr => by
  obtain ⟨x, hx, y, hy', z, hz, rfl⟩ := dot3_mem hr
  exact Fd.mul ((hp.ch x hx).prod (hw y hy')) (hy z hz)
theorem payF_fdM {W m : Nat} {p ws ps : List Rat} (hp : PriorOk W p) (h5 : W ≤ 5) (hw : WsOk W ws) (hy : PaysM W m ps) : Fd 8 (5 * m) (payF p ws ps) := by
  have z := fd_sum (dot3_fdM hp hw.2 hy.fd)
  rw [dot3_len hp.len hw.1 hy.len] at z
  exact z.mono (Nat.le_refl _) (Nat.mul_le_mul_right _ h5)
theorem gF_ok {W m : Nat} {prior : List Rat} {gs : List (List Rat)} (hp : PriorOk W prior) (h5 : W ≤ 5) (hg : GainsOk W m gs) : FOk W 8 (5 * m) (gF prior gs) := fun ws hw => by
  have := hg.one
  refine ⟨fun e => ?_, fun z hz => ?_⟩
  · have l : (gF prior gs ws).length = gs.length := List.length_map _
    rw [e] at l
    simp at l
    omega
  · obtain ⟨g, h1, rfl⟩ := List.mem_map.mp hz
    exact payF_fdM hp h5 hw (hg.pays g h1)
theorem gf_le {prior : List Rat} {gs : List (List Rat)} (ws : List Rat) (d : Nat) (h : d < gs.length) : gf prior gs ws d ≤ maxL (gF prior gs ws) := by
  refine maxL_ge (List.mem_map.mpr ⟨gs.getD d [], ?_, rfl⟩)
  rw [getD_some (List.getElem?_eq_getElem h)]
  exact List.getElem_mem h
theorem gf_at {prior : List Rat} {gs : List (List Rat)} {ws : List Rat} {d : Nat} {z : Rat} (h : (gF prior gs ws)[d]? = some z) : d < gs.length ∧ gf prior gs ws d = z := by
  have h' : (gs.map (payF prior ws))[d]? = some z := h
  obtain ⟨g, hg, rfl⟩ := mapAt h'
  refine ⟨(List.getElem?_eq_some_iff.mp hg).1, ?_⟩
  unfold gf
  rw [getD_some hg]
theorem bnd12 {m n : Nat} (hm : m ≤ 8034690221294951377709810461705813012611014968913964176506880) (hn : n ≤ 6) : m * 12 ^ n ≤ 2 ^ 230 := by
  have h : 12 ^ n ≤ 12 ^ 6 := Nat.pow_le_pow_right (by decide) hn
  exact Nat.le_trans (Nat.mul_le_mul hm h) (by decide)
end Tl
namespace Tl
open PySem PySem.Spec PyProof.Rows L2 RZ
def spLess (K : PySem.W.Frag) : Sp := fun vs H Q _ => ∃ (x y : V) (p q : Rat), vs = [x, y] ∧ Td K H x (rD p) ∧ Td K H y (rD q) ∧ Sm p ∧ Sm q ∧ Q (.bl (decide (p < q))) H
def spGrt (K : PySem.W.Frag) : Sp := fun vs H Q _ => ∃ (r : Addr) (us : List V) (rs : List Rat), vs = [.ref r] ∧ (SqL K H r us ∨ SqT K H r us) ∧ TdAll K H us (rs.map rD) ∧ (∀ x ∈ rs, Sm x) ∧ 1 ≤ rs.length ∧ rs.length ≤ 1000 ∧ ∀ (k : Nat) H', Same H H' → rs[k]? = some (maxL rs) → Q (.int (k : Int)) H'
def spGains (K : PySem.W.Frag) : Sp := fun vs H Q _ => ∃ (v : V) (gs : List (List Rat)) (W m : Nat), vs = [v, .int (W : Int)] ∧ Td K H v (gsD gs) ∧ GainsOk W m gs ∧ W ≤ 5 ∧ ∀ H', Same H H' → Q (.bl true) H'
def spCkP (K : PySem.W.Frag) : Sp := fun vs H Q _ => ∃ (v : V) (p : List Rat) (W : Nat), vs = [v, .int (W : Int)] ∧ Td K H v (wsD p) ∧ PriorOk W p ∧ W ≤ 5 ∧ ∀ H', Same H H' → Q .non H'
def spCkG (K : PySem.W.Frag) : Sp := fun vs H Q _ => ∃ (v : V) (gs : List (List Rat)) (W m : Nat), vs = [v, .int (W : Int)] ∧ Td K H v (gsD gs) ∧ GainsOk W m gs ∧ W ≤ 5 ∧ ∀ H', Same H H' → Q .non H'
def spPFm (K : PySem.W.Frag) : Sp := fun vs H Q _ => ∃ (W m : Nat) (vp vw vy : V) (prior ws ps : List Rat), vs = [vp, vw, vy] ∧ Td K H vp (wsD prior) ∧ Td K H vw (wsD ws) ∧ Td K H vy (wsD ps) ∧ PriorOk W prior ∧ W ≤ 5 ∧ WsOk W ws ∧ PaysM W m ps ∧ m ≤ 1606938044258990275541962092341162602522202993782792835301376 ∧ ∀ v H', Same H H' → Td K H' v (rD (payF prior ws ps)) → Q v H'
def spBS (K : PySem.W.Frag) : Sp := fun vs H Q _ => ∃ (W m : Nat) (vw vp vg : V) (prior ws : List Rat) (gs : List (List Rat)), vs = [vw, vp, vg] ∧ Td K H vp (wsD prior) ∧ Td K H vw (wsD ws) ∧ Td K H vg (gsD gs) ∧ PriorOk W prior ∧ W ≤ 5 ∧ WsOk W ws ∧ GainsOk W m gs ∧
  ∀ v d H', Same H H' → (gF prior gs ws)[d]? = some (maxL (gF prior gs ws)) → Td K H' v (.tuple [rD (maxL (gF prior gs ws)), stopD d]) → Q v H'
section
variable {P : Program} {w : World} {K : PySem.W.Frag} {mg : Str → Option Value} {base : Heap} {aN aO : Addr} {t1 t2 t3 t4 t5 t6 t7 : Tok}
theorem ok_is_less {f : Addr} {fd : FuncData} (D : Dn K mg "is_less" s_is_less ["first", "second"] f fd) (B : Blt mg) (C : Cst K mg aN aO t1 t2 t3 t4 t5 t6 t7) : FnOk P w K mg base CX0 1 f fd ["first", "second"] (spLess K) := by
  refine D.F.ok sc_is_less (fun vs H Q E h => ?_) (fun cdv A outer s H vs Q E hr h => ?_)
  · obtain ⟨x, y, p, q, rfl, _⟩ := h
    rfl
  obtain ⟨x, y, p, q, rfl, hx, hy, z1, z2, k⟩ := h
  have nd := sc_is_less.nd
  refine ⟨_, (pss_one (ps_ret (pe_cmpR op_lt (pe_op op_mulW (pe_ix (k_ixT (K := K) rfl) (pv 0) pe_int (fun _ _ => rfl)) (pe_ix (k_ixT (K := K) rfl) (pv 1) pe_int (fun _ _ => rfl))) (pe_op op_mulW (pe_ix (k_ixT (K := K) rfl) (pv 1) pe_int (fun _ _ => rfl)) (pe_ix (k_ixT (K := K) rfl) (pv 0) pe_int (fun _ _ => rfl))) (nomark _)))), ?_⟩
  obtain ⟨a, rfl, ha⟩ := hx.rE
  obtain ⟨b, rfl, hb⟩ := hy.rE
  have i0 : atI [V.int p.num, .int (p.den : Int)] 0 = some (.int p.num) := at_of (j := 0) rfl rfl
  have i1 : atI [V.int p.num, .int (p.den : Int)] 1 = some (.int (p.den : Int)) := at_of (j := 1) rfl rfl
  have j0 : atI [V.int q.num, .int (q.den : Int)] 0 = some (.int q.num) := at_of (j := 0) rfl rfl
  have j1 : atI [V.int q.num, .int (q.den : Int)] 1 = some (.int (q.den : Int)) := at_of (j := 1) rfl rfl
  have dp : ((p.den : Int)).natAbs < 2 ^ 3300 := by rw [Int.natAbs_natCast]; exact z1.1
  have dq : ((q.den : Int)).natAbs < 2 ^ 3300 := by rw [Int.natAbs_natCast]; exact z2.1
  have c1 : CMulW p.num (q.den : Int) := wide_mul z1.2 dq (by decide) (by decide) (by decide)
  have c2 : CMulW q.num (p.den : Int) := wide_mul z2.2 dp (by decide) (by decide) (by decide)
  refine ⟨_, rfl, a, _, 0, _, rfl, rfl, ha, i0, _, rfl, b, _, 1, _, rfl, rfl, hb, j1, _, _, rfl, rfl, c1, _, rfl, b, _, 0, _, rfl, rfl, hb, j0, _, rfl, a, _, 1, _, rfl, rfl, ha, i1, _, _, rfl, rfl, c2, _, _, rfl, rfl, ?_⟩
  show Q (.bl (decide (p.num * (q.den : Int) < q.num * (p.den : Int)))) H
  rw [rat_lt_num]
  exact k
theorem ok_greatest_of {f f1 : Addr} {fd fd1 : FuncData} (D : Dn K mg "greatest_of" s_greatest_of ["fractions"] f fd) (B : Blt mg) (C : Cst K mg aN aO t1 t2 t3 t4 t5 t6 t7)
    (D_is_less : Dn K mg "is_less" s_is_less ["first", "second"] f1 fd1) (G_is_less : FnOk P w K mg base CX0 1 f1 fd1 ["first", "second"] (spLess K)) : FnOk P w K mg base CX0 2 f fd ["fractions"] (spGrt K) := by
  refine D.F.ok sc_greatest_of (fun vs H Q E h => ?_) (fun cdv A outer s H vs Q E hr h => ?_)
  · obtain ⟨r, us, rs, rfl, _⟩ := h
    rfl
  obtain ⟨r, us, rs, rfl, hS, tS, hsm, h1, hl, q⟩ := h
  have nd := sc_greatest_of.nd
  refine ⟨_, (pss_cons (ps_set (i := 1) nd rfl (.inl rfl) pe_int)
      (pss_cons (ps_for PassesOwn.never rfl (k_enumLT (K := K) rfl (by rfl) B.enumerate (pa_cons (pv 0) pa_nil)) (k_tup (K := K) (n := 2) rfl rfl (pgs_cons (pg_name (i := 2) nd rfl (.inl rfl)) (pgs_cons (pg_name (i := 3) nd rfl (.inl rfl)) pgs_nil))) (pss_one (ps_if (pt_val (pe_call G_is_less (hr.mono (by omega)) (by rfl) D_is_less.m D_is_less.F.kp D_is_less.b .nil pass0 (pa_cons (pe_ix (k_ixLT (K := K) rfl) (pv 0) (pv 1) (fun _ _ => rfl)) (pa_cons (pv 3) pa_nil)))) (pss_one (ps_set (i := 1) nd rfl (.inl rfl) (pv 2))) pss_nil)))
      (pss_one (ps_ret (pv 1))))), ?_⟩
  have lu : us.length = rs.length := by rw [tS.len, List.length_map]
  refine ⟨_, rfl, r, us, rfl, hS, fun J G w1 hG => for_it w1 (fun i σ H2 => Same H H2 ∧ ∃ (k : Nat) (o2 o3 : Option V), σ = [some (.ref r), some (.int (k : Int)), o2, o3] ∧ k < rs.length ∧ (i = 0 → k = 0) ∧ (0 < i → rs[k]? = some (maxL (rs.take i)))) ⟨Same.refl _, 0, none, none, rfl, by omega, fun _ => rfl, fun h => absurd h (Nat.lt_irrefl _)⟩ (fun i σ H2 _ h => hG _ h.1) ?_ ?_⟩
  · rintro i x σ H2 H3 hi ⟨s2, k, o2, o3, rfl, hk, hk0, hm⟩ ⟨T, x1, x2, rfl, nT, rfl, e1, e2⟩
    cases e1
    have s3 : Same H2 (upd H2 T (.tup [.int (i : Int), x2])) := same_upd nT
    have s23 := s2.trans s3
    obtain ⟨dx, ex, tx⟩ := tS.getV e2
    obtain ⟨x', er, rfl⟩ := mapAt ex
    have gk : rs[k]? = some rs[k] := List.getElem?_eq_getElem hk
    obtain ⟨y, ey, ty⟩ := tS.get (i := k) (d := rD rs[k]) (by rw [List.getElem?_map, gk]; rfl)
    have hS3 : SqL K (upd H2 T (.tup [.int (i : Int), x2])) r us ∨ SqT K (upd H2 T (.tup [.int (i : Int), x2])) r us := hS.elim (fun h => .inl (s23.seq h)) fun h => .inr (Same.kt s23 _ _ h)
    refine ⟨T, _, rfl, .inl (.inl upd_same), rfl, _, _, rfl, _, _, rfl, rfl, ?_⟩
    refine ⟨_, rfl, _, rfl, r, us, (k : Int), y, rfl, rfl, hS3, at_of (j := k) rfl ey, _, rfl, y, x2, rs[k], x', rfl, ty.keep (Same.kt s23), tx.keep (Same.kt s23), hsm _ (List.getElem_mem hk), hsm _ (List.mem_of_getElem? er), _, rfl, ?_⟩
    have hi2 : i < rs.length := (List.getElem?_eq_some_iff.mp er).1
    have step : 0 < i → maxL (rs.take (i + 1)) = gtr (rs[k]) x' := fun h0 => by
      have hm := hm h0
      rw [gk] at hm
      have hm := Option.some.inj hm
      rw [List.take_add_one, er]
      show maxL (rs.take i ++ [x']) = _
      rw [maxL_snoc (fun z => by have := congrArg List.length z; rw [List.length_take] at this; have : min i rs.length = 0 := this; omega), ← hm]
    have one : i = 0 → maxL (rs.take (i + 1)) = x' := fun h0 => by
      subst h0
      rw [List.take_add_one, er]
      rfl
    refine ite2 (fun c => ?_) (fun c => ?_)
    · have c := of_decide_eq_true c
      refine ⟨_, rfl, s23, i, _, _, rfl, hi2, fun z => absurd z (Nat.succ_ne_zero i), fun _ => ?_⟩
      by_cases h0 : i = 0
      · rw [one h0]
        exact er
      · rw [step (by omega), er]
        unfold gtr
        rw [if_pos c]
    · have c : ¬ rs[k] < x' := fun z => c (decide_eq_true z)
      refine ⟨s23, k, _, _, rfl, hk, fun z => absurd z (Nat.succ_ne_zero i), fun _ => ?_⟩
      by_cases h0 : i = 0
      · subst h0
        have z := hk0 rfl
        subst z
        rw [one rfl]
        exact er
      · rw [step (by omega), gk]
        unfold gtr
        rw [if_neg c]
  · rintro σ H2 ⟨s2, k, o2, o3, rfl, hk, hk0, hm⟩
    rw [lu, List.take_length] at hm
    exact ⟨_, rfl, q k H2 s2 (hm (by omega))⟩
theorem ok_are_gains {f f1 : Addr} {fd fd1 : FuncData} (D : Dn K mg "are_gains" s_are_gains ["thing", "worlds"] f fd) (B : Blt mg) (C : Cst K mg aN aO t1 t2 t3 t4 t5 t6 t7)
    (D_are_fractions : Dn K mg "are_fractions" s_are_fractions ["thing", "many"] f1 fd1) (G_are_fractions : FnOk P w K mg base CX0 3 f1 fd1 ["thing", "many"] (spFractions K)) : FnOk P w K mg base CX0 4 f fd ["thing", "worlds"] (spGains K) := by
  refine D.F.ok sc_are_gains (fun vs H Q E h => ?_) (fun cdv A outer s H vs Q E hr h => ?_)
  · obtain ⟨v, gs, W, m, rfl, _⟩ := h
    rfl
  obtain ⟨v, gs, W, m, rfl, hv, hg, h5, q⟩ := h
  have nd := sc_are_gains.nd
  refine ⟨_, (pss_cons (ps_if (PW.pt (pw_or (pt_not (pt_val (pe_callB (k_isi (K := K) rfl) (by rfl) B.isinstance (by decide +kernel) (pa_cons (pv 0) (pa_cons (pe_bltn (v := .ty "tuple") (u := .type "tuple") (by rfl) B.tuple (by decide +kernel) rfl) pa_nil))))) (pw_or1 (pt_cmpR op_eq (pe_callB (k_len (K := K) rfl) (by rfl) B.len PySem.boot_len (pa_cons (pv 0) pa_nil)) pe_int (nomark _))))) (pss_one (ps_ret pe_bl)) pss_nil)
      (pss_one (ps_ret (pe_callB (k_all (K := K) rfl rfl) (by rfl) B.all (by decide +kernel) (pa_cons (pe_lc (own := [("deed", 2)]) rfl nd (k_iT (K := K) rfl (pv 0)) (blkOk_by (own := [("deed", 2)]) (by kernel_rfl)) (fun _ _ _ _ _ => (pg_name (i := 2) nd rfl (.inl rfl))) (fun _ _ _ _ _ => pts_nil) (fun _ _ _ _ _ => (pe_call G_are_fractions (hr.mono (by omega)) (by rfl) D_are_fractions.m D_are_fractions.F.kp D_are_fractions.b .nil pass0 (pa_cons (pv 2) (pa_cons (pv 1) pa_nil))))) pa_nil))))), ?_⟩
  have h1 := hg.one
  have h20 := hg.most
  obtain ⟨b, ys, rfl, hb, tb⟩ := hv.tupE
  have ly : ys.length = gs.length := by rw [tb.len, List.length_map]
  refine ⟨_, rfl, _, _, _, _, true, rfl, .ty "tuple", tyx_tup hb, kit_ty (by decide +kernel), _, rfl, iteF ?_⟩
  refine ⟨_, rfl, b, _, rfl, .inr hb, rfl, ?_⟩
  rw [decide_eq_false (show ¬ V.int ((ys.length : Nat) : Int) = V.int 0 by intro z; injection z with z; omega)]
  refine ⟨_, rfl, iteF ?_⟩
  refine ⟨_, rfl, b, rfl, ⟨_, hb⟩, fun T hT => ?_⟩
  refine lc_it (walk_tup (K := K) (a := b) (xs := ys)) (fun i H2 => H2 T = some (.lst ((List.replicate i true).map V.bl)) ∧ Same H H2) ⟨upd_same, same_upd hT⟩ (fun i H2 _ h => Same.kt h.2 _ _ hb) ?_ ?_
  · rintro i x H0 H2 hi ⟨h2, s2⟩ ⟨rfl, e1⟩
    obtain ⟨dx, ex, tx⟩ := tb.getV e1
    obtain ⟨g, er, rfl⟩ := mapAt ex
    have hp := hg.pays g (List.mem_of_getElem? er)
    refine ⟨rfl, ?_⟩
    refine iteT (B := H2 T = some (.lst ((List.replicate (i + 1) true).map V.bl)) ∧ Same H H2) ?_
    refine ⟨_, rfl, _, rfl, x, g, by rw [hp.len]; rfl, tx.keep (Same.kt s2), by rw [hp.len]; omega, fun H3 s3 => ⟨_, s3 _ _ h2, ?_, ?_, fun c o y => ?_⟩⟩
    · rw [List.length_map, List.length_replicate]
      exact small1000 (by omega)
    · rw [upd_same, List.replicate_succ', List.map_append]
      rfl
    · rw [upd_ne (ne_of_none y hT)]
      exact s3 _ _ (s2 _ _ y)
  · rintro H2 ⟨h2, s2⟩
    refine ⟨T, _, rfl, SqL.of h2, ?_⟩
    have e : ∀ n : Nat, (List.replicate n true).all id = true := fun n => by
      induction n with
      | zero => rfl
      | succ n ih =>
        rw [List.replicate_succ]
        exact ih
    rw [e]
    exact q H2 s2
theorem ok_check_prior {f f1 : Addr} {fd fd1 : FuncData} (D : Dn K mg "check_prior" s_check_prior ["prior", "worlds"] f fd) (B : Blt mg) (C : Cst K mg aN aO t1 t2 t3 t4 t5 t6 t7)
    (D_is_prior : Dn K mg "is_prior" s_is_prior ["thing", "worlds"] f1 fd1) (G_is_prior : FnOk P w K mg base CX0 5 f1 fd1 ["thing", "worlds"] (spPrior K)) : FnOk P w K mg base CX0 6 f fd ["prior", "worlds"] (spCkP K) := by
  refine D.F.ok sc_check_prior (fun vs H Q E h => ?_) (fun cdv A outer s H vs Q E hr h => ?_)
  · obtain ⟨v, p, W, rfl, _⟩ := h
    rfl
  obtain ⟨v, p, W, rfl, hv, hp, h5, q⟩ := h
  have nd := sc_check_prior.nd
  refine ⟨_, (pss_one (ps_if (pt_not (pt_val (pe_call G_is_prior (hr.mono (by omega)) (by rfl) D_is_prior.m D_is_prior.F.kp D_is_prior.b .nil pass0 (pa_cons (pv 0) (pa_cons (pv 1) pa_nil))))) (pss_one ps_never) pss_nil)), ?_⟩
  exact ⟨_, rfl, _, rfl, v, p, W, rfl, hv, hp, h5, fun H1 s1 => ⟨_, rfl, iteF (q H1 s1)⟩⟩
theorem ok_check_gains {f f1 : Addr} {fd fd1 : FuncData} (D : Dn K mg "check_gains" s_check_gains ["gains", "worlds"] f fd) (B : Blt mg) (C : Cst K mg aN aO t1 t2 t3 t4 t5 t6 t7)
    (D_are_gains : Dn K mg "are_gains" s_are_gains ["thing", "worlds"] f1 fd1) (G_are_gains : FnOk P w K mg base CX0 4 f1 fd1 ["thing", "worlds"] (spGains K)) : FnOk P w K mg base CX0 5 f fd ["gains", "worlds"] (spCkG K) := by
  refine D.F.ok sc_check_gains (fun vs H Q E h => ?_) (fun cdv A outer s H vs Q E hr h => ?_)
  · obtain ⟨v, gs, W, m, rfl, _⟩ := h
    rfl
  obtain ⟨v, gs, W, m, rfl, hv, hg, h5, q⟩ := h
  have nd := sc_check_gains.nd
  refine ⟨_, (pss_one (ps_if (pt_not (pt_val (pe_call G_are_gains (hr.mono (by omega)) (by rfl) D_are_gains.m D_are_gains.F.kp D_are_gains.b .nil pass0 (pa_cons (pv 0) (pa_cons (pv 1) pa_nil))))) (pss_one ps_never) pss_nil)), ?_⟩
  exact ⟨_, rfl, _, rfl, v, gs, W, m, rfl, hv, hg, h5, fun H1 s1 => ⟨_, rfl, iteF (q H1 s1)⟩⟩
theorem ok_paid_forM {f f1 f2 : Addr} {fd fd1 fd2 : FuncData} (D : Dn K mg "paid_for" s_paid_for ["prior", "weights", "pays"] f fd) (B : Blt mg) (C : Cst K mg aN aO t1 t2 t3 t4 t5 t6 t7)
    (D_total : Dn K mg "total" s_total ["fractions"] f1 fd1) (G_total : FnOk P w K mg base CX0 3 f1 fd1 ["fractions"] (spTotal K))
    (D_multiplied : Dn K mg "multiplied" s_multiplied ["first", "second"] f2 fd2) (G_multiplied : FnOk P w K mg base CX0 2 f2 fd2 ["first", "second"] (spMul K)) : FnOk P w K mg base CX0 4 f fd ["prior", "weights", "pays"] (spPFm K) := by
  refine D.F.ok sc_paid_for (fun vs H Q E h => ?_) (fun cdv A outer s H vs Q E hr h => ?_)
  · obtain ⟨W, m, vp, vw, vy, prior, ws, ps, rfl, _⟩ := h
    rfl
  obtain ⟨W, m, vp, vw, vy, prior, ws, ps, rfl, tp, tw, ty, hp, h5, hw, hy, hm, q⟩ := h
  have nd := sc_paid_for.nd
  refine ⟨_, (pss_one (ps_ret (pe_call G_total (hr.mono (by omega)) (by rfl) D_total.m D_total.F.kp D_total.b .nil pass0 (pa_cons (pe_lc (own := [("chance", 3), ("weight", 4), ("pay", 5)]) rfl nd (k_zip3 (K := K) rfl (by rfl) B.zip (pa_cons (pv 0) (pa_cons (pv 1) (pa_cons (pv 2) pa_nil)))) (blkOk_by (own := [("chance", 3), ("weight", 4), ("pay", 5)]) (by kernel_rfl)) (fun _ _ _ _ _ => (k_tup (K := K) (n := 3) rfl rfl (pgs_cons (pg_name (i := 3) nd rfl (.inl rfl)) (pgs_cons (pg_name (i := 4) nd rfl (.inl rfl)) (pgs_cons (pg_name (i := 5) nd rfl (.inl rfl)) pgs_nil))))) (fun _ _ _ _ _ => pts_nil) (fun _ _ _ _ _ => (pe_call G_multiplied (hr.mono (by omega)) (by rfl) D_multiplied.m D_multiplied.F.kp D_multiplied.b .nil pass0 (pa_cons (pe_call G_multiplied (hr.mono (by omega)) (by rfl) D_multiplied.m D_multiplied.F.kp D_multiplied.b .nil pass0 (pa_cons (pv 3) (pa_cons (pv 4) pa_nil))) (pa_cons (pv 5) pa_nil))))) pa_nil)))), ?_⟩
  obtain ⟨a, xs, rfl, ha, ta⟩ := tp.tupE
  obtain ⟨b, ys, rfl, hb, tb⟩ := tw.tupE
  obtain ⟨c, zs, rfl, hc, tc⟩ := ty.tupE
  have lx : xs.length = W := by rw [ta.len, List.length_map, hp.len]
  have ly : ys.length = W := by rw [tb.len, List.length_map, hw.1]
  have lz : zs.length = W := by rw [tc.len, List.length_map, hy.len]
  have ld := dot3_len hp.len hw.1 hy.len
  refine ⟨_, rfl, _, rfl, _, rfl, a, b, c, xs, ys, zs, rfl, ha, hb, hc, fun T hT => ?_⟩
  refine lc_td (K := K) (walk_zip3 (K := K) (a := a) (b := b) (c := c) lx ly lz) ((dot3 prior ws ps).map rD) (by rw [List.length_map, ld]) (by omega) hT (fun H' s => ⟨Same.kt s _ _ ha, Same.kt s _ _ hb, Same.kt s _ _ hc⟩) ?_ ?_
  · rintro i x e H2 H3 Qy N he s2 ⟨T2, x', y', z', rfl, n2, rfl, g1, g2, g3⟩ hQ
    obtain ⟨dx, ex, tx⟩ := ta.getV g1
    obtain ⟨dy, ey, ty⟩ := tb.getV g2
    obtain ⟨dz, ez, tz⟩ := tc.getV g3
    obtain ⟨r1, er1, rfl⟩ := mapAt ex
    obtain ⟨r2, er2, rfl⟩ := mapAt ey
    obtain ⟨r3, er3, rfl⟩ := mapAt ez
    rw [List.getElem?_map, dot3_at er1 er2 er3] at he
    cases he
    have c1 := hp.ch r1 (List.mem_of_getElem? er1)
    have c2 := hw.2 r2 (List.mem_of_getElem? er2)
    have c3 := hy.fd r3 (List.mem_of_getElem? er3)
    have s3 : Same H2 (upd H2 T2 (.tup [x', y', z'])) := same_upd n2
    have k3 := Same.kt (K := K) (s2.trans s3)
    refine ⟨T2, _, rfl, .inl (.inl upd_same), rfl, _, _, rfl, _, _, rfl, _, _, rfl, rfl, ?_⟩
    refine ⟨rfl, ?_⟩
    refine iteT (B := N (upd H2 T2 (.tup [x', y', z']))) ?_
    refine ⟨_, rfl, _, rfl, x', y', r1, r2, rfl, tx.keep k3, ty.keep k3, c1.sm (by decide), c2.sm (by decide), fun v1 H4 s4 tv1 => ?_⟩
    refine ⟨_, rfl, v1, z', r1 * r2, r3, rfl, tv1, tz.keep (k3.trans (Same.kt s4)), (c1.prod c2).sm (by decide), c3.sm (by decide) (Nat.le_trans hm (by decide)), fun v H5 s5 tv => ?_⟩
    exact hQ v H5 (s3.trans (s4.trans s5)) tv
  · intro H2 us h2 t2 s2
    obtain ⟨e, d0, d1, ab⟩ := tot_fd (dot3_fdM hp hw.2 hy.fd) (by decide) (by rw [ld]; exact Nat.le_trans (Nat.mul_le_mul h5 hm) (by decide))
    refine ⟨T, us, LL ^ 8, (dot3 prior ws ps).map (frN (LL ^ 8)), rfl, .inl (SqL.of h2), by rw [e]; exact t2, d0, d1, ab, by rw [List.length_map, ld]; omega, fun v H3 s3 tv => ?_⟩
    rw [e] at tv
    exact q v H3 (s2.trans s3) tv
theorem ok_best_stop {f f1 f2 : Addr} {fd fd1 fd2 : FuncData} (D : Dn K mg "best_stop" s_best_stop ["weights", "prior", "gains"] f fd) (B : Blt mg) (C : Cst K mg aN aO t1 t2 t3 t4 t5 t6 t7)
    (D_paid_for : Dn K mg "paid_for" s_paid_for ["prior", "weights", "pays"] f1 fd1) (G_paid_for : FnOk P w K mg base CX0 4 f1 fd1 ["prior", "weights", "pays"] (spPFm K))
    (D_greatest_of : Dn K mg "greatest_of" s_greatest_of ["fractions"] f2 fd2) (G_greatest_of : FnOk P w K mg base CX0 2 f2 fd2 ["fractions"] (spGrt K)) : FnOk P w K mg base CX0 5 f fd ["weights", "prior", "gains"] (spBS K) := by
  refine D.F.ok sc_best_stop (fun vs H Q E h => ?_) (fun cdv A outer s H vs Q E hr h => ?_)
  · obtain ⟨W, m, vw, vp, vg, prior, ws, gs, rfl, _⟩ := h
    rfl
  obtain ⟨W, m, vw, vp, vg, prior, ws, gs, rfl, tp, tw, tg, hp, h5, hw, hg, q⟩ := h
  have nd := sc_best_stop.nd
  refine ⟨_, (pss_cons (ps_setLc (i := 3) (own := [("deed", 4)]) rfl nd rfl rfl (sw_true rfl rfl rfl (by decide +kernel)) (k_iT (K := K) rfl (pv 2)) (blkOk_by (own := [("deed", 4)]) (by kernel_rfl)) (fun _ _ _ _ _ => (pg_name (i := 4) nd rfl (.inl rfl))) (fun _ _ _ _ _ => pts_nil) (fun _ _ _ _ _ => (pe_call G_paid_for (hr.mono (by omega)) (by rfl) D_paid_for.m D_paid_for.F.kp D_paid_for.b .nil pass0 (pa_cons (pv 1) (pa_cons (pv 0) (pa_cons (pv 4) pa_nil))))))
      (pss_cons (ps_set (i := 4) nd rfl (.inl rfl) (pe_call G_greatest_of (hr.mono (by omega)) (by rfl) D_greatest_of.m D_greatest_of.F.kp D_greatest_of.b .nil pass0 (pa_cons (pv 3) pa_nil)))
      (pss_one (ps_ret (pe_tup (pa_cons (pe_ix (k_ixL (K := K) rfl) (pv 3) (pv 4) (fun _ _ => rfl)) (pa_cons (pe_tup (pa_cons pe_str (pa_cons (pv 4) pa_nil))) pa_nil))))))), ?_⟩
  have h1 := hg.one
  have h20 := hg.most
  obtain ⟨b, ys, rfl, hb, tb⟩ := tg.tupE
  have ly : ys.length = gs.length := by rw [tb.len, List.length_map]
  have lg : (gF prior gs ws).length = gs.length := List.length_map _
  refine ⟨_, rfl, b, rfl, ⟨_, hb⟩, fun T hT => ?_⟩
  refine lc_td (K := K) (walk_tup (K := K) (a := b) (xs := ys)) ((gF prior gs ws).map rD) (by rw [List.length_map, lg, ly]) (by omega) hT (fun H' s => Same.kt s _ _ hb) ?_ ?_
  · rintro i x e H0 H2 Qy N he s2 ⟨rfl, e1⟩ hQ
    obtain ⟨dx, ex, tx⟩ := tb.getV e1
    obtain ⟨g, er, rfl⟩ := mapAt ex
    have ee : (gF prior gs ws)[i]? = some (payF prior ws g) := by
      show (gs.map (payF prior ws))[i]? = _
      rw [List.getElem?_map, er]
      rfl
    rw [List.getElem?_map, ee] at he
    cases he
    have hpg := hg.pays g (List.mem_of_getElem? er)
    refine ⟨rfl, ?_⟩
    refine iteT (B := N H2) ?_
    exact ⟨_, rfl, _, rfl, _, rfl, W, m, vp, vw, x, prior, ws, g, rfl, tp.keep (Same.kt s2), tw.keep (Same.kt s2), tx.keep (Same.kt s2), hp, h5, hw, hpg, hg.small, fun v H3 s3 tv => hQ v H3 s3 tv⟩
  · intro H2 us h2 t2 s2
    have sm : ∀ x ∈ gF prior gs ws, Sm x := fun x hx => ((gF_ok hp h5 hg ws hw).2 x hx).sm (by decide) (Nat.le_trans (Nat.mul_le_mul_left 5 hg.small) (by decide))
    refine ⟨_, rfl, T, us, gF prior gs ws, rfl, .inl (SqL.of h2), t2, sm, by omega, by omega, fun k H3 s3 hk => ?_⟩
    obtain ⟨v, ev, tv⟩ := t2.get (i := k) (d := rD (maxL (gF prior gs ws))) (by rw [List.getElem?_map, hk]; rfl)
    refine ⟨_, rfl, _, rfl, T, us, (k : Int), v, rfl, rfl, SqL.of (s3 _ _ h2), at_of (j := k) rfl ev, _, rfl, ?_⟩
    refine ⟨by show 2 ≤ sizeLine; decide, fun p1 n1 => ⟨by show 2 ≤ sizeLine; decide, fun p2 n2 => ?_⟩⟩
    have s4 := same_upd (o := .tup [.str "stop", .int (k : Int)]) n1
    have s5 := same_upd (o := .tup [v, .ref p1]) n2
    refine q _ k _ ((s2.trans s3).trans (s4.trans s5)) hk (.tup (.inl (.inl upd_same)) (.cons (tv.keep (Same.kt (s3.trans (s4.trans s5)))) (.cons ?_ .nil)))
    exact .tup (Same.kt s5 _ _ (.inl (.inl upd_same))) (.cons (.str _) (.cons (.int _) .nil))
end
end Tl
namespace Tl
open PySem PySem.Spec PyProof.Rows L2 RZ
def spBA (K : PySem.W.Frag) (n : Nat) : Sp := fun vs H Q _ => ∃ (W m : Nat) (v vw vp vg : V) (prior ws : List Rat) (gs : List (List Rat)) (t : Nd n), vs = [v, vw, vp, vg] ∧ Td K H v (ndD n t) ∧ Td K H vw (wsD ws) ∧ Td K H vp (wsD prior) ∧ Td K H vg (gsD gs) ∧ PriorOk W prior ∧ W ≤ 5 ∧ WsOk W ws ∧ GainsOk W m gs ∧ NdOk W n ws t ∧ n ≤ 6 ∧
  ∀ r a H', Same H H' → IsAk gs.length n t a → gotA (gf prior gs) n ws t a = bst (gF prior gs) n ws t → Td K H' r (wayD n (bst (gF prior gs) n ws t) a) → Q r H'
def idF (ws : List Rat) : List Rat := ws
def idf (ws : List Rat) (d : Nat) : Rat := ws.getD d 0
def spLA (K : PySem.W.Frag) (n : Nat) : Sp := fun vs H Q _ => ∃ (W : Nat) (v vw : V) (ws : List Rat) (t : Nd n), vs = [v, vw] ∧ Td K H v (ndD n t) ∧ Td K H vw (wsD ws) ∧ W ≤ 5 ∧ 1 ≤ W ∧ WsOk W ws ∧ NdOk W n ws t ∧ n ≤ 6 ∧
  ∀ r a H', Same H H' → IsAk W n t a → gotA idf n ws t a = bst idF n ws t → Td K H' r (wayD n (bst idF n ws t) a) → Q r H'
theorem idF_ok {W : Nat} (h1 : 1 ≤ W) : FOk W 6 1 idF := fun ws hw => ⟨fun e => by
  have := hw.1
  have e : ws = [] := e
  rw [e] at this
  simp at this
  omega, fun z hz => (hw.2 z hz).fd⟩
theorem map_fst {α β : Type} {as : List (Rat × β)} {q : List α} {f : α → Rat} (hl : as.length = q.length) (h : ∀ (j : Nat) (x : Rat × β), as[j]? = some x → ∃ a, q[j]? = some a ∧ x.1 = f a) : as.map (·.1) = q.map f := by
  refine List.ext_getElem? fun j => ?_
  rw [List.getElem?_map, List.getElem?_map]
  by_cases hj : j < as.length
  · obtain ⟨a, e1, e2⟩ := h j _ (List.getElem?_eq_getElem hj)
    rw [List.getElem?_eq_getElem hj, e1]
    exact congrArg some e2
  · rw [List.getElem?_eq_none (by omega), List.getElem?_eq_none (by omega)]
    rfl
theorem al_snd {m n : Nat} {q : Qn n} {as : List (Rat × Ak n)} (hl : as.length = q.length) (h : ∀ (j : Nat) (x : Rat × Ak n), as[j]? = some x → ∃ a : An n, q[j]? = some a ∧ IsAk m n a.2.2 x.2) : Al (fun (a : An n) (x : Ak n) => IsAk m n a.2.2 x) q (as.map (·.2)) := by
  refine Al.of (by rw [List.length_map, hl]) fun j a y e1 e2 => ?_
  obtain ⟨x, ex, rfl⟩ := mapAt e2
  obtain ⟨a', e3, e4⟩ := h j x ex
  rw [e1] at e3
  cases e3
  exact e4
theorem zip_got {n : Nat} {f : List Rat → Nat → Rat} : ∀ {q : Qn n} {as : List (Rat × Ak n)}, as.length = q.length → (∀ (j : Nat) (x : Rat × Ak n), as[j]? = some x → ∃ a : An n, q[j]? = some a ∧ gotA f n a.2.1 a.2.2 x.2 = x.1) → List.zipWith (fun (a : An n) (x : Ak n) => gotA f n a.2.1 a.2.2 x) q (as.map (·.2)) = as.map (·.1)
  | [], [], _, _ => rfl
  | [], _ :: _, e, _ => by simp at e
  | _ :: _, [], e, _ => by simp at e
  | a :: q, x :: as, e, h => by
    rw [List.map_cons, List.map_cons, List.zipWith_cons_cons]
    obtain ⟨a', e1, e2⟩ := h 0 x rfl
    cases e1
    rw [e2, zip_got (by simpa using e) fun j y ey => h (j + 1) y (by simpa using ey)]
theorem qvals_at {F : List Rat → List Rat} {n : Nat} {qs : List (Qn n)} {i : Nat} {q : Qn n} (h : qs[i]? = some q) : (qvals F (n + 1) qs)[i]? = some (bstQ F n q) := by
  show (qs.map (bstQ F n))[i]? = _
  rw [List.getElem?_map, h]
  rfl
theorem isAk_ask {m n : Nat} {qs : List (Qn n)} {k : Nat} {q : Qn n} {as : List (Rat × Ak n)} (hq : qs[k]? = some q) (hl : as.length = q.length) (h : ∀ (j : Nat) (x : Rat × Ak n), as[j]? = some x → ∃ a : An n, q[j]? = some a ∧ IsAk m n a.2.2 x.2) : IsAk m (n + 1) (qs : Nd (n + 1)) (.inr (k, as.map (·.2))) := ⟨q, hq, al_snd hl h⟩
theorem gotA_ask {f : List Rat → Nat → Rat} {n : Nat} {ws : List Rat} {qs : List (Qn n)} {k : Nat} {q : Qn n} {as : List (Rat × Ak n)} (hq : qs[k]? = some q) (hl : as.length = q.length) (h : ∀ (j : Nat) (x : Rat × Ak n), as[j]? = some x → ∃ a : An n, q[j]? = some a ∧ gotA f n a.2.1 a.2.2 x.2 = x.1) : gotA f (n + 1) ws (qs : Nd (n + 1)) (.inr (k, as.map (·.2))) = fsum (as.map (·.1)) := by
  show fsum (List.zipWith (fun (a : An n) (x : Ak n) => gotA f n a.2.1 a.2.2 x) (qs.getD k []) (as.map (·.2))) = _
  rw [getD_some hq, zip_got hl h]
section
variable {P : Program} {w : World} {K : PySem.W.Frag} {mg : Str → Option Value} {base : Heap} {aN aO : Addr} {t1 t2 t3 t4 t5 t6 t7 : Tok}
theorem ok_best_at {f f1 f2 f3 : Addr} {fd fd1 fd2 fd3 : FuncData} (D : Dn K mg "best_at" s_best_at ["node", "weights", "prior", "gains"] f fd) (B : Blt mg) (C : Cst K mg aN aO t1 t2 t3 t4 t5 t6 t7)
    (D_best_stop : Dn K mg "best_stop" s_best_stop ["weights", "prior", "gains"] f1 fd1) (G_best_stop : FnOk P w K mg base CX0 5 f1 fd1 ["weights", "prior", "gains"] (spBS K))
    (D_total : Dn K mg "total" s_total ["fractions"] f2 fd2) (G_total : FnOk P w K mg base CX0 3 f2 fd2 ["fractions"] (spTotal K))
    (D_greatest_of : Dn K mg "greatest_of" s_greatest_of ["fractions"] f3 fd3) (G_greatest_of : FnOk P w K mg base CX0 2 f3 fd3 ["fractions"] (spGrt K)) : ∀ n : Nat, FnOk P w K mg base CX0 (6 + n) f fd ["node", "weights", "prior", "gains"] ((spBA K) n) := by
  intro n
  obtain ⟨sp0, G_best_at, hsp⟩ : ∃ sp0, FnOk P w K mg base CX0 (5 + n) f fd ["node", "weights", "prior", "gains"] sp0 ∧ (∀ m, n = m + 1 → sp0 = (spBA K) m) := by
    cases n with
    | zero => exact ⟨fun _ _ _ _ => False, ⟨fun vs H Q E h => h.elim, fun A outer s H args us vs Q E _ _ _ _ h => h.elim⟩, fun m e => by omega⟩
    | succ m =>
      have G := ok_best_at D B C D_best_stop G_best_stop D_total G_total D_greatest_of G_greatest_of m
      rw [show 6 + m = 5 + (m + 1) by omega] at G
      exact ⟨_, G, fun m' e => by rw [show m' = m by omega]⟩
  rw [show 6 + n = (5 + n) + 1 by omega]
  refine D.F.ok sc_best_at (fun vs H Q E h => ?_) (fun cdv A outer s H vs Q E hr h => ?_)
  · obtain ⟨W, m, v, vw, vp, vg, prior, ws, gs, t, rfl, _⟩ := h
    rfl
  obtain ⟨W, m, v, vw, vp, vg, prior, ws, gs, t, rfl, hv, tw, tp, tg, hp, h5, hw, hg, hok, hn, q⟩ := h
  have nd := sc_best_at.nd
  have D_best_at := D
  refine ⟨_, (pss_cons (ps_set (i := 4) nd rfl (.inl rfl) (pe_lst (pa_cons (pe_call G_best_stop (hr.mono (by omega)) (by rfl) D_best_stop.m D_best_stop.F.kp D_best_stop.b .nil pass0 (pa_cons (pv 1) (pa_cons (pv 2) (pa_cons (pv 3) pa_nil)))) pa_nil)))
      (pss_cons (ps_for PassesOwn.never rfl (k_enum (K := K) rfl (by rfl) B.enumerate (pa_cons (pv 0) pa_nil)) (k_tup (K := K) (n := 2) rfl rfl (pgs_cons (pg_name (i := 5) nd rfl (.inl rfl)) (pgs_cons (pg_name (i := 6) nd rfl (.inl rfl)) pgs_nil))) (pss_cons (ps_setLc (i := 7) (own := [("answer", 8)]) rfl nd rfl rfl (sw_true rfl rfl rfl (by decide +kernel)) (k_iT (K := K) rfl (pv 6)) (blkOk_by (own := [("answer", 8)]) (by kernel_rfl)) (fun _ _ _ _ _ => (pg_name (i := 8) nd rfl (.inl rfl))) (fun _ _ _ _ _ => pts_nil) (fun _ _ _ _ _ => (pe_call G_best_at (hr.mono (by omega)) (by rfl) D_best_at.m D_best_at.F.kp D_best_at.b .nil pass0 (pa_cons (pe_ix (k_ixT (K := K) rfl) (pv 8) pe_int (fun _ _ => rfl)) (pa_cons (pe_ix (k_ixT (K := K) rfl) (pv 8) pe_int (fun _ _ => rfl)) (pa_cons (pv 2) (pa_cons (pv 3) pa_nil)))))))
      (pss_one (ps_expr (pe_bm PySem.F.plainAttrs_list PySem.F.slot_list_append PySem.F.type_list_append mt_append (pv 4) (pa_cons (pe_tup (pa_cons (pe_call G_total (hr.mono (by omega)) (by rfl) D_total.m D_total.F.kp D_total.b .nil pass0 (pa_cons (pe_lc (own := [("way", 9)]) rfl nd (k_iL (K := K) rfl (pv 7)) (blkOk_by (own := [("way", 9)]) (by kernel_rfl)) (fun _ _ _ _ _ => (pg_name (i := 9) nd rfl (.inl rfl))) (fun _ _ _ _ _ => pts_nil) (fun _ _ _ _ _ => (pe_ix (k_ixT (K := K) rfl) (pv 9) pe_int (fun _ _ => rfl)))) pa_nil)) (pa_cons (pe_tup (pa_cons pe_str (pa_cons (pv 5) (pa_cons (pe_callTy (k_tupOf (K := K) rfl) (by rfl) B.tuple (by decide +kernel) (pa_cons (pe_lc (own := [("way", 9)]) rfl nd (k_iL (K := K) rfl (pv 7)) (blkOk_by (own := [("way", 9)]) (by kernel_rfl)) (fun _ _ _ _ _ => (pg_name (i := 9) nd rfl (.inl rfl))) (fun _ _ _ _ _ => pts_nil) (fun _ _ _ _ _ => (pe_ix (k_ixT (K := K) rfl) (pv 9) pe_int (fun _ _ => rfl)))) pa_nil)) pa_nil)))) pa_nil))) pa_nil))))))
      (pss_one (ps_ret (pe_ix (k_ixL (K := K) rfl) (pv 4) (pe_call G_greatest_of (hr.mono (by omega)) (by rfl) D_greatest_of.m D_greatest_of.F.kp D_greatest_of.b .nil pass0 (pa_cons (pe_lc (own := [("way", 9)]) rfl nd (k_iL (K := K) rfl (pv 4)) (blkOk_by (own := [("way", 9)]) (by kernel_rfl)) (fun _ _ _ _ _ => (pg_name (i := 9) nd rfl (.inl rfl))) (fun _ _ _ _ _ => pts_nil) (fun _ _ _ _ _ => (pe_ix (k_ixT (K := K) rfl) (pv 9) pe_int (fun _ _ => rfl)))) pa_nil)) (fun _ _ => rfl)))))), ?_⟩
  have hm := hg.small
  refine ⟨_, rfl, _, rfl, _, rfl, W, m, vw, vp, vg, prior, ws, gs, rfl, tp, tw, tg, hp, h5, hw, hg, fun v0 d0 H1 s1 hd1 tv0 => ⟨by show 1 ≤ sizeLine; decide, fun T hT1 => ?_⟩⟩
  have hd0 := gf_at hd1
  obtain ⟨p0, y0, y1, rfl, hp0, ty0, ty1⟩ := td_two tv0
  have sT := same_upd (o := .lst [.ref p0]) hT1
  have s0 := s1.trans sT
  have hT0 : (upd H1 T (.lst [.ref p0])) T = some (.lst [.ref p0]) := upd_same
  have tw0 : TdAll K (upd H1 T (.lst [.ref p0])) [.ref p0] ([(maxL (gF prior gs ws), stopA n d0)].map fun x => wayD n x.1 x.2) := by
    refine .cons ?_ .nil
    show Td K _ (.ref p0) (.tuple [rD _, akD n (stopA n d0)])
    rw [akD_stop]
    exact tv0.keep (Same.kt sT)
  have hT : H T = none := s1.free hT1
  generalize upd H1 T (.lst [.ref p0]) = H9 at s0 hT0 tw0 ⊢
  have hF : FOk W 8 (5 * m) (gF prior gs) := gF_ok hp h5 hg
  have mx : maxL ((gF prior gs) ws) :: qvals (gF prior gs) n t ≠ [] := List.cons_ne_nil _ _
  rw [bst_q] at q
  obtain ⟨a, xs, ds, rfl, ha, ed, ta, l0⟩ := td_qs hv
  have lq : xs.length = (qvals (gF prior gs) n t).length := by
    cases n with
    | zero => rw [l0 rfl]; rfl
    | succ n =>
      cases ed
      rw [ta.len, List.length_map]
      show _ = ((show List (Qn n) from t).map (bstQ (gF prior gs) n)).length
      rw [List.length_map]
  have l5 : xs.length ≤ 5 := by
    cases n with
    | zero => rw [l0 rfl]; decide
    | succ n =>
      cases ed
      rw [ta.len, List.length_map]
      exact hok.1
  have vfd : ∀ z ∈ maxL ((gF prior gs) ws) :: qvals (gF prior gs) n t, Fd 8 ((5 * m) * 12 ^ n) z := fun z hz => by
    rcases List.mem_cons.mp hz with rfl | hz
    · exact (maxL_fd (hF _ hw).1 (hF _ hw).2).mono (Nat.le_refl _) (Nat.le_mul_of_pos_right _ (Nat.pow_pos (by decide)))
    · cases n with
      | zero => exact absurd hz List.not_mem_nil
      | succ n =>
        obtain ⟨q, hq, rfl⟩ := List.mem_map.mp hz
        exact (bstQ_fd hF (hok.2 q hq).1 (hok.2 q hq).2).2
  have vsm : ∀ z ∈ maxL ((gF prior gs) ws) :: qvals (gF prior gs) n t, Sm z := fun z hz => (vfd z hz).sm (by decide) (Nat.le_trans (bnd12 (by omega) (by omega)) (by decide))
  refine ⟨_, rfl, a, xs, rfl, Same.kt s0 _ _ ha, for_it (walk_enumT (K := K) (a := a) (xs := xs)) (fun i σ H2 => ∃ (us : List V) (items : List (Rat × Ak n)) (o5 o6 o7 o8 o9 : Option V), σ = [some (.ref a), some vw, some vp, some vg, some (.ref T), o5, o6, o7, o8, o9] ∧ H2 T = some (.lst us) ∧ TdAll K H2 us (items.map fun x => wayD n x.1 x.2) ∧ items.map (·.1) = (maxL ((gF prior gs) ws) :: qvals (gF prior gs) n t).take (i + 1) ∧ (∀ x ∈ items, IsAk gs.length n t x.2 ∧ gotA (gf prior gs) n ws t x.2 = x.1) ∧ Same H H2)
    ⟨[.ref p0], [(maxL ((gF prior gs) ws), stopA n d0)], none, none, none, none, none, rfl, hT0, tw0, rfl, fun x hx => ?_, s0⟩ (fun i σ H2 _ h => ?_) ?_ ?_⟩
  · rw [List.mem_singleton.mp hx]
    exact ⟨isAk_stop hd0.1, gotA_stop.trans hd0.2⟩
  · obtain ⟨us, items, o5, o6, o7, o8, o9, _, _, _, _, _, s2⟩ := h
    exact Same.kt s2 _ _ ha
  · rintro i x σ H2 H3 hi ⟨us, items, o5, o6, o7, o8, o9, rfl, h2, t2, em, hA, s2⟩ ⟨Te, x1, x2, rfl, nT, rfl, e1, e2⟩
    cases n with
    | zero =>
      rw [l0 rfl] at hi
      exact absurd hi (Nat.not_lt_zero _)
    | succ n =>
      have esp := hsp n rfl
      subst esp
      cases e1
      cases ed
      obtain ⟨qs, hqs⟩ : ∃ qs : List (Qn n), (qs : Nd (n + 1)) = t := ⟨t, rfl⟩
      subst hqs
      have sE : Same H2 (upd H2 Te (.tup [.int (i : Int), x2])) := same_upd nT
      obtain ⟨dx, ex, tx⟩ := ta.getV e2
      obtain ⟨qn, eq, rfl⟩ := mapAt ex
      obtain ⟨qok, nok⟩ := hok.2 qn (List.mem_of_getElem? eq)
      have o12 := qok.most
      have h3 := sE _ _ h2
      have t3 := t2.keep (Same.kt sE)
      have s23 := s2.trans sE
      have txE := tx.keep (Same.kt s23)
      have eT : SqT K (upd H2 Te (.tup [.int (i : Int), x2])) Te [.int (i : Int), x2] := .inl (.inl upd_same)
      generalize upd H2 Te (.tup [.int (i : Int), x2]) = H3 at sE h3 t3 s23 txE eT ⊢
      obtain ⟨b, ys, rfl, hb, tb⟩ := id txE.tupE
      have ly : ys.length = qn.length := by rw [tb.len, List.length_map]
      refine ⟨Te, _, rfl, eT, rfl, _, _, rfl, _, _, rfl, rfl, ?_⟩
      refine ⟨_, rfl, b, rfl, ⟨_, hb⟩, fun TI hTI => ?_⟩
      refine lc_ex (K := K) (walk_tup (K := K) (a := b) (xs := ys)) (fun (x : Rat × Ak n) => wayD n x.1 x.2) (fun j x => ∃ an, qn[j]? = some an ∧ x.1 = bstA (gF prior gs) n an ∧ IsAk gs.length n an.2.2 x.2 ∧ gotA (gf prior gs) n an.2.1 an.2.2 x.2 = x.1) (by omega) hTI (fun H' s => Same.kt s _ _ hb) ?_ ?_
      · rintro j y H0 H4 Qy N hj s4 ⟨rfl, e3⟩ hQ
        obtain ⟨dy, ey, ty⟩ := tb.getV e3
        obtain ⟨an, ea, rfl⟩ := mapAt ey
        have ma := List.mem_of_getElem? ea
        obtain ⟨p, vw', vz, vt, rfl, hp', tw', tz, tt⟩ := td_an (ty.keep (Same.kt s4))
        refine ⟨rfl, ?_⟩
        refine iteT (B := N H4) ?_
        refine ⟨_, rfl, p, _, 2, vt, rfl, rfl, hp', at_of (j := 2) rfl rfl, _, rfl, p, _, 1, vz, rfl, rfl, hp', at_of (j := 1) rfl rfl, _, rfl, _, rfl, W, m, vt, vz, vp, vg, prior, an.2.1, gs, an.2.2, rfl, tt, tz, tp.keep (Same.kt (s23.trans s4)), tg.keep (Same.kt (s23.trans s4)), hp, h5, qok.ws ma, hg, nok an ma, by omega, fun r ak H5 s5 i1 i2 i3 => ?_⟩
        exact hQ r (bstA (gF prior gs) n an, ak) H5 s5 ⟨an, ea, rfl, i1, i2⟩ i3
      · intro H4 us2 as2 la2 pa2 h4 t4 s4
        rw [ly] at la2
        have ef : as2.map (·.1) = qn.map (bstA (gF prior gs) n) := map_fst la2 fun j x e => by
          obtain ⟨an, ea, e1, _⟩ := pa2 j x e
          exact ⟨an, ea, e1⟩
        have fdq := bstQ_fd hF qok nok
        have h34 := s4 _ _ h3
        have lu2 : us2.length = as2.length := by rw [t4.len, List.length_map]
        refine ⟨_, rfl, .inl ⟨rfl, _, SqL.of h34⟩, ?_⟩
        -- total([way[0] for way in inner])
        refine ⟨_, rfl, TI, rfl, ⟨_, SqL.of h4⟩, fun T3 hT3 => ?_⟩
        refine lc_td (K := K) (walk_list (K := K) (a := TI) (xs := us2)) ((as2.map (·.1)).map rD) (by rw [List.length_map, List.length_map, lu2]) (by omega) hT3 (fun H' s => s.seq (SqL.of h4)) ?_ ?_
        · rintro j y e H0 H5 Qy N he s5 ⟨rfl, e3⟩ hQ
          obtain ⟨dy, ey, ty⟩ := t4.getV e3
          obtain ⟨z, ez, rfl⟩ := mapAt ey
          rw [List.getElem?_map, List.getElem?_map, ez] at he
          cases he
          obtain ⟨p, v0, v1, rfl, hp', tv0, tv1⟩ := td_two (ty.keep (Same.kt s5))
          refine ⟨rfl, ?_⟩
          refine iteT (B := N H5) ?_
          exact ⟨_, rfl, p, _, 0, v0, rfl, rfl, hp', at_of (j := 0) rfl rfl, hQ v0 H5 (Same.refl _) tv0⟩
        intro H5 us3 h5' t5 s5
        rw [ef] at t5
        obtain ⟨e, d0', d1', ab⟩ := tot_fd fdq.1 (by decide) (by rw [List.length_map]; exact Nat.le_trans (Nat.mul_le_mul o12 (bnd12 (by omega) (by omega))) (by decide))
        refine ⟨T3, us3, LL ^ 8, (qn.map (bstA (gF prior gs) n)).map (frN (LL ^ 8)), rfl, .inl (SqL.of h5'), by rw [e]; exact t5, d0', d1', ab, by rw [List.length_map, List.length_map]; omega, fun v3 H6 s6 tv3 => ?_⟩
        rw [e] at tv3
        have s46 := s5.trans s6
        -- tuple([way[1] for way in inner])
        refine ⟨_, rfl, _, rfl, TI, rfl, ⟨_, SqL.of (s46 _ _ h4)⟩, fun T4 hT4 => ?_⟩
        refine lc_td (K := K) (walk_list (K := K) (a := TI) (xs := us2)) ((as2.map (·.2)).map (akD n)) (by rw [List.length_map, List.length_map, lu2]) (by omega) hT4 (fun H' s => s.seq (SqL.of (s46 _ _ h4))) ?_ ?_
        · rintro j y e H0 H7 Qy N he s7 ⟨rfl, e3⟩ hQ
          obtain ⟨dy, ey, ty⟩ := t4.getV e3
          obtain ⟨z, ez, rfl⟩ := mapAt ey
          rw [List.getElem?_map, List.getElem?_map, ez] at he
          cases he
          obtain ⟨p, v0, v1, rfl, hp', tv0, tv1⟩ := td_two (ty.keep (Same.kt (s46.trans s7)))
          refine ⟨rfl, ?_⟩
          refine iteT (B := N H7) ?_
          exact ⟨_, rfl, p, _, 1, v1, rfl, rfl, hp', at_of (j := 1) rfl rfl, hQ v1 H7 (Same.refl _) tv1⟩
        intro H7 us4 h7 t7 s7
        refine ⟨T4, us4, rfl, SqL.of h7, fun l H8 s8 q8 => ?_⟩
        refine ⟨by show 3 ≤ sizeLine; decide, fun p1 n1 => ⟨by show 2 ≤ sizeLine; decide, fun p2 n2 => ?_⟩⟩
        have s9 := same_upd (o := .tup [.str "ask", .int (i : Int), .ref l]) n1
        have s10 := same_upd (o := .tup [v3, .ref p1]) n2
        have s610 := (s7.trans s8).trans (s9.trans s10)
        have s310 := (s4.trans s46).trans s610
        have h10 := s310 _ _ h3
        have kT : KT K _ (upd (upd (upd H8 p1 (.tup [.str "ask", .int (i : Int), .ref l])) p2 (.tup [v3, .ref p1])) T (.lst (us ++ [.ref p2]))) := KT.updL h10
        have k10 : KT K H8 (upd (upd (upd H8 p1 (.tup [.str "ask", .int (i : Int), .ref l])) p2 (.tup [v3, .ref p1])) T (.lst (us ++ [.ref p2]))) := (Same.kt (s9.trans s10)).trans kT
        have tnew : Td K (upd (upd (upd H8 p1 (.tup [.str "ask", .int (i : Int), .ref l])) p2 (.tup [v3, .ref p1])) T (.lst (us ++ [.ref p2]))) (.ref p2) (wayD (n + 1) (bstQ (gF prior gs) n qn) (.inr (i, as2.map (·.2)))) := by
          refine .tup (kT _ _ (.inl (.inl upd_same))) (.cons (tv3.keep ((Same.kt (s7.trans s8)).trans k10)) (.cons ?_ .nil))
          refine .tup (kT _ _ (Same.kt s10 _ _ (.inl (.inl upd_same)))) (.cons (.str _) (.cons (.int _) (.cons ?_ .nil)))
          exact .tup (k10 _ _ q8) (t7.keep ((Same.kt s8).trans k10))
        have lit : items.length = i + 1 := by
          have := congrArg List.length em
          rw [List.length_map, List.length_take, List.length_cons] at this
          omega
        refine ⟨T, us, _, rfl, rfl, h10, ?_, us ++ [.ref p2], items ++ [(bstQ (gF prior gs) n qn, .inr (i, as2.map (·.2)))], _, _, _, _, _, rfl, upd_same, ?_, ?_, ?_, fun c o z => ?_⟩
        · rw [t3.len, List.length_map]
          exact small1000 (by omega)
        · rw [List.map_append]
          exact (t3.keep ((Same.kt s310).trans kT)).app (.cons tnew .nil)
        · have eq2 : (maxL ((gF prior gs) ws) :: qvals (gF prior gs) (n + 1) qs)[i + 1]? = some (bstQ (gF prior gs) n qn) := qvals_at eq
          rw [List.map_append, em, List.take_add_one (i := i + 1), eq2]
          rfl
        · intro x hx
          rcases List.mem_append.mp hx with hx | hx
          · exact hA x hx
          · rw [List.mem_singleton.mp hx]
            refine ⟨isAk_ask eq la2 fun j x e => ?_, (gotA_ask eq la2 fun j x e => ?_).trans (by rw [ef]; rfl)⟩
            · obtain ⟨an, ea, _, e2, _⟩ := pa2 j x e
              exact ⟨an, ea, e2⟩
            · obtain ⟨an, ea, _, _, e3⟩ := pa2 j x e
              exact ⟨an, ea, e3⟩
        · rw [upd_ne (ne_of_none z hT)]
          exact s310 _ _ (s23 _ _ z)
  · rintro σ H2 ⟨us, items, o5, o6, o7, o8, o9, rfl, h2, t2, em, hA, s2⟩
    rw [List.take_of_length_le (by rw [List.length_cons]; omega)] at em
    have lus : us.length = items.length := by rw [t2.len, List.length_map]
    have lit : items.length = xs.length + 1 := by
      have := congrArg List.length em
      rw [List.length_map, List.length_cons] at this
      omega
    refine ⟨_, rfl, _, rfl, T, rfl, ⟨_, SqL.of h2⟩, fun T3 hT3 => ?_⟩
    refine lc_td (K := K) (walk_list (K := K) (a := T) (xs := us)) ((items.map (·.1)).map rD) (by rw [List.length_map, List.length_map, lus]) (by omega) hT3 (fun H' s => s.seq (SqL.of h2)) ?_ ?_
    · rintro j y e H0 H5 Qy N he s5 ⟨rfl, e3⟩ hQ
      obtain ⟨dy, ey, ty⟩ := t2.getV e3
      obtain ⟨z, ez, rfl⟩ := mapAt ey
      rw [List.getElem?_map, List.getElem?_map, ez] at he
      cases he
      obtain ⟨p, v0, v1, rfl, hp', tv0, tv1⟩ := td_two (ty.keep (Same.kt s5))
      refine ⟨rfl, ?_⟩
      refine iteT (B := N H5) ?_
      exact ⟨_, rfl, p, _, 0, v0, rfl, rfl, hp', at_of (j := 0) rfl rfl, hQ v0 H5 (Same.refl _) tv0⟩
    intro H5 us3 h5' t5 s5
    rw [em] at t5
    refine ⟨T3, us3, _, rfl, .inl (SqL.of h5'), t5, vsm, by rw [List.length_cons]; omega, by rw [List.length_cons]; omega, fun k H6 s6 hk => ?_⟩
    have s26 := s5.trans s6
    have hk2 : (items.map (·.1))[k]? = some (maxL (maxL ((gF prior gs) ws) :: qvals (gF prior gs) n t)) := by rw [em]; exact hk
    obtain ⟨z, ez, e4⟩ := mapAt hk2
    obtain ⟨v, ev, tv⟩ := t2.get (i := k) (d := wayD n z.1 z.2) (by rw [List.getElem?_map, ez]; rfl)
    obtain ⟨a1, a2⟩ := hA z (List.mem_of_getElem? ez)
    rw [e4] at q
    exact ⟨T, us, (k : Int), v, rfl, rfl, SqL.of (s26 _ _ h2), at_of (j := k) rfl ev, q v z.2 H6 (s2.trans s26) a1 a2 (tv.keep (Same.kt s26))⟩
end
end Tl
namespace Tl
open PySem PySem.Spec PyProof.Rows L2 RZ
def spBW (K : PySem.W.Frag) (Cc : Addr) (n : Nat) : Sp := fun vs H Q _ => ∃ (p : Addr) (W m : Nat) (v vp vg : V) (prior : List Rat) (gs : List (List Rat)) (t : Nd n), vs = [.ref p, vp, vg] ∧ HsOk K Cc H p W n t v ∧ Td K H vp (wsD prior) ∧ Td K H vg (gsD gs) ∧ PriorOk W prior ∧ GainsOk W m gs ∧ n ≤ 6 ∧
  ∀ r a H', Same H H' → IsAk gs.length n t a → gotA (gf prior gs) n (ones W) t a = bst (gF prior gs) n (ones W) t → Td K H' r (wayD n (bst (gF prior gs) n (ones W) t) a) → Q r H'
def spWth (K : PySem.W.Frag) (Cc : Addr) (n : Nat) : Sp := fun vs H Q _ => ∃ (p : Addr) (W m : Nat) (v vp vg : V) (prior : List Rat) (gs : List (List Rat)) (t : Nd n), vs = [.ref p, vp, vg] ∧ HsOk K Cc H p W n t v ∧ Td K H vp (wsD prior) ∧ Td K H vg (gsD gs) ∧ PriorOk W prior ∧ GainsOk W m gs ∧ n ≤ 6 ∧
  ∀ r H', Same H H' → Td K H' r (rD (bst (gF prior gs) n (ones W) t)) → Q r H'
def spBAk (K : PySem.W.Frag) (Cc : Addr) (n : Nat) : Sp := fun vs H Q _ => ∃ (p : Addr) (W m : Nat) (v vp vg : V) (prior : List Rat) (gs : List (List Rat)) (t : Nd n), vs = [.ref p, vp, vg] ∧ HsOk K Cc H p W n t v ∧ Td K H vp (wsD prior) ∧ Td K H vg (gsD gs) ∧ PriorOk W prior ∧ GainsOk W m gs ∧ n ≤ 6 ∧
  ∀ r a H', Same H H' → IsAk gs.length n t a → gotA (gf prior gs) n (ones W) t a = bst (gF prior gs) n (ones W) t → Td K H' r (akD n a) → Q r H'
def spWU (K : PySem.W.Frag) : Sp := fun vs H Q _ => ∃ (W m : Nat) (vp vg : V) (prior : List Rat) (gs : List (List Rat)), vs = [vp, vg] ∧ Td K H vp (wsD prior) ∧ Td K H vg (gsD gs) ∧ PriorOk W prior ∧ 1 ≤ W ∧ W ≤ 5 ∧ GainsOk W m gs ∧ ∀ r H', Same H H' → Td K H' r (rD (maxL (gF prior gs (ones W)))) → Q r H'
def spLuck (K : PySem.W.Frag) (Cc : Addr) (n : Nat) : Sp := fun vs H Q _ => ∃ (p : Addr) (W : Nat) (v : V) (t : Nd n), vs = [.ref p] ∧ HsOk K Cc H p W n t v ∧ n ≤ 6 ∧ ∀ r H', Same H H' → Td K H' r (rD (bst idF n (ones W) t)) → Q r H'
def spLkst (K : PySem.W.Frag) (Cc : Addr) (n : Nat) : Sp := fun vs H Q _ => ∃ (p : Addr) (W : Nat) (v : V) (t : Nd n), vs = [.ref p] ∧ HsOk K Cc H p W n t v ∧ n ≤ 6 ∧ ∀ r a H', Same H H' → IsAk W n t a → gotA idf n (ones W) t a = bst idF n (ones W) t → Td K H' r (akD n a) → Q r H'
section
variable {P : Program} {w : World} {K : PySem.W.Frag} {mg : Str → Option Value} {base : Heap} {aN aO : Addr} {t1 t2 t3 t4 t5 t6 t7 : Tok}
theorem ok_best_way {n : Nat} {f f1 f2 f3 : Addr} {fd fd1 fd2 fd3 : FuncData} {Cc fi fe : Addr} (D : Dn K mg "best_way" s_best_way ["house", "prior", "gains"] f fd) (B : Blt mg) (C : Cst K mg aN aO t1 t2 t3 t4 t5 t6 t7) (U : Hcl K mg Cc fi fe)
    (D_check_prior : Dn K mg "check_prior" s_check_prior ["prior", "worlds"] f1 fd1) (G_check_prior : FnOk P w K mg base CX0 6 f1 fd1 ["prior", "worlds"] (spCkP K))
    (D_check_gains : Dn K mg "check_gains" s_check_gains ["gains", "worlds"] f2 fd2) (G_check_gains : FnOk P w K mg base CX0 5 f2 fd2 ["gains", "worlds"] (spCkG K))
    (D_best_at : Dn K mg "best_at" s_best_at ["node", "weights", "prior", "gains"] f3 fd3) (G_best_at : FnOk P w K mg base CX0 (6 + n) f3 fd3 ["node", "weights", "prior", "gains"] (spBA K n)) : FnOk P w K mg base CX0 (7 + n) f fd ["house", "prior", "gains"] (spBW K Cc n) := by
  rw [show 7 + n = (6 + n) + 1 by omega]
  refine D.F.ok sc_best_way (fun vs H Q E h => ?_) (fun cdv A outer s H vs Q E hr h => ?_)
  · obtain ⟨p, W, m, v, vp, vg, prior, gs, t, rfl, _⟩ := h
    rfl
  obtain ⟨p, W, m, v, vp, vg, prior, gs, t, rfl, hs, tp, tg, hp, hg, hn, q⟩ := h
  have nd := sc_best_way.nd
  refine ⟨_, (pss_cons (ps_expr (pe_call G_check_prior (hr.mono (by omega)) (by rfl) D_check_prior.m D_check_prior.F.kp D_check_prior.b .nil pass0 (pa_cons (pv 1) (pa_cons (k_fld (K := K) rfl (pv 0) rfl) pa_nil))))
      (pss_cons (ps_expr (pe_call G_check_gains (hr.mono (by omega)) (by rfl) D_check_gains.m D_check_gains.F.kp D_check_gains.b .nil pass0 (pa_cons (pv 2) (pa_cons (k_fld (K := K) rfl (pv 0) rfl) pa_nil))))
      (pss_one (ps_ret (pe_call G_best_at (hr.mono (by omega)) (by rfl) D_best_at.m D_best_at.F.kp D_best_at.b .nil pass0 (pa_cons (k_fld (K := K) rfl (pv 0) rfl) (pa_cons (pe_op (k_rep (K := K) rfl) (pe_tup (pa_cons (pe_glob (v := .ref _) rfl C.ONE rfl) pa_nil)) (k_fld (K := K) rfl (pv 0) rfl)) (pa_cons (pv 1) (pa_cons (pv 2) pa_nil))))))))), ?_⟩
  have h5 := hs.w5
  have w1 := hs.w1
  obtain ⟨d, ed⟩ := id hs.at_
  refine ⟨_, rfl, _, rfl, p, Cc, d, _, _, rfl, ed, U.cl, U.nw, hf_w _ _, vp, prior, W, rfl, tp, hp, h5, fun H1 s1 => ?_⟩
  refine ⟨_, rfl, _, rfl, p, Cc, d, _, _, rfl, s1 _ _ ed, U.cl, U.nw, hf_w _ _, vg, gs, W, m, rfl, tg.keep (Same.kt s1), hg, h5, fun H2 s2 => ?_⟩
  have s02 := s1.trans s2
  refine ⟨_, rfl, p, Cc, d, _, _, rfl, s02 _ _ ed, U.cl, U.nt, hf_t _ _, by show 1 ≤ sizeLine; decide, fun p2 n2 => ?_⟩
  have s3 := same_upd (o := .tup [.ref aO]) n2
  have s03 := s02.trans s3
  refine ⟨_, rfl, p, Cc, d, _, _, rfl, s03 _ _ ed, U.cl, U.nw, hf_w _ _, p2, (W : Int), _, rfl, rfl, .inl (.inl upd_same), by simp, by omega, by omega, by simp, fun pa H4 s4 q4 => ?_⟩
  have s04 := s03.trans s4
  have tO : Td K H4 (.ref aO) (rD 1) := by
    rw [rD_one]
    exact .tup (C.tO _) (tdAll_ints [1, 1])
  exact ⟨_, rfl, _, rfl, W, m, v, .ref pa, vp, vg, prior, ones W, gs, t, rfl, hs.td.keep (Same.kt s04), ones_td tO q4, tp.keep (Same.kt s04), tg.keep (Same.kt s04), hp, h5, ones_ws, hg, hs.ok, hn, fun r a H5 s5 i1 i2 i3 => q r a H5 (s04.trans s5) i1 i2 i3⟩
theorem ok_worth {n : Nat} {f f1 : Addr} {fd fd1 : FuncData} {Cc fi fe : Addr} (D : Dn K mg "worth" s_worth ["house", "prior", "gains"] f fd) (B : Blt mg) (C : Cst K mg aN aO t1 t2 t3 t4 t5 t6 t7) (U : Hcl K mg Cc fi fe)
    (D_best_way : Dn K mg "best_way" s_best_way ["house", "prior", "gains"] f1 fd1) (G_best_way : FnOk P w K mg base CX0 (7 + n) f1 fd1 ["house", "prior", "gains"] (spBW K Cc n)) : FnOk P w K mg base CX0 (8 + n) f fd ["house", "prior", "gains"] (spWth K Cc n) := by
  rw [show 8 + n = (7 + n) + 1 by omega]
  refine D.F.ok sc_worth (fun vs H Q E h => ?_) (fun cdv A outer s H vs Q E hr h => ?_)
  · obtain ⟨p, W, m, v, vp, vg, prior, gs, t, rfl, _⟩ := h
    rfl
  obtain ⟨p, W, m, v, vp, vg, prior, gs, t, rfl, hs, tp, tg, hp, hg, hn, q⟩ := h
  have nd := sc_worth.nd
  refine ⟨_, (pss_one (ps_ret (pe_ix (k_ixT (K := K) rfl) (pe_call G_best_way (hr.mono (by omega)) (by rfl) D_best_way.m D_best_way.F.kp D_best_way.b .nil pass0 (pa_cons (pv 0) (pa_cons (pv 1) (pa_cons (pv 2) pa_nil)))) pe_int (fun _ _ => rfl)))), ?_⟩
  refine ⟨_, rfl, _, rfl, _, rfl, p, W, m, v, vp, vg, prior, gs, t, rfl, hs, tp, tg, hp, hg, hn, fun r a H1 s1 i1 i2 i3 => ?_⟩
  obtain ⟨pr, v0, v1, rfl, hpr, tv0, tv1⟩ := td_two i3
  exact ⟨pr, _, 0, v0, rfl, rfl, hpr, at_of (j := 0) rfl rfl, q v0 H1 s1 tv0⟩
theorem ok_best_asker {n : Nat} {f f1 : Addr} {fd fd1 : FuncData} {Cc fi fe : Addr} (D : Dn K mg "best_asker" s_best_asker ["house", "prior", "gains"] f fd) (B : Blt mg) (C : Cst K mg aN aO t1 t2 t3 t4 t5 t6 t7) (U : Hcl K mg Cc fi fe)
    (D_best_way : Dn K mg "best_way" s_best_way ["house", "prior", "gains"] f1 fd1) (G_best_way : FnOk P w K mg base CX0 (7 + n) f1 fd1 ["house", "prior", "gains"] (spBW K Cc n)) : FnOk P w K mg base CX0 (8 + n) f fd ["house", "prior", "gains"] (spBAk K Cc n) := by
  rw [show 8 + n = (7 + n) + 1 by omega]
  refine D.F.ok sc_best_asker (fun vs H Q E h => ?_) (fun cdv A outer s H vs Q E hr h => ?_)
  · obtain ⟨p, W, m, v, vp, vg, prior, gs, t, rfl, _⟩ := h
    rfl
  obtain ⟨p, W, m, v, vp, vg, prior, gs, t, rfl, hs, tp, tg, hp, hg, hn, q⟩ := h
  have nd := sc_best_asker.nd
  refine ⟨_, (pss_one (ps_ret (pe_ix (k_ixT (K := K) rfl) (pe_call G_best_way (hr.mono (by omega)) (by rfl) D_best_way.m D_best_way.F.kp D_best_way.b .nil pass0 (pa_cons (pv 0) (pa_cons (pv 1) (pa_cons (pv 2) pa_nil)))) pe_int (fun _ _ => rfl)))), ?_⟩
  refine ⟨_, rfl, _, rfl, _, rfl, p, W, m, v, vp, vg, prior, gs, t, rfl, hs, tp, tg, hp, hg, hn, fun r a H1 s1 i1 i2 i3 => ?_⟩
  obtain ⟨pr, v0, v1, rfl, hpr, tv0, tv1⟩ := td_two i3
  exact ⟨pr, _, 1, v1, rfl, rfl, hpr, at_of (j := 1) rfl rfl, q v1 a H1 s1 i1 i2 tv1⟩
theorem ok_worth_unasked {tw : Tok} {f f1 f2 f3 : Addr} {fd fd1 fd2 fd3 : FuncData} (D : Dn K mg "worth_unasked" s_worth_unasked ["prior", "gains"] f fd) (B : Blt mg) (C : Cst K mg aN aO t1 t2 t3 t4 t5 t6 t7)
    (D_check_prior : Dn K mg "check_prior" s_check_prior ["prior", "worlds"] f1 fd1) (G_check_prior : FnOk P w K mg base CX0 6 f1 fd1 ["prior", "worlds"] (spCkP K))
    (D_check_gains : Dn K mg "check_gains" s_check_gains ["gains", "worlds"] f2 fd2) (G_check_gains : FnOk P w K mg base CX0 5 f2 fd2 ["gains", "worlds"] (spCkG K))
    (D_best_stop : Dn K mg "best_stop" s_best_stop ["weights", "prior", "gains"] f3 fd3) (G_best_stop : FnOk P w K mg base CX0 5 f3 fd3 ["weights", "prior", "gains"] (spBS K)) (C_MOST_WORLDS : mg "MOST_WORLDS" = some (.int 5 tw)) : FnOk P w K mg base CX0 7 f fd ["prior", "gains"] (spWU K) := by
  refine D.F.ok sc_worth_unasked (fun vs H Q E h => ?_) (fun cdv A outer s H vs Q E hr h => ?_)
  · obtain ⟨W, m, vp, vg, prior, gs, rfl, _⟩ := h
    rfl
  obtain ⟨W, m, vp, vg, prior, gs, rfl, tp, tg, hp, w1, h5, hg, q⟩ := h
  have nd := sc_worth_unasked.nd
  refine ⟨_, (pss_cons (ps_if (PW.pt (pw_or (pt_not (pt_val (pe_callB (k_isi (K := K) rfl) (by rfl) B.isinstance (by decide +kernel) (pa_cons (pv 0) (pa_cons (pe_bltn (v := .ty "tuple") (u := .type "tuple") (by rfl) B.tuple (by decide +kernel) rfl) pa_nil))))) (pw_or1 (pt_not (pt_chain op_le op_le pe_int (pe_callB (k_len (K := K) rfl) (by rfl) B.len PySem.boot_len (pa_cons (pv 0) pa_nil)) (pe_glob (v := .int _) rfl C_MOST_WORLDS ⟨_, rfl⟩)))))) (pss_one ps_never) pss_nil)
      (pss_cons (ps_expr (pe_call G_check_prior (hr.mono (by omega)) (by rfl) D_check_prior.m D_check_prior.F.kp D_check_prior.b .nil pass0 (pa_cons (pv 0) (pa_cons (pe_callB (k_len (K := K) rfl) (by rfl) B.len PySem.boot_len (pa_cons (pv 0) pa_nil)) pa_nil))))
      (pss_cons (ps_expr (pe_call G_check_gains (hr.mono (by omega)) (by rfl) D_check_gains.m D_check_gains.F.kp D_check_gains.b .nil pass0 (pa_cons (pv 1) (pa_cons (pe_callB (k_len (K := K) rfl) (by rfl) B.len PySem.boot_len (pa_cons (pv 0) pa_nil)) pa_nil))))
      (pss_one (ps_ret (pe_ix (k_ixT (K := K) rfl) (pe_call G_best_stop (hr.mono (by omega)) (by rfl) D_best_stop.m D_best_stop.F.kp D_best_stop.b .nil pass0 (pa_cons (pe_op (k_rep (K := K) rfl) (pe_tup (pa_cons (pe_glob (v := .ref _) rfl C.ONE rfl) pa_nil)) (pe_callB (k_len (K := K) rfl) (by rfl) B.len PySem.boot_len (pa_cons (pv 0) pa_nil))) (pa_cons (pv 0) (pa_cons (pv 1) pa_nil)))) pe_int (fun _ _ => rfl))))))), ?_⟩
  have lp := hp.len
  obtain ⟨b, ys, rfl, hb, tb⟩ := id tp.tupE
  have ly : ys.length = W := by rw [tb.len, List.length_map, lp]
  refine ⟨_, rfl, _, _, _, _, true, rfl, .ty "tuple", tyx_tup hb, kit_ty (by decide +kernel), _, rfl, iteF ?_⟩
  refine ⟨_, rfl, b, _, rfl, .inr hb, _, _, rfl, rfl, _, rfl, ?_⟩
  rw [decide_eq_true (show (1 : Int) ≤ ((ys.length : Nat) : Int) by omega)]
  refine iteT ⟨_, _, rfl, rfl, _, rfl, ?_⟩
  rw [decide_eq_true (show ((ys.length : Nat) : Int) ≤ 5 by omega)]
  refine iteF ?_
  refine ⟨_, rfl, _, rfl, b, _, rfl, .inr hb, .ref b, prior, W, by rw [ly]; rfl, tp, hp, h5, fun H1 s1 => ?_⟩
  have hb1 := Same.kt s1 _ _ hb
  refine ⟨_, rfl, _, rfl, b, _, rfl, .inr hb1, vg, gs, W, m, by rw [ly]; rfl, tg.keep (Same.kt s1), hg, h5, fun H2 s2 => ?_⟩
  have s02 := s1.trans s2
  refine ⟨by show 1 ≤ sizeLine; decide, fun p2 n2 => ?_⟩
  have s3 := same_upd (o := .tup [.ref aO]) n2
  have s03 := s02.trans s3
  refine ⟨_, rfl, b, _, rfl, .inr (Same.kt s03 _ _ hb), p2, (ys.length : Int), _, rfl, rfl, .inl (.inl upd_same), by simp, by omega, by omega, by simp, fun pa H4 s4 q4 => ?_⟩
  have s04 := s03.trans s4
  have tO : Td K H4 (.ref aO) (rD 1) := by
    rw [rD_one]
    exact .tup (C.tO _) (tdAll_ints [1, 1])
  rw [ly] at q4
  refine ⟨_, rfl, _, rfl, W, m, .ref pa, .ref b, vg, prior, ones W, gs, rfl, tp.keep (Same.kt s04), ones_td tO q4, tg.keep (Same.kt s04), hp, h5, ones_ws, hg, fun r dd H5 s5 i1 i3 => ?_⟩
  obtain ⟨pr, v0, v1, rfl, hpr, tv0, tv1⟩ := td_two i3
  exact ⟨pr, _, 0, v0, rfl, rfl, hpr, at_of (j := 0) rfl rfl, q v0 H5 (s04.trans s5) tv0⟩
end
end Tl
namespace Tl
open PySem PySem.Spec PyProof.Rows L2 RZ
theorem gotA_fd {W k m M : Nat} {f : List Rat → Nat → Rat} (hf : ∀ ws d, WsOk W ws → d < M → Fd k m (f ws d)) : ∀ (n : Nat) (ws : List Rat) (t : Nd n) (a : Ak n), WsOk W ws → NdOk W n ws t → IsAk M n t a → Fd k (m * 12 ^ n) (gotA f n ws t a)
  | 0, ws, _, d, hw, _, h => by
    rw [Nat.pow_zero, Nat.mul_one]
    exact hf ws d hw h
  | n + 1, ws, qs, .inl d, hw, _, h => by
    show Fd k (m * 12 ^ (n + 1)) (f ws d)
    exact (hf ws d hw h).mono (Nat.le_refl _) (Nat.le_mul_of_pos_right _ (Nat.pow_pos (by decide)))
  | n + 1, ws, qs, .inr (j, xs), hw, ok, h => by
    obtain ⟨q, hq, al⟩ := h
    obtain ⟨qok, nk⟩ := ok.2 q (List.mem_of_getElem? hq)
    show Fd k (m * 12 ^ (n + 1)) (fsum (List.zipWith (fun (a : An n) (x : Ak n) => gotA f n a.2.1 a.2.2 x) ((show List (Qn n) from qs).getD j []) xs))
    rw [getD_some hq]
    have s := fd_sum (zip_fd (f := fun (a : An n) (x : Ak n) => gotA f n a.2.1 a.2.2 x) (k := k) (m := m * 12 ^ n) (fun a x ⟨ha, _, hx⟩ => gotA_fd hf n a.2.1 a.2.2 x (qok.ws ha) (nk a ha) hx) al.mem)
    refine s.mono (Nat.le_refl _) ?_
    rw [zip_len al, twelve]
    exact Nat.mul_le_mul_right _ qok.most
theorem gf_fd {W m : Nat} {prior : List Rat} {gs : List (List Rat)} (hp : PriorOk W prior) (h5 : W ≤ 5) (hg : GainsOk W m gs) (ws : List Rat) (d : Nat) (hw : WsOk W ws) (h : d < gs.length) : Fd 8 (5 * m) (gf prior gs ws d) := by
  unfold gf
  rw [getD_some (List.getElem?_eq_getElem h)]
  exact payF_fdM hp h5 hw (hg.pays _ (List.getElem_mem h))
theorem td_ask {K : PySem.W.Frag} {H : Hp} {v : V} {x : Str} {q : Nat} {ds : List PyData} (h : Td K H v (.tuple [.str x, .int (q : Int), .tuple ds])) : ∃ p v2, v = .ref p ∧ SqT K H p [.str x, .int (q : Int), v2] ∧ Td K H v2 (.tuple ds) := by
  obtain ⟨p, ys, rfl, hp, tp⟩ := id h.tupE
  cases tp with
  | cons h1 tp => cases tp with
    | cons h2 tp => cases tp with
      | cons h3 tp =>
        cases tp
        cases h1
        cases h2
        exact ⟨p, _, rfl, hp, h3⟩
theorem td_stop {K : PySem.W.Frag} {H : Hp} {v : V} {d : Nat} (h : Td K H v (stopD d)) : ∃ p, v = .ref p ∧ SqT K H p [.str "stop", .int (d : Int)] := by
  obtain ⟨p, x, y, rfl, hp, h1, h2⟩ := td_two h
  cases h1
  cases h2
  exact ⟨p, rfl, hp⟩
theorem td_trues {K : PySem.W.Frag} {H : Hp} : ∀ {n : Nat} {us : List V}, TdAll K H us (List.replicate n (.bool true)) → us = (List.replicate n true).map V.bl
  | 0, _, h => by
    cases h
    rfl
  | n + 1, _, h => by
    rw [List.replicate_succ] at h
    cases h with
    | cons h t =>
      cases h
      rw [td_trues t]
      rfl
theorem trues_all (n : Nat) : (List.replicate n true).all id = true := by
  induction n with
  | zero => rfl
  | succ n ih =>
    rw [List.replicate_succ]
    exact ih
def spIA (K : PySem.W.Frag) (n : Nat) : Sp := fun vs H Q _ => ∃ (W M : Nat) (v va : V) (ahead : List Rat) (t : Nd n) (a : Ak n), vs = [va, v, .int (M : Int)] ∧ Td K H v (ndD n t) ∧ Td K H va (akD n a) ∧ NdOk W n ahead t ∧ IsAk M n t a ∧ ∀ H', Same H H' → Q (.bl true) H'
def spGA (K : PySem.W.Frag) (n : Nat) : Sp := fun vs H Q _ => ∃ (W m : Nat) (v vw vp vg va : V) (prior ws : List Rat) (gs : List (List Rat)) (t : Nd n) (a : Ak n), vs = [v, vw, vp, vg, va] ∧ Td K H v (ndD n t) ∧ Td K H vw (wsD ws) ∧ Td K H vp (wsD prior) ∧ Td K H vg (gsD gs) ∧ Td K H va (akD n a) ∧ PriorOk W prior ∧ W ≤ 5 ∧ WsOk W ws ∧ GainsOk W m gs ∧ NdOk W n ws t ∧ n ≤ 6 ∧ IsAk gs.length n t a ∧
  ∀ r H', Same H H' → Td K H' r (rD (gotA (gf prior gs) n ws t a)) → Q r H'
def spAG (K : PySem.W.Frag) (Cc : Addr) (n : Nat) : Sp := fun vs H Q _ => ∃ (p : Addr) (W m : Nat) (v vp vg va : V) (prior : List Rat) (gs : List (List Rat)) (t : Nd n) (a : Ak n), vs = [.ref p, vp, vg, va] ∧ HsOk K Cc H p W n t v ∧ Td K H vp (wsD prior) ∧ Td K H vg (gsD gs) ∧ Td K H va (akD n a) ∧ PriorOk W prior ∧ GainsOk W m gs ∧ n ≤ 6 ∧ IsAk gs.length n t a ∧
  ∀ r H', Same H H' → Td K H' r (rD (gotA (gf prior gs) n (ones W) t a)) → Q r H'
def spLAk (K : PySem.W.Frag) (n : Nat) : Sp := fun vs H Q _ => ∃ (b g : Addr) (W M : Nat) (v : V) (ahead : List Rat) (t : Nd n), vs = [.ref b, v, .int (M : Int)] ∧ Bag H b g ∧ Td K H v (ndD n t) ∧ NdOk W n ahead t ∧ 1 ≤ M ∧ M ≤ 20 ∧ ∀ r a H', Td K H' r (akD n a) → IsAk M n t a → Bag H' b g → Frm b g H H' → Q r H'
section
variable {P : Program} {w : World} {K : PySem.W.Frag} {mg : Str → Option Value} {base : Heap} {aN aO : Addr} {t1 t2 t3 t4 t5 t6 t7 : Tok}
theorem ok_is_asker {f f1 : Addr} {fd fd1 : FuncData} (D : Dn K mg "is_asker" s_is_asker ["thing", "node", "deeds"] f fd) (B : Blt mg) (C : Cst K mg aN aO t1 t2 t3 t4 t5 t6 t7)
    (D_is_number : Dn K mg "is_number" s_is_number ["thing", "least", "most"] f1 fd1) (G_is_number : FnOk P w K mg base CX0 2 f1 fd1 ["thing", "least", "most"] spNumber) (BS : mg "str" = none) : ∀ n : Nat, FnOk P w K mg base CX0 (4 + n) f fd ["thing", "node", "deeds"] ((spIA K) n) := by
  intro n
  obtain ⟨sp0, G_is_asker, hsp⟩ : ∃ sp0, FnOk P w K mg base CX0 (3 + n) f fd ["thing", "node", "deeds"] sp0 ∧ (∀ m, n = m + 1 → sp0 = (spIA K) m) := by
    cases n with
    | zero => exact ⟨fun _ _ _ _ => False, ⟨fun vs H Q E h => h.elim, fun A outer s H args us vs Q E _ _ _ _ h => h.elim⟩, fun m e => by omega⟩
    | succ m =>
      have G := ok_is_asker D B C D_is_number G_is_number BS m
      rw [show 4 + m = 3 + (m + 1) by omega] at G
      exact ⟨_, G, fun m' e => by rw [show m' = m by omega]⟩
  rw [show 4 + n = (3 + n) + 1 by omega]
  refine D.F.ok sc_is_asker (fun vs H Q E h => ?_) (fun cdv A outer s H vs Q E hr h => ?_)
  · obtain ⟨W, M, v, va, ahead, t, a, rfl, _⟩ := h
    rfl
  obtain ⟨W, M, v, va, ahead, t, a, rfl, hv, hva, hok, hA, q⟩ := h
  have nd := sc_is_asker.nd
  have D_is_asker := D
  refine ⟨_, (pss_cons (ps_if (PW.pt (pw_or (pt_not (pt_val (pe_callB (k_isi (K := K) rfl) (by rfl) B.isinstance (by decide +kernel) (pa_cons (pv 0) (pa_cons (pe_bltn (v := .ty "tuple") (u := .type "tuple") (by rfl) B.tuple (by decide +kernel) rfl) pa_nil))))) (pw_or (pt_cmpR op_notIn_seq (pe_callB (k_len (K := K) rfl) (by rfl) B.len PySem.boot_len (pa_cons (pv 0) pa_nil)) (pe_tup (pa_cons pe_int (pa_cons pe_int pa_nil))) (by rfl)) (pw_or1 (pt_not (pt_val (pe_callB (k_isi (K := K) rfl) (by rfl) B.isinstance (by decide +kernel) (pa_cons (pe_ix (k_ixT (K := K) rfl) (pv 0) pe_int (fun _ _ => rfl)) (pa_cons (pe_bltn (v := .ty "str") (u := .type "str") (by rfl) BS (by decide +kernel) rfl) pa_nil))))))))) (pss_one (ps_ret pe_bl)) pss_nil)
      (pss_cons (ps_if (pt_cmpR op_eq (pe_callB (k_len (K := K) rfl) (by rfl) B.len PySem.boot_len (pa_cons (pv 0) pa_nil)) pe_int (nomark _)) (pss_one (ps_ret (pe_and (pe_cmpR op_eq (pe_ix (k_ixT (K := K) rfl) (pv 0) pe_int (fun _ _ => rfl)) pe_str (nomark _)) (pe_one (pe_call G_is_number (hr.mono (by omega)) (by rfl) D_is_number.m D_is_number.F.kp D_is_number.b .nil pass0 (pa_cons (pe_ix (k_ixT (K := K) rfl) (pv 0) pe_int (fun _ _ => rfl)) (pa_cons pe_int (pa_cons (pe_op op_sub (pv 2) pe_int) pa_nil)))))))) pss_nil)
      (pss_cons (ps_asg (pv 0) (k_tup (K := K) (n := 3) rfl rfl (pgs_cons (pg_name (i := 3) nd rfl (.inl rfl)) (pgs_cons (pg_name (i := 4) nd rfl (.inl rfl)) (pgs_cons (pg_name (i := 5) nd rfl (.inl rfl)) pgs_nil)))))
      (pss_cons (ps_if (PW.pt (pw_or (pt_cmpR op_ne (pv 3) pe_str (nomark _)) (pw_or1 (pt_not (pt_val (pe_call G_is_number (hr.mono (by omega)) (by rfl) D_is_number.m D_is_number.F.kp D_is_number.b .nil pass0 (pa_cons (pv 4) (pa_cons pe_int (pa_cons (pe_op op_sub (pe_callB (k_len (K := K) rfl) (by rfl) B.len PySem.boot_len (pa_cons (pv 1) pa_nil)) pe_int) pa_nil))))))))) (pss_one (ps_ret pe_bl)) pss_nil)
      (pss_cons (ps_if (PW.pt (pw_or (pt_not (pt_val (pe_callB (k_isi (K := K) rfl) (by rfl) B.isinstance (by decide +kernel) (pa_cons (pv 5) (pa_cons (pe_bltn (v := .ty "tuple") (u := .type "tuple") (by rfl) B.tuple (by decide +kernel) rfl) pa_nil))))) (pw_or1 (pt_cmpR op_ne (pe_callB (k_len (K := K) rfl) (by rfl) B.len PySem.boot_len (pa_cons (pv 5) pa_nil)) (pe_callB (k_len (K := K) rfl) (by rfl) B.len PySem.boot_len (pa_cons (pe_ix (k_ixT (K := K) rfl) (pv 1) (pv 4) (fun _ _ => rfl)) pa_nil)) (nomark _))))) (pss_one (ps_ret pe_bl)) pss_nil)
      (pss_one (ps_ret (pe_callB (k_all (K := K) rfl rfl) (by rfl) B.all (by decide +kernel) (pa_cons (pe_lc (own := [("asker", 6), ("answer", 7)]) rfl nd (k_zip (K := K) rfl (by rfl) B.zip (pa_cons (pv 5) (pa_cons (pe_ix (k_ixT (K := K) rfl) (pv 1) (pv 4) (fun _ _ => rfl)) pa_nil))) (blkOk_by (own := [("asker", 6), ("answer", 7)]) (by kernel_rfl)) (fun _ _ _ _ _ => (k_tup (K := K) (n := 2) rfl rfl (pgs_cons (pg_name (i := 6) nd rfl (.inl rfl)) (pgs_cons (pg_name (i := 7) nd rfl (.inl rfl)) pgs_nil)))) (fun _ _ _ _ _ => pts_nil) (fun _ _ _ _ _ => (pe_call G_is_asker (hr.mono (by omega)) (by rfl) D_is_asker.m D_is_asker.F.kp D_is_asker.b .nil pass0 (pa_cons (pv 6) (pa_cons (pe_ix (k_ixT (K := K) rfl) (pv 7) pe_int (fun _ _ => rfl)) (pa_cons (pv 2) pa_nil)))))) pa_nil))))))))), ?_⟩
  by_cases hs : ∃ d, d < M ∧ Td K H va (stopD d)
  · obtain ⟨d, hd, hvd⟩ := hs
    obtain ⟨pa, rfl, hpa⟩ := td_stop hvd
    refine ⟨_, rfl, _, _, _, _, true, rfl, .ty "tuple", tyx_tup hpa, kit_ty (by decide +kernel), _, rfl, iteF ?_⟩
    refine ⟨_, rfl, pa, _, rfl, .inr hpa, by show 2 ≤ sizeLine; decide, fun p2 n2 => ⟨p2, _, rfl, .inr (.inl (.inl upd_same)), rfl, rfl, _, rfl, iteF ?_⟩⟩
    have z2 := same_upd (o := .tup [.int 2, .int 3]) n2
    have hpa2 := Same.kt z2 _ _ hpa
    refine ⟨_, rfl, pa, _, 0, _, rfl, rfl, hpa2, at_of (j := 0) rfl rfl, _, _, _, _, true, rfl, .ty "str", .base (.str _), kit_ty (by decide +kernel), _, rfl, iteF ?_⟩
    refine ⟨_, rfl, pa, _, rfl, .inr hpa2, rfl, _, rfl, iteT ?_⟩
    refine ⟨_, rfl, pa, _, 0, _, rfl, rfl, hpa2, at_of (j := 0) rfl rfl, rfl, _, rfl, ?_⟩
    rw [decide_eq_true rfl]
    refine iteT ?_
    refine ⟨_, rfl, pa, _, 1, _, rfl, rfl, hpa2, at_of (j := 1) rfl rfl, _, rfl, _, _, rfl, rfl, (d : Int), 0, (M : Int) - 1, rfl, ?_⟩
    rw [decide_eq_true (show (0 : Int) ≤ (d : Int) by omega), decide_eq_true (show (d : Int) ≤ (M : Int) - 1 by omega)]
    exact q _ z2
  · cases n with
    | zero =>
      have hA' : (show Nat from a) < M := hA
      exact absurd ⟨_, hA', hva⟩ hs
    | succ n =>
      have esp := hsp n rfl
      subst esp
      cases a with
      | inl d =>
        have hA' : d < M := hA
        exact absurd ⟨d, hA', hva⟩ hs
      | inr kx =>
        obtain ⟨kq, xs⟩ := kx
        clear hs
        obtain ⟨qn, hq, al⟩ := hA
        obtain ⟨qok, nok⟩ := hok.2 qn (List.mem_of_getElem? hq)
        have o12 := qok.most
        have lal := al.len
        have hva2 : Td K H va (.tuple [.str "ask", .int (kq : Int), .tuple (xs.map (akD n))]) := hva
        obtain ⟨pa, v2, rfl, hpa0, tv20⟩ := td_ask hva2
        have hv2 : Td K H v (.tuple ((show List (Qn n) from t).map (qnD n))) := hv
        obtain ⟨na, nxs, rfl, hna0, tna0⟩ := hv2.tupE
        have lnx : nxs.length = (show List (Qn n) from t).length := by rw [tna0.len, List.length_map]
        have hkq := (List.getElem?_eq_some_iff.mp hq).1
        refine ⟨_, rfl, _, _, _, _, true, rfl, .ty "tuple", tyx_tup hpa0, kit_ty (by decide +kernel), _, rfl, iteF ?_⟩
        refine ⟨_, rfl, pa, _, rfl, .inr hpa0, by show 2 ≤ sizeLine; decide, fun p2 n2 => ⟨p2, _, rfl, .inr (.inl (.inl upd_same)), rfl, rfl, _, rfl, iteF ?_⟩⟩
        have z2 := same_upd (o := .tup [.int 2, .int 3]) n2
        have hpa := Same.kt z2 _ _ hpa0
        have hna := Same.kt z2 _ _ hna0
        have tv2 := tv20.keep (Same.kt z2)
        have tna := tna0.keep (Same.kt z2)
        generalize upd H p2 (.tup [.int 2, .int 3]) = H1 at z2 hpa hna tv2 tna ⊢
        obtain ⟨vq, evq, tvq⟩ := tna.get (i := kq) (d := qnD n qn) (by rw [List.getElem?_map, hq]; rfl)
        obtain ⟨qa, qas, rfl, hqa, tqa⟩ := id tvq.tupE
        obtain ⟨ra, ras, rfl, hra, tra⟩ := id tv2.tupE
        have lqa : qas.length = qn.length := by rw [tqa.len, List.length_map]
        have lra : ras.length = xs.length := by rw [tra.len, List.length_map]
        refine ⟨_, rfl, pa, _, 0, _, rfl, rfl, hpa, at_of (j := 0) rfl rfl, _, _, _, _, true, rfl, .ty "str", .base (.str _), kit_ty (by decide +kernel), _, rfl, iteF ?_⟩
        refine ⟨_, rfl, pa, _, rfl, .inr hpa, rfl, _, rfl, iteF ?_⟩
        refine ⟨_, rfl, pa, _, rfl, hpa, rfl, _, _, rfl, _, _, rfl, _, _, rfl, rfl, ?_⟩
        refine ⟨_, rfl, rfl, _, rfl, ?_⟩
        rw [decide_eq_true rfl]
        refine iteF ?_
        refine ⟨_, rfl, _, rfl, na, _, rfl, .inr hna, _, _, rfl, rfl, (kq : Int), 0, (nxs.length : Int) - 1, rfl, _, rfl, ?_⟩
        rw [decide_eq_true (show (0 : Int) ≤ (kq : Int) by omega), decide_eq_true (show (kq : Int) ≤ (nxs.length : Int) - 1 by omega)]
        refine iteF ?_
        refine ⟨_, rfl, _, _, _, _, true, rfl, .ty "tuple", tyx_tup hra, kit_ty (by decide +kernel), _, rfl, iteF ?_⟩
        refine ⟨_, rfl, ra, _, rfl, .inr hra, _, rfl, _, rfl, na, nxs, (kq : Int), _, rfl, rfl, hna, at_of (j := kq) rfl evq, qa, _, rfl, .inr hqa, rfl, _, rfl, ?_⟩
        rw [show ras.length = qas.length by omega, decide_eq_true rfl]
        refine iteF ?_
        refine ⟨_, rfl, _, rfl, _, rfl, na, nxs, (kq : Int), _, rfl, rfl, hna, at_of (j := kq) rfl evq, ra, qa, ras, qas, rfl, .inr ⟨hra, hqa, fun T hT => ?_⟩⟩
        refine lc_td (K := K) (walk_zipT (K := K) (a := ra) (b := qa) (xs := ras) (ys := qas) (n := qn.length) (by omega)) (List.replicate qn.length (.bool true)) List.length_replicate (by omega) hT (fun H' s => ⟨Same.kt s _ _ hra, Same.kt s _ _ hqa⟩) ?_ ?_
        · rintro i z e H2 H3 Qy N he s2 ⟨T2, y', x', rfl, n2, rfl, g2, g1⟩ hQ
          have hi : i < qn.length := by
            have := (List.getElem?_eq_some_iff.mp he).1
            rw [List.length_replicate] at this
            exact this
          rw [List.getElem?_replicate, if_pos hi] at he
          cases he
          obtain ⟨dx, ex, tx⟩ := tqa.getV g1
          obtain ⟨dy, ey, ty⟩ := tra.getV g2
          obtain ⟨an, ea, rfl⟩ := mapAt ex
          obtain ⟨xa, exa, rfl⟩ := mapAt ey
          obtain ⟨xa', exa', hax⟩ := al.get ea
          rw [exa] at exa'
          cases exa'
          have ma := List.mem_of_getElem? ea
          have s3 : Same H2 (upd H2 T2 (.tup [y', x'])) := same_upd n2
          have s03 := s2.trans s3
          obtain ⟨p, vw', vz, vt, rfl, hp', tw', tz, tt⟩ := td_an (tx.keep (Same.kt s03))
          refine ⟨T2, _, rfl, .inl (.inl upd_same), rfl, _, _, rfl, _, _, rfl, rfl, ?_⟩
          refine ⟨rfl, ?_⟩
          refine iteT (B := N (upd H2 T2 (.tup [y', .ref p]))) ?_
          exact ⟨_, rfl, _, rfl, p, _, 2, vt, rfl, rfl, hp', at_of (j := 2) rfl rfl, _, rfl, W, M, vt, y', an.2.1, an.2.2, xa, rfl, tt, ty.keep (Same.kt s03), nok an ma, hax, fun H5 s5 => hQ _ H5 (s3.trans s5) (.bl true)⟩
        · intro H2 us h2 t2 s2
          have eu := td_trues t2
          subst eu
          refine ⟨T, _, rfl, SqL.of h2, ?_⟩
          rw [trues_all]
          exact q H2 (z2.trans s2)
theorem ok_gets_at {f f1 f2 : Addr} {fd fd1 fd2 : FuncData} (D : Dn K mg "gets_at" s_gets_at ["node", "weights", "prior", "gains", "asker"] f fd) (B : Blt mg) (C : Cst K mg aN aO t1 t2 t3 t4 t5 t6 t7)
    (D_paid_for : Dn K mg "paid_for" s_paid_for ["prior", "weights", "pays"] f1 fd1) (G_paid_for : FnOk P w K mg base CX0 4 f1 fd1 ["prior", "weights", "pays"] (spPFm K))
    (D_total : Dn K mg "total" s_total ["fractions"] f2 fd2) (G_total : FnOk P w K mg base CX0 3 f2 fd2 ["fractions"] (spTotal K)) : ∀ n : Nat, FnOk P w K mg base CX0 (5 + n) f fd ["node", "weights", "prior", "gains", "asker"] ((spGA K) n) := by
  intro n
  obtain ⟨sp0, G_gets_at, hsp⟩ : ∃ sp0, FnOk P w K mg base CX0 (4 + n) f fd ["node", "weights", "prior", "gains", "asker"] sp0 ∧ (∀ m, n = m + 1 → sp0 = (spGA K) m) := by
    cases n with
    | zero => exact ⟨fun _ _ _ _ => False, ⟨fun vs H Q E h => h.elim, fun A outer s H args us vs Q E _ _ _ _ h => h.elim⟩, fun m e => by omega⟩
    | succ m =>
      have G := ok_gets_at D B C D_paid_for G_paid_for D_total G_total m
      rw [show 5 + m = 4 + (m + 1) by omega] at G
      exact ⟨_, G, fun m' e => by rw [show m' = m by omega]⟩
  rw [show 5 + n = (4 + n) + 1 by omega]
  refine D.F.ok sc_gets_at (fun vs H Q E h => ?_) (fun cdv A outer s H vs Q E hr h => ?_)
  · obtain ⟨W, m, v, vw, vp, vg, va, prior, ws, gs, t, a, rfl, _⟩ := h
    rfl
  obtain ⟨W, m, v, vw, vp, vg, va, prior, ws, gs, t, a, rfl, hv, tw, tp, tg, hva, hp, h5, hw, hg, hok, hn, hA, q⟩ := h
  have nd := sc_gets_at.nd
  have D_gets_at := D
  refine ⟨_, (pss_cons (ps_if (pt_cmpR op_eq (pe_ix (k_ixT (K := K) rfl) (pv 4) pe_int (fun _ _ => rfl)) pe_str (nomark _)) (pss_one (ps_ret (pe_call G_paid_for (hr.mono (by omega)) (by rfl) D_paid_for.m D_paid_for.F.kp D_paid_for.b .nil pass0 (pa_cons (pv 2) (pa_cons (pv 1) (pa_cons (pe_ix (k_ixT (K := K) rfl) (pv 3) (pe_ix (k_ixT (K := K) rfl) (pv 4) pe_int (fun _ _ => rfl)) (fun _ _ => rfl)) pa_nil)))))) pss_nil)
      (pss_cons (ps_set (i := 5) nd rfl (.inl rfl) (pe_ix (k_ixT (K := K) rfl) (pv 0) (pe_ix (k_ixT (K := K) rfl) (pv 4) pe_int (fun _ _ => rfl)) (fun _ _ => rfl)))
      (pss_one (ps_ret (pe_call G_total (hr.mono (by omega)) (by rfl) D_total.m D_total.F.kp D_total.b .nil pass0 (pa_cons (pe_lc (own := [("answer", 6), ("inner", 7)]) rfl nd (k_zip (K := K) rfl (by rfl) B.zip (pa_cons (pv 5) (pa_cons (pe_ix (k_ixT (K := K) rfl) (pv 4) pe_int (fun _ _ => rfl)) pa_nil))) (blkOk_by (own := [("answer", 6), ("inner", 7)]) (by kernel_rfl)) (fun _ _ _ _ _ => (k_tup (K := K) (n := 2) rfl rfl (pgs_cons (pg_name (i := 6) nd rfl (.inl rfl)) (pgs_cons (pg_name (i := 7) nd rfl (.inl rfl)) pgs_nil)))) (fun _ _ _ _ _ => pts_nil) (fun _ _ _ _ _ => (pe_call G_gets_at (hr.mono (by omega)) (by rfl) D_gets_at.m D_gets_at.F.kp D_gets_at.b .nil pass0 (pa_cons (pe_ix (k_ixT (K := K) rfl) (pv 6) pe_int (fun _ _ => rfl)) (pa_cons (pe_ix (k_ixT (K := K) rfl) (pv 6) pe_int (fun _ _ => rfl)) (pa_cons (pv 2) (pa_cons (pv 3) (pa_cons (pv 7) pa_nil)))))))) pa_nil)))))), ?_⟩
  have hm := hg.small
  obtain ⟨ga, gus, rfl, hga, tga⟩ := id tg.tupE
  have lgu : gus.length = gs.length := by rw [tga.len, List.length_map]
  by_cases hs : ∃ d, d < gs.length ∧ Td K H va (stopD d) ∧ gotA (gf prior gs) n ws t a = gf prior gs ws d
  · obtain ⟨d, hd, hvd, egot⟩ := hs
    rw [egot] at q
    obtain ⟨pa, rfl, hpa⟩ := td_stop hvd
    have gg : gs[d]? = some gs[d] := List.getElem?_eq_getElem hd
    obtain ⟨gv, egv, tgv⟩ := tga.get (i := d) (d := wsD gs[d]) (by rw [List.getElem?_map, gg]; rfl)
    refine ⟨_, rfl, pa, _, 0, _, rfl, rfl, hpa, at_of (j := 0) rfl rfl, rfl, _, rfl, ?_⟩
    rw [decide_eq_true rfl]
    refine iteT ?_
    refine ⟨_, rfl, _, rfl, _, rfl, _, rfl, pa, _, 1, _, rfl, rfl, hpa, at_of (j := 1) rfl rfl, ga, gus, (d : Int), gv, rfl, rfl, hga, at_of (j := d) rfl egv, W, m, vp, vw, gv, prior, ws, gs[d], rfl, tp, tw, tgv, hp, h5, hw, hg.pays _ (List.getElem_mem hd), hm, fun r H' s' tr => q r H' s' ?_⟩
    unfold gf
    rw [getD_some gg]
    exact tr
  · cases n with
    | zero =>
      have hA' : (show Nat from a) < gs.length := hA
      exact absurd ⟨_, hA', hva, rfl⟩ hs
    | succ n =>
      have esp := hsp n rfl
      subst esp
      cases a with
      | inl d =>
        have hA' : d < gs.length := hA
        exact absurd ⟨d, hA', hva, rfl⟩ hs
      | inr kx =>
        obtain ⟨kq, xs⟩ := kx
        clear hs
        obtain ⟨qn, hq, al⟩ := hA
        obtain ⟨qok, nok⟩ := hok.2 qn (List.mem_of_getElem? hq)
        have o12 := qok.most
        have lal := al.len
        have hva2 : Td K H va (.tuple [.str "ask", .int (kq : Int), .tuple (xs.map (akD n))]) := hva
        obtain ⟨pa, v2, rfl, hpa, tv2⟩ := td_ask hva2
        have hv2 : Td K H v (.tuple ((show List (Qn n) from t).map (qnD n))) := hv
        obtain ⟨na, nxs, rfl, hna, tna⟩ := hv2.tupE
        obtain ⟨vq, evq, tvq⟩ := tna.get (i := kq) (d := qnD n qn) (by rw [List.getElem?_map, hq]; rfl)
        obtain ⟨qa, qas, rfl, hqa, tqa⟩ := id tvq.tupE
        obtain ⟨ra, ras, rfl, hra, tra⟩ := id tv2.tupE
        have lqa : qas.length = qn.length := by rw [tqa.len, List.length_map]
        have lra : ras.length = xs.length := by rw [tra.len, List.length_map]
        refine ⟨_, rfl, pa, _, 0, _, rfl, rfl, hpa, at_of (j := 0) rfl rfl, rfl, _, rfl, ?_⟩
        rw [decide_eq_false (show ¬ V.str "ask" = V.str "stop" by intro z; injection z with z; exact absurd z (by decide))]
        refine iteF ?_
        have hF : ∀ z ∈ List.zipWith (fun (a : An n) (x : Ak n) => gotA (gf prior gs) n a.2.1 a.2.2 x) qn xs, Fd 8 (5 * m * 12 ^ n) z := zip_fd (fun a x ⟨ha, _, hx⟩ => gotA_fd (gf_fd hp h5 hg) n a.2.1 a.2.2 x (qok.ws ha) (nok a ha) hx) al.mem
        have lzw : (List.zipWith (fun (a : An n) (x : Ak n) => gotA (gf prior gs) n a.2.1 a.2.2 x) qn xs).length = qn.length := zip_len al
        have eval : gotA (gf prior gs) (n + 1) ws t (.inr (kq, xs)) = fsum (List.zipWith (fun (a : An n) (x : Ak n) => gotA (gf prior gs) n a.2.1 a.2.2 x) qn xs) := by
          show fsum (List.zipWith _ ((show List (Qn n) from t).getD kq []) xs) = _
          rw [getD_some hq]
        rw [eval] at q
        refine ⟨_, rfl, _, rfl, pa, _, 1, _, rfl, rfl, hpa, at_of (j := 1) rfl rfl, na, nxs, (kq : Int), _, rfl, rfl, hna, at_of (j := kq) rfl evq, ?_⟩
        refine ⟨_, rfl, _, rfl, pa, _, 2, _, rfl, rfl, hpa, at_of (j := 2) rfl rfl, qa, ra, qas, ras, rfl, .inr ⟨hqa, hra, fun T hT => ?_⟩⟩
        refine lc_td (K := K) (walk_zipT (K := K) (a := qa) (b := ra) (xs := qas) (ys := ras) (n := qn.length) (by omega)) ((List.zipWith (fun (a : An n) (x : Ak n) => gotA (gf prior gs) n a.2.1 a.2.2 x) qn xs).map rD) (by rw [List.length_map, lzw]) (by omega) hT (fun H' s => ⟨Same.kt s _ _ hqa, Same.kt s _ _ hra⟩) ?_ ?_
        · rintro i z e H2 H3 Qy N he s2 ⟨T2, x', y', rfl, n2, rfl, g1, g2⟩ hQ
          obtain ⟨dx, ex, tx⟩ := tqa.getV g1
          obtain ⟨dy, ey, ty⟩ := tra.getV g2
          obtain ⟨an, ea, rfl⟩ := mapAt ex
          obtain ⟨xa, exa, rfl⟩ := mapAt ey
          obtain ⟨xa', exa', hax⟩ := al.get ea
          rw [exa] at exa'
          cases exa'
          rw [List.getElem?_map, zip_at ea exa] at he
          cases he
          have ma := List.mem_of_getElem? ea
          have s3 : Same H2 (upd H2 T2 (.tup [x', y'])) := same_upd n2
          have s03 := s2.trans s3
          obtain ⟨p, vw', vz, vt, rfl, hp', tw', tz, tt⟩ := td_an (tx.keep (Same.kt s03))
          refine ⟨T2, _, rfl, .inl (.inl upd_same), rfl, _, _, rfl, _, _, rfl, rfl, ?_⟩
          refine ⟨rfl, ?_⟩
          refine iteT (B := N (upd H2 T2 (.tup [.ref p, y']))) ?_
          exact ⟨_, rfl, p, _, 2, vt, rfl, rfl, hp', at_of (j := 2) rfl rfl, _, rfl, p, _, 1, vz, rfl, rfl, hp', at_of (j := 1) rfl rfl, _, rfl, _, rfl, _, rfl, W, m, vt, vz, vp, .ref ga, y', prior, an.2.1, gs, an.2.2, xa, rfl, tt, tz, tp.keep (Same.kt s03), tg.keep (Same.kt s03), ty.keep (Same.kt s03), hp, h5, qok.ws ma, hg, nok an ma, by omega, hax, fun r H5 s5 tr => hQ r H5 (s3.trans s5) tr⟩
        · intro H2 us h2 t2 s2
          obtain ⟨e, d0, d1, ab⟩ := tot_fd hF (by decide) (by rw [lzw]; exact Nat.le_trans (Nat.mul_le_mul o12 (bnd12 (by omega) (by omega))) (by decide))
          refine ⟨T, us, LL ^ 8, _, rfl, .inl (SqL.of h2), by rw [e]; exact t2, d0, d1, ab, by rw [List.length_map, lzw]; omega, fun v H3 s3 tv => ?_⟩
          rw [e] at tv
          exact q v H3 (s2.trans s3) tv
theorem ok_asker_gets {n : Nat} {f f1 f2 f3 f4 : Addr} {fd fd1 fd2 fd3 fd4 : FuncData} {Cc fi fe : Addr} (D : Dn K mg "asker_gets" s_asker_gets ["house", "prior", "gains", "asker"] f fd) (B : Blt mg) (C : Cst K mg aN aO t1 t2 t3 t4 t5 t6 t7) (U : Hcl K mg Cc fi fe)
    (D_check_prior : Dn K mg "check_prior" s_check_prior ["prior", "worlds"] f1 fd1) (G_check_prior : FnOk P w K mg base CX0 6 f1 fd1 ["prior", "worlds"] (spCkP K))
    (D_check_gains : Dn K mg "check_gains" s_check_gains ["gains", "worlds"] f2 fd2) (G_check_gains : FnOk P w K mg base CX0 5 f2 fd2 ["gains", "worlds"] (spCkG K))
    (D_is_asker : Dn K mg "is_asker" s_is_asker ["thing", "node", "deeds"] f3 fd3) (G_is_asker : FnOk P w K mg base CX0 (4 + n) f3 fd3 ["thing", "node", "deeds"] (spIA K n))
    (D_gets_at : Dn K mg "gets_at" s_gets_at ["node", "weights", "prior", "gains", "asker"] f4 fd4) (G_gets_at : FnOk P w K mg base CX0 (5 + n) f4 fd4 ["node", "weights", "prior", "gains", "asker"] (spGA K n)) : FnOk P w K mg base CX0 (7 + n) f fd ["house", "prior", "gains", "asker"] (spAG K Cc n) := by
  rw [show 7 + n = (6 + n) + 1 by omega]
  refine D.F.ok sc_asker_gets (fun vs H Q E h => ?_) (fun cdv A outer s H vs Q E hr h => ?_)
  · obtain ⟨p, W, m, v, vp, vg, va, prior, gs, t, a, rfl, _⟩ := h
    rfl
  obtain ⟨p, W, m, v, vp, vg, va, prior, gs, t, a, rfl, hs, tp, tg, ta, hp, hg, hn, hA, q⟩ := h
  have nd := sc_asker_gets.nd
  refine ⟨_, (pss_cons (ps_expr (pe_call G_check_prior (hr.mono (by omega)) (by rfl) D_check_prior.m D_check_prior.F.kp D_check_prior.b .nil pass0 (pa_cons (pv 1) (pa_cons (k_fld (K := K) rfl (pv 0) rfl) pa_nil))))
      (pss_cons (ps_expr (pe_call G_check_gains (hr.mono (by omega)) (by rfl) D_check_gains.m D_check_gains.F.kp D_check_gains.b .nil pass0 (pa_cons (pv 2) (pa_cons (k_fld (K := K) rfl (pv 0) rfl) pa_nil))))
      (pss_cons (ps_if (pt_not (pt_val (pe_call G_is_asker (hr.mono (by omega)) (by rfl) D_is_asker.m D_is_asker.F.kp D_is_asker.b .nil pass0 (pa_cons (pv 3) (pa_cons (k_fld (K := K) rfl (pv 0) rfl) (pa_cons (pe_callB (k_len (K := K) rfl) (by rfl) B.len PySem.boot_len (pa_cons (pv 2) pa_nil)) pa_nil)))))) (pss_one ps_never) pss_nil)
      (pss_one (ps_ret (pe_call G_gets_at (hr.mono (by omega)) (by rfl) D_gets_at.m D_gets_at.F.kp D_gets_at.b .nil pass0 (pa_cons (k_fld (K := K) rfl (pv 0) rfl) (pa_cons (pe_op (k_rep (K := K) rfl) (pe_tup (pa_cons (pe_glob (v := .ref _) rfl C.ONE rfl) pa_nil)) (k_fld (K := K) rfl (pv 0) rfl)) (pa_cons (pv 1) (pa_cons (pv 2) (pa_cons (pv 3) pa_nil))))))))))), ?_⟩
  have h5 := hs.w5
  have w1 := hs.w1
  obtain ⟨d, ed⟩ := id hs.at_
  obtain ⟨ga, gus, rfl, hga, tga⟩ := id tg.tupE
  have lgu : gus.length = gs.length := by rw [tga.len, List.length_map]
  refine ⟨_, rfl, _, rfl, p, Cc, d, _, _, rfl, ed, U.cl, U.nw, hf_w _ _, vp, prior, W, rfl, tp, hp, h5, fun H1 s1 => ?_⟩
  refine ⟨_, rfl, _, rfl, p, Cc, d, _, _, rfl, s1 _ _ ed, U.cl, U.nw, hf_w _ _, .ref ga, gs, W, m, rfl, tg.keep (Same.kt s1), hg, h5, fun H2 s2 => ?_⟩
  have s02 := s1.trans s2
  refine ⟨_, rfl, _, rfl, p, Cc, d, _, _, rfl, s02 _ _ ed, U.cl, U.nt, hf_t _ _, _, rfl, ga, _, rfl, .inr (Same.kt s02 _ _ hga), W, gs.length, v, va, ones W, t, a, by rw [lgu]; rfl, hs.td.keep (Same.kt s02), ta.keep (Same.kt s02), hs.ok, hA, fun H3 s3 => ⟨_, rfl, iteF ?_⟩⟩
  have s03 := s02.trans s3
  refine ⟨_, rfl, p, Cc, d, _, _, rfl, s03 _ _ ed, U.cl, U.nt, hf_t _ _, by show 1 ≤ sizeLine; decide, fun p2 n2 => ?_⟩
  have s4 := same_upd (o := .tup [.ref aO]) n2
  have s04 := s03.trans s4
  refine ⟨_, rfl, p, Cc, d, _, _, rfl, s04 _ _ ed, U.cl, U.nw, hf_w _ _, p2, (W : Int), _, rfl, rfl, .inl (.inl upd_same), by simp, by omega, by omega, by simp, fun pa H5 s5 q5 => ?_⟩
  have s05 := s04.trans s5
  have tO : Td K H5 (.ref aO) (rD 1) := by
    rw [rD_one]
    exact .tup (C.tO _) (tdAll_ints [1, 1])
  exact ⟨_, rfl, _, rfl, _, rfl, W, m, v, .ref pa, vp, .ref ga, va, prior, ones W, gs, t, a, rfl, hs.td.keep (Same.kt s05), ones_td tO q5, tp.keep (Same.kt s05), tg.keep (Same.kt s05), ta.keep (Same.kt s05), hp, h5, ones_ws, hg, hs.ok, hn, hA, fun r H6 s6 tr => q r H6 (s05.trans s6) tr⟩
theorem ok_law_asker {f f1 : Addr} {fd fd1 : FuncData} (D : Dn K mg "_law_asker" s_law_asker ["bag", "node", "deeds"] f fd) (B : Blt mg) (C : Cst K mg aN aO t1 t2 t3 t4 t5 t6 t7)
    (D_law_pick : Dn K mg "_law_pick" s_law_pick ["bag", "many"] f1 fd1) (G_law_pick : FnOk P w K mg base CX0 1 f1 fd1 ["bag", "many"] spPick) : ∀ n : Nat, FnOk P w K mg base CX0 (2 + n) f fd ["bag", "node", "deeds"] ((spLAk K) n) := by
  intro n
  obtain ⟨sp0, G_law_asker, hsp⟩ : ∃ sp0, FnOk P w K mg base CX0 (1 + n) f fd ["bag", "node", "deeds"] sp0 ∧ (∀ m, n = m + 1 → sp0 = (spLAk K) m) := by
    cases n with
    | zero => exact ⟨fun _ _ _ _ => False, ⟨fun vs H Q E h => h.elim, fun A outer s H args us vs Q E _ _ _ _ h => h.elim⟩, fun m e => by omega⟩
    | succ m =>
      have G := ok_law_asker D B C D_law_pick G_law_pick m
      rw [show 2 + m = 1 + (m + 1) by omega] at G
      exact ⟨_, G, fun m' e => by rw [show m' = m by omega]⟩
  rw [show 2 + n = (1 + n) + 1 by omega]
  refine D.F.ok sc_law_asker (fun vs H Q E h => ?_) (fun cdv A outer s H vs Q E hr h => ?_)
  · obtain ⟨b, g, W, M, v, ahead, t, rfl, _⟩ := h
    rfl
  obtain ⟨b, g, W, M, v, ahead, t, rfl, hB, hv, hok, m1, m20, q⟩ := h
  have nd := sc_law_asker.nd
  have D_law_asker := D
  refine ⟨_, (pss_cons (ps_if (PW.pt (pw_or (pt_cmpR op_eq (pe_callB (k_len (K := K) rfl) (by rfl) B.len PySem.boot_len (pa_cons (pv 1) pa_nil)) pe_int (nomark _)) (pw_or1 (pt_cmpR op_eq (pe_call G_law_pick (hr.mono (by omega)) (by rfl) D_law_pick.m D_law_pick.F.kp D_law_pick.b .nil pass0 (pa_cons (pv 0) (pa_cons pe_int pa_nil))) pe_int (nomark _))))) (pss_one (ps_ret (pe_tup (pa_cons pe_str (pa_cons (pe_call G_law_pick (hr.mono (by omega)) (by rfl) D_law_pick.m D_law_pick.F.kp D_law_pick.b .nil pass0 (pa_cons (pv 0) (pa_cons (pv 2) pa_nil))) pa_nil))))) pss_nil)
      (pss_cons (ps_set (i := 3) nd rfl (.inl rfl) (pe_call G_law_pick (hr.mono (by omega)) (by rfl) D_law_pick.m D_law_pick.F.kp D_law_pick.b .nil pass0 (pa_cons (pv 0) (pa_cons (pe_callB (k_len (K := K) rfl) (by rfl) B.len PySem.boot_len (pa_cons (pv 1) pa_nil)) pa_nil))))
      (pss_one (ps_ret (pe_tup (pa_cons pe_str (pa_cons (pv 3) (pa_cons (pe_callTy (k_tupOf (K := K) rfl) (by rfl) B.tuple (by decide +kernel) (pa_cons (pe_lc (own := [("answer", 4)]) rfl nd (k_iT (K := K) rfl (pe_ix (k_ixT (K := K) rfl) (pv 1) (pv 3) (fun _ _ => rfl))) (blkOk_by (own := [("answer", 4)]) (by kernel_rfl)) (fun _ _ _ _ _ => (pg_name (i := 4) nd rfl (.inl rfl))) (fun _ _ _ _ _ => pts_nil) (fun _ _ _ _ _ => (pe_call G_law_asker (hr.mono (by omega)) (by rfl) D_law_asker.m D_law_asker.F.kp D_law_asker.b .nil pass0 (pa_cons (pv 0) (pa_cons (pe_ix (k_ixT (K := K) rfl) (pv 4) pe_int (fun _ _ => rfl)) (pa_cons (pv 2) pa_nil)))))) pa_nil)) pa_nil)))))))), ?_⟩
  obtain ⟨na, nxs, ds, rfl, hna, ed, tna, l0⟩ := td_qs hv
  have stop : ∀ H2, Bag H2 b g → Frm b g H H2 → ∀ (r : Int) (H3 : Hp), 0 ≤ r → r < (M : Int) → Bag H3 b g → Frm b g H2 H3 → ∀ p, H3 p = none → Q (.ref p) (upd H3 p (.tup [.str "stop", .int r])) := by
    intro H2 B2 F2 r H3 r0 r1 B3 F3 p hp
    obtain ⟨d, rfl⟩ : ∃ d : Nat, r = (d : Int) := ⟨r.toNat, by omega⟩
    have sp := same_upd (o := .tup [.str "stop", .int (d : Int)]) hp
    refine q (.ref p) (stopA n d) _ ?_ (isAk_stop (by omega)) (B3.keep sp) ((F2.trans F3).trans (Frm.of sp))
    rw [akD_stop]
    exact .tup (.inl (.inl upd_same)) (.cons (.str _) (.cons (.int _) .nil))
  refine ⟨_, rfl, na, _, rfl, .inr hna, rfl, _, rfl, ?_⟩
  refine ite2 (fun c => ?_) (fun c => ?_)
  · exact ⟨_, rfl, _, rfl, b, g, (M : Int), rfl, hB, by omega, by omega, fun r H3 r0 r1 B3 F3 => ⟨by show 2 ≤ sizeLine; decide, fun p hp => stop H hB (Frm.refl _ _ _) r H3 r0 r1 B3 F3 p hp⟩⟩
  · have hne : nxs.length ≠ 0 := fun z => c (decide_eq_true (by rw [z]; rfl))
    refine ⟨_, rfl, b, g, 4, rfl, hB, by decide, by decide, fun r2 H2 _ _ B2 F2 => ⟨rfl, _, rfl, ?_⟩⟩
    refine ite2 (fun c => ?_) (fun c => ?_)
    · exact ⟨_, rfl, _, rfl, b, g, (M : Int), rfl, B2, by omega, by omega, fun r H3 r0 r1 B3 F3 => ⟨by show 2 ≤ sizeLine; decide, fun p hp => stop H2 B2 F2 r H3 r0 r1 B3 F3 p hp⟩⟩
    · cases n with
      | zero =>
        have := l0 rfl
        rw [this] at hne
        exact absurd rfl hne
      | succ n =>
        have esp := hsp n rfl
        subst esp
        cases ed
        obtain ⟨qs, hqs⟩ : ∃ qs : List (Qn n), (qs : Nd (n + 1)) = t := ⟨t, rfl⟩
        subst hqs
        have lnx : nxs.length = qs.length := by rw [tna.len, List.length_map]
        have l5 : qs.length ≤ 5 := hok.1
        refine ⟨_, rfl, _, rfl, na, _, rfl, .inr (hB.kt F2 _ _ hna), b, g, (nxs.length : Int), rfl, B2, by omega, by omega, fun r H3 r0 r1 B3 F3 => ?_⟩
        obtain ⟨kq, rfl⟩ : ∃ kq : Nat, r = (kq : Int) := ⟨r.toNat, by omega⟩
        have hkq : kq < qs.length := by omega
        have gq : qs[kq]? = some qs[kq] := List.getElem?_eq_getElem hkq
        obtain ⟨qok, nok⟩ := hok.2 qs[kq] (List.getElem_mem hkq)
        have o12 := qok.most
        generalize qs[kq] = qn at gq qok nok o12
        have F03 := F2.trans F3
        have hna3 := hB.kt (K := K) F03 _ _ hna
        obtain ⟨vq, evq, tvq0⟩ := tna.get (i := kq) (d := qnD n qn) (by rw [List.getElem?_map, gq]; rfl)
        have tvq := tvq0.keep (hB.kt F03)
        obtain ⟨qa, qas, rfl, hqa, tqa⟩ := id tvq.tupE
        have lqa : qas.length = qn.length := by rw [tqa.len, List.length_map]
        refine ⟨_, rfl, _, rfl, _, rfl, na, nxs, (kq : Int), _, rfl, rfl, hna3, at_of (j := kq) rfl evq, qa, rfl, ⟨_, hqa⟩, fun T hT => ?_⟩
        obtain ⟨Tb, Tg⟩ := B3.neNew hT
        have sT := same_upd (o := .lst []) hT
        have hT0 : H T = none := by
          cases z : H T with
          | none => rfl
          | some o =>
            rw [F03 T o z Tb Tg] at hT
            cases hT
        refine lc_it (walk_tup (K := K) (a := qa) (xs := qas)) (fun i H4 => ∃ (us : List V) (as : List (Ak n)), as.length = i ∧ H4 T = some (.lst us) ∧ TdAll K H4 us (as.map (akD n)) ∧ (∀ (j : Nat) (x : Ak n), as[j]? = some x → ∃ an : An n, qn[j]? = some an ∧ IsAk M n an.2.2 x) ∧ Bag H4 b g ∧ Frm b g H H4 ∧ KT K H3 H4) ⟨[], [], rfl, upd_same, .nil, fun j x h => (by rw [List.getElem?_nil] at h; cases h), B3.keep sT, F03.updN hT0, Same.kt sT⟩ (fun i H4 _ h => ?_) ?_ ?_
        · obtain ⟨_, _, _, _, _, _, _, _, k4⟩ := h
          exact k4 _ _ hqa
        · rintro i x H0 H4 hi ⟨us, as, la, h4, t4, hA, B4, F4, k4⟩ ⟨rfl, e1⟩
          obtain ⟨dx, ex, tx⟩ := tqa.getV e1
          obtain ⟨an, ea, rfl⟩ := mapAt ex
          have ma := List.mem_of_getElem? ea
          obtain ⟨p, vw', vz, vt, rfl, hp', tw', tz, tt⟩ := td_an (tx.keep k4)
          refine ⟨rfl, ?_⟩
          refine iteT (B := ∃ (us : List V) (as : List (Ak n)), as.length = i + 1 ∧ H4 T = some (.lst us) ∧ TdAll K H4 us (as.map (akD n)) ∧ (∀ (j : Nat) (x : Ak n), as[j]? = some x → ∃ an : An n, qn[j]? = some an ∧ IsAk M n an.2.2 x) ∧ Bag H4 b g ∧ Frm b g H H4 ∧ KT K H3 H4) ?_
          refine ⟨_, rfl, _, rfl, p, _, 2, vt, rfl, rfl, hp', at_of (j := 2) rfl rfl, _, rfl, b, g, W, M, vt, an.2.1, an.2.2, rfl, B4, tt, nok an ma, m1, m20, fun y ak H5 ty hak B5 F5 => ?_⟩
          have h5 := F5 T _ h4 Tb Tg
          have kT : KT K H5 (upd H5 T (.lst (us ++ [y]))) := KT.updL h5
          have k45 := B4.kt (K := K) F5
          refine ⟨us, h5, ?_, us ++ [y], as ++ [ak], by rw [List.length_append, la]; rfl, upd_same, ?_, fun j x e => ?_, B5.updN Tb Tg, (F4.trans F5).updN hT0, (k4.trans k45).trans kT⟩
          · rw [t4.len, List.length_map, la]
            exact small1000 (by omega)
          · rw [List.map_append]
            exact (t4.keep (k45.trans kT)).app (.cons (ty.keep kT) .nil)
          · by_cases hj : j < as.length
            · rw [List.getElem?_append_left hj] at e
              exact hA j x e
            · have ej : j = as.length := by
                have := (List.getElem?_eq_some_iff.mp e).1
                rw [List.length_append] at this
                simp at this
                omega
              subst ej
              rw [List.getElem?_append_right (Nat.le_refl _), Nat.sub_self] at e
              cases e
              rw [la]
              exact ⟨an, ea, hak⟩
        · rintro H4 ⟨us, as, la, h4, t4, hA, B4, F4, k4⟩
          refine ⟨T, us, rfl, SqL.of h4, fun l H5 s5 q5 => ⟨by show 3 ≤ sizeLine; decide, fun p np => ?_⟩⟩
          have s6 := same_upd (o := .tup [.str "ask", .int (kq : Int), .ref l]) np
          refine q (.ref p) (.inr (kq, as)) _ ?_ ⟨qn, gq, Al.of (by omega) fun j an x e1 e2 => ?_⟩ (B4.keep (s5.trans s6)) (F4.trans (Frm.of (s5.trans s6)))
          · exact .tup (.inl (.inl upd_same)) (.cons (.str _) (.cons (.int _) (.cons (.tup (Same.kt s6 _ _ q5) (t4.keep (Same.kt (s5.trans s6)))) .nil)))
          · obtain ⟨an', e3, e4⟩ := hA j x e2
            rw [e1] at e3
            cases e3
            exact e4
end
end Tl
/-! things of any kind, as far as judges look at them -/
namespace Tl
open PySem PySem.Spec PyProof.Rows L2 RZ
inductive AD where
  | int (i : Int)
  | tup (xs : List AD)
  | oth (s : Option Str)
/-- a value that is such a thing; its lists and dicts lie away from the bag -/
inductive Ad (K : PySem.W.Frag) (b g : Addr) (H : Hp) : V → AD → Prop
  | int (i : Int) : Ad K b g H (.int i) (.int i)
  | tup {a : Addr} {xs : List V} {ds : List AD} : SqT K H a xs → xs.length = ds.length → (∀ (i : Nat) (x : V) (d : AD), xs[i]? = some x → ds[i]? = some d → Ad K b g H x d) → Ad K b g H (.ref a) (.tup ds)
  | non : Ad K b g H .non (.oth none)
  | bl (c : Bool) : Ad K b g H (.bl c) (.oth none)
  | str (x : Str) : Ad K b g H (.str x) (.oth (some x))
  | lst {a : Addr} {xs : List V} : H a = some (.lst xs) → a ≠ b → a ≠ g → Ad K b g H (.ref a) (.oth none)
  | dk {a : Addr} {kvs : List (Key × V)} : H a = some (.dK kvs) → a ≠ b → a ≠ g → Ad K b g H (.ref a) (.oth none)
  | dt {a : Addr} {kvs : List (List Key × V)} : H a = some (.dT kvs) → a ≠ b → a ≠ g → Ad K b g H (.ref a) (.oth none)
  | ins {a C dx : Addr} {fs : List (Str × V)} : H a = some (.ins C dx fs) → (∀ H' : Hp, H' a = some (.ins C dx fs) → TyX K H' (.ref a) (.ref C)) → PySem.W.kitOne K (.ref C) (.type "tuple") = some false → PySem.W.kitOne K (.ref C) (.type "int") = some false → PySem.W.kitOne K (.ref C) (.type "str") = some false → Ad K b g H (.ref a) (.oth none)
theorem Ad.keep {K : PySem.W.Frag} {b g : Addr} {H H' : Hp} {v : V} {d : AD} (B : Bag H b g) (f : Frm b g H H') (h : Ad K b g H v d) : Ad K b g H' v d := by
  induction h with
  | int i => exact .int i
  | tup h l _ ih => exact .tup (B.kt f _ _ h) l ih
  | non => exact .non
  | bl c => exact .bl c
  | str x => exact .str x
  | lst h n m => exact .lst (f _ _ h n m) n m
  | dk h n m => exact .dk (f _ _ h n m) n m
  | dt h n m => exact .dt (f _ _ h n m) n m
  | ins h ty k1 k2 k3 =>
    obtain ⟨n1, n2⟩ := B.other h (fun xs z => by cases z)
    exact .ins (f _ _ h n1 n2) ty k1 k2 k3
theorem Ad.same {K : PySem.W.Frag} {b g : Addr} {H H' : Hp} {v : V} {d : AD} (f : Same H H') (h : Ad K b g H v d) : Ad K b g H' v d := by
  induction h with
  | int i => exact .int i
  | tup h l _ ih => exact .tup (Same.kt f _ _ h) l ih
  | non => exact .non
  | bl c => exact .bl c
  | str x => exact .str x
  | lst h n m => exact .lst (f _ _ h) n m
  | dk h n m => exact .dk (f _ _ h) n m
  | dt h n m => exact .dt (f _ _ h) n m
  | ins h ty k1 k2 k3 => exact .ins (f _ _ h) ty k1 k2 k3
/-- what isinstance tells of it -/
theorem Ad.kind {K : PySem.W.Frag} {b g : Addr} {H : Hp} {v : V} {d : AD} (h : Ad K b g H v d) :
    (∃ i, v = .int i ∧ d = .int i) ∨ (∃ a xs ds, v = .ref a ∧ d = .tup ds ∧ SqT K H a xs ∧ xs.length = ds.length ∧ ∀ (i : Nat) (x : V) (e : AD), xs[i]? = some x → ds[i]? = some e → Ad K b g H x e) ∨
    (∃ s, d = .oth s ∧ ∃ t, TyX K H v t ∧ PySem.W.kitOne K t (.type "tuple") = some false ∧ (PySem.W.kitOne K t (.type "int") = some false ∨ (PySem.W.kitOne K t (.type "int") = some true ∧ PySem.W.kitOne K t (.type "bool") = some true))) := by
  cases h with
  | int i => exact .inl ⟨i, rfl, rfl⟩
  | tup h l k => exact .inr (.inl ⟨_, _, _, rfl, rfl, h, l, k⟩)
  | non => exact .inr (.inr ⟨_, rfl, _, .base .non, kit_ty (by decide +kernel), .inl (kit_ty (by decide +kernel))⟩)
  | bl c => exact .inr (.inr ⟨_, rfl, _, .base (.bl c), kit_ty (by decide +kernel), .inr ⟨kit_ty (by decide +kernel), kit_ty (by decide +kernel)⟩⟩)
  | str x => exact .inr (.inr ⟨_, rfl, _, .base (.str x), kit_ty (by decide +kernel), .inl (kit_ty (by decide +kernel))⟩)
  | lst h n m => exact .inr (.inr ⟨_, rfl, _, .base (.lst h), kit_ty (by decide +kernel), .inl (kit_ty (by decide +kernel))⟩)
  | dk h n m => exact .inr (.inr ⟨_, rfl, _, .base (.dK h), kit_ty (by decide +kernel), .inl (kit_ty (by decide +kernel))⟩)
  | dt h n m => exact .inr (.inr ⟨_, rfl, _, .base (.dT h), kit_ty (by decide +kernel), .inl (kit_ty (by decide +kernel))⟩)
  | ins h ty k1 k2 k3 => exact .inr (.inr ⟨_, rfl, _, ty _ h, k1, .inl k2⟩)
/-- the text that it is -/
def strA : AD → Option Str
  | .oth s => s
  | _ => none
theorem Ad.is_str {K : PySem.W.Frag} {b g : Addr} {H : Hp} {v : V} {d : AD} (h : Ad K b g H v d) : ∃ t, TyX K H v t ∧ PySem.W.kitOne K t (.type "str") = some (strA d).isSome ∧ ∀ x, strA d = some x → v = .str x := by
  cases h with
  | int i => exact ⟨_, .base (.int i), kit_ty (show kitB "int" "str" = some false by decide +kernel), fun x e => by cases e⟩
  | tup h l k => exact ⟨_, tyx_tup h, kit_ty (show kitB "tuple" "str" = some false by decide +kernel), fun x e => by cases e⟩
  | non => exact ⟨_, .base .non, kit_ty (show kitB "NoneType" "str" = some false by decide +kernel), fun x e => by cases e⟩
  | bl c => exact ⟨_, .base (.bl c), kit_ty (show kitB "bool" "str" = some false by decide +kernel), fun x e => by cases e⟩
  | str x => exact ⟨_, .base (.str x), kit_ty (show kitB "str" "str" = some true by decide +kernel), fun y e => by cases e; rfl⟩
  | lst h n m => exact ⟨_, .base (.lst h), kit_ty (show kitB "list" "str" = some false by decide +kernel), fun x e => by cases e⟩
  | dk h n m => exact ⟨_, .base (.dK h), kit_ty (show kitB "dict" "str" = some false by decide +kernel), fun x e => by cases e⟩
  | dt h n m => exact ⟨_, .base (.dT h), kit_ty (show kitB "dict" "str" = some false by decide +kernel), fun x e => by cases e⟩
  | ins h ty k1 k2 k3 => exact ⟨_, ty _ h, k3, fun x e => by cases e⟩
/-- right data are such things -/
def ofD : PyData → AD
  | .int i => .int i
  | .str x => .oth (some x)
  | .tuple xs => .tup (ofDs xs)
  | _ => .oth none
where ofDs : List PyData → List AD
  | [] => []
  | x :: r => ofD x :: ofDs r
theorem ofDs_map : ∀ xs : List PyData, ofD.ofDs xs = xs.map ofD
  | [] => rfl
  | x :: r => by
    show ofD x :: ofD.ofDs r = _
    rw [ofDs_map r]
    rfl
mutual
theorem Td.ad {K : PySem.W.Frag} {b g : Addr} {H : Hp} : ∀ {v : V} {d : PyData}, Td K H v d → Ad K b g H v (ofD d)
  | _, _, .non => .non
  | _, _, .bl c => .bl c
  | _, _, .int i => .int i
  | _, _, .str x => .str x
  | _, _, .tup h t => .tup h (by
    have e := TdAll.len t
    show _ = (ofD.ofDs _).length
    rw [ofDs_map, List.length_map]
    exact e) (TdAll.ad t)
theorem TdAll.ad {K : PySem.W.Frag} {b g : Addr} {H : Hp} : ∀ {vs : List V} {ds : List PyData}, TdAll K H vs ds → ∀ (i : Nat) (x : V) (e : AD), vs[i]? = some x → (ofD.ofDs ds)[i]? = some e → Ad K b g H x e
  | _, _, .nil, i, x, e, h, _ => by simp at h
  | _, _, .cons h t, 0, x, e, h1, h2 => by
    cases h1
    cases h2
    exact h.ad
  | _, _, .cons h t, i + 1, x, e, h1, h2 => t.ad i x e (by simpa using h1) h2
end
/-! ### what the judges find -/
def inA : AD → Bool
  | .int _ => true
  | _ => false
def frA : AD → Bool
  | .tup [.int x, .int y] => decide (1 ≤ y) && decide (Nat.gcd x.natAbs y.natAbs = 1)
  | _ => false
def chA : AD → Bool
  | .tup [.int x, .int y] => (decide (1 ≤ y) && decide (Nat.gcd x.natAbs y.natAbs = 1)) && (decide (0 ≤ x) && decide (x ≤ y))
  | _ => false
def arA (p : AD → Bool) (d : AD) (many : Nat) : Bool := match d with
  | .tup xs => decide (xs.length = many) && xs.all p
  | _ => false
theorem fr_pair {d : AD} (h : frA d = true) : ∃ x y, d = .tup [.int x, .int y] := by
  cases d with
  | int i => cases h
  | oth => cases h
  | tup ds =>
    match ds, h with
    | [], h => cases h
    | [x], h => cases x <;> cases h
    | [.int x, .int y], _ => exact ⟨x, y, rfl⟩
    | [.int x, .tup _], h => cases h
    | [.int x, .oth _], h => cases h
    | [.tup _, y], h => cases h
    | [.oth _, y], h => cases h
    | x :: y :: z :: r, h => cases x <;> cases y <;> cases h
theorem ch_fr {d : AD} (h : frA d = false) : chA d = false := by
  cases d with
  | int i => rfl
  | oth => rfl
  | tup ds =>
    match ds, h with
    | [], h => rfl
    | [x], h => cases x <;> rfl
    | [.int x, .int y], h =>
      show (frA (.tup [.int x, .int y]) && _) = false
      rw [h, Bool.false_and]
    | [.int x, .tup _], h => rfl
    | [.int x, .oth _], h => rfl
    | [.tup _, y], h => rfl
    | [.oth _, y], h => rfl
    | x :: y :: z :: r, h => cases x <;> cases y <;> rfl
/-- the fraction that a thing stands for -/
def ratA : AD → Rat
  | .tup [.int x, .int y] => mkRat x y.toNat
  | _ => 0
def spIn (K : PySem.W.Frag) : Sp := fun vs H Q _ => ∃ (b g : Addr) (v : V) (d : AD), vs = [v] ∧ Ad K b g H v d ∧ Q (.bl (inA d)) H
def spFrA (K : PySem.W.Frag) : Sp := fun vs H Q _ => ∃ (b g : Addr) (v : V) (d : AD), vs = [v] ∧ Ad K b g H v d ∧ Q (.bl (frA d)) H
def spChA (K : PySem.W.Frag) : Sp := fun vs H Q _ => ∃ (b g : Addr) (v : V) (d : AD), vs = [v] ∧ Ad K b g H v d ∧ Q (.bl (chA d)) H
def spArA (K : PySem.W.Frag) (p : AD → Bool) : Sp := fun vs H Q _ => ∃ (b g : Addr) (v : V) (d : AD) (m : Nat), vs = [v, .int (m : Int)] ∧ Ad K b g H v d ∧ m ≤ 100 ∧ ∀ H', Same H H' → Q (.bl (arA p d m)) H'
section
variable {P : Program} {w : World} {K : PySem.W.Frag} {mg : Str → Option Value} {base : Heap} {aN aO : Addr} {t1 t2 t3 t4 t5 t6 t7 : Tok}
theorem ok_is_integral_a {f : Addr} {fd : FuncData} (D : Dn K mg "is_integral" s_is_integral ["thing"] f fd) (B : Blt mg) (C : Cst K mg aN aO t1 t2 t3 t4 t5 t6 t7) : FnOk P w K mg base CX0 1 f fd ["thing"] (spIn K) := by
  refine D.F.ok sc_is_integral (fun vs H Q E h => ?_) (fun cdv A outer s H vs Q E hr h => ?_)
  · obtain ⟨b, g, v, d, rfl, _⟩ := h
    rfl
  obtain ⟨b, g, v, d, rfl, hv, q⟩ := h
  have nd := sc_is_integral.nd
  refine ⟨_, (pss_one (ps_ret (pe_and (pe_callB (k_isi (K := K) rfl) (by rfl) B.isinstance (by decide +kernel) (pa_cons (pv 0) (pa_cons (pe_bltn (v := .ty "int") (u := .type "int") (by rfl) B.int (by decide +kernel) rfl) pa_nil))) (pe_one (pe_not (pe_callB (k_isi (K := K) rfl) (by rfl) B.isinstance (by decide +kernel) (pa_cons (pv 0) (pa_cons (pe_bltn (v := .ty "bool") (u := .type "bool") (by rfl) B.bool (by decide +kernel) rfl) pa_nil)))))))), ?_⟩
  rcases hv.kind with ⟨i, rfl, rfl⟩ | ⟨a, xs, ds, rfl, rfl, hs, _, _⟩ | ⟨_, rfl, t, ty, k1, k2⟩
  · exact ⟨_, rfl, _, _, _, _, true, rfl, .ty "int", .base (.int i), kit_ty (by decide +kernel), _, rfl, iteT ⟨_, rfl, _, _, _, _, false, rfl, .ty "bool", .base (.int i), kit_ty (by decide +kernel), _, rfl, q⟩⟩
  · exact ⟨_, rfl, _, _, _, _, false, rfl, .ty "int", tyx_tup hs, kit_ty (by decide +kernel), _, rfl, iteF q⟩
  · rcases k2 with k2 | ⟨k2, k3⟩
    · exact ⟨_, rfl, _, _, _, _, false, rfl, .ty "int", ty, k2, _, rfl, iteF q⟩
    · exact ⟨_, rfl, _, _, _, _, true, rfl, .ty "int", ty, k2, _, rfl, iteT ⟨_, rfl, _, _, _, _, true, rfl, .ty "bool", ty, k3, _, rfl, q⟩⟩
theorem ok_is_fraction_a {f f1 : Addr} {fd fd1 : FuncData} (D : Dn K mg "is_fraction" s_is_fraction ["thing"] f fd) (B : Blt mg) (C : Cst K mg aN aO t1 t2 t3 t4 t5 t6 t7)
    (D_is_integral : Dn K mg "is_integral" s_is_integral ["thing"] f1 fd1) (G_is_integral : FnOk P w K mg base CX0 1 f1 fd1 ["thing"] (spIn K)) : FnOk P w K mg base CX0 2 f fd ["thing"] (spFrA K) := by
  refine D.F.ok sc_is_fraction (fun vs H Q E h => ?_) (fun cdv A outer s H vs Q E hr h => ?_)
  · obtain ⟨b, g, v, d, rfl, _⟩ := h
    rfl
  obtain ⟨b, g, v, d, rfl, hv, q⟩ := h
  have nd := sc_is_fraction.nd
  refine ⟨_, (pss_cons (ps_if (PW.pt (pw_or (pt_not (pt_val (pe_callB (k_isi (K := K) rfl) (by rfl) B.isinstance (by decide +kernel) (pa_cons (pv 0) (pa_cons (pe_bltn (v := .ty "tuple") (u := .type "tuple") (by rfl) B.tuple (by decide +kernel) rfl) pa_nil))))) (pw_or1 (pt_cmpR op_ne (pe_callB (k_len (K := K) rfl) (by rfl) B.len PySem.boot_len (pa_cons (pv 0) pa_nil)) pe_int (nomark _))))) (pss_one (ps_ret pe_bl)) pss_nil)
      (pss_cons (ps_asg (pv 0) (k_tup (K := K) (n := 2) rfl rfl (pgs_cons (pg_name (i := 1) nd rfl (.inl rfl)) (pgs_cons (pg_name (i := 2) nd rfl (.inl rfl)) pgs_nil))))
      (pss_one (ps_ret (pe_and (pe_call G_is_integral (hr.mono (by omega)) (by rfl) D_is_integral.m D_is_integral.F.kp D_is_integral.b .nil pass0 (pa_cons (pv 1) pa_nil)) (pe_and (pe_call G_is_integral (hr.mono (by omega)) (by rfl) D_is_integral.m D_is_integral.F.kp D_is_integral.b .nil pass0 (pa_cons (pv 2) pa_nil)) (pe_and (pe_cmpR op_ge (pv 2) pe_int (nomark _)) (pe_one (pe_cmpR op_eq (pe_callBfun cr_gcd (by rfl) C.gcd (pa_cons (pv 1) (pa_cons (pv 2) pa_nil))) pe_int (nomark _)))))))))), ?_⟩
  rcases hv.kind with ⟨i, rfl, rfl⟩ | ⟨a, xs, ds, rfl, rfl, hs, hl, hk⟩ | ⟨_, rfl, t, ty, k1, k2⟩
  · exact ⟨_, rfl, _, _, _, _, false, rfl, .ty "tuple", .base (.int i), kit_ty (by decide +kernel), _, rfl, iteT q⟩
  · refine ⟨_, rfl, _, _, _, _, true, rfl, .ty "tuple", tyx_tup hs, kit_ty (by decide +kernel), _, rfl, iteF ?_⟩
    by_cases l2 : ds.length = 2
    · obtain ⟨d1, d2, rfl⟩ : ∃ d1 d2, ds = [d1, d2] := by
        match ds, l2 with
        | [x, y], _ => exact ⟨x, y, rfl⟩
      obtain ⟨v1, v2, rfl⟩ : ∃ v1 v2, xs = [v1, v2] := by
        match xs, hl with
        | [x, y], _ => exact ⟨x, y, rfl⟩
      have h1 := hk 0 v1 d1 rfl rfl
      have h2 := hk 1 v2 d2 rfl rfl
      refine ⟨_, rfl, a, _, rfl, .inr hs, rfl, _, rfl, iteF ?_⟩
      refine ⟨_, rfl, a, _, rfl, hs, rfl, _, _, rfl, _, _, rfl, rfl, ?_⟩
      refine ⟨_, rfl, b, g, v1, d1, rfl, h1, _, rfl, ?_⟩
      cases e1 : inA d1 with
      | false =>
        refine iteF ?_
        have e : frA (.tup [d1, d2]) = false := by
          cases d1 with
          | int i => cases e1
          | tup _ => rfl
          | oth => rfl
        rw [e] at q
        exact q
      | true =>
        refine iteT ⟨_, rfl, b, g, v2, d2, rfl, h2, _, rfl, ?_⟩
        cases d1 with
        | tup _ => cases e1
        | oth => cases e1
        | int x =>
          cases h1
          cases e2 : inA d2 with
          | false =>
            refine iteF ?_
            have e : frA (.tup [.int x, d2]) = false := by
              cases d2 with
              | int i => cases e2
              | tup _ => rfl
              | oth => rfl
            rw [e] at q
            exact q
          | true =>
            cases d2 with
            | tup _ => cases e2
            | oth => cases e2
            | int y =>
              cases h2
              refine iteT ⟨_, rfl, _, _, rfl, rfl, _, rfl, ?_⟩
              by_cases hy : 1 ≤ y
              · rw [decide_eq_true (show y ≥ 1 from hy)]
                refine iteT ⟨_, rfl, _, rfl, _, _, rfl, rfl, ?_⟩
                show Q (.bl (decide (V.int ((Nat.gcd x.natAbs y.natAbs : Nat) : Int) = V.int 1))) H
                have e : decide (V.int ((Nat.gcd x.natAbs y.natAbs : Nat) : Int) = V.int 1) = frA (.tup [.int x, .int y]) := by
                  show _ = (decide (1 ≤ y) && decide (Nat.gcd x.natAbs y.natAbs = 1))
                  rw [decide_eq_true hy, Bool.true_and]
                  exact decide_eq_decide.mpr ⟨fun z => by have := V.int.inj z; omega, fun z => by rw [z]; rfl⟩
                rw [e]
                exact q
              · rw [decide_eq_false (show ¬ y ≥ 1 from hy)]
                refine iteF ?_
                have e : frA (.tup [.int x, .int y]) = false := by
                  show (decide (1 ≤ y) && decide (Nat.gcd x.natAbs y.natAbs = 1)) = false
                  rw [decide_eq_false hy, Bool.false_and]
                rw [e] at q
                exact q
    · refine ⟨_, rfl, a, _, rfl, .inr hs, rfl, _, rfl, ?_⟩
      rw [decide_eq_false (show ¬ (V.int ((xs.length : Nat) : Int)) = V.int 2 from fun z => l2 (by have := V.int.inj z; omega))]
      refine iteT ?_
      have e : frA (.tup ds) = false := by
        match ds, l2 with
        | [], _ => rfl
        | [x], _ => cases x <;> rfl
        | [x, y], h => exact absurd rfl h
        | x :: y :: z :: r, _ => cases x <;> cases y <;> rfl
      rw [e] at q
      exact q
  · exact ⟨_, rfl, _, _, _, _, false, rfl, .ty "tuple", ty, k1, _, rfl, iteT q⟩
theorem ok_is_chance_a {f f1 : Addr} {fd fd1 : FuncData} (D : Dn K mg "is_chance" s_is_chance ["thing"] f fd) (B : Blt mg) (C : Cst K mg aN aO t1 t2 t3 t4 t5 t6 t7)
    (D_is_fraction : Dn K mg "is_fraction" s_is_fraction ["thing"] f1 fd1) (G_is_fraction : FnOk P w K mg base CX0 2 f1 fd1 ["thing"] (spFrA K)) : FnOk P w K mg base CX0 3 f fd ["thing"] (spChA K) := by
  refine D.F.ok sc_is_chance (fun vs H Q E h => ?_) (fun cdv A outer s H vs Q E hr h => ?_)
  · obtain ⟨b, g, v, d, rfl, _⟩ := h
    rfl
  obtain ⟨b, g, v, d, rfl, hv, q⟩ := h
  have nd := sc_is_chance.nd
  refine ⟨_, (pss_one (ps_ret (pe_and (pe_call G_is_fraction (hr.mono (by omega)) (by rfl) D_is_fraction.m D_is_fraction.F.kp D_is_fraction.b .nil pass0 (pa_cons (pv 0) pa_nil)) (pe_one (pe_chain op_le op_le pe_int (pe_ix (k_ixT (K := K) rfl) (pv 0) pe_int (fun _ _ => rfl)) (pe_ix (k_ixT (K := K) rfl) (pv 0) pe_int (fun _ _ => rfl))))))), ?_⟩
  refine ⟨_, rfl, b, g, v, d, rfl, hv, _, rfl, ?_⟩
  cases hf : frA d with
  | false =>
    refine iteF ?_
    rw [ch_fr hf] at q
    exact q
  | true =>
    refine iteT ?_
    obtain ⟨x, y, rfl⟩ := fr_pair hf
    cases hv with
    | @tup a xs _ hs hl hk =>
    obtain ⟨v1, v2, rfl⟩ : ∃ v1 v2, xs = [v1, v2] := by
      match xs, hl with
      | [x, y], _ => exact ⟨x, y, rfl⟩
    cases hk 0 v1 _ rfl rfl
    cases hk 1 v2 _ rfl rfl
    have e : chA (.tup [.int x, .int y]) = (decide (0 ≤ x) && decide (x ≤ y)) := by
      show (frA (.tup [.int x, .int y]) && _) = _
      rw [hf, Bool.true_and]
    rw [e] at q
    refine ⟨_, rfl, a, _, 0, _, rfl, rfl, hs, at_of (j := 0) rfl rfl, _, _, rfl, rfl, _, rfl, ?_⟩
    by_cases h0 : 0 ≤ x
    · rw [decide_eq_true h0]
      rw [decide_eq_true h0, Bool.true_and] at q
      exact iteT ⟨_, rfl, a, _, 1, _, rfl, rfl, hs, at_of (j := 1) rfl rfl, _, _, rfl, rfl, q⟩
    · rw [decide_eq_false h0]
      rw [decide_eq_false h0, Bool.false_and] at q
      exact iteF q
end
end Tl
/-! rows of things; sums of them -/
namespace Tl
open PySem PySem.Spec PyProof.Rows L2 RZ
/-- all over a walk, with answers of any kind -/
theorem lc_bools {K : PySem.W.Frag} {J : It} {n : Nat} {G : Hp → Prop} {Y : Nat → Hp → V → Hp → Prop} (w : Walk J n G Y) {g : TG} {tt : TT} {te : TE} {vs : List Nat} {σ : L2.St} {H : Hp} {T : Addr} {Qd : Hp → Prop} (bs : List Bool) (hl : bs.length = n) (hn : n ≤ 1000) (hT : H T = none) (hG : ∀ H', Same H H' → G H')
    (hs : ∀ (i : Nat) (x : V) (c : Bool) (H2 H3 : Hp) (Qy : V → Hp → Prop) (N : Hp → Prop), bs[i]? = some c → Same H H2 → Y i H2 x H3 → (∀ H5, Same H2 H5 → Qy (.bl c) H5) → g x (wipe σ vs) H3 fun σ2 H4 => wipe σ2 vs = wipe σ vs ∧ tt σ2 H4 fun b H5 => if b = true then te σ2 H5 Qy else N H5)
    (hd : ∀ H2, H2 T = some (.lst (bs.map V.bl)) → Same H H2 → Qd H2) :
    ∃ W : Nat → Nat → Hp → Prop, (∃ m, W 0 m (upd H T (.lst []))) ∧ ∀ i m H, W i m H →
      (J.stop i H ∧ Qd H) ∨ (J.go i H ∧ ∃ Nx : Hp → Prop, (∀ H', Nx H' → ∃ m', m' < m ∧ W (i + 1) m' H') ∧ ∀ x H', J.yld i H x H' → g x (wipe σ vs) H' fun σ2 H2 => wipe σ2 vs = wipe σ vs ∧ tt σ2 H2 fun b H3 =>
        if b = true then te σ2 H3 fun y H4 => ∃ acc, H4 T = some (.lst acc) ∧ acc.length < sizeLine ∧ Nx (upd H4 T (.lst (acc ++ [y]))) else Nx H3) := by
  refine lc_it w (fun i H2 => H2 T = some (.lst ((bs.take i).map V.bl)) ∧ Same H H2) ⟨upd_same, same_upd hT⟩ (fun i H2 _ h => hG _ h.2) ?_ ?_
  · rintro i x H2 H3 hi ⟨h2, s2⟩ y
    have he : bs[i]? = some (bs[i]'(by omega)) := List.getElem?_eq_getElem _
    refine hs i x _ H2 H3 _ _ he s2 y fun H5 s5 => ?_
    refine ⟨_, s5 _ _ h2, ?_, ?_, fun c o z => ?_⟩
    · rw [List.length_map, List.length_take]
      exact small1000 (by omega)
    · rw [upd_same, List.take_add_one, he, List.map_append]
      rfl
    · rw [upd_ne (ne_of_none z hT)]
      exact s5 _ _ (s2 _ _ z)
  · rintro H2 ⟨h2, s2⟩
    rw [List.take_of_length_le (by omega)] at h2
    exact hd H2 h2 s2
theorem all_id (xs : List AD) (p : AD → Bool) : (xs.map p).all id = xs.all p := by
  rw [List.all_map]
  rfl
section
variable {P : Program} {w : World} {K : PySem.W.Frag} {mg : Str → Option Value} {base : Heap} {aN aO : Addr} {t1 t2 t3 t4 t5 t6 t7 : Tok}
theorem ok_are_fractions_a {f f1 : Addr} {fd fd1 : FuncData} (D : Dn K mg "are_fractions" s_are_fractions ["thing", "many"] f fd) (B : Blt mg) (C : Cst K mg aN aO t1 t2 t3 t4 t5 t6 t7)
    (D_is_fraction : Dn K mg "is_fraction" s_is_fraction ["thing"] f1 fd1) (G_is_fraction : FnOk P w K mg base CX0 2 f1 fd1 ["thing"] (spFrA K)) : FnOk P w K mg base CX0 3 f fd ["thing", "many"] (spArA K frA) := by
  refine D.F.ok sc_are_fractions (fun vs H Q E h => ?_) (fun cdv A outer s H vs Q E hr h => ?_)
  · obtain ⟨b, g, v, d, m, rfl, _⟩ := h
    rfl
  obtain ⟨b, g, v, d, m, rfl, hv, hm, q⟩ := h
  have nd := sc_are_fractions.nd
  refine ⟨_, (pss_cons (ps_if (PW.pt (pw_or (pt_not (pt_val (pe_callB (k_isi (K := K) rfl) (by rfl) B.isinstance (by decide +kernel) (pa_cons (pv 0) (pa_cons (pe_bltn (v := .ty "tuple") (u := .type "tuple") (by rfl) B.tuple (by decide +kernel) rfl) pa_nil))))) (pw_or1 (pt_cmpR op_ne (pe_callB (k_len (K := K) rfl) (by rfl) B.len PySem.boot_len (pa_cons (pv 0) pa_nil)) (pv 1) (nomark _))))) (pss_one (ps_ret pe_bl)) pss_nil)
      (pss_one (ps_ret (pe_callB (k_all (K := K) rfl rfl) (by rfl) B.all (by decide +kernel) (pa_cons (pe_lc (own := [("fraction", 2)]) rfl nd (k_iT (K := K) rfl (pv 0)) (blkOk_by (own := [("fraction", 2)]) (by kernel_rfl)) (fun _ _ _ _ _ => (pg_name (i := 2) nd rfl (.inl rfl))) (fun _ _ _ _ _ => pts_nil) (fun _ _ _ _ _ => (pe_call G_is_fraction (hr.mono (by omega)) (by rfl) D_is_fraction.m D_is_fraction.F.kp D_is_fraction.b .nil pass0 (pa_cons (pv 2) pa_nil)))) pa_nil))))), ?_⟩
  rcases hv.kind with ⟨i, rfl, rfl⟩ | ⟨a, xs, ds, rfl, rfl, hs, hl, hk⟩ | ⟨_, rfl, t, ty, k1, k2⟩
  · exact ⟨_, rfl, _, _, _, _, false, rfl, .ty "tuple", .base (.int i), kit_ty (by decide +kernel), _, rfl, iteT (q H (Same.refl _))⟩
  · refine ⟨_, rfl, _, _, _, _, true, rfl, .ty "tuple", tyx_tup hs, kit_ty (by decide +kernel), _, rfl, iteF ?_⟩
    refine ⟨_, rfl, a, _, rfl, .inr hs, _, rfl, rfl, _, rfl, ?_⟩
    by_cases l2 : ds.length = m
    · rw [hl, l2, decide_eq_true rfl]
      refine iteF ?_
      refine ⟨_, rfl, a, rfl, ⟨_, hs⟩, fun T hT => ?_⟩
      refine lc_bools (K := K) (walk_tup (K := K) (a := a) (xs := xs)) (ds.map frA) (by rw [List.length_map, hl]) (by omega) hT (fun H' s => Same.kt s _ _ hs) ?_ ?_
      · rintro i x c H2 H3 Qy N hc s2 ⟨e3, g1⟩ hQ
        subst e3
        rw [List.getElem?_map] at hc
        obtain ⟨e, he, rfl⟩ := Option.map_eq_some_iff.mp hc
        refine ⟨rfl, ?_⟩
        refine iteT (B := N H3) ?_
        exact ⟨_, rfl, b, g, x, e, rfl, (hk i x e g1 he).same s2, hQ H3 (Same.refl _)⟩
      · intro H2 h2 s2
        refine ⟨T, _, rfl, SqL.of h2, ?_⟩
        rw [all_id]
        have z := q H2 s2
        have e : arA frA (.tup ds) m = ds.all frA := by
          show (decide (ds.length = m) && _) = _
          rw [decide_eq_true l2, Bool.true_and]
        rw [e] at z
        exact z
    · rw [hl, decide_eq_false (show ¬ V.int ((ds.length : Nat) : Int) = V.int (m : Int) from fun z => l2 (by have := V.int.inj z; omega))]
      refine iteT ?_
      have z := q H (Same.refl _)
      have e : arA frA (.tup ds) m = false := by
        show (decide (ds.length = m) && _) = _
        rw [decide_eq_false l2, Bool.false_and]
      rw [e] at z
      exact z
  · exact ⟨_, rfl, _, _, _, _, false, rfl, .ty "tuple", ty, k1, _, rfl, iteT (q H (Same.refl _))⟩
theorem ok_are_chances_a {f f1 : Addr} {fd fd1 : FuncData} (D : Dn K mg "are_chances" s_are_chances ["thing", "many"] f fd) (B : Blt mg) (C : Cst K mg aN aO t1 t2 t3 t4 t5 t6 t7)
    (D_is_chance : Dn K mg "is_chance" s_is_chance ["thing"] f1 fd1) (G_is_chance : FnOk P w K mg base CX0 3 f1 fd1 ["thing"] (spChA K)) : FnOk P w K mg base CX0 4 f fd ["thing", "many"] (spArA K chA) := by
  refine D.F.ok sc_are_chances (fun vs H Q E h => ?_) (fun cdv A outer s H vs Q E hr h => ?_)
  · obtain ⟨b, g, v, d, m, rfl, _⟩ := h
    rfl
  obtain ⟨b, g, v, d, m, rfl, hv, hm, q⟩ := h
  have nd := sc_are_chances.nd
  refine ⟨_, (pss_cons (ps_if (PW.pt (pw_or (pt_not (pt_val (pe_callB (k_isi (K := K) rfl) (by rfl) B.isinstance (by decide +kernel) (pa_cons (pv 0) (pa_cons (pe_bltn (v := .ty "tuple") (u := .type "tuple") (by rfl) B.tuple (by decide +kernel) rfl) pa_nil))))) (pw_or1 (pt_cmpR op_ne (pe_callB (k_len (K := K) rfl) (by rfl) B.len PySem.boot_len (pa_cons (pv 0) pa_nil)) (pv 1) (nomark _))))) (pss_one (ps_ret pe_bl)) pss_nil)
      (pss_one (ps_ret (pe_callB (k_all (K := K) rfl rfl) (by rfl) B.all (by decide +kernel) (pa_cons (pe_lc (own := [("chance", 2)]) rfl nd (k_iT (K := K) rfl (pv 0)) (blkOk_by (own := [("chance", 2)]) (by kernel_rfl)) (fun _ _ _ _ _ => (pg_name (i := 2) nd rfl (.inl rfl))) (fun _ _ _ _ _ => pts_nil) (fun _ _ _ _ _ => (pe_call G_is_chance (hr.mono (by omega)) (by rfl) D_is_chance.m D_is_chance.F.kp D_is_chance.b .nil pass0 (pa_cons (pv 2) pa_nil)))) pa_nil))))), ?_⟩
  rcases hv.kind with ⟨i, rfl, rfl⟩ | ⟨a, xs, ds, rfl, rfl, hs, hl, hk⟩ | ⟨_, rfl, t, ty, k1, k2⟩
  · exact ⟨_, rfl, _, _, _, _, false, rfl, .ty "tuple", .base (.int i), kit_ty (by decide +kernel), _, rfl, iteT (q H (Same.refl _))⟩
  · refine ⟨_, rfl, _, _, _, _, true, rfl, .ty "tuple", tyx_tup hs, kit_ty (by decide +kernel), _, rfl, iteF ?_⟩
    refine ⟨_, rfl, a, _, rfl, .inr hs, _, rfl, rfl, _, rfl, ?_⟩
    by_cases l2 : ds.length = m
    · rw [hl, l2, decide_eq_true rfl]
      refine iteF ?_
      refine ⟨_, rfl, a, rfl, ⟨_, hs⟩, fun T hT => ?_⟩
      refine lc_bools (K := K) (walk_tup (K := K) (a := a) (xs := xs)) (ds.map chA) (by rw [List.length_map, hl]) (by omega) hT (fun H' s => Same.kt s _ _ hs) ?_ ?_
      · rintro i x c H2 H3 Qy N hc s2 ⟨e3, g1⟩ hQ
        subst e3
        rw [List.getElem?_map] at hc
        obtain ⟨e, he, rfl⟩ := Option.map_eq_some_iff.mp hc
        refine ⟨rfl, ?_⟩
        refine iteT (B := N H3) ?_
        exact ⟨_, rfl, b, g, x, e, rfl, (hk i x e g1 he).same s2, hQ H3 (Same.refl _)⟩
      · intro H2 h2 s2
        refine ⟨T, _, rfl, SqL.of h2, ?_⟩
        rw [all_id]
        have z := q H2 s2
        have e : arA chA (.tup ds) m = ds.all chA := by
          show (decide (ds.length = m) && _) = _
          rw [decide_eq_true l2, Bool.true_and]
        rw [e] at z
        exact z
    · rw [hl, decide_eq_false (show ¬ V.int ((ds.length : Nat) : Int) = V.int (m : Int) from fun z => l2 (by have := V.int.inj z; omega))]
      refine iteT ?_
      have z := q H (Same.refl _)
      have e : arA chA (.tup ds) m = false := by
        show (decide (ds.length = m) && _) = _
        rw [decide_eq_false l2, Bool.false_and]
      rw [e] at z
      exact z
  · exact ⟨_, rfl, _, _, _, _, false, rfl, .ty "tuple", ty, k1, _, rfl, iteT (q H (Same.refl _))⟩
end
end Tl
/-! sums of things that are fractions; priors -/
namespace Tl
open PySem PySem.Spec PyProof.Rows L2 RZ
/-- a bottom that may stand in a drawn or an odd thing -/
def GI (i : Int) : Prop := 0 < i → i.toNat ∣ LL
instance (i : Int) : Decidable (GI i) := inferInstanceAs (Decidable (0 < i → i.toNat ∣ LL))
theorem gi_small {i : Int} (h : i.natAbs ≤ 66) : GI i := fun h0 => by
  have z : ∀ s : Fin 67, 0 < s.val → s.val ∣ LL := by decide +kernel
  exact z ⟨i.toNat, by omega⟩ (by show 0 < i.toNat; omega)
/-- not too great, the bottom divides LL -/
def Sg (r : Rat) : Prop := r.den < 2 ^ 130 ∧ r.num.natAbs < 2 ^ 130 ∧ r.den ∣ LL
inductive BdA : AD → Prop
  | int {i : Int} : i.natAbs < 2 ^ 130 → GI i → BdA (.int i)
  | tup {ds : List AD} : ds.length ≤ 1000 → (∀ d ∈ ds, BdA d) → BdA (.tup ds)
  | oth {s : Option Str} : BdA (.oth s)
theorem BdA.at_ {ds : List AD} (h : BdA (.tup ds)) : ds.length ≤ 1000 ∧ ∀ d ∈ ds, BdA d := by
  cases h with
  | tup h k => exact ⟨h, k⟩
theorem rat_of {d : AD} (h : frA d = true) : ∃ x y : Int, d = .tup [.int x, .int y] ∧ (ratA d).num = x ∧ ((ratA d).den : Int) = y := by
  obtain ⟨x, y, rfl⟩ := fr_pair h
  have h : (decide (1 ≤ y) && decide (Nat.gcd x.natAbs y.natAbs = 1)) = true := h
  rw [Bool.and_eq_true] at h
  have h1 := of_decide_eq_true h.1
  have h2 := of_decide_eq_true h.2
  refine ⟨x, y, rfl, ?_⟩
  show (mkRat x y.toNat).num = x ∧ ((mkRat x y.toNat).den : Int) = y
  have ey : y.natAbs = y.toNat := by omega
  rw [ey] at h2
  obtain ⟨e1, e2⟩ := mkRat_parts x y.toNat (by omega)
  rw [h2] at e1 e2
  exact ⟨by rw [e1]; omega, by rw [e2]; omega⟩
theorem td_rat {K : PySem.W.Frag} {b g : Addr} {H : Hp} {v : V} {d : AD} (h : Ad K b g H v d) (f : frA d = true) : Td K H v (rD (ratA d)) := by
  obtain ⟨x, y, rfl, e1, e2⟩ := rat_of f
  cases h with
  | @tup a xs _ hs hl hk =>
    obtain ⟨v1, v2, rfl⟩ : ∃ v1 v2, xs = [v1, v2] := by
      match xs, hl with
      | [x, y], _ => exact ⟨x, y, rfl⟩
    cases hk 0 v1 _ rfl rfl
    cases hk 1 v2 _ rfl rfl
    show Td K H _ (.tuple [.int (ratA _).num, .int ((ratA _).den : Int)])
    rw [e1, e2]
    exact .tup hs (.cons (.int _) (.cons (.int _) .nil))
theorem rat_gi {d : AD} (f : frA d = true) (bd : BdA d) : (ratA d).den ∣ LL := by
  obtain ⟨x, y, e, e1, e2⟩ := rat_of f
  rw [e] at bd
  obtain ⟨_, k⟩ := bd.at_
  cases k (.int y) (by simp) with
  | int _ g =>
    have hd : 0 < (ratA d).den := Nat.pos_of_ne_zero (ratA d).den_nz
    have z := g (by omega)
    rw [← e2, Int.toNat_natCast] at z
    exact z
theorem rat_bd {d : AD} (f : frA d = true) (bd : BdA d) : Sg (ratA d) := by
  have gi := rat_gi f bd
  obtain ⟨x, y, e, e1, e2⟩ := rat_of f
  rw [e] at bd
  obtain ⟨_, k⟩ := bd.at_
  have h1 := k (.int x) (by simp)
  have h2 := k (.int y) (by simp)
  cases h1 with
  | int h1 _ => cases h2 with
    | int h2 _ => exact ⟨by omega, by rw [e1]; exact h1, gi⟩
theorem tds_of {K : PySem.W.Frag} {H : Hp} : ∀ {xs : List V} {rs : List Rat}, xs.length = rs.length → (∀ (i : Nat) (x : V) (r : Rat), xs[i]? = some x → rs[i]? = some r → Td K H x (rD r)) → TdAll K H xs (rs.map rD)
  | [], [], _, _ => .nil
  | [], _ :: _, l, _ => by simp at l
  | _ :: _, [], l, _ => by simp at l
  | x :: xs, r :: rs, l, h => .cons (h 0 x r rfl rfl) (tds_of (by simpa using l) fun i x r e1 e2 => h (i + 1) x r (by simpa using e1) (by simpa using e2))
theorem bd_of_num {r : Rat} {m : Nat} (h : r.num.natAbs < m) : Bd r m := by
  have hd : 0 < r.den := Nat.pos_of_ne_zero r.den_nz
  have hm : (m : Int) ≤ (m : Int) * (r.den : Int) := by
    have := Nat.le_mul_of_pos_right m hd
    rw [← Int.natCast_mul]
    omega
  constructor
  · refine (Rat.le_iff _ _).mpr ?_
    show (-((m : Rat).num)) * (r.den : Int) ≤ r.num * (((m : Rat).den : Nat) : Int)
    rw [Rat.num_natCast, Rat.den_natCast, Int.neg_mul]
    omega
  · refine (Rat.le_iff _ _).mpr ?_
    rw [Rat.num_natCast, Rat.den_natCast]
    omega
theorem tot_any {rs : List Rat} (h : ∀ r ∈ rs, Sg r) (l : rs.length ≤ 1000) : ((rs.map (frN LL)).map (fr LL) = rs) ∧ 0 < LL ∧ LL < 2 ^ 3300 ∧ abssum (rs.map (frN LL)) < 2 ^ 3300 := by
  have ll1 : LL ≤ 2 ^ 186 := by decide +kernel
  refine ⟨frs_frN (by decide) fun r hr => (h r hr).2.2, by decide, by decide +kernel, Nat.lt_of_le_of_lt (frNs_absM (m := 2 ^ 130) fun r hr => ⟨(h r hr).2.2, bd_of_num (h r hr).2.1⟩) ?_⟩
  have a : rs.length * (2 ^ 130 * LL) ≤ 2 ^ 10 * (2 ^ 130 * 2 ^ 186) := Nat.mul_le_mul (Nat.le_trans l (by decide)) (Nat.mul_le_mul_left _ ll1)
  rw [← Nat.pow_add, ← Nat.pow_add] at a
  exact Nat.lt_of_le_of_lt a (Nat.pow_lt_pow_right (by decide) (by decide))
/-- whether things add up to one -/
def prA (d : AD) (W : Nat) : Bool := arA chA d W && (match d with
  | .tup xs => decide (fsum (xs.map ratA) = 1)
  | _ => false)
theorem ch_is {d : AD} (h : chA d = true) : frA d = true := by
  cases e : frA d with
  | true => rfl
  | false =>
    rw [ch_fr e] at h
    cases h
def spPrA (K : PySem.W.Frag) : Sp := fun vs H Q _ => ∃ (b g : Addr) (v : V) (d : AD) (W : Nat), vs = [v, .int (W : Int)] ∧ Ad K b g H v d ∧ BdA d ∧ W ≤ 5 ∧ ∀ H', Same H H' → Q (.bl (prA d W)) H'
section
variable {P : Program} {w : World} {K : PySem.W.Frag} {mg : Str → Option Value} {base : Heap} {aN aO : Addr} {t1 t2 t3 t4 t5 t6 t7 : Tok}
theorem ok_is_prior_a {f f1 f2 : Addr} {fd fd1 fd2 : FuncData} (D : Dn K mg "is_prior" s_is_prior ["thing", "worlds"] f fd) (B : Blt mg) (C : Cst K mg aN aO t1 t2 t3 t4 t5 t6 t7)
    (D_are_chances : Dn K mg "are_chances" s_are_chances ["thing", "many"] f1 fd1) (G_are_chances : FnOk P w K mg base CX0 4 f1 fd1 ["thing", "many"] (spArA K chA))
    (D_total : Dn K mg "total" s_total ["fractions"] f2 fd2) (G_total : FnOk P w K mg base CX0 3 f2 fd2 ["fractions"] (spTotal K)) : FnOk P w K mg base CX0 5 f fd ["thing", "worlds"] (spPrA K) := by
  refine D.F.ok sc_is_prior (fun vs H Q E h => ?_) (fun cdv A outer s H vs Q E hr h => ?_)
  · obtain ⟨b, g, v, d, W, rfl, _⟩ := h
    rfl
  obtain ⟨b, g, v, d, W, rfl, hv, bd, h5, q⟩ := h
  have nd := sc_is_prior.nd
  refine ⟨_, (pss_one (ps_ret (pe_and (pe_call G_are_chances (hr.mono (by omega)) (by rfl) D_are_chances.m D_are_chances.F.kp D_are_chances.b .nil pass0 (pa_cons (pv 0) (pa_cons (pv 1) pa_nil))) (pe_one (pe_cmpR (k_eqD (K := K) rfl hr.units) (pe_call G_total (hr.mono (by omega)) (by rfl) D_total.m D_total.F.kp D_total.b .nil pass0 (pa_cons (pv 0) pa_nil)) (pe_glob (v := .ref _) rfl C.ONE rfl) (nomark _)))))), ?_⟩
  refine ⟨_, rfl, _, rfl, b, g, v, d, W, rfl, hv, by omega, fun H1 s1 => ⟨_, rfl, ?_⟩⟩
  cases ec : arA chA d W with
  | false =>
    refine iteF ?_
    have z := q H1 s1
    unfold prA at z
    rw [ec, Bool.false_and] at z
    exact z
  | true =>
    refine iteT ?_
    cases d with
    | int i => cases ec
    | oth => cases ec
    | tup ds =>
      have ec : (decide (ds.length = W) && ds.all chA) = true := ec
      rw [Bool.and_eq_true] at ec
      have el := of_decide_eq_true ec.1
      have ea := List.all_eq_true.mp ec.2
      cases hv.same s1 with
      | @tup a xs _ hs hl hk =>
      obtain ⟨_, bk⟩ := bd.at_
      have hrs : ∀ r ∈ ds.map ratA, Sg r := fun r hr => by
        obtain ⟨e, he, rfl⟩ := List.mem_map.mp hr
        exact rat_bd (ch_is (ea e he)) (bk e he)
      obtain ⟨e, d0, d1, ab⟩ := tot_any hrs (by rw [List.length_map]; omega)
      have ta : TdAll K H1 xs ((ds.map ratA).map rD) := tds_of (by rw [List.length_map, hl]) fun i x r e1 e2 => by
        rw [List.getElem?_map] at e2
        obtain ⟨dd, e3, rfl⟩ := Option.map_eq_some_iff.mp e2
        exact td_rat (hk i x dd e1 e3) (ch_is (ea dd (List.mem_of_getElem? e3)))
      refine ⟨_, rfl, a, xs, LL, (ds.map ratA).map (frN (LL)), rfl, .inr hs, by rw [e]; exact ta, d0, d1, ab, by rw [List.length_map, List.length_map]; omega, fun v2 H2 s2 tv => ?_⟩
      rw [e] at tv
      have tO := td_inj (C.tO H2)
      refine ⟨rD (fsum (ds.map ratA)), rD 1, tv.dp, tO.dp, (good_rD _).shaped (by decide), (good_rD 1).shaped (by decide), ?_⟩
      rw [eqv_rD]
      have z := q H2 (s1.trans s2)
      have ez : prA (.tup ds) W = decide (fsum (ds.map ratA) = 1) := by
        show ((decide (ds.length = W) && ds.all chA) && _) = _
        rw [ec.1, ec.2, Bool.true_and, Bool.true_and]
      rw [ez] at z
      exact z
end
end Tl
/-! tables and tests, judged at things of any kind -/
namespace Tl
open PySem PySem.Spec PyProof.Rows L2 RZ
def fstA : AD → AD
  | .tup (x :: _) => x
  | _ => .oth none
def payA (W : Nat) (tb : AD → Bool) : AD → Bool
  | .tup [ps, t] => arA frA ps W && tb t
  | _ => false
def askA {n : Nat} (pay : AD → An n → Bool) : AD → Qn n → Bool
  | .tup [c, .tup rows], q => chA c && (decide (rows.length = q.length) && (List.zipWith pay rows q).all id)
  | _, _ => false
def tbA (W : Nat) : (n : Nat) → Nd n → AD → Bool
  | 0, _, .tup xs => decide (xs.length = 0)
  | 0, _, _ => false
  | n + 1, qs, .tup xs => decide (xs.length = (show List (Qn n) from qs).length) && ((List.zipWith (askA fun r (a : An n) => payA W (tbA W n a.2.2) r) xs (show List (Qn n) from qs)).all id && decide (fsum (xs.map fun x => ratA (fstA x)) ≤ 1))
  | _ + 1, _, _ => false
def payAt (W n : Nat) (r : AD) (a : An n) : Bool := payA W (tbA W n a.2.2) r
theorem two_of {ds : List AD} (h : ds.length = 2) : ∃ x y, ds = [x, y] := by
  match ds, h with
  | [x, y], _ => exact ⟨x, y, rfl⟩
theorem two_v {xs : List V} (h : xs.length = 2) : ∃ x y, xs = [x, y] := by
  match xs, h with
  | [x, y], _ => exact ⟨x, y, rfl⟩
theorem payA_two {W : Nat} {tb : AD → Bool} {ds : List AD} (h : ds.length ≠ 2) : payA W tb (.tup ds) = false := by
  match ds, h with
  | [], _ => rfl
  | [_], _ => rfl
  | [_, _], h => exact absurd rfl h
  | _ :: _ :: _ :: _, _ => rfl
theorem askA_two {n : Nat} {pay : AD → An n → Bool} {q : Qn n} {ds : List AD} (h : ds.length ≠ 2) : askA pay (.tup ds) q = false := by
  match ds, h with
  | [], _ => rfl
  | [_], _ => rfl
  | [x, y], h => exact absurd rfl h
  | x :: y :: _ :: _, _ => cases y <;> rfl
def spPayA (K : PySem.W.Frag) (n : Nat) : Sp := fun vs H Q _ => ∃ (b g : Addr) (W : Nat) (v u : V) (d : AD) (a : An n), vs = [v, u, .int (W : Int)] ∧ Ad K b g H v d ∧ BdA d ∧ Td K H u (anD n a) ∧ W ≤ 5 ∧ NdOk W n a.2.1 a.2.2 ∧ ∀ H', Same H H' → Q (.bl (payAt W n d a)) H'
def spAskA (K : PySem.W.Frag) : Nat → Sp
  | 0 => fun _ _ _ _ => False
  | n + 1 => fun vs H Q _ => ∃ (b g : Addr) (W : Nat) (v u : V) (d : AD) (q : Qn n), vs = [v, u, .int (W : Int)] ∧ Ad K b g H v d ∧ BdA d ∧ Td K H u (qnD n q) ∧ W ≤ 5 ∧ q.length ≤ 12 ∧ (∀ a ∈ q, NdOk W n a.2.1 a.2.2) ∧ ∀ H', Same H H' → Q (.bl (askA (payAt W n) d q)) H'
def spTbA (K : PySem.W.Frag) (n : Nat) : Sp := fun vs H Q _ => ∃ (b g : Addr) (W : Nat) (v u : V) (d : AD) (ahead : List Rat) (t : Nd n), vs = [v, u, .int (W : Int)] ∧ Ad K b g H v d ∧ BdA d ∧ Td K H u (ndD n t) ∧ W ≤ 5 ∧ NdOk W n ahead t ∧ ∀ H', Same H H' → Q (.bl (tbA W n t d)) H'
section
variable {P : Program} {w : World} {K : PySem.W.Frag} {mg : Str → Option Value} {base : Heap} {aN aO : Addr} {t1 t2 t3 t4 t5 t6 t7 : Tok}
end
end Tl
/-! dicts whose keys are tuples of tuples: get with a default, a walk over items() -/
namespace Tl
open PySem PySem.Spec PyProof.Rows L2 RZ
def tDGet2N (K : PySem.W.Frag) (w : World) (td ty tx : TE) : TE := fun σ H Q => td σ H fun x H1 => ∃ d n f, x = .ref d ∧ NDc K w H1 d n f ∧ ty σ H1 fun y H2 => tx σ H2 fun z H3 => ∃ k n3, NDc K w H3 d n3 f ∧ Td K H3 y (NestedKey.data k) ∧ (∃ b, y = .ref b) ∧ k.depth ≤ 8 ∧ Q ((f k).getD z) H3
section
variable {X : Cx} {K : PySem.W.Frag} {w : World} (hK : X.K = K) (hw : X.w = w)
include hK hw
theorem k_dget2N {o e e2 : Expr} {td ty tx : TE} {apos cpos : Pos} (hu : X.A.units + 64 < cLine) (ho : PE X o td) (he : PE X e ty) (hf : PE X e2 tx) (m : M2 X o "get" apos e e2 cpos) : PE X (.Call (.Attribute o "get" apos) [e, e2] [] cpos) (tDGet2N K w td ty tx) := by
  subst hK hw
  refine ⟨fun pins s σ H Q I h => ?_⟩
  refine wpAny_Call_method m.base m.few m.line PySem.F.plainAttrs_dict PySem.F.slot_dict_get PySem.F.type_dict_get (thn (ho.run pins s σ H _ I h) fun u s1 ⟨x, H1, I1, rx, d, n, f, ex, D, q1⟩ => ?_)
  subst ex
  obtain rfl : u = Value.ref d := rx
  obtain ⟨xs, dd, _, hsm, _⟩ := D.of I1
  refine ⟨dd.typeIs, fun b q => ?_, ?_⟩
  · cases q
    obtain ⟨ob, _, _, h1, h2, _⟩ := dd
    exact ⟨ob, h1, h2.2.1⟩
  rw [m.trees]
  refine Calls.callWith_builtin rfl (Calls.evalArgs_plain (Calls.spliced_cons (thn (he.run pins s1 σ H1 _ I1 q1) fun iv s2 ⟨y, H2, I2, ry, q2⟩ =>
    Calls.spliced_cons (thn (hf.run pins s2 σ H2 _ I2 q2) fun fv s3 ⟨z, H3, I3, rz, k, n3, D3, tk, hb, hd, q3⟩ => Calls.spliced_nil ?_))))
  obtain ⟨b, rfl⟩ := hb
  cases (show iv = Value.ref b from ry)
  obtain ⟨xs3, dd3, _, hsm3, _, _, _, h6⟩ := D3.of I3
  refine call_meetsIn PySem.F.slot_dict_get dd3.typeIs PySem.F.entry_dict_get (PySem.F.args_dict_get_3 _ _ _) (meetsH_dict_get_default (nestedKind X.prog X.w) d b hsm3 fv) ⟨?_, k, xs3, ⟨nested_is I3 k _ _ tk rfl, hd⟩, dd3, ?_⟩
  · show X.A.in1.units + 8 < cLine
    have : X.A.in1.units = X.A.units + 1 := rfl
    omega
  · exact ⟨_, H3, I3.tok _, (h6 k).getD rz, q3⟩
end
/-- the pairs of the locked dict at d, each a new tuple -/
def ItN (w : World) (d : Addr) (od : Obj) (xs : List (NestedKey × Addr × Value)) (f : NestedKey → Option V) : It :=
  ⟨fun i H => H d = some (.frz od (ndo w d xs)) ∧ i < xs.length, fun i H x H' => ∃ T y v, xs[i]? = some y ∧ f y.1 = some v ∧ x = .ref T ∧ H T = none ∧ H' = upd H T (.tup [.ref y.2.1, v]), fun i H => H d = some (.frz od (ndo w d xs)) ∧ xs.length ≤ i⟩
theorem walk_itemsN {w : World} {d : Addr} {od : Obj} {xs : List (NestedKey × Addr × Value)} {f : NestedKey → Option V} : Walk (ItN w d od xs f) xs.length (fun H => H d = some (.frz od (ndo w d xs))) (fun i H x H' => ∃ T y v, xs[i]? = some y ∧ f y.1 = some v ∧ x = .ref T ∧ H T = none ∧ H' = upd H T (.tup [.ref y.2.1, v])) :=
  ⟨fun i H hi h => ⟨h, hi⟩, fun H h => ⟨h, Nat.le_refl _⟩, fun i H x H' _ _ y => y⟩
theorem atKey_mem {xs : List (NestedKey × Addr × Value)} (nd : (xs.map (·.1)).Nodup) : ∀ {y}, y ∈ xs → atKey xs y.1 = some y.2 := by
  induction xs with
  | nil => intro y h; exact absurd h List.not_mem_nil
  | cons x r ih =>
    intro y h
    rw [List.map_cons, List.nodup_cons] at nd
    rw [atKey_cons]
    rcases List.mem_cons.mp h with rfl | h
    · rw [if_pos rfl]
    · rw [if_neg (fun z : x.1 = y.1 => nd.1 (by rw [z]; exact List.mem_map.mpr ⟨y, h, rfl⟩))]
      exact ih nd.2 h
theorem inv_frzN {X : Cx} {pins : List (Addr × Obj)} {σ : L2.St} {H : Hp} {s : Shared} {d : Addr} {od : Obj} {xs : List (NestedKey × Addr × Value)} (I : Inv X pins σ H s) (h : H d = some (.frz od (ndo X.w d xs))) :
    s.heap.get? d = some od ∧ od.ExactDict ∧ ∃ es ep, od.data = .dict es ep ∧ es.size = xs.length ∧ ∀ i y, xs[i]? = some y → ∃ hi : i < es.size, es[i].key = .ref y.2.1 ∧ es[i].val = y.2.2 := by
  obtain ⟨hd, ⟨o, es, ep, e1, e2, e3, e4⟩, _⟩ := I.hok d _ h
  rw [hd] at e1
  cases e1
  have hl : es.size = xs.length := by rw [← Array.length_toList, e4, List.length_map]
  refine ⟨hd, e2, es, ep, e3, hl, fun i y hy => ?_⟩
  have hi : i < es.size := by rw [hl]; exact (List.getElem?_eq_some_iff.mp hy).1
  have e := congrArg (fun l => l[i]?) e4
  simp only [List.getElem?_map, hy, Option.map_some, Array.getElem?_toList, Array.getElem?_eq_getElem hi] at e
  have e' := Option.some.inj e
  exact ⟨hi, by rw [e'], by rw [e']⟩
theorem turn_itemsN {P : Program} {w : World} {K : PySem.W.Frag} {d : Addr} {od : Obj} {xs : List (NestedKey × Addr × Value)} {f : NestedKey → Option V} {elts : List Expr} {kk : Nat} {tpos : Pos} {es : Array DictEntry} {ep : Nat} (it : Addr) (hod : od.data = .dict es ep) (nd : (xs.map (·.1)).Nodup) (hf6 : ∀ k, RelO (f k) ((atKey xs k).map (·.2))) :
    Turn P w K (.Tuple elts kk tpos) (ItN w d od xs f) [it] it (fun i h => ∃ ok ov, IsItemIter h it d i xs.length ep ok ov) where
  mem := by simp
  obj := fun i h st b hb => by
    have e : b = it := by simpa using hb
    subst e
    obtain ⟨ok, ov, e⟩ := st
    exact ⟨_, e, fun v z => nomatch z⟩
  keep := fun i h h' st k => let ⟨ok, ov, e⟩ := st; ⟨ok, ov, k it (by simp) _ e⟩
  item := by
    intro X hP hw hK hc i pins s σ H E I hf st hg
    subst hP hw hK
    obtain ⟨hd, hi⟩ := hg
    obtain ⟨hgd, hx, es', ep', hdt, hsz, ent⟩ := inv_frzN I hd
    obtain ⟨rfl, rfl⟩ := dict_ep hod hdt
    obtain ⟨y, hy⟩ : ∃ p, xs[i]? = some p := ⟨xs[i], List.getElem?_eq_getElem hi⟩
    obtain ⟨hi2, ek, ev⟩ := ent i y hy
    obtain ⟨v, hv, ru⟩ : ∃ v, f y.1 = some v ∧ RelV v y.2.2 := by
      have z := hf6 y.1
      rw [atKey_mem nd (List.mem_of_getElem? hy)] at z
      cases e : f y.1 with
      | none =>
        rw [e] at z
        exact absurd z id
      | some v =>
        rw [e] at z
        exact ⟨v, rfl, z⟩
    obtain ⟨ok, ov, he⟩ := st
    rw [← hsz] at he
    have hlt : it < s.heap.objs.size := Heap.lt_size he
    refine wpAny_pyNext_items_item_raw he ⟨od, hgd, hx, hod⟩ hi2 fun h' ho hT hz hk => ?_
    rw [ek, ev] at ho hT
    refine ⟨_, rfl, wpAny_letOwnedTupleGo_items (s := { s with heap := h' }) ho fun h'' he' sb => ?_⟩
    have hT2 : h''.get? s.heap.objs.size = some { cls := .type "tuple", data := .seq #[.ref y.2.1, y.2.2] } := (sb.2 _ (Nat.ne_of_gt hlt)).trans hT
    have new : ObjOk X.prog X.w (upd H s.heap.objs.size (.tup [.ref y.2.1, v])) h'' s.heap.objs.size (.tup [.ref y.2.1, v]) :=
      ⟨by show 2 ≤ sizeLine; decide, [.ref y.2.1, y.2.2], .cons rfl (.cons ru .nil), ⟨_, hT2, rfl, _, rfl⟩⟩
    have I1 : Inv X pins σ (upd H s.heap.objs.size (.tup [.ref y.2.1, v])) { s with heap := h'' } :=
      I.turnedNew (t' := s.toks) (ch := [it]) (fun b ob hb e => (sb.2 b (by simpa using hb)).trans (hk b ob (by simpa using hb) e)) hf (Nat.le_refl _) new
    refine ⟨.ref s.heap.objs.size, _, I1, rfl, ⟨_, y, v, hy, hv, rfl, I.hok.fresh (Nat.le_refl _), rfl⟩, ⟨.ref y.2.1, y.2.2, ?_⟩, fun b hb => ?_⟩
    · rw [← hsz]; exact he'
    · have e : b = it := by simpa using hb
      rw [e, upd_ne (Nat.ne_of_lt hlt)]
      exact (hf it (by simp)).1
  done := by
    intro X hP hw hK hc i pins s σ H E I hf st hg
    subst hP hw hK
    obtain ⟨hd, hi⟩ := hg
    obtain ⟨f0, f1, f2, f3, f4, f5⟩ := hf it (by simp)
    obtain ⟨hgd, hx, es', ep', hdt, hsz, ent⟩ := inv_frzN I hd
    obtain ⟨rfl, rfl⟩ := dict_ep hod hdt
    obtain ⟨ok, ov, he⟩ := st
    rw [← hsz] at he
    exact wpAny_pyNext_items_end_raw (I.ok.hd hc) he ⟨od, hgd, hx, hod⟩ (by omega) fun h' eb => ⟨rfl, I.turned (t' := s.toks) (fun b ob hb e => eb b ob hb e) f0 f1 f3 f4 f5⟩
  self := fun A i s Q E st h => let ⟨_, _, e⟩ := st; PySem.W.kcp_self e h
def iItemsN (w : World) (td : TE) : TI := fun σ H R => td σ H fun x H1 => ∃ d xs f, x = .ref d ∧ H1 d = some (ndo w d xs) ∧ (d == sysModules) = false ∧ (xs.map (·.1)).Nodup ∧ (∀ k, RelO (f k) ((atKey xs k).map (·.2))) ∧ ∀ od, R (ItN w d od xs f) (upd H1 d (.frz od (ndo w d xs)))
section
variable {X : Cx} {K : PySem.W.Frag} {w : World} (hK : X.K = K) (hw : X.w = w)
include hK hw
theorem k_itemsN {e : Expr} {td : TE} {apos cpos : Pos} {elts : List Expr} {kk : Nat} {tpos : Pos} (he : PE X e td) (hbase : attributeBase e "items" X.env (eval e X.env) = eval e X.env := by rfl) (hline : (apos.endLine == cpos.line) = true := by rfl) :
    PI X (.Tuple elts kk tpos) (.Call (.Attribute e "items" apos) [] [] cpos) (iItemsN w td) := by
  subst hK hw
  refine ⟨fun pins s σ H R I h => ?_⟩
  refine wpAny_Call_method (T := "dict") (id := "dict.items") hbase rfl hline F.plainAttrs_dict F.slot_dict_items F.type_dict_items (thn (he.run pins s σ H _ I h) fun u s1 ⟨x, H0, I0, rx, d, xs, f, ex, hd0, hs, nd, hf6, q0⟩ => ?_)
  subst ex
  obtain rfl : u = Value.ref d := rx
  obtain ⟨o, I1⟩ := I0.lock hd0 True.intro
  have q := q0 o
  have hd : upd H0 d (.frz o (ndo X.w d xs)) d = some (.frz o (ndo X.w d xs)) := upd_same
  generalize upd H0 d (.frz o (ndo X.w d xs)) = H1 at I1 q hd
  obtain ⟨hgd, hx, es, ep, hdt, hsz, ent⟩ := inv_frzN I1 hd
  have raw : s1.heap.DictRaw d es ep := ⟨o, hgd, hx, hdt⟩
  refine ⟨raw.typeIs, fun b q => by cases q; exact ⟨o, hgd, hx.2.1⟩, ?_⟩
  have I2 : Inv X pins σ H1 { s1 with heap := s1.heap.push { cls := .type "dict_items", data := .fields #[.ref d] } } := I1.kept (t' := s1.toks) fun b ob q => Heap.get?_push_of_some _ q
  have fin : wpAny (model X.prog X.w) X.A (pyIter (.ref s1.heap.objs.size)) (PIE X pins σ (.Tuple elts kk tpos) R) X.xe { s1 with heap := s1.heap.push { cls := .type "dict_items", data := .fields #[.ref d] } } := by
    refine wpAny_pyIter_items_raw (d := d) ⟨_, Heap.get?_push_size _ rfl, rfl, rfl⟩ (raw.at fun o q => Heap.get?_push_of_some _ q) (pi_one (tk := s1.toks) I2 _ (turn_itemsN _ hdt nd hf6) ⟨.none, .none, ?_⟩ q)
    rw [← hsz]
    exact Heap.get?_push_size _ rfl
  show wpAny _ _ (callWith cpos (.builtin "dict.items") [.ref d] [] []) _ X.xe s1
  exact method_meetsIn F.slot_dict_items F.entry_dict_items rfl (PySem.evalArgs_none ⟨rfl, raw.typeIs, F.args_dict_items_1 _, _, meets_dict_items_raw d hs, ⟨es, ep, raw⟩, fin⟩)
end
end Tl
/-! trees by their questions, walks along paths, the tree of two houses beside one another -/
namespace Tl
open PySem PySem.Spec PyProof.Rows L2 RZ
/-- the questions of a node -/
def qsOf : (m : Nat) → Nd m → List (Qn (m - 1))
  | 0, _ => []
  | m + 1, qs => (show List (Qn m) from qs)
theorem ndD_qs : ∀ (m : Nat) (t : Nd m), ndD m t = .tuple ((qsOf m t).map (qnD (m - 1)))
  | 0, _ => rfl
  | _ + 1, _ => rfl
theorem cnt_qs : ∀ (m : Nat) (t : Nd m), cnt m t = ((qsOf m t).map (cntQ (m - 1))).sum
  | 0, _ => rfl
  | _ + 1, _ => rfl
theorem qs_td {K : PySem.W.Frag} {H : Hp} {m : Nat} {t : Nd m} {v : V} (h : Td K H v (ndD m t)) : ∃ (a : Addr) (xs : List V), v = .ref a ∧ SqT K H a xs ∧ TdAll K H xs ((qsOf m t).map (qnD (m - 1))) := by
  rw [ndD_qs] at h
  exact h.tupE
theorem sum_mem {l : List Nat} {x : Nat} (h : x ∈ l) : x ≤ l.sum := by
  induction l with
  | nil => exact absurd h List.not_mem_nil
  | cons y r ih =>
    rw [List.sum_cons]
    rcases List.mem_cons.mp h with rfl | h
    · omega
    · have := ih h
      omega
theorem cntQ_le {m : Nat} {t : Nd m} {q : Qn (m - 1)} (h : q ∈ qsOf m t) : cntQ (m - 1) q ≤ cnt m t := by
  rw [cnt_qs]
  exact sum_mem (List.mem_map_of_mem h)
theorem cntA_le {n : Nat} {q : Qn n} {a : An n} (h : a ∈ q) : 1 + cnt n a.2.2 ≤ cntQ n q := sum_mem (List.mem_map_of_mem (f := fun a : An n => 1 + cnt n a.2.2) h)
/-- along a path of questions and answers -/
inductive Wk : (n : Nat) → Nd n → List Rat → List (Nat × Nat) → (m : Nat) → Nd m → List Rat → Prop
  | nil {n : Nat} {t : Nd n} {w : List Rat} : Wk n t w [] n t w
  | cons {n : Nat} {t : Nd n} {w : List Rat} {i j : Nat} {q : Qn (n - 1)} {a : An (n - 1)} {p : List (Nat × Nat)} {m : Nat} {t' : Nd m} {w' : List Rat} :
      (qsOf n t)[i]? = some q → q[j]? = some a → Wk (n - 1) a.2.2 a.2.1 p m t' w' → Wk n t w ((i, j) :: p) m t' w'
theorem Wk.snoc {n : Nat} {t : Nd n} {w : List Rat} {p : List (Nat × Nat)} {m : Nat} {t' : Nd m} {w' : List Rat} (h : Wk n t w p m t' w') {i j : Nat} {q : Qn (m - 1)} {a : An (m - 1)} (e1 : (qsOf m t')[i]? = some q) (e2 : q[j]? = some a) :
    Wk n t w (p ++ [(i, j)]) (m - 1) a.2.2 a.2.1 := by
  induction h with
  | nil => exact .cons e1 e2 .nil
  | cons a1 a2 _ ih => exact .cons a1 a2 (ih e1 e2)
theorem Wk.len {n : Nat} {t : Nd n} {w : List Rat} {p : List (Nat × Nat)} {m : Nat} {t' : Nd m} {w' : List Rat} (h : Wk n t w p m t' w') : p.length + m ≤ n := by
  induction h with
  | nil => simp
  | @cons n t w i j q a p m t' w' a1 a2 _ ih =>
    cases n with
    | zero =>
      have z : ([] : List (Qn (0 - 1)))[i]? = some q := a1
      cases z
    | succ n =>
      rw [List.length_cons]
      have : n + 1 - 1 = n := rfl
      omega
/-- a path as data -/
def ptD (p : List (Nat × Nat)) : PyData := .tuple (p.map fun x => .tuple [.int (x.1 : Int), .int (x.2 : Int)])
theorem ptD_snoc (p : List (Nat × Nat)) (x : Nat × Nat) : ptD (p ++ [x]) = .tuple ((p.map fun x => .tuple [.int (x.1 : Int), .int (x.2 : Int)]) ++ [.tuple [.int (x.1 : Int), .int (x.2 : Int)]]) := by
  unfold ptD
  rw [List.map_append]
  rfl
/-! ### right weights all over a tree -/
def WsAll (W e : Nat) : (n : Nat) → Nd n → Prop
  | 0, _ => True
  | n + 1, qs => ∀ q ∈ (show List (Qn n) from qs), ∀ a ∈ q, a.1.length ≤ 8 ∧ a.2.1.length = W ∧ (∀ r ∈ a.2.1, Ch e r) ∧ WsAll W e n a.2.2
theorem WsAll.at_ {W e : Nat} : ∀ {n : Nat} {t : Nd n}, WsAll W e n t → ∀ q ∈ qsOf n t, ∀ a ∈ q, a.1.length ≤ 8 ∧ a.2.1.length = W ∧ (∀ r ∈ a.2.1, Ch e r) ∧ WsAll W e (n - 1) a.2.2
  | 0, _, _ => fun q hq => absurd hq List.not_mem_nil
  | _ + 1, _, h => h
theorem wsAll_of {W : Nat} : ∀ {n : Nat} {ahead : List Rat} {t : Nd n}, NdOk W n ahead t → WsAll W 6 n t
  | 0, _, _, _ => trivial
  | n + 1, _, _, h => fun q hq a ha => ⟨((h.2 q hq).1.words a ha).1, (h.2 q hq).1.wide a ha, (h.2 q hq).1.chs a ha, wsAll_of ((h.2 q hq).2 a ha)⟩
theorem WsAll.walk {W e : Nat} {n : Nat} {t : Nd n} {w : List Rat} {p : List (Nat × Nat)} {m : Nat} {t' : Nd m} {w' : List Rat} (h : Wk n t w p m t' w') (o : WsAll W e n t) (hl : w.length = W) (hc : ∀ r ∈ w, Ch e r) : WsAll W e m t' ∧ w'.length = W ∧ ∀ r ∈ w', Ch e r := by
  induction h with
  | nil => exact ⟨o, hl, hc⟩
  | cons a1 a2 _ ih =>
    obtain ⟨_, h1, h2, h3⟩ := o.at_ _ (List.mem_of_getElem? a1) _ (List.mem_of_getElem? a2)
    exact ih h3 h1 h2
theorem ones_len (W : Nat) : (ones W).length = W := by
  unfold ones
  rw [List.length_replicate]
/-! ### beside one another -/
def mulW (a b : List Rat) : List Rat := List.zipWith (· * ·) a b
theorem mulW_ones (W : Nat) : mulW (ones W) (ones W) = ones W := by
  unfold mulW ones
  induction W with
  | zero => rfl
  | succ n ih =>
    rw [List.replicate_succ, List.zipWith_cons_cons, ih, Rat.one_mul]
theorem mulW_len {W : Nat} {a b : List Rat} (h1 : a.length = W) (h2 : b.length = W) : (mulW a b).length = W := by
  unfold mulW
  rw [List.length_zipWith]
  omega
/-- the one house's question first -/
def bsN : (k m n : Nat) → Nd m → Nd n → List Rat → List Rat → Nd k
  | 0, _, _, _, _, _, _ => ()
  | k + 1, m, n, t, o, w, ow => ((qsOf m t).map (fun q => q.map fun a => ((0 :: a.1, mulW a.2.1 ow, bsN k (m - 1) n a.2.2 o a.2.1 ow) : An k)) ++ (qsOf n o).map (fun q => q.map fun a => ((1 :: a.1, mulW w a.2.1, bsN k m (n - 1) t a.2.2 w a.2.1) : An k)) : List (Qn k))
def bs1 (k m n : Nat) (o : Nd n) (ow : List Rat) (a : An (m - 1)) : An k := (0 :: a.1, mulW a.2.1 ow, bsN k (m - 1) n a.2.2 o a.2.1 ow)
def bs2 (k m n : Nat) (t : Nd m) (w : List Rat) (a : An (n - 1)) : An k := (1 :: a.1, mulW w a.2.1, bsN k m (n - 1) t a.2.2 w a.2.1)
theorem bsN_succ (k m n : Nat) (t : Nd m) (o : Nd n) (w ow : List Rat) : bsN (k + 1) m n t o w ow = ((qsOf m t).map (fun q => q.map (bs1 k m n o ow)) ++ (qsOf n o).map (fun q => q.map (bs2 k m n t w)) : List (Qn k)) := rfl
theorem qs_bsN (k m n : Nat) (t : Nd m) (o : Nd n) (w ow : List Rat) (h : m + n ≤ k) : qsOf k (bsN k m n t o w ow) = (qsOf m t).map (fun q => q.map (bs1 (k - 1) m n o ow)) ++ (qsOf n o).map (fun q => q.map (bs2 (k - 1) m n t w)) := by
  cases k with
  | zero =>
    obtain rfl : m = 0 := by omega
    obtain rfl : n = 0 := by omega
    rfl
  | succ k => rfl
/-- both parts of a path -/
theorem bs_walk {k m n : Nat} {t : Nd m} {o : Nd n} {w ow : List Rat} (hk : m + n ≤ k) {i j : Nat} {q : Qn (k - 1)} {a : An (k - 1)} (e1 : (qsOf k (bsN k m n t o w ow))[i]? = some q) (e2 : q[j]? = some a) :
    (i < (qsOf m t).length ∧ 1 ≤ m ∧ ∃ q1 a1, (qsOf m t)[i]? = some q1 ∧ q1[j]? = some a1 ∧ a = bs1 (k - 1) m n o ow a1) ∨
    (¬ i < (qsOf m t).length ∧ 1 ≤ n ∧ ∃ q1 a1, (qsOf n o)[i - (qsOf m t).length]? = some q1 ∧ q1[j]? = some a1 ∧ a = bs2 (k - 1) m n t w a1) := by
  rw [qs_bsN k m n t o w ow hk] at e1
  by_cases hi : i < (qsOf m t).length
  · refine .inl ⟨hi, ?_, ?_⟩
    · cases m with
      | zero => exact absurd hi (Nat.not_lt_zero _)
      | succ m => omega
    · rw [List.getElem?_append_left (by rw [List.length_map]; exact hi), List.getElem?_map] at e1
      obtain ⟨q1, h1, rfl⟩ := Option.map_eq_some_iff.mp e1
      rw [List.getElem?_map] at e2
      obtain ⟨a1, h2, rfl⟩ := Option.map_eq_some_iff.mp e2
      exact ⟨q1, a1, h1, h2, rfl⟩
  · refine .inr ⟨hi, ?_, ?_⟩
    · cases n with
      | zero =>
        rw [List.getElem?_append_right (by rw [List.length_map]; omega)] at e1
        have z : ([] : List (Qn (k - 1)))[i - ((qsOf m t).map fun q => q.map (bs1 (k - 1) m 0 o ow)).length]? = some q := e1
        cases z
      | succ n => omega
    · rw [List.getElem?_append_right (by rw [List.length_map]; omega), List.length_map, List.getElem?_map] at e1
      obtain ⟨q1, h1, rfl⟩ := Option.map_eq_some_iff.mp e1
      rw [List.getElem?_map] at e2
      obtain ⟨a1, h2, rfl⟩ := Option.map_eq_some_iff.mp e2
      exact ⟨q1, a1, h1, h2, rfl⟩
/-! ### how many -/
def bnR (f : Nat → Nat) : Nat → Nat
  | 0 => 1
  | b + 1 => f (b + 1) + bnR f b
def bn : Nat → Nat → Nat
  | 0 => fun _ => 1
  | a + 1 => bnR (bn a)
theorem bn_pos : ∀ a b : Nat, 1 ≤ bn a b
  | 0, _ => Nat.le_refl _
  | _ + 1, 0 => Nat.le_refl _
  | a + 1, b + 1 => by
    have := bn_pos a (b + 1)
    show 1 ≤ bn a (b + 1) + bnR (bn a) b
    omega
theorem sum_map_le {α : Type} (f g : α → Nat) : ∀ l : List α, (∀ x ∈ l, f x ≤ g x) → (l.map f).sum ≤ (l.map g).sum
  | [], _ => Nat.le_refl _
  | x :: r, h => by
    rw [List.map_cons, List.map_cons, List.sum_cons, List.sum_cons]
    have h1 := h x (List.mem_cons_self ..)
    have h2 := sum_map_le f g r fun y hy => h y (List.mem_cons_of_mem _ hy)
    omega
theorem sum_map_mul {α : Type} (f : α → Nat) (c : Nat) : ∀ l : List α, (l.map fun x => f x * c).sum = (l.map f).sum * c
  | [] => by simp
  | x :: r => by rw [List.map_cons, List.map_cons, List.sum_cons, List.sum_cons, sum_map_mul f c r, Nat.add_mul]
theorem sum_map_congr {α : Type} (f g : α → Nat) : ∀ l : List α, (∀ x ∈ l, f x = g x) → (l.map f).sum = (l.map g).sum
  | [], _ => rfl
  | x :: r, h => by
    rw [List.map_cons, List.map_cons, List.sum_cons, List.sum_cons, h x (List.mem_cons_self ..), sum_map_congr f g r fun y hy => h y (List.mem_cons_of_mem _ hy)]
theorem cntQ_map_le {k n : Nat} (f : An n → An k) (c : Nat) (q : Qn n) (h : ∀ a ∈ q, 1 + cnt k (f a).2.2 ≤ (1 + cnt n a.2.2) * c) : cntQ k (q.map f) ≤ cntQ n q * c := by
  unfold cntQ
  rw [List.map_map, ← sum_map_mul]
  exact sum_map_le _ _ _ h
theorem cnt_bs : ∀ (k m n : Nat) (t : Nd m) (o : Nd n) (w ow : List Rat), m + n ≤ k → cnt k (bsN k m n t o w ow) + 1 ≤ (cnt m t + 1) * (cnt n o + 1) * bn m n
  | 0, m, n, t, o, w, ow, h => by
    have b := bn_pos m n
    have : 1 ≤ (cnt m t + 1) * (cnt n o + 1) * bn m n := Nat.mul_pos (Nat.mul_pos (Nat.succ_pos _) (Nat.succ_pos _)) b
    exact this
  | k + 1, m, n, t, o, w, ow, h => by
    rw [cnt_qs, qs_bsN _ _ _ _ _ _ _ h, List.map_append, List.sum_append, List.map_map, List.map_map]
    have l1 : ∀ m', m = m' + 1 → ((qsOf m t).map (cntQ (k + 1 - 1) ∘ fun q => q.map (bs1 (k + 1 - 1) m n o ow))).sum ≤ cnt m t * ((cnt n o + 1) * bn m' n) := by
      intro m' e
      subst e
      rw [cnt_qs (m' + 1), ← sum_map_mul]
      refine sum_map_le _ _ _ fun q hq => cntQ_map_le _ _ q fun a ha => ?_
      have := cnt_bs k m' n a.2.2 o a.2.1 ow (by omega)
      rw [Nat.mul_assoc] at this
      show 1 + cnt k (bsN k m' n a.2.2 o a.2.1 ow) ≤ _
      rw [Nat.add_comm, Nat.add_comm 1]
      exact this
    have l2 : ∀ n', n = n' + 1 → ((qsOf n o).map (cntQ (k + 1 - 1) ∘ fun q => q.map (bs2 (k + 1 - 1) m n t w))).sum ≤ cnt n o * ((cnt m t + 1) * bn m n') := by
      intro n' e
      subst e
      rw [cnt_qs (n' + 1), ← sum_map_mul]
      refine sum_map_le _ _ _ fun q hq => cntQ_map_le _ _ q fun a ha => ?_
      have := cnt_bs k m n' t a.2.2 w a.2.1 (by omega)
      rw [Nat.mul_comm (cnt m t + 1), Nat.mul_assoc] at this
      show 1 + cnt k (bsN k m n' t a.2.2 w a.2.1) ≤ _
      rw [Nat.add_comm, Nat.add_comm 1]
      exact this
    have z1 : m = 0 → ((qsOf m t).map (cntQ (k + 1 - 1) ∘ fun q => q.map (bs1 (k + 1 - 1) m n o ow))).sum = 0 ∧ cnt m t = 0 := by
      intro e
      subst e
      exact ⟨rfl, rfl⟩
    have z2 : n = 0 → ((qsOf n o).map (cntQ (k + 1 - 1) ∘ fun q => q.map (bs2 (k + 1 - 1) m n t w))).sum = 0 ∧ cnt n o = 0 := by
      intro e
      subst e
      exact ⟨rfl, rfl⟩
    generalize ((qsOf m t).map (cntQ (k + 1 - 1) ∘ fun q => q.map (bs1 (k + 1 - 1) m n o ow))).sum = x at l1 z1 ⊢
    generalize ((qsOf n o).map (cntQ (k + 1 - 1) ∘ fun q => q.map (bs2 (k + 1 - 1) m n t w))).sum = y at l2 z2 ⊢
    generalize cnt m t = c at l1 l2 z1 z2 ⊢
    generalize cnt n o = d at l1 l2 z1 z2 ⊢
    cases m with
    | zero =>
      obtain ⟨rfl, rfl⟩ := z1 rfl
      cases n with
      | zero =>
        obtain ⟨rfl, rfl⟩ := z2 rfl
        decide
      | succ n =>
        have := l2 n rfl
        rw [show bn 0 n = 1 by cases n <;> rfl] at this
        rw [show bn 0 (n + 1) = 1 from rfl]
        omega
    | succ m =>
      cases n with
      | zero =>
        obtain ⟨rfl, rfl⟩ := z2 rfl
        have := l1 m rfl
        have e : bn m 0 = 1 := by cases m <;> rfl
        rw [e] at this
        rw [show bn (m + 1) 0 = 1 from rfl]
        omega
      | succ n =>
        have h1 := l1 m rfl
        have h2 := l2 n rfl
        rw [show bn (m + 1) (n + 1) = bn m (n + 1) + bn (m + 1) n from rfl]
        have b1 := bn_pos m (n + 1)
        generalize bn m (n + 1) = B1 at h1 b1 ⊢
        generalize bn (m + 1) n = B2 at h2 ⊢
        have e : (c + 1) * (d + 1) * (B1 + B2) = c * ((d + 1) * B1) + (d + 1) * B1 + d * ((c + 1) * B2) + (c + 1) * B2 := by grind
        have : 1 ≤ (d + 1) * B1 := Nat.mul_pos (Nat.succ_pos _) b1
        omega
/-! ### chains -/
def chN (W : Nat) : (m : Nat) → Nd m
  | 0 => ()
  | m + 1 => ([[([(m : Int)], ones W, chN W m)]] : List (Qn m))
theorem cnt_ch (W : Nat) : ∀ m : Nat, cnt m (chN W m) = m
  | 0 => rfl
  | m + 1 => by
    show 1 + cnt m (chN W m) + 0 + 0 = _
    rw [cnt_ch W m]
    omega
/-- how many paths two chains beside one another have -/
def chR (f : Nat → Nat) : Nat → Nat
  | 0 => 1 + f 0
  | b + 1 => 1 + f (b + 1) + chR f b
def chs : Nat → Nat → Nat
  | 0 => fun b => b + 1
  | a + 1 => chR (chs a)
theorem qs_ch0 (W : Nat) : qsOf 0 (chN W 0) = [] := rfl
theorem qs_ch (W m : Nat) : qsOf (m + 1) (chN W (m + 1)) = [[([(m : Int)], ones W, chN W m)]] := rfl
theorem cnt_bs_ch (W : Nat) : ∀ (k m n : Nat) (w ow : List Rat), m + n ≤ k → cnt k (bsN k m n (chN W m) (chN W n) w ow) + 1 = chs m n
  | 0, m, n, w, ow, h => by
    obtain rfl : m = 0 := by omega
    obtain rfl : n = 0 := by omega
    rfl
  | k + 1, m, n, w, ow, h => by
    rw [cnt_qs, qs_bsN _ _ _ _ _ _ _ h, List.map_append, List.sum_append, List.map_map, List.map_map]
    cases m with
    | zero =>
      cases n with
      | zero => rfl
      | succ n =>
        have := cnt_bs_ch W k 0 n w (ones W) (by omega)
        show 0 + ((1 + cnt k (bsN k 0 n (chN W 0) (chN W n) w (ones W)) + 0) + 0) + 1 = n + 1 + 1
        have e : chs 0 n = n + 1 := rfl
        omega
    | succ m =>
      have h1 := cnt_bs_ch W k m n (ones W) ow (by omega)
      cases n with
      | zero =>
        show ((1 + cnt k (bsN k m 0 (chN W m) (chN W 0) (ones W) ow) + 0) + 0) + 0 + 1 = 1 + chs m 0
        omega
      | succ n =>
        have h2 := cnt_bs_ch W k (m + 1) n w (ones W) (by omega)
        show ((1 + cnt k (bsN k m (n + 1) (chN W m) (chN W (n + 1)) (ones W) ow) + 0) + 0) + ((1 + cnt k (bsN k (m + 1) n (chN W (m + 1)) (chN W n) w (ones W)) + 0) + 0) + 1 = 1 + chs m (n + 1) + chR (chs m) n
        have e : chs (m + 1) n = chR (chs m) n := rfl
        omega
theorem ch_ok (W : Nat) (w1 : 1 ≤ W) : ∀ m : Nat, m ≤ 99 → NdOk W m (ones W) (chN W m)
  | 0, _ => trivial
  | m + 1, hm => by
    refine ⟨by show 1 ≤ 5; decide, fun q hq => ?_⟩
    have e : q = [([(m : Int)], ones W, chN W m)] := List.mem_singleton.mp hq
    subst e
    have one : ∀ {a : An m}, a ∈ ([([(m : Int)], ones W, chN W m)] : Qn m) → a = ([(m : Int)], ones W, chN W m) := fun h => List.mem_singleton.mp h
    refine ⟨⟨Nat.le_refl _, by show 1 ≤ 12; decide, fun a ha => ?_, fun i x y e1 e2 => ?_, fun a ha => ?_, fun a ha r hr => ?_, fun j hj => ?_⟩, fun a ha => ?_⟩
    · rw [one ha]
      refine ⟨by show 1 ≤ 8; decide, fun x hx => ?_⟩
      rw [List.mem_singleton.mp hx]
      omega
    · have : i + 1 < 1 := (List.getElem?_eq_some_iff.mp e2).1
      omega
    · rw [one ha]
      exact ones_len W
    · rw [one ha] at hr
      exact ones_ch r hr
    · show fsum [(ones W).getD j 0] = _
      rw [fsum_cons, fsum_nil, Rat.add_zero]
    · rw [one ha]
      exact ch_ok W w1 m (by omega)
end Tl
/-! tables and tests at things of any kind -/
namespace Tl
open PySem PySem.Spec PyProof.Rows L2 RZ
theorem tbA_qs (W n : Nat) (t : Nd n) (ds : List AD) : tbA W n t (.tup ds) = (decide (ds.length = (qsOf n t).length) && ((List.zipWith (askA (payAt W (n - 1))) ds (qsOf n t)).all id && decide (fsum (ds.map fun x => ratA (fstA x)) ≤ 1))) := by
  cases n with
  | succ n => rfl
  | zero =>
    cases ds with
    | nil =>
      show true = (true && (true && decide (fsum [] ≤ 1)))
      rw [fsum_nil]
      decide
    | cons x r =>
      show decide (r.length + 1 = 0) = (decide (r.length + 1 = 0) && _)
      rw [decide_eq_false (by omega), Bool.false_and]
theorem askA_is {n : Nat} {pay : AD → An n → Bool} {d : AD} {q : Qn n} (h : askA pay d q = true) : ∃ c rows, d = .tup [c, .tup rows] ∧ chA c = true := by
  cases d with
  | int i => cases h
  | oth => cases h
  | tup ds =>
    by_cases l : ds.length = 2
    · obtain ⟨c, r, rfl⟩ := two_of l
      cases r with
      | int _ => cases h
      | oth => cases h
      | tup rows =>
        have h : (chA c && _) = true := h
        rw [Bool.and_eq_true] at h
        exact ⟨c, rows, rfl, h.1⟩
    · rw [askA_two l] at h
      cases h
theorem all_zip {α β : Type} {f : α → β → Bool} : ∀ {xs : List α} {ys : List β}, xs.length = ys.length → (List.zipWith f xs ys).all id = true → ∀ x ∈ xs, ∃ y ∈ ys, f x y = true
  | [], _, _, _, x, hx => absurd hx List.not_mem_nil
  | _ :: _, [], l, _, _, _ => by simp at l
  | a :: xs, b :: ys, l, h, x, hx => by
    rw [List.zipWith_cons_cons, List.all_cons, Bool.and_eq_true] at h
    rcases List.mem_cons.mp hx with rfl | hx
    · exact ⟨b, List.mem_cons_self .., h.1⟩
    · obtain ⟨y, hy, e⟩ := all_zip (by simpa using l) h.2 x hx
      exact ⟨y, List.mem_cons_of_mem _ hy, e⟩
theorem rat_le {q : Rat} : decide (q.num ≤ (q.den : Int)) = decide (q ≤ 1) := by
  refine decide_eq_decide.mpr ⟨fun h => (Rat.le_iff q 1).mpr ?_, rat_le_one⟩
  have c : (1 : Rat).num = 1 := rfl
  have d : (1 : Rat).den = 1 := rfl
  rw [c, d]
  omega
theorem qok_at {W n : Nat} {ahead : List Rat} {t : Nd n} (h : NdOk W n ahead t) : (qsOf n t).length ≤ 5 ∧ ∀ q ∈ qsOf n t, q.length ≤ 12 ∧ ∀ a ∈ q, NdOk W (n - 1) a.2.1 a.2.2 := by
  cases n with
  | zero => exact ⟨Nat.zero_le _, fun q hq => absurd hq List.not_mem_nil⟩
  | succ n => exact ⟨h.1, fun q hq => ⟨(h.2 q hq).1.most, (h.2 q hq).2⟩⟩
/-- the judge of tests -/
def tsA (W n : Nat) (t : Nd n) : AD → Bool
  | .tup [p, x] => prA p W && tbA W n t x
  | _ => false
theorem tsA_two {W n : Nat} {t : Nd n} {ds : List AD} (h : ds.length ≠ 2) : tsA W n t (.tup ds) = false := by
  match ds, h with
  | [], _ => rfl
  | [_], _ => rfl
  | [_, _], h => exact absurd rfl h
  | _ :: _ :: _ :: _, _ => rfl
def spTsA (K : PySem.W.Frag) (Cc : Addr) (n : Nat) : Sp := fun vs H Q _ => ∃ (b g p : Addr) (W : Nat) (v u : V) (d : AD) (ahead : List Rat) (t : Nd n), vs = [.ref p, v] ∧ HouseAt Cc H p W u ∧ Ad K b g H v d ∧ BdA d ∧ Td K H u (ndD n t) ∧ W ≤ 5 ∧ NdOk W n ahead t ∧ ∀ H', Same H H' → Q (.bl (tsA W n t d)) H'
section
variable {P : Program} {w : World} {K : PySem.W.Frag} {mg : Str → Option Value} {base : Heap} {aN aO : Addr} {t1 t2 t3 t4 t5 t6 t7 : Tok}
end
end Tl
/-! the law's own judges at things of any kind: fractions, totals -/
namespace Tl
open PySem PySem.Spec PyProof.Rows L2 RZ
def spLFr (K : PySem.W.Frag) : Sp := fun vs H Q _ => ∃ (b g : Addr) (v : V) (d : AD), vs = [v] ∧ Ad K b g H v d ∧ ∀ H', Same H H' → Q (.bl (frA d)) H'
/-- up to five fractions of any bottoms, in a list or a tuple -/
def spLTo (K : PySem.W.Frag) : Sp := fun vs H Q _ => ∃ (r : Addr) (us : List V) (rs : List Rat), vs = [.ref r] ∧ (SqL K H r us ∨ SqT K H r us) ∧ TdAll K H us (rs.map rD) ∧ rs.length ≤ 1000 ∧ (∀ x ∈ rs, Sg x) ∧ ∀ v H', Same H H' → Td K H' v (rD (fsum rs)) → Q v H'
theorem inA_all {ds : List AD} (h : ds.length = 2) : (ds.map inA).all id = true ↔ ∃ x y, ds = [.int x, .int y] := by
  obtain ⟨d1, d2, rfl⟩ := two_of h
  constructor
  · intro z
    cases d1 <;> cases d2 <;> first | exact ⟨_, _, rfl⟩ | cases z
  · rintro ⟨x, y, e⟩
    rw [e]
    rfl
theorem fr_no {ds : List AD} (h : ¬ ∃ x y, ds = [.int x, .int y]) : frA (.tup ds) = false := by
  cases e : frA (.tup ds) with
  | false => rfl
  | true =>
    obtain ⟨x, y, z⟩ := fr_pair e
    cases z
    exact absurd ⟨x, y, rfl⟩ h
theorem fsum_denA : ∀ {rs : List Rat} {D : Nat}, 0 < D → (∀ x ∈ rs, x.den ∣ D) → (fsum rs).den ∣ D
  | [], _, _, _ => by
    rw [fsum_nil]
    exact Nat.one_dvd _
  | r :: rs, D, hD, h => by
    rw [fsum_cons]
    exact add_den_dvd (h r (List.mem_cons_self ..)) (fsum_denA hD fun x hx => h x (List.mem_cons_of_mem _ hx)) hD
theorem fsum_bd : ∀ {rs : List Rat} {m : Nat}, (∀ x ∈ rs, Bd x m) → Bd (fsum rs) (rs.length * m)
  | [], m, _ => by
    rw [fsum_nil]
    exact bd_zero
  | r :: rs, m, h => by
    rw [fsum_cons, List.length_cons, Nat.add_mul, Nat.one_mul, Nat.add_comm]
    exact bd_add (h r (List.mem_cons_self ..)) (fsum_bd fun x hx => h x (List.mem_cons_of_mem _ hx))
theorem fsum_sm {rs : List Rat} (l : rs.length ≤ 1000) (h : ∀ x ∈ rs, Sg x) : Sm (fsum rs) := by
  have ll1 : LL ≤ 2 ^ 186 := by decide +kernel
  have d3 : (fsum rs).den ≤ LL := Nat.le_of_dvd (by decide) (fsum_denA (by decide) fun x hx => (h x hx).2.2)
  have b := bd_num (fsum_bd fun x hx => bd_of_num (h x hx).2.1)
  have c : rs.length * 2 ^ 130 * (fsum rs).den ≤ 2 ^ 10 * 2 ^ 130 * 2 ^ 186 := Nat.mul_le_mul (Nat.mul_le_mul_right _ (Nat.le_trans l (by decide))) (Nat.le_trans d3 ll1)
  rw [← Nat.pow_add, ← Nat.pow_add] at c
  exact ⟨Nat.lt_of_le_of_lt (Nat.le_trans d3 ll1) (Nat.pow_lt_pow_right (by decide) (by decide)), Nat.lt_of_le_of_lt (Nat.le_trans b c) (Nat.pow_lt_pow_right (by decide) (by decide))⟩
section
variable {P : Program} {w : World} {K : PySem.W.Frag} {mg : Str → Option Value} {base : Heap} {aN aO : Addr} {t1 t2 t3 t4 t5 t6 t7 : Tok}
theorem ok_law_total_a {f f1 : Addr} {fd fd1 : FuncData} (D : Dn K mg "_law_total" s_law_total ["parts"] f fd) (B : Blt mg) (C : Cst K mg aN aO t1 t2 t3 t4 t5 t6 t7)
    (D_law_plus : Dn K mg "_law_plus" s_law_plus ["one", "other"] f1 fd1) (G_law_plus : FnOk P w K mg base CX0 3 f1 fd1 ["one", "other"] (spPlus K)) : FnOk P w K mg base CX0 4 f fd ["parts"] (spLTo K) := by
  refine D.F.ok sc_law_total (fun vs H Q E h => ?_) (fun cdv A outer s H vs Q E hr h => ?_)
  · obtain ⟨r, us, rs, rfl, _⟩ := h
    rfl
  obtain ⟨r, us, rs, rfl, hS, tS, l5, hb, q⟩ := h
  have nd := sc_law_total.nd
  refine ⟨_, (pss_cons (ps_set (i := 1) nd rfl (.inl rfl) (pe_tup (pa_cons pe_int (pa_cons pe_int pa_nil))))
      (pss_cons (ps_for PassesOwn.never rfl (k_iLT (K := K) rfl (pv 0)) (pg_name (i := 2) nd rfl (.inl rfl)) (pss_one (ps_set (i := 1) nd rfl (.inl rfl) (pe_call G_law_plus (hr.mono (by omega)) (by rfl) D_law_plus.m D_law_plus.F.kp D_law_plus.b .nil pass0 (pa_cons (pv 1) (pa_cons (pv 2) pa_nil))))))
      (pss_one (ps_ret (pv 1))))), ?_⟩
  have lu : us.length = rs.length := by rw [tS.len, List.length_map]
  refine ⟨by show 2 ≤ sizeLine; decide, fun p0 n0 => ?_⟩
  have s0 := same_upd (o := .tup [.int 0, .int 1]) n0
  have hS0 : SqL K (upd H p0 (.tup [.int 0, .int 1])) r us ∨ SqT K (upd H p0 (.tup [.int 0, .int 1])) r us := hS.elim (fun h => .inl (s0.seq h)) fun h => .inr (Same.kt s0 _ _ h)
  have z0 : Td K (upd H p0 (.tup [.int 0, .int 1])) (.ref p0) (rD (fsum (rs.take 0))) := by
    rw [List.take_zero, fsum_nil]
    show Td K _ _ (.tuple [.int 0, .int 1])
    exact .tup (.inl (.inl upd_same)) (.cons (.int _) (.cons (.int _) .nil))
  refine ⟨_, rfl, r, us, rfl, hS0, fun J G w1 hG => for_it w1 (fun i σ H2 => ∃ (v : V) (o2 : Option V), σ = [some (.ref r), some v, o2] ∧ Td K H2 v (rD (fsum (rs.take i))) ∧ Same H H2 ∧ Same (upd H p0 (.tup [.int 0, .int 1])) H2) ⟨_, none, rfl, z0, s0, Same.refl _⟩ (fun i σ H2 _ h => by obtain ⟨_, _, _, _, _, s2⟩ := h; exact hG _ s2) ?_ ?_⟩
  · rintro i x σ H0 H2 hi ⟨v, o2, rfl, tv, s2, s2'⟩ ⟨rfl, e1⟩
    obtain ⟨dx, ex, tx⟩ := tS.getV e1
    obtain ⟨x', er, rfl⟩ := mapAt ex
    have hi2 : i < rs.length := (List.getElem?_eq_some_iff.mp er).1
    have hp : Sm (fsum (rs.take i)) := fsum_sm (by rw [List.length_take]; omega) fun z hz => hb z (List.mem_of_mem_take hz)
    have hx := hb x' (List.mem_of_getElem? er)
    have hx' : Sm x' := ⟨Nat.lt_trans hx.1 (Nat.pow_lt_pow_right (by decide) (by decide)), Nat.lt_trans hx.2.1 (Nat.pow_lt_pow_right (by decide) (by decide))⟩
    refine ⟨_, rfl, _, rfl, v, x, fsum (rs.take i), x', rfl, tv, tx.keep (Same.kt s2), hp, hx', fun v2 H3 s3 tv2 => ⟨v2, _, rfl, ?_, s2.trans s3, s2'.trans s3⟩⟩
    rw [List.take_add_one, er]
    show Td K H3 v2 (rD (fsum (rs.take i ++ [x'])))
    rw [fsum_snoc]
    exact tv2
  · rintro σ H2 ⟨v, o2, rfl, tv, s2, _⟩
    rw [lu, List.take_length] at tv
    exact ⟨_, rfl, q v H2 s2 tv⟩
end
end Tl
/-! the law's own judge of tables at things of any kind -/
namespace Tl
open PySem PySem.Spec PyProof.Rows L2 RZ
theorem rat_lt_num' (p q : Rat) : decide (p.num * (q.den : Int) < q.num * (p.den : Int)) = decide (p < q) := decide_eq_decide.mpr (Rat.lt_iff p q).symm
def spLBe (K : PySem.W.Frag) : Sp := fun vs H Q _ => ∃ (x y : V) (p q : Rat), vs = [x, y] ∧ Td K H x (rD p) ∧ Td K H y (rD q) ∧ Sm p ∧ Sm q ∧ Q (.bl (decide (p < q))) H
def it1 : AD → Bool
  | .tup [c, _] => frA c
  | _ => false
theorem it1_is {d : AD} (h : it1 d = true) : ∃ c r, d = .tup [c, r] ∧ frA c = true := by
  cases d with
  | int i => cases h
  | oth => cases h
  | tup ds =>
    match ds, h with
    | [], h => cases h
    | [_], h => cases h
    | [c, r], h => exact ⟨c, r, rfl, h⟩
    | _ :: _ :: _ :: _, h => cases h
theorem it1_two {ds : List AD} (h : ds.length ≠ 2) : it1 (.tup ds) = false := by
  match ds, h with
  | [], _ => rfl
  | [_], _ => rfl
  | [_, _], h => exact absurd rfl h
  | _ :: _ :: _ :: _, _ => rfl
theorem no_all {α β : Type} {f : α → β → Bool} {p : α → Bool} (k : ∀ x y, f x y = true → p x = true) : ∀ {xs : List α} {ys : List β}, xs.length = ys.length → (xs.map p).all id = false → (List.zipWith f xs ys).all id = false
  | [], [], _, h => by cases h
  | [], _ :: _, l, _ => by simp at l
  | _ :: _, [], l, _ => by simp at l
  | x :: xs, y :: ys, l, h => by
    rw [List.zipWith_cons_cons, List.all_cons]
    rw [List.map_cons, List.all_cons] at h
    cases e : f x y with
    | false => rfl
    | true =>
      rw [show id (p x) = true from k x y e, Bool.true_and] at h
      rw [show id true = true from rfl, Bool.true_and]
      exact no_all k (by simpa using l) h
theorem no_at {α β : Type} {f : α → β → Bool} : ∀ {xs : List α} {ys : List β} {i : Nat} {x : α} {y : β}, xs[i]? = some x → ys[i]? = some y → f x y = false → (List.zipWith f xs ys).all id = false
  | [], _, i, x, y, h, _, _ => by simp at h
  | _ :: _, [], i, x, y, _, h, _ => by simp at h
  | a :: xs, b :: ys, 0, x, y, h1, h2, e => by
    simp at h1 h2
    rw [List.zipWith_cons_cons, List.all_cons, h1, h2, e]
    rfl
  | a :: xs, b :: ys, i + 1, x, y, h1, h2, e => by
    rw [List.zipWith_cons_cons, List.all_cons, no_at (by simpa using h1) (by simpa using h2) e, Bool.and_false]
theorem all_of {α β : Type} {f : α → β → Bool} : ∀ {xs : List α} {ys : List β}, (∀ (i : Nat) (x : α) (y : β), xs[i]? = some x → ys[i]? = some y → f x y = true) → (List.zipWith f xs ys).all id = true
  | [], _, _ => by simp
  | _ :: _, [], _ => by simp
  | x :: xs, y :: ys, h => by
    rw [List.zipWith_cons_cons, List.all_cons, h 0 x y rfl rfl, all_of fun i x y e1 e2 => h (i + 1) x y (by simpa using e1) (by simpa using e2)]
    rfl
theorem all_at {α : Type} {p : α → Bool} {xs : List α} (h : (xs.map p).all id = true) : ∀ x ∈ xs, p x = true := fun x hx => by
  have := List.all_eq_true.mp h (p x) (List.mem_map_of_mem hx)
  exact this
theorem ask_it1 {n : Nat} {pay : AD → An n → Bool} (x : AD) (q : Qn n) (h : askA pay x q = true) : it1 x = true := by
  obtain ⟨c, rows, rfl, hc⟩ := askA_is h
  exact ch_is hc
theorem ask_it2 {n : Nat} {pay : AD → An n → Bool} (x : AD) (q : Qn n) (h : askA pay x q = true) : chA (fstA x) = true := by
  obtain ⟨c, rows, rfl, hc⟩ := askA_is h
  exact hc
def spLTb (K : PySem.W.Frag) (n : Nat) : Sp := fun vs H Q _ => ∃ (b g : Addr) (W : Nat) (v u : V) (d : AD) (ahead : List Rat) (t : Nd n), vs = [.int (W : Int), u, v] ∧ Ad K b g H v d ∧ BdA d ∧ Td K H u (ndD n t) ∧ W ≤ 5 ∧ NdOk W n ahead t ∧ ∀ H', Same H H' → Q (.bl (tbA W n t d)) H'
section
variable {P : Program} {w : World} {K : PySem.W.Frag} {mg : Str → Option Value} {base : Heap} {aN aO : Addr} {t1 t2 t3 t4 t5 t6 t7 : Tok}
theorem ok_law_below_a {f : Addr} {fd : FuncData} (D : Dn K mg "_law_below" s_law_below ["one", "other"] f fd) (B : Blt mg) (C : Cst K mg aN aO t1 t2 t3 t4 t5 t6 t7) : FnOk P w K mg base CX0 1 f fd ["one", "other"] (spLBe K) := by
  refine D.F.ok sc_law_below (fun vs H Q E h => ?_) (fun cdv A outer s H vs Q E hr h => ?_)
  · obtain ⟨x, y, p, q, rfl, _⟩ := h
    rfl
  obtain ⟨x, y, p, q, rfl, hx, hy, z1, z2, k⟩ := h
  have nd := sc_law_below.nd
  refine ⟨_, (pss_one (ps_ret (pe_cmpR op_lt (pe_op op_mulW (pe_ix (k_ixT (K := K) rfl) (pv 0) pe_int (fun _ _ => rfl)) (pe_ix (k_ixT (K := K) rfl) (pv 1) pe_int (fun _ _ => rfl))) (pe_op op_mulW (pe_ix (k_ixT (K := K) rfl) (pv 1) pe_int (fun _ _ => rfl)) (pe_ix (k_ixT (K := K) rfl) (pv 0) pe_int (fun _ _ => rfl))) (nomark _)))), ?_⟩
  obtain ⟨a, rfl, ha⟩ := hx.rE
  obtain ⟨b, rfl, hb⟩ := hy.rE
  have i0 : atI [V.int p.num, .int (p.den : Int)] 0 = some (.int p.num) := at_of (j := 0) rfl rfl
  have i1 : atI [V.int p.num, .int (p.den : Int)] 1 = some (.int (p.den : Int)) := at_of (j := 1) rfl rfl
  have j0 : atI [V.int q.num, .int (q.den : Int)] 0 = some (.int q.num) := at_of (j := 0) rfl rfl
  have j1 : atI [V.int q.num, .int (q.den : Int)] 1 = some (.int (q.den : Int)) := at_of (j := 1) rfl rfl
  have dp : ((p.den : Int)).natAbs < 2 ^ 3300 := by rw [Int.natAbs_natCast]; exact z1.1
  have dq : ((q.den : Int)).natAbs < 2 ^ 3300 := by rw [Int.natAbs_natCast]; exact z2.1
  have c1 : CMulW p.num (q.den : Int) := wide_mul z1.2 dq (by decide) (by decide) (by decide)
  have c2 : CMulW q.num (p.den : Int) := wide_mul z2.2 dp (by decide) (by decide) (by decide)
  refine ⟨_, rfl, a, _, 0, _, rfl, rfl, ha, i0, _, rfl, b, _, 1, _, rfl, rfl, hb, j1, _, _, rfl, rfl, c1, _, rfl, b, _, 0, _, rfl, rfl, hb, j0, _, rfl, a, _, 1, _, rfl, rfl, ha, i1, _, _, rfl, rfl, c2, _, _, rfl, rfl, ?_⟩
  show Q (.bl (decide (p.num * (q.den : Int) < q.num * (p.den : Int)))) H
  rw [rat_lt_num']
  exact k
end
end Tl
/-! the law's own judge of tests at things of any kind -/
namespace Tl
open PySem PySem.Spec PyProof.Rows L2 RZ
def spLTs (K : PySem.W.Frag) (n : Nat) : Sp := fun vs H Q _ => ∃ (b g : Addr) (W : Nat) (v u : V) (d : AD) (ahead : List Rat) (t : Nd n), vs = [.int (W : Int), u, v] ∧ Ad K b g H v d ∧ BdA d ∧ Td K H u (ndD n t) ∧ W ≤ 5 ∧ NdOk W n ahead t ∧ ∀ H', Same H H' → Q (.bl (tsA W n t d)) H'
section
variable {P : Program} {w : World} {K : PySem.W.Frag} {mg : Str → Option Value} {base : Heap} {aN aO : Addr} {t1 t2 t3 t4 t5 t6 t7 : Tok}
end
end Tl
/-! try with several clauses, each with a name; raise X(); items() and list() of dicts of ints -/
namespace Tl
open PySem PySem.Spec PyProof.Rows L2 RZ
/-- what named clauses wish, one behind the other: the class, the slot, the suite -/
def wTry (K : PySem.W.Frag) (Wout : WX) (D : Ends) : List (Value × Nat × (Addr → Value → Option Addr → TS)) → WX
  | [] => Wout
  | x :: r => wAs K x.1 x.2.1 x.2.2 (wTry K Wout D r) D
inductive TryOk (X : Cx) : List ExceptHandler → List (Value × Nat × (Addr → Value → Option Addr → TS)) → Prop
  | nil : TryOk X [] []
  | cons {x n : Str} {c : Value} {i : Nat} {ts : Addr → Value → Option Addr → TS} {s0 : Stmt} {ss : List Stmt} {p p' : Pos} {hs : List ExceptHandler} {l : List (Value × Nat × (Addr → Value → Option Addr → TS))} :
      Names X x c → X.N[i]? = some n → X.env.kindOf n = some .local →
      (∀ (a : Addr) (oe : Obj) (cls : Value) (d : Option Addr) (pn : List (Addr × Obj)), Zc cls d oe → (∃ vs, oe.data = .fields vs) → PSs (X.suite a ((a, oe) :: pn)) (s0 :: ss) (ts a cls d)) →
      TryOk X hs l → TryOk X (.ExceptHandler (some (.Name x p)) (some n) (s0 :: ss) p' :: hs) ((c, i, ts) :: l)
section
variable {X : Cx} {Wout : WX} {D : Ends} {pins : List (Addr × Obj)} {σ : L2.St} {H : Hp} {s₀ : Shared} {e : Addr} {G : Heap} {cls : Value} {d : Option Addr}
/-- the clauses, the exception being on the ground -/
theorem tries_go (hst : X.stack = X.env :: X.outer) (hfm : X.env.frame = some X.env.locals) (nod : X.N.Nodup) (tk : Takes X Wout) (J : Inv X pins σ H s₀) (gr : ∀ b o, s₀.heap.get? b = some o → b ∉ frs X.stack → G.get? b = some o) (na : H e = none) :
    ∀ {hs : List ExceptHandler} {l : List (Value × Nat × (Addr → Value → Option Addr → TS))}, TryOk X hs l → wTry X.K Wout D l cls d σ H →
      ∀ st : Shared, HandSPX.FlyingZ G (X.env :: X.outer) e (Zc cls d) st.heap → s₀.heap.UpToSlots st.heap → st.os = s₀.os → AllBare st.gens →
        wpAny (model X.prog X.w) X.A (handleBy (.ref e) X.env hs) (SP X pins D) X.xe st := by
  intro hs l ok
  induction ok with
  | nil =>
    intro wish st fly up eos gb
    obtain ⟨_, _, _, obj, vals, T, _, _, atE, _, dat, one, _⟩ := id fly
    refine wpAny_handleBy_nil ?_
    unfold PySem.passOn
    refine wpAny_bind (wpAny_field atE dat one ?_)
    have nn : ¬ ((Value.ref T == Value.none) = true) := by simp
    rw [if_neg nn, hfm]
    have away : wpAny (model X.prog X.w) X.A (setFlight (.ref e) (some X.env.locals)) (fun _ s4 => wpAny (model X.prog X.w) X.A (throw (.ref e) : Sem Flow) (SP X pins D) X.xe s4) X.xe st :=
      HandSPX.setFlight_upZ fly fun h4 held up4 => wpAny_throw (tk _ _ ⟨e, G, s₀, pins, σ, H, cls, d, rfl, J, gr, up.trans up4, .inr (.inr (by rw [hst]; exact held)), na, eos, gb, wish⟩)
    first
      | exact wpAny_bind (wpAny_pure (wpAny_bind away))
      | exact wpAny_bind away
  | @cons x n c i ts s0 ss p p' hs l nam hi loc su rest ih =>
    intro wish st fly up eos gb
    obtain ⟨b, hb, yes, no⟩ := wish
    obtain ⟨obj, vals, atE, zc, dat⟩ := fly.there
    have J1 : Inv X pins σ H st := J.landed gr fly.1 up eos gb
    have far : e ∉ frs (X.env :: X.outer) := fun mem => by
      obtain ⟨_, obj', at', other⟩ := fly.2.2.1.mem mem
      rw [atE] at at'
      cases at'
      exact other _ dat
    have notL : e ≠ X.env.locals := fun z => far (List.mem_filterMap.mpr ⟨X.env, List.mem_cons_self, by rw [hfm, z]⟩)
    have notF : e ∉ X.fs := fun mem => by
      obtain ⟨env, h1, h2⟩ := List.mem_filterMap.mp mem
      exact far (List.mem_filterMap.mpr ⟨env, List.mem_cons_of_mem _ h1, h2⟩)
    have S1 := J1.suite atE dat na notL notF
    have ty : PySem.W.Looks (model X.prog X.w) st.heap (typeOf (.ref e)) cls := fun A Q E s k q => wpAny_typeOf_ref (k _ _ atE) (by rw [zc.1]; exact q)
    refine wpAny_handleBy_cons (codeAny_handlers_test ?_) (by intro q; cases q)
    have look : ∀ {Q : Value → Shared → Prop} {E : Value → Shared → Prop}, Q c st → wpAny (model X.prog X.w) (X.A.mark (some (.ref e))) (eval (.Name x p) X.env) Q E st := fun {Q E} q => by
      obtain ⟨g1, g2, g3 | ⟨g3, g4, g5⟩⟩ := nam
      · exact ld_glob (X := X.suite e ((e, obj) :: (X.pn ++ pins))) S1 g1 g3 q g2
      · exact ld_blt (X := X.suite e ((e, obj) :: (X.pn ++ pins))) S1 g1 g3 g4 q g5 g2
    refine look ((PySem.W.exm_one (M := model X.prog X.w) J1.kIn ty hb).here ?_)
    cases b with
    | false => exact ih (no rfl) st fly up eos gb
    | true =>
      refine codeAny_handlers_suite_as (HandSPX.lands_againZ fly fun h4 fly4 up4 => ?_)
      obtain ⟨obj4, vals4, at4, zc4, dat4⟩ := fly4.there
      have J4 : Inv X pins σ H { st with heap := h4 } := J.landed gr fly4.1 (up.trans up4) eos gb
      have S4 := J4.suite at4 dat4 na notL notF
      refine store_ok (X := X.suite e ((e, obj4) :: (X.pn ++ pins))) (v := .ref e) S4 nod hi (.inl loc) rfl (fun s5 S5 => ?_) (.inr loc)
      refine wpAny_mono ((su e obj4 cls d (X.pn ++ pins) zc4 ⟨_, dat4⟩).run [] s5 _ H _ S5 (yes rfl e na)) (fun f s6 hsp => ?_) fun _ _ z => z.elim
      have bye : ∀ {σ6 : L2.St} {H6 : Hp} {Q : Shared → Prop}, Inv (X.suite e ((e, obj4) :: (X.pn ++ pins))) [] σ6 H6 s6 → (∀ s7, Inv X pins (σ6.set i none) H6 s7 → Q s7) →
          wpAny (model X.prog X.w) X.A (do bindName X.env n .none; unbindBehindTheSuite X.env n p') (fun _ s7 => Q s7) X.xe s6 := fun S6 hq => gone_ok (S6.unsuite J.ok) nod hi loc hq
      cases f with
      | ret u =>
        obtain ⟨v6, σ6, H6, S6, r6, q6⟩ := hsp
        exact bye S6 fun s7 J7 => ⟨v6, _, _, J7, r6, q6⟩
      | next =>
        obtain ⟨_, _, S6, q6⟩ := hsp
        exact bye S6 fun s7 J7 => ⟨_, _, J7, q6⟩
      | brk =>
        obtain ⟨_, _, S6, q6⟩ := hsp
        exact bye S6 fun s7 J7 => ⟨_, _, J7, q6⟩
      | cont =>
        obtain ⟨_, _, S6, q6⟩ := hsp
        exact bye S6 fun s7 J7 => ⟨_, _, J7, q6⟩
end
section
variable {X : Cx} {body : List Stmt} {h₀ : ExceptHandler} {hs : List ExceptHandler} {l : List (Value × Nat × (Addr → Value → Option Addr → TS))} {pos : Pos} {tb : WX → TS} {Wout : WX}
theorem ps_tries (hst : X.stack = X.env :: X.outer) (hfm : X.env.frame = some X.env.locals) (nod : X.N.Nodup) (tk : Takes X Wout)
    (hb : ∀ (W : WX) (pn : List (Addr × Obj)) (xe : Value → Shared → Prop), Takes (X.tr pn xe) W → PassesOwn (model X.prog X.w) X.A X.env xe → PSs (X.tr pn xe) body (tb W)) (ok : TryOk X (h₀ :: hs) l) :
    PS X (.Try body (h₀ :: hs) [] [] pos) (fun D σ H => tb (wTry X.K Wout D l) D σ H) := by
  refine ⟨fun pins s σ H D I h => wpAny_Try_except ?_⟩
  have frm : X.A.frames = some (X.env :: X.outer) := by rw [I.ok.frames, hst]
  refine wpAny_mono ((hb (wTry X.K Wout D l) (X.pn ++ pins) (fun z t1 => wpAny (model X.prog X.w) X.A (noteFrame z X.env) (fun _ t2 => wpAny (model X.prog X.w) X.A (setFlight z none) (fun _ t3 =>
    wpAny (model X.prog X.w) X.A (handleBy z X.env (h₀ :: hs)) (SP X pins D) X.xe t3) X.xe t2) X.xe t1) (fun u t xx => ?_) PassesOwn.looking).run [] s σ H D (I.toTry _) h) (fun f t hsp => ?_) fun _ _ z => z
  · obtain ⟨e, G, s₀, _, σ', H', cls, d, rfl, J', gr, up, sky, na, eos, gb, wish⟩ := xx
    have sky' : Sky G (X.env :: X.outer) e (Zc cls d) X.env.locals t.heap := by rw [← hst]; exact sky
    show wpAny (model X.prog X.w) X.A (noteFrame (.ref e) X.env) _ _ _
    exact Sky.land Zc.steady frm hfm sky' fun h3 fly up3 => tries_go hst hfm nod tk (J'.ofTry I.ok) gr na ok wish _ fly (up.trans up3) eos gb
  · cases f with
    | ret u =>
      obtain ⟨v, _, _, J', r, q⟩ := hsp
      exact ⟨v, _, _, J'.ofTry I.ok, r, q⟩
    | next =>
      obtain ⟨_, _, J', q⟩ := hsp
      exact wpAny_execs_nil ⟨_, _, J'.ofTry I.ok, q⟩
    | brk =>
      obtain ⟨_, _, J', q⟩ := hsp
      exact ⟨_, _, J'.ofTry I.ok, q⟩
    | cont =>
      obtain ⟨_, _, J', q⟩ := hsp
      exact ⟨_, _, J'.ofTry I.ok, q⟩
/-- X(), to be raised -/
theorem pmk_own0 {C : Addr} {bmB : List Value} {B newId initId : String} {x : Str} {p pos : Pos} (F : ExcBaseFacts B newId initId bmB) (q : PySem.W.excIn X.K C bmB newId = true) (gC : X.mg x = some (.ref C)) (kC : PySem.W.keepIn X.K (.ref C) = true) (r : Raises X (.ref C)) (hg : Gl X x)
    (hdb : (x == ("__debug__" : Str)) = false := by decide) : PMk X (.Call (.Name x p) [] [] pos) (fun _ H Q => Q (.ref C) none H) := by
  intro pins s σ H Q I h
  refine wpAny_Call_Name_kw (ld_glob I hg gC (PySem.W.callWith_K0 I.kIn kC ?_) hdb)
  show wpAny _ _ (call (.ref C) []) _ _ _
  obtain ⟨bm, N, nm, qn, bs, hdct, sn, sub, ab, col, dd, k0, k1, k2, k3, k5, mN, hC, hN, hni, T⟩ := exc_obj I.kIn q
  exact wpAny_call_exc_subT F T hC hN hni (fun h' e hm => mk_of I hm r h (I.hok.gone hm.new)) (by show 0 ≤ sizeLine; omega)
/-- what a callee that never raises lets out -/
theorem passN {X : Cx} : Passes (CX X.prog X.w) X (fun _ _ _ => False) := fun pins σ H s e s' I c => by
  obtain ⟨_, _, _, _, _, _, _, _, _, _, _, _, q⟩ := c
  exact q.elim
end
end Tl
/-! exceptions that are made as values and kept -/
namespace Tl
open PySem PySem.Spec PyProof.Rows L2 RZ
section
variable {X : Cx} {C : Addr} {e : Expr} {es : List Expr} {ta : TA} {te : TE} {p pos : Pos}
/-- X(), a class without own __init__ -/
def tEx0 (C : Addr) : TE := fun _ H Q => ∀ a, H a = none → Q (.ref a) (upd H a (exo a C none))
theorem pe_ex0 {bmB : List Value} {B newId initId : String} {x : Str} (F : ExcBaseFacts B newId initId bmB) (q : PySem.W.excIn X.K C bmB newId = true) (gC : X.mg x = some (.ref C)) (kC : PySem.W.keepIn X.K (.ref C) = true) (hg : Gl X x)
    (hdb : (x == ("__debug__" : Str)) = false := by decide) : PE X (.Call (.Name x p) [] [] pos) (tEx0 C) := by
  refine ⟨fun pins s σ H Q I h => ?_⟩
  refine wpAny_Call_Name_kw (ld_glob I hg gC ?_ hdb)
  refine PySem.W.callWith_K0 I.kIn kC ?_
  show wpAny _ _ (call (.ref C) []) _ _ _
  obtain ⟨bm, N, nm, qn, bs, hdct, sn, sub, ab, col, dd, k0, k1, k2, k3, k5, mN, hC, hN, hni, T⟩ := exc_obj I.kIn q
  refine wpAny_call_exc_subT F T hC hN hni (fun h' a hm => ?_) (by show 0 ≤ sizeLine; omega)
  have hn : H a = none := I.hok.gone hm.new
  obtain ⟨t, ht, _, _⟩ := hm.there
  exact ⟨.ref a, upd H a (exo a C none), I.laidN hm.keeps hm.new hn (exo_ok ht), rfl, h a hn⟩
/-- X(e, ..), the class's own __init__ keeping sp -/
def tEx1 (C : Addr) (sp : Sp) (dvs : List V) (ta : TA) : TE := fun σ H Q => ta σ H fun vs H1 => vs.length ≤ 1000 ∧ ∀ a, H1 a = none → sp (.ref a :: (vs ++ dvs)) (upd H1 a (exo a C none)) (fun v H2 => v = .non ∧ Q (.ref a) H2) (fun _ _ _ => False)
theorem pe_ex1 {CX : CXT} {x : Str} {fI : Addr} {k : Nat} {fd : FuncData} {ps : List Str} {sp : Sp} {ds : List Value} {dvs : List V} (T : OexC X.K C) (iC : PySem.W.findIn X.K (.ref C) "__init__" = some (some (.ref fI))) (tI : PySem.W.typeIn X.K (.ref fI) = some (.type "function"))
    (F1 : FnOk X.prog X.w X.K X.mg X.base CX k fI fd ps sp) (hr : Room (k + 1) X.A) (hb : Binds X.K fd ps ds) (hd : Vals dvs ds) (hx : Passes CX X (fun _ _ _ => False)) (hg : Gl X x) (hm : X.mg x = some (.ref C)) (ha : PA X (e :: es) ta)
    (hdb : (x == ("__debug__" : Str)) = false := by decide) (he : starEach (e :: es) X.env = (false, eval e X.env) :: starEach es X.env := by rfl) (hpl : (backTo pos (starEach es X.env)).any (·.1) = false := by rfl) :
    PE X (.Call (.Name x p) (e :: es) [] pos) (tEx1 C sp dvs ta) := by
  refine ⟨fun pins s σ H Q I h => ?_⟩
  obtain ⟨nm, q, N, bs, bm, sn, sub, ab, col, dd, k0, k1, k2, k3, k5, hC, hbm⟩ := T.cls
  refine wpAny_Call_Name_kw (ld_glob I hg hm ?_ hdb)
  refine PySem.W.callWith_K (h₀ := X.base) I.ok.mod.kin T.kC (thn (ha.run pos pins s σ H _ I h) fun us s1 hh => ?_) he hpl
  obtain ⟨vs, H1, I1, r1, hz, q1⟩ := hh
  refine ⟨I1.kIn, ?_⟩
  show wpAny _ _ (call (.ref C) us) _ _ _
  obtain ⟨hp, g, dr, tk, os⟩ := s1
  have big : hp.objs.size ≤ hp.objs.size + 1 := Nat.le_succ _
  have hq := q1 (hp.objs.size + 1) (I1.hok.fresh big)
  have kk : ∀ b o, hp.get? b = some o → ((hp.push (PySem.W.kdv_tup us)).push (PySem.HandSPX.excO C hp.objs.size)).get? b = some o := fun b o y => Heap.get?_push_of_some _ (Heap.get?_push_of_some _ y)
  have there : ((hp.push (PySem.W.kdv_tup us)).push (PySem.HandSPX.excO C hp.objs.size)).get? (hp.objs.size + 1) = some (PySem.HandSPX.excO C hp.objs.size) := by heap_get
  have I2 := I1.laid (t' := tk) (a := hp.objs.size + 1) (o := exo (hp.objs.size + 1) C none) (h' := (hp.push (PySem.W.kdv_tup us)).push (PySem.HandSPX.excO C hp.objs.size)) kk big (exo_ok there)
  have r2 : Vals (V.ref (hp.objs.size + 1) :: (vs ++ dvs)) (Value.ref (hp.objs.size + 1) :: (us ++ ds)) := .cons rfl (r1.append hd)
  have many : (Value.ref (hp.objs.size + 1) :: us ++ ds).length = ps.length := by
    have y := r2.length
    rw [F1.len _ _ _ _ hq] at y
    exact y.symm
  have few : us.length ≤ sizeLine := by
    rw [← Paired.length r1, sizeLine_eq]
    omega
  refine wpAny_call (PySem.HandSPX.call_own F.excBase_ValueError (fun Y => PySem.HandSPX.refsVE_contains Y bm hbm) (I1.kIn _ _ hC) (PySem.W.looks_findIn I1.kIn iC) (fun self => PySem.W.bind_fn I1.kIn self tI) few (codeAny_mono (F1.run _ X.stack _ _ ⟨Value.ref (hp.objs.size + 1) :: us, []⟩ (Value.ref (hp.objs.size + 1) :: (us ++ ds)) _ _ (fun _ _ _ => False) (hr.make C us []) (I2.env0.make C us []) (hb _ (Value.ref (hp.objs.size + 1) :: us) I2.kIn many) r2 hq) fun r s' hq' => ?_))
  cases r with
  | error er => exact hx pins σ _ _ er s' I2 hq'
  | ok fl =>
    cases fl with
    | ret u =>
      obtain ⟨v, H', I3, rv, ev, q3⟩ := I2.after hq'
      subst ev
      exact ⟨rv, ⟨V.ref (hp.objs.size + 1), H', I3, rfl, q3⟩⟩
    | next => exact hq'.elim
    | brk => exact hq'.elim
    | cont => exact hq'.elim
end
section
variable {X : Cx} {K : PySem.W.Frag} (h : X.K = K)
include h
/-- e.f of a kept exception -/
def tFldX (K : PySem.W.Frag) (te : TE) (f : Str) : TE := fun σ H Q => te σ H fun x H1 => ∃ (a C dx : Addr) (fs : List (Str × V)) (v : V), x = .ref a ∧ H1 a = some (exo a C (some dx)) ∧ H1 dx = some (exd dx fs) ∧ XfC K C ∧ PySem.W.findIn K (.ref C) f = some none ∧ fs.lookup f = some v ∧ Q v H1
theorem k_fldX {e : Expr} {te : TE} {f : Str} {pos : Pos} (he : PE X e te) (hb : attributeBase e f X.env (eval e X.env) = eval e X.env) : PE X (.Attribute e f pos) (tFldX K te f) := by
  subst h
  refine ⟨fun pins s σ H Q I h => ?_⟩
  refine attr_of hb (thn (he.run pins s σ H _ I h) fun u s1 hh => ?_)
  obtain ⟨x, H1, I1, rx, a, C, dx, fs, v, ex, ea, ed, T, hno, l, q⟩ := hh
  subst ex
  obtain rfl : u = Value.ref a := rx
  obtain ⟨t1, ho⟩ := exo_at I1.hok ea
  obtain ⟨mA, hns, hr⟩ := exd_at I1.hok ed
  obtain ⟨od, hod, hl⟩ := lookIn_ns hns
  obtain ⟨u, hu, ru⟩ := RelO.some_of (v := v) (o := mA f) (by rw [← l]; exact hr f)
  have J : PySem.W.InstAt s1.heap a { cls := .ref C, dict := some dx, data := .fields #[.ref t1, .none, .none, .none, .bool false, .none] } C (some od) := ⟨ho, rfl, rfl, hod⟩
  exact HandSPX.exc_get I1.kIn J T.ga T.gg T.exC (PySem.W.findObj_own T.hdC hno rfl (by rw [hl, hu])) (handed_of ru) ⟨v, H1, I1.tok _, ru, q⟩
/-- isinstance(e, c), e a kept exception -/
def rIsX (K : PySem.W.Frag) : List V → Hp → VK → Prop := fun xs H Q => ∃ (a D : Addr) (d : Option Addr) (c : V) (cv : Value) (b : Bool), xs = [.ref a, c] ∧ H a = some (exo a D d) ∧ (∀ dx, d = some dx → ∃ fs, H dx = some (exd dx fs)) ∧ ExcC K D ∧ (∀ u, RelV c u → u = cv) ∧ PySem.W.kitOne K (.ref D) cv = some b ∧ Q (.bl b) H
theorem k_isX : CallR X (.builtin "isinstance") (rIsX K) := by
  subst h
  intro pins s σ H xs us Q I r h
  obtain ⟨a, D, d, c, cv, b, rfl, ea, hd, T, hcv, e, q⟩ := h
  obtain ⟨u1, u2, rfl, r1, r2⟩ := vals2 r
  cases r1
  have ec := hcv _ r2
  subst ec
  obtain ⟨t1, ho⟩ := exo_at I.hok ea
  have hcl : (PySem.W.clsIn X.K D).isSome = true := by
    obtain ⟨cd, hc, _⟩ := PySem.W.any_some T.hd
    rw [hc]
    rfl
  obtain ⟨od, J⟩ : ∃ od, PySem.W.InstAt s.heap a { cls := .ref D, dict := d, data := .fields #[.ref t1, .none, .none, .none, .bool false, .none] } D od := by
    cases d with
    | none => exact ⟨none, ho, rfl, rfl, trivial⟩
    | some dx =>
      obtain ⟨fs, ed⟩ := hd dx rfl
      obtain ⟨mA, hns, _⟩ := exd_at I.hok ed
      obtain ⟨od, hod, _⟩ := lookIn_ns hns
      exact ⟨some od, ho, rfl, rfl, hod⟩
  exact PySem.W.kia_one (PySem.W.kitx_exc hcl T.hg T.hk T.hs T.ha T.hn T.ht T.hm) I.kIn J e (fun z => nomatch z) fun tk => ⟨.bl b, H, I.kept (t' := tk) fun _ _ z => z, rfl, q⟩
end
end Tl
/-! dicts of ints locked where they are made; what is known of error classes; isinstance in a suite -/
namespace Tl
open PySem PySem.Spec PyProof.Rows L2 RZ
theorem hu1 {A : Around} (h : A.units + 64 < cLine) : A.units + 1 < cLine := by omega
def tLockd (td : TE) : TE := fun σ H Q => td σ H fun x H1 => Q x H1 ∨ ∃ d u, x = .ref d ∧ H1 d = some u ∧ Mut (some u) ∧ ∀ od, Q x (upd H1 d (.frz od u))
theorem pe_lockd {X : Cx} {e : Expr} {td : TE} (he : PE X e td) : PE X e (tLockd td) := by
  refine ⟨fun pins s σ H Q I h => wpAny_mono (he.run pins s σ H _ I h) (fun u s' z => ?_) fun _ _ x => x⟩
  obtain ⟨v, H1, I1, r, q⟩ := z
  rcases q with q | ⟨d, w, rfl, h1, mu, q⟩
  · exact ⟨v, H1, I1, r, q⟩
  · obtain ⟨od, I2⟩ := I1.lock h1 mu
    exact ⟨_, _, I2, r, q od⟩
theorem pe_rev1 {X : Cx} {e : Expr} {te : TE} {k : Nat} {p1 p2 p3 pos : Pos} (he : PE X e te) : PE X (.Subscript e (.Slice none none (some (.UnaryOp .USub (.Constant (.int 1) k p1) p2)) p3) pos) (tRevL X.K te) := pe_revL he
/-! ### error classes -/
def veMro : List Value := [.type "ValueError", .type "Exception", .type "BaseException", .type "object"]
/-- an error class of the program: x its name, C its place, bm what stands behind it -/
structure XFact (K : PySem.W.Frag) (mg : Str → Option Value) (x : Str) (C : Addr) (bm : List Value) : Prop where
  g : mg x = some (.ref C)
  cls : ∃ cd, PySem.W.clsIn K C = some cd ∧ cd.mro = .ref C :: bm
  T : OexC K C
  E : ExcC K C
theorem XFact.k {K : PySem.W.Frag} {mg : Str → Option Value} {x : Str} {C : Addr} {bm : List Value} (X : XFact K mg x C bm) : PySem.W.keepIn K (.ref C) = true := X.T.kC
theorem sub_of {K : PySem.W.Frag} {mg : Str → Option Value} {x : Str} {C : Addr} {bm : List Value} (X : XFact K mg x C bm) (v : Value) : PySem.W.mroIn K C v = some ((Value.ref C :: bm).contains v) := by
  obtain ⟨cd, h1, h2⟩ := X.cls
  unfold PySem.W.mroIn
  rw [h1, Option.bind_some, h2]
  rfl
theorem kit_base {K : PySem.W.Frag} {mg : Str → Option Value} {x y : Str} {C HE : Addr} {bm : List Value} (X : XFact K mg x C (.ref HE :: veMro)) (Y : XFact K mg y HE bm) : PySem.W.kitOne K (.ref C) (.ref HE) = some true := by
  unfold PySem.W.kitOne
  by_cases e : C = HE
  · subst e
    rw [if_pos (beq_self_eq_true _)]
  · have nb : (Value.ref C == Value.ref HE) = false := beq_eq_false_iff_ne.mpr fun z => e (Value.ref.inj z)
    rw [nb, if_neg (by decide)]
    obtain ⟨cd, h1, h2⟩ := Y.cls
    show (if ((PySem.W.clsIn K HE).isSome && PySem.W.typeIn K (.ref HE) == some (.type "type")) = true then PySem.W.mroIn K C (.ref HE) else none) = some true
    rw [h1, Y.T.tyC, if_pos (by rfl), sub_of X, List.contains_cons, List.contains_cons, beq_self_eq_true, Bool.true_or, Bool.or_true]
/-- an error class that the program raises -/
structure XRs (K : PySem.W.Frag) (mg : Str → Option Value) (HE : Addr) (x : Str) (C : Addr) : Prop where
  X : XFact K mg x C (.ref HE :: veMro)
  q : PySem.W.excIn K C veMro "ValueError.__new__" = true
  ne : C ≠ HE
/-- an error of the class C, and a clause that names D -/
theorem exm_cc {K : PySem.W.Frag} {mg : Str → Option Value} {x y : Str} {C D HE : Addr} (X : XRs K mg HE x C) (Y : XRs K mg HE y D) : PySem.W.exmOne K (.ref C) (.ref D) = some (decide (C = D)) := by
  have e1 : (PySem.W.subIn K (.ref D) (.type "BaseException") == some true) = true := by rw [Y.X.E.hs]; rfl
  obtain ⟨cd, h1, h2⟩ := Y.X.cls
  have e2 : ((PySem.W.clsIn K D).isSome && PySem.W.typeIn K (.ref D) == some (.type "type")) = true := by
    rw [h1, Y.X.T.tyC]
    rfl
  show (if (PySem.W.subIn K (.ref D) (.type "BaseException") == some true) = true then (if ((PySem.W.clsIn K D).isSome && PySem.W.typeIn K (.ref D) == some (.type "type")) = true then PySem.W.subIn K (.ref C) (.ref D) else none) else none) = _
  rw [if_pos e1, if_pos e2]
  have s : PySem.W.subIn K (.ref C) (.ref D) = some ((Value.ref C :: .ref HE :: veMro).contains (.ref D)) := sub_of X.X _
  rw [s]
  by_cases e : C = D
  · subst e
    rw [List.contains_cons, beq_self_eq_true, Bool.true_or, decide_eq_true rfl]
  · have nb2 : (Value.ref D == Value.ref C) = false := beq_eq_false_iff_ne.mpr fun z => e (Value.ref.inj z).symm
    have nb3 : (Value.ref D == Value.ref HE) = false := beq_eq_false_iff_ne.mpr fun z => Y.ne (Value.ref.inj z)
    rw [List.contains_cons, List.contains_cons, nb2, nb3, decide_eq_false e]
    rfl
theorem exc_cls {K : PySem.W.Frag} {mg : Str → Option Value} {x : Str} {nm q : Str} {C N : Addr} {bs bm : List Value} {sn : List Str} {sub : List Value} {ab : Bool} {col : Option Bool} {dd : Option Addr} {k0 k1 k2 k3 k5 : Option Value} (g : mg x = some (.ref C))
    (hl : K.lookup C = some (excClassObj nm q C N bs bm true sn sub ab col dd k0 k1 k2 k3 k5 "ValueError.__new__")) (rv : PySem.HandSPX.refsVE bm = true) (be : bm.contains (.type "BaseException") = true) (ob : bm.contains (.type "object") = true)
    (sa : PySem.W.findIn K (.ref C) "__setattr__" = some (some (.builtin "object.__setattr__"))) (kp : PySem.W.keepIn K (.ref C) = true) (hg : PySem.W.findIn K (.ref C) "__getattribute__" = some (some (.builtin "BaseException.__getattribute__")))
    (hk : PySem.W.findIn K (.ref C) "__getattr__" = some none) (ha : PySem.W.findIn K (.ref C) "__class__" = some (some (.builtin "object.__class__"))) (hn : PySem.W.specialIn K (.builtin "object.__class__") "__get__" = some (some (.builtin "getset_descriptor.__get__")))
    (ht : PySem.W.takesIn K (.builtin "object.__class__") = some true) : XFact K mg x C bm := by
  have hc : ∃ cd, PySem.W.clsIn K C = some cd ∧ cd.mro = .ref C :: bm ∧ cd.hasDict = true := by
    unfold PySem.W.clsIn
    rw [hl]
    exact ⟨_, rfl, rfl, rfl⟩
  obtain ⟨cd, c1, c2, c3⟩ := hc
  have hm : ∀ v, bm.contains v = true → PySem.W.mroIn K C v = some true := fun v h => by
    unfold PySem.W.mroIn
    rw [c1, Option.bind_some, c2]
    show (if false = true then none else some ((Value.ref C :: bm).contains v)) = some true
    rw [if_neg (by decide), List.contains_cons, h, Bool.or_true]
  have ty : PySem.W.typeIn K (.ref C) = some (.type "type") := by
    show (K.lookup C).map (fun o => o.cls) = some (.type "type")
    rw [hl]
    rfl
  have hd : PySem.W.hasDictIn K C = true := by
    unfold PySem.W.hasDictIn
    rw [c1]
    exact c3
  exact ⟨g, ⟨cd, c1, c2⟩, ⟨⟨nm, q, N, bs, bm, sn, sub, ab, col, dd, k0, k1, k2, k3, k5, hl, rv⟩, sa, hm _ be, ty, kp⟩, ⟨hg, hk, hm _ be, hd, ha, hn, ht, hm _ ob⟩⟩
theorem ve_in {HE : Addr} : (Value.ref HE :: veMro).contains (.type "BaseException") = true ∧ (Value.ref HE :: veMro).contains (.type "object") = true := by
  constructor
  · rw [List.contains_cons, show veMro.contains (.type "BaseException") = true from by decide +kernel, Bool.or_true]
  · rw [List.contains_cons, show veMro.contains (.type "object") = true from by decide +kernel, Bool.or_true]
/-- isinstance(e, c) in a suite, e the suite's -/
def rIsE2 (K : PySem.W.Frag) (a : Addr) (cls : Value) (d : Option Addr) : List V → Hp → VK → Prop := fun xs H Q => ∃ D, cls = .ref D ∧ d = none ∧ ExcC K D ∧ rIsE K D a xs H Q
theorem k_isE {X : Cx} {a : Addr} {oe : Obj} {cls : Value} {d : Option Addr} {pn : List (Addr × Obj)} (hz : Zc cls d oe) (hf : ∃ vs, oe.data = .fields vs) : CallR (X.suite a ((a, oe) :: pn)) (.builtin "isinstance") (rIsE2 X.K a cls d) := by
  intro pins s σ H xs us Q I r h
  obtain ⟨D, rfl, rfl, C, h⟩ := h
  exact call_isE C hz hf pins s σ H xs us Q I r h
end Tl
/-! slices of tuples of any kind, tuples times any number, tuples backwards -/
namespace Tl
open PySem PySem.Spec PyProof.Rows L2 RZ
theorem cutV_whole {xs : List V} {lo hi : Option Int} (h : HT.sIx xs.length 0 lo = 0 ∧ HT.sIx xs.length xs.length hi = xs.length) : cutV xs lo hi = xs := by
  unfold cutV
  rw [h.1, h.2, Nat.sub_zero, List.drop_zero, List.take_length]
def rSlP (K : PySem.W.Frag) : V → Option Int → Option Int → Hp → VK → Prop := fun x lo hi H Q => ∃ a xs, x = .ref a ∧ SqT K H a xs ∧ ∀ p H', Same H H' → SqT K H' p (cutV xs lo hi) → Q (.ref p) H'
theorem k_slT {X : Cx} {K : PySem.W.Frag} (hK : X.K = K) : SlR X (rSlP K) := by
  subst hK
  intro pins s σ H x v vl vu lo hi sl Q I rx hs pl pu h
  obtain ⟨a, xs, e, hx, q⟩ := h
  refine sl_tupA pins s σ H x v vl vu lo hi sl Q I rx hs pl pu ⟨a, xs, e, hx, fun z => q a H (Same.refl _) (by rw [cutV_whole z]; exact hx), fun _ p hp => q p _ (same_upd hp) (.inl (.inl upd_same))⟩
theorem cut_init (xs : List V) : cutV xs none (some (-1)) = xs.take (xs.length - 1) := by
  unfold cutV
  have e : HT.sIx xs.length xs.length (some (-1)) = xs.length - 1 := by
    show (if (-1 : Int) < 0 then ((-1 : Int) + (xs.length : Int)).toNat else min (-1 : Int).toNat xs.length) = _
    rw [if_pos (by decide)]
    omega
  rw [HT.sIx_none, e, List.drop_zero, Nat.sub_zero]
theorem cut_last (xs : List V) : cutV xs (some (-1)) none = xs.drop (xs.length - 1) := by
  unfold cutV
  have e : HT.sIx xs.length 0 (some (-1)) = xs.length - 1 := by
    show (if (-1 : Int) < 0 then ((-1 : Int) + (xs.length : Int)).toNat else min (-1 : Int).toNat xs.length) = _
    rw [if_pos (by decide)]
    omega
  rw [HT.sIx_none, e]
  exact List.take_of_length_le (Nat.le_of_eq List.length_drop)
theorem cut_to (xs : List V) (k : Nat) : cutV xs none (some (k : Int)) = xs.take k := by
  unfold cutV
  rw [HT.sIx_none, HT.sIx_nat, List.drop_zero, Nat.sub_zero]
  by_cases h : k ≤ xs.length
  · rw [Nat.min_eq_left h]
  · have h : xs.length ≤ k := by omega
    rw [Nat.min_eq_right h, List.take_of_length_le (Nat.le_refl _), List.take_of_length_le h]
theorem cut_from (xs : List V) (k : Nat) : cutV xs (some (k : Int)) none = xs.drop k := by
  unfold cutV
  rw [HT.sIx_none, HT.sIx_nat]
  by_cases h : k ≤ xs.length
  · rw [Nat.min_eq_left h]
    exact List.take_of_length_le (Nat.le_of_eq List.length_drop)
  · have h : xs.length ≤ k := by omega
    rw [Nat.min_eq_right h, List.drop_of_length_le (Nat.le_refl _), List.drop_of_length_le h, List.take_nil]
/-! ### a tuple times any number -/
theorem mul_none_tup (l : Addr) (items : Array Value) (n : Nat) (dd : Option Addr) (sl : Array (Option Value)) (x : Int) (u : Tok) (c0 : (decide (x < -(2 ^ 63)) || decide (x ≥ 2 ^ 63)) = false) (c1 : (items.isEmpty || x == 1) = false) (c2 : (decide (x ≤ 0) || items.isEmpty) = true) :
    Meets (Builtin.«tuple.__mul__» ⟨[.ref l, .int x u], []⟩) (fun _ R s => s.heap.get? l = some { cls := .type "tuple", dict := dd, data := .seq items n, slots := sl } ∧
      R (.ok (.ret (Value.ref s.heap.objs.size))) { s with heap := s.heap.push { cls := Value.type "tuple", data := Data.seq #[] }, toks := s.toks }) :=
  .of_wp fun prog w A R s h => by
    obtain ⟨hp, g, d, tk, os⟩ := s
    obtain ⟨hl, h⟩ := h
    have f1 := AutoSeq1.idx_int
    wp_walk using wpAny_loadPart' hl
    repeat (first
      | (refine wpAny_ite_false (decide_eq_false (by rw [c0]; exact Bool.false_ne_true)) ?_; wp_walk using wpAny_loadPart' hl)
      | (refine wpAny_ite_false (decide_eq_false (by rw [c1]; exact Bool.false_ne_true)) ?_; wp_walk using wpAny_loadPart' hl)
      | (refine wpAny_ite_true (decide_eq_true c2) ?_; wp_walk using wpAny_loadPart' hl))
    exact ⟨_, rfl, h⟩
def rRepZ (K : PySem.W.Frag) : R2 := fun x y H Q => ∃ l k xs, x = .ref l ∧ y = .int k ∧ SqT K H l xs ∧ xs ≠ [] ∧ -1000 ≤ k ∧ k ≤ 1000 ∧ xs.length ≤ 1000 ∧ ∀ p H', Same H H' → SqT K H' p (List.replicate k.toNat xs).flatten → Q (.ref p) H'
theorem k_repZ {X : Cx} {K : PySem.W.Frag} (hK : X.K = K) : OpR X (binaryOp .Mult) (rRepZ K) := by
  subst hK
  intro pins s σ H x y v u Q I rx ry h
  obtain ⟨l, k, xs, rfl, rfl, hT, hne, h1, h2, hz, q⟩ := h
  by_cases hk : 1 ≤ k
  · exact op_repP pins s σ H _ _ v u Q I rx ry ⟨l, k, xs, rfl, rfl, hT, hne, hk, h2, hz, q⟩
  · cases rx
    obtain ⟨t, rfl⟩ := ry
    obtain ⟨its, r, ⟨⟨cls, dd, data, sl⟩, ho, hc, n, hd⟩, hs⟩ := I.tuple hT
    simp only at hc hd
    subst hc hd
    have hn : its.toArray.isEmpty = false := by
      cases its with
      | nil =>
        cases r
        exact absurd rfl hne
      | cons a b => rfl
    have c0 : (decide (k < -(2 ^ 63)) || decide (k ≥ 2 ^ 63)) = false := by
      rw [decide_eq_false (by omega), decide_eq_false (by omega)] <;> rfl
    have c1 : (its.toArray.isEmpty || k == 1) = false := by
      rw [hn, Bool.false_or]
      exact beq_eq_false_iff_ne.mpr (by omega)
    have c2 : (decide (k ≤ 0) || its.toArray.isEmpty) = true := by
      rw [decide_eq_true (by omega), Bool.true_or]
    refine wpAny_binaryOp_repeat_ref (T := "tuple") (U := "int") (by decide) ⟨_, ho, rfl⟩ (fun s' => typeIs_int s' k t) noFill_tuple_mul F.fills_int_mul F.slot_int_rmul repeat_tuple F.slot_int_index.lookup
      (call_meets F.slot_int_rmul (typeIs_int s k t) F.entry_int_rmul (F.args_int_rmul_2 _ _) (int_rmul_tuple k t l its.toArray n dd sl)
        ⟨ho, rfl, ⟨_, ho, rfl⟩, call_meets F.slot_tuple_mul ⟨_, ho, rfl⟩ F.entry_tuple_mul (F.args_tuple_mul_2 _ _) (mul_none_tup l its.toArray n dd sl k t c0 c1 c2) ⟨ho, ?_⟩⟩)
    have hf : H s.heap.objs.size = none := I.hok.fresh (Nat.le_refl _)
    refine ⟨.ref s.heap.objs.size, _, I.laid (t' := s.toks) (o := .tup []) (fun b ob q => Heap.get?_push_of_some _ q) (Nat.le_refl _) ?_, rfl, q _ _ (same_upd hf) ?_⟩
    · exact ⟨by show 0 ≤ sizeLine; decide, [], .nil, IsTup.new _ _⟩
    · rw [show k.toNat = 0 by omega]
      exact .inl (.inl upd_same)
/-! ### t[::-1] -/
theorem fm_congr {α β : Type} {f g : α → Option β} : ∀ (l : List α), (∀ k ∈ l, f k = g k) → l.filterMap f = l.filterMap g
  | [], _ => rfl
  | a :: r, h => by
    rw [List.filterMap_cons, List.filterMap_cons, h a (List.mem_cons_self ..), fm_congr r fun k hk => h k (List.mem_cons_of_mem _ hk)]
theorem rev_pick : ∀ l : List Value, (List.range l.length).filterMap (fun k => l[l.length - 1 - k]?) = l.reverse
  | [] => rfl
  | a :: t => by
    rw [List.length_cons, List.range_succ, List.filterMap_append, List.reverse_cons, ← rev_pick t]
    congr 1
    · refine fm_congr _ fun k hk => ?_
      have hk := List.mem_range.mp hk
      rw [show t.length + 1 - 1 - k = (t.length - 1 - k) + 1 by omega, List.getElem?_cons_succ]
    · rw [List.filterMap_cons, show t.length + 1 - 1 - t.length = 0 by omega]
      rfl
section
variable {prog : Program} {w : World} {A : Around} {E : Value → Shared → Prop} {s : Shared}
theorem applied_rev {sl : Addr} {n : Nat} {vl vu : Value} {t : Tok} {Q : Int × Int × Nat → Shared → Prop} (hs : s.heap.IsSliceOf sl vl vu (.int (-1) t)) (pl : IsPart vl none) (pu : IsPart vu none) (h : Q ((n : Int) - 1, -1, n) s) : wpAny (model prog w) A (Builtin.Slice.sliceApplied (.ref sl) (pure (n : Int))) Q E s := by
  obtain ⟨os, hos, hcs, hds⟩ := id hs
  unfold Builtin.Slice.sliceApplied Builtin.Slice.sliceFields
  refine wpAny_bind (wpAny_bind (wpAny_field hos hds (x := vl) rfl (wpAny_bind (wpAny_field hos hds (x := vu) rfl (wpAny_bind (wpAny_field hos hds (x := .int (-1) t) rfl (wpAny_pure ?_)))))))
  refine wpAny_bind (HT.slicePart_ (.int (-1) t) ?_)
  show wpAny _ _ (if ((-1 : Int) == 0) = true then _ else _) _ _ s
  rw [if_neg (by decide)]
  refine wpAny_bind (HT.slicePart_ pl (wpAny_bind (HT.slicePart_ pu (wpAny_bind (wpAny_pure ?_)))))
  show wpAny _ _ (match Builtin.Slice.sliceAdjust none none (-1) (n : Int) with | (lo, hi) => pure (lo, (-1 : Int), Builtin.Slice.slicePlaces lo hi (-1))) _ _ s
  have ea : Builtin.Slice.sliceAdjust none none (-1) (n : Int) = ((n : Int) - 1, -1) := by
    unfold Builtin.Slice.sliceAdjust
    simp
  rw [ea]
  show wpAny _ _ (pure ((n : Int) - 1, (-1 : Int), Builtin.Slice.slicePlaces ((n : Int) - 1) (-1) (-1))) _ _ s
  have ep : Builtin.Slice.slicePlaces ((n : Int) - 1) (-1) (-1) = n := by
    unfold Builtin.Slice.slicePlaces
    rw [if_neg (by decide)]
    by_cases h0 : n = 0
    · subst h0
      rfl
    · rw [if_pos (by omega)]
      show ((((n : Int) - 1 - -1 - 1) / 1 + 1).toNat) = n
      omega
  rw [ep]
  exact wpAny_pure h
theorem getItem_tuple_rev {t sl : Addr} {items : Array Value} {vl vu : Value} {tk : Tok} {Q : Value → Shared → Prop} (ht : IsTup s.heap t items) (hs : s.heap.IsSliceOf sl vl vu (.int (-1) tk)) (pl : IsPart vl none) (pu : IsPart vu none)
    (h : Q (.ref s.heap.objs.size) { s with heap := s.heap.push { cls := .type "tuple", data := .seq items.toList.reverse.toArray } }) (hsz : items.size ≤ sizeLine) : wpAny (model prog w) A (getItem (.ref t) (.ref sl)) Q E s := by
  have htake : sizeOk (.seq items.toList.reverse.toArray) := by
    show items.toList.reverse.toArray.size ≤ sizeLine
    rw [List.size_toArray, List.length_reverse, Array.length_toList]
    exact hsz
  obtain ⟨os, hos, hcs, hds⟩ := id hs
  have hTs : s.TypeIs (.ref sl) "slice" := ⟨os, hos, hcs⟩
  unfold getItem
  try with_reducible refine wpAny_holding ?_
  first | refine wpAny_bind (wpAny_pure ?_) | skip
  refine wpAny_bind (wpAny_sequenceKey ht.typeIs (by decide) ?_)
  refine wpAny_bind (wpAny_callSpecial?_slot (name := Str.ofString "__getitem__") ht.typeIs PyProof.Rows.slot_tuple_getitem
    (wpAny_call_entry PyProof.Rows.slot_tuple_getitem ht.typeIs entry_tuple_getitem ?_ (args_tuple_getitem _ _)))
  show wpAny _ _ (Builtin.Tuple.tupleItemsOf (.ref t) >>= _) _ _ s
  refine wpAny_bind (tupleItemsOf_ ht ?_)
  refine wpAny_bind (wpAny_typeOf hTs ?_)
  rw [if_pos (by decide)]
  refine wpAny_bind (applied_rev (n := items.size) hs pl pu ?_)
  show wpAny _ _ (if ((((items.size : Nat) : Int) - 1 == 0) && ((-1 : Int) == 1) && (items.size == items.size)) = true then _ else _) _ _ s
  have hno : ¬ (((((items.size : Nat) : Int) - 1 == 0) && ((-1 : Int) == 1) && (items.size == items.size)) = true) := by
    rw [show ((-1 : Int) == 1) = false from rfl, Bool.and_false, Bool.false_and]
    exact Bool.false_ne_true
  rw [if_neg hno]
  have e : ((List.range items.size).filterMap fun (k : Nat) => items[(((items.size : Nat) : Int) - 1 + (k : Int) * -1).toNat]?).toArray = items.toList.reverse.toArray := by
    congr 1
    rw [← rev_pick items.toList, Array.length_toList]
    refine fm_congr _ fun k hk => ?_
    have hk := List.mem_range.mp hk
    rw [show (((items.size : Nat) : Int) - 1 + (k : Int) * -1).toNat = items.size - 1 - k by omega]
    exact (Array.getElem?_toList).symm
  rw [e]
  first
    | exact wpAny_bind (m := Builtin.Tuple.tupleExact _) (wpAny_newObj_type (wpAny_pure ⟨_, rfl, wpAny_pure h⟩) htake)
    | exact wpAny_bind (m := Builtin.Tuple.tupleExact _) (wpAny_newObj_type (wpAny_bind (wpAny_pure (wpAny_pure ⟨_, rfl, wpAny_pure h⟩))) htake)
    | exact wpAny_bind (wpAny_bind (m := Builtin.Tuple.tupleExact _) (wpAny_newObj_type (wpAny_pure (wpAny_pure ⟨_, rfl, wpAny_pure h⟩)) htake))
    | exact wpAny_bind (wpAny_bind (m := Builtin.Tuple.tupleExact _) (wpAny_newObj_type (wpAny_pure ⟨_, rfl, wpAny_pure h⟩) htake))
end
theorem vals_rev {xs : List V} {us : List Value} (r : Vals xs us) : Vals xs.reverse us.reverse := by
  induction r with
  | nil => exact .nil
  | cons a _ ih =>
    rw [List.reverse_cons, List.reverse_cons]
    exact ih.append (.cons a .nil)
def tRevT (K : PySem.W.Frag) (te : TE) : TE := fun σ H Q => te σ H fun x H1 => ∃ a xs, x = .ref a ∧ SqT K H1 a xs ∧ ∀ p H', Same H1 H' → SqT K H' p xs.reverse → Q (.ref p) H'
theorem pe_revT {X : Cx} {K : PySem.W.Frag} (hK : X.K = K) {e : Expr} {te : TE} {k : Nat} {p1 p2 p3 pos : Pos} (he : PE X e te) : PE X (.Subscript e (.Slice none none (some (.UnaryOp .USub (.Constant (.int 1) k p1) p2)) p3) pos) (tRevT K te) := by
  subst hK
  refine ⟨fun pins s σ H Q I h => ?_⟩
  refine Subscript_ (thn (he.run pins s σ H _ I h) fun v s1 ⟨x, H1, I1, r1, q1⟩ => ?_)
  obtain ⟨a, xs, ex, hx, q⟩ := q1
  subst ex
  cases r1
  have hst : PO X (some (.UnaryOp .USub (.Constant (.int 1) k p1) p2)) (tPart (tUn (rU fun i => .int (-i)) (tC (.int 1)))) := po_some (pe_un un_neg pe_int)
  refine wpAny_Slice (thn (po_none.run pins s1 σ H1 (fun o H2 => o = none ∧ H2 = H1) I1 ⟨rfl, rfl⟩) fun vl s2 ⟨l, H2, I2, pl, el, e2⟩ => ?_)
  subst el e2
  refine thn (po_none.run pins s2 σ H2 (fun o H3 => o = none ∧ H3 = H2) I2 ⟨rfl, rfl⟩) fun vu s3 ⟨u, H3, I3, pu, eu, e3⟩ => ?_
  subst eu e3
  refine thn (hst.run pins s3 σ H3 (fun o H4 => o = some (-1) ∧ H4 = H3) I3 ⟨1, rfl, -1, rfl, rfl, rfl⟩) fun vs s4 ⟨o, H4, I4, ps, eo, e4⟩ => ?_
  subst eo e4
  have I5 : Inv X pins σ H4 { s4 with heap := s4.heap.push { cls := .type "slice", data := .fields #[vl, vu, vs] } } := I4.kept (t' := s4.toks) fun b ob q => Heap.get?_push_of_some _ q
  obtain ⟨its, r, ht, hz⟩ := I5.tuple hx
  have hlen := r.length
  cases ps with
  | int _ tk =>
  show wpAny (model X.prog X.w) X.A (subscriptTail e (.Slice none none (some (.UnaryOp .USub (.Constant (.int 1) k p1) p2)) p3) (.ref a) (.ref s4.heap.objs.size)) (EP X pins σ Q) X.xe { s4 with heap := s4.heap.push { cls := .type "slice", data := .fields #[vl, vu, .int (-1) tk] } }
  refine tail_any (ops := [.ref a, .ref s4.heap.objs.size]) ht.typeIs PyProof.Rows.slot_tuple_getitem.lookup ?_ (by with_unfolding_all rfl)
  refine getItem_tuple_rev ht (Heap.IsSliceOf.new _ vl vu (.int (-1) tk)) pl pu ?_ (by rw [List.size_toArray]; omega)
  have hf : H4 (s4.heap.push { cls := .type "slice", data := .fields #[vl, vu, .int (-1) tk] }).objs.size = none := I5.hok.fresh (Nat.le_refl _)
  refine ⟨.ref _, _, I5.laid (t' := s4.toks) (o := .tup xs.reverse) (fun b ob q => Heap.get?_push_of_some _ q) (Nat.le_refl _) ?_, rfl, q _ _ (same_upd hf) (.inl (.inl upd_same))⟩
  exact ⟨by rw [List.length_reverse]; omega, _, vals_rev r, IsTup.new _ _⟩
end Tl
/-! odd things: also dicts -/
namespace Tl
open PySem PySem.Spec PyProof.Rows L2 RZ
section
variable {prog : Program} {w : World} {A : Around} {E : Value → Shared → Prop} {s : Shared} {T : Type} [DecidableEq T] {knd : HeapKind prog w T}
/-- a dict with tuples for keys has the same pairs as itself -/
theorem pairs_self {nm : String} {a : Addr} {xs : List (T × Addr × Value)} {Q : Bool → Shared → Prop} (hu0 : knd.room A) (ha : (a == sysModules) = false) (da : s.heap.DictOfH knd a xs) (hv : ∀ x ∈ xs, ∃ b, x.2.2 = .ref b) (h : Q true s) :
    wpAny (model prog w) A (Builtin.Dict.samePairs nm a a) Q E s := by
  obtain ⟨oa, es, ep, hoa, _, hda, he, his, hn⟩ := da
  have hl : es.size = xs.length := size_of_entries he
  unfold Builtin.Dict.samePairs Builtin.Dict.showsAll
  rw [if_neg (show ¬ (a == sysModules) = true by rw [ha]; exact Bool.false_ne_true)]
  refine wpAny_bind (wpAny_pure (wpAny_bind (wpAny_pure ?_)))
  refine wpAny_bind (wpAny_dictEntries hoa hda ?_)
  dsimp only
  refine wpAny_bind (wpAny_dictEntries hoa hda ?_)
  rw [if_neg (by simp)]
  refine wpAny_bind (wpAny_dictEpoch hoa hda ?_)
  refine wpAny_bind ?_
  rw [Std.Legacy.Range.forIn_eq_forIn_range']
  simp only [Std.Legacy.Range.size, Nat.sub_zero, Nat.add_sub_cancel, Nat.div_one]
  refine wpAny_forIn_list _ (fun rest q s' => s' = s ∧ q = (none, ()) ∧ ∃ i, rest = List.range' i (es.size - i) ∧ i ≤ es.size) _ ?_ ?_ _ _ ⟨rfl, rfl, 0, by simp, Nat.zero_le _⟩
  · rintro x rest q s' ⟨rfl, rfl, i, hr, hi⟩
    have hlt : i < es.size := by
      rcases Nat.lt_or_ge i es.size with h | h
      · exact h
      · rw [Nat.sub_eq_zero_of_le h] at hr
        simp at hr
    obtain ⟨rfl, hrest⟩ : x = i ∧ rest = List.range' (i + 1) (es.size - (i + 1)) := by
      have e : es.size - i = (es.size - (i + 1)) + 1 := by omega
      rw [e, List.range'_succ] at hr
      injection hr with h1 h2
      exact ⟨h1, h2⟩
    refine wpAny_bind (wpAny_dictEntries hoa hda ?_)
    have hx : xs[x]? = some (xs[x]'(by omega)) := List.getElem?_eq_getElem _
    generalize xs[x]'(by omega) = p at hx
    obtain ⟨k, ka, v⟩ := p
    have mx := List.mem_of_getElem? hx
    obtain ⟨b, eb⟩ := hv _ mx
    have eb2 : v = .ref b := eb
    subst eb2
    have ent : es[x]? = some ⟨knd.hash k, .ref ka, .ref b⟩ := by
      rw [entry_at he x, hx]
      rfl
    rw [ent]
    show wpAny _ _ (holding [Value.ref ka, Value.ref b] _ >>= _) _ _ _
    refine wpAny_bind (wpAny_holding (wpAny_bind (wpAny_dictFind_heap hu0 (his _ mx) hoa hda he his hn (fun no => absurd hx (no x _)) fun j p hj => ?_)))
    have ej : j = x := idxH_unique hn hj hx
    subst ej
    refine wpAny_bind (wpAny_dictEntries hoa hda ?_)
    rw [ent]
    show wpAny _ _ (holding [Value.ref b] (eqBool (Value.ref b) (Value.ref b))) _ _ _
    refine wpAny_holding ((SeqAt.EqAt.same _).eqP _ _ ?_)
    show wpAny _ _ (if (!true) = true then _ else _) _ _ _
    rw [if_neg (by decide)]
    refine wpAny_bind (wpAny_dictEpoch hoa hda ?_)
    rw [if_neg (by simp)]
    exact wpAny_pure ⟨rfl, rfl, j + 1, hrest, hlt⟩
  · rintro q s' ⟨rfl, rfl, i, hr, hi⟩
    exact wpAny_pure h
theorem rc_self {a : Addr} {xs : List (T × Addr × Value)} {Q : Value → Shared → Prop} (hr : knd.room A.in1) (ha : (a == sysModules) = false) (da : s.heap.DictOfH knd a xs) (hu : A.units < cLine) (hv : ∀ x ∈ xs, ∃ b, x.2.2 = .ref b) (h : Q (.bool true) s) :
    wpAny (model prog w) A (richCompare .Eq (.ref a) (.ref a)) Q E s := by
  refine wpAny_richCompare_same_room (op := .Eq) da.typeIs da.typeIs PySem.F.slot_dict_eq (wpAny_call_entry PySem.F.slot_dict_eq da.typeIs PySem.F.entry_dict_eq ?_ (PySem.F.args_dict_eq_2 _ _)) hu
  show wpAny _ _ (Builtin.Dict.dictSlotArgs "__eq__" ⟨[.ref a, .ref a], []⟩ >>= _) _ _ s
  refine wpAny_bind ?_
  unfold Builtin.Dict.dictSlotArgs
  refine wpAny_bind (wpAny_notOrdered_dict da.typeIs ?_)
  show wpAny _ _ (pure (Value.ref a, Value.ref a)) _ _ s
  refine wpAny_pure ?_
  refine wpAny_bind (wpAny_isInstance (T := "dict") da.typeIs PySem.F.sub_dict_dict ?_)
  simp only [Bool.not_true, Bool.false_eq_true, if_false]
  refine wpAny_bind (wpAny_pure (wpAny_bind (wpAny_pure ?_)))
  refine wpAny_bind (pairs_self hr ha da hv ?_)
  refine wpAny_pure ⟨_, rfl, ?_, ?_⟩
  · exact fun x => nomatch x
  · exact h
end
/-- a thing of any kind that the laws draw, by its datum -/
inductive Od (K : PySem.W.Frag) (H : Hp) : V → PyData → Prop
  | data {v : V} {d : PyData} : Dp K H v d → d.hasDict = false → Od K H v d
  | d0 {a : Addr} : H a = some (.dK []) → Od K H (.ref a) (.dict [])
  | d1 {a b : Addr} : H a = some (.dT [([], .ref b)]) → SqT K H b [] → Od K H (.ref a) (.dict [(.tuple [], .tuple [])])
section
variable {X : Cx} {pins : List (Addr × Obj)} {σ : L2.St} {H : Hp} {s : Shared}
theorem rd_unit (I : Inv X pins σ H s) {b : Addr} (hb : SqT X.K H b []) : Reads s.heap (.ref b) (.tuple []) [] := by
  obtain ⟨its, rv, ⟨o, h1, h2, n, h3⟩, _⟩ := I.tuple hb
  cases rv
  exact .tuple h1 h2 h3 .nil
theorem Od.reads (I : Inv X pins σ H s) {v : V} {d : PyData} {u : Value} (h : Od X.K H v d) (ru : RelV v u) : ∃ as, Reads s.heap u d as ∧ (d.hasDict = true → sysModules ∉ as) := by
  cases h with
  | data hd hn =>
    obtain ⟨as, r⟩ := Dp.reads I d v u hd ru
    exact ⟨as, r, fun z => by rw [hn] at z; cases z⟩
  | d0 ha =>
    rename_i a
    cases (show u = Value.ref a from ru)
    obtain ⟨_, ne, vs, kv, o, es, ep, h1, h2, h3, _, h5, _⟩ := dk_of I.hok ha
    cases kv
    have e : es.toList = [] := by
      cases q : es.toList with
      | nil => rfl
      | cons y ys =>
        rw [q] at h5
        cases h5
    refine ⟨[a], Reads.dict (kvs := []) (as := []) (bs := []) h1 h2.1 h3 (by rw [e]; exact .nil) (by rw [e]; exact .nil), fun _ z => ?_⟩
    have z2 := List.mem_singleton.mp z
    rw [← z2, beq_self_eq_true] at ne
    cases ne
  | d1 ha hb =>
    rename_i a b
    cases (show u = Value.ref a from ru)
    obtain ⟨_, ne, xs, kt, o, es, ep, h1, h2, h3, h4, his, _⟩ := dt_of I.hok ha
    cases kt with
    | @cons _ x _ _ r t =>
      cases t
      obtain ⟨k, ka, v⟩ := x
      obtain ⟨e1, e2, e3⟩ := r
      cases (show v = Value.ref b from e3)
      have rk := rd_unit I (b := ka) (.inl (.inl e2))
      have rb := rd_unit I hb
      refine ⟨[a], Reads.dict (kvs := [(.tuple [], .tuple [])]) (as := []) (bs := []) h1 h2.1 h3 (by rw [h4]; exact .cons rk .nil) (by rw [h4]; exact .cons rb .nil), fun _ z => ?_⟩
      have z2 := List.mem_singleton.mp z
      rw [← z2, beq_self_eq_true] at ne
      cases ne
theorem repr_none : PyData.shown .none = ("None" : Str) := rfl
/-- repr of such a thing -/
def rReprO (K : PySem.W.Frag) : List V → Hp → VK → Prop := fun xs H Q => ∃ (v : V) (d : PyData), xs = [v] ∧ Od K H v d ∧ d.showable = true ∧ d.depth ≤ 60 ∧ d.shown.length ≤ sizeLine ∧ Q (.str d.shown) H
theorem cr_reprO (hu : X.A.units + 64 < cLine) (hg : X.A.guards = some []) : CallR X (.builtin "repr") (rReprO X.K) := by
  intro pins s σ H xs us Q I r h
  obtain ⟨v, d, rfl, hd, h1, h3, h4, q⟩ := h
  obtain ⟨u, rfl, ru⟩ := vals1 r
  obtain ⟨as, rd, hs⟩ := hd.reads I ru
  cases rd with
  | none => exact PySem.P.repr_of_none ⟨.str _, H, I.tok _, ⟨_, rfl⟩, q⟩
  | bool b => exact PySem.P.repr_of_bool ⟨.str _, H, I.tok _, ⟨_, rfl⟩, q⟩
  | int i t => exact PySem.P.repr_of_int (of_decide_eq_true h1) ⟨.str _, H, I.tok _, ⟨_, rfl⟩, q⟩
  | str x t => exact PySem.P.repr_of_str ⟨.str _, H, I.tok _, ⟨_, rfl⟩, q⟩ h4
  | list e1 e2 e3 e4 => exact repr_of_reads' (.list e1 e2 e3 e4) h1 hs hg (by omega) (fun _ _ e => e) (fun h' u tk hk => ⟨.str _, H, I.kept (t' := tk) hk, ⟨_, rfl⟩, q⟩) h4
  | tuple e1 e2 e3 e4 => exact repr_of_reads' (.tuple e1 e2 e3 e4) h1 hs hg (by omega) (fun _ _ e => e) (fun h' u tk hk => ⟨.str _, H, I.kept (t' := tk) hk, ⟨_, rfl⟩, q⟩) h4
  | dict e1 e2 e3 e4 e5 => exact repr_of_reads' (.dict e1 e2 e3 e4 e5) h1 hs hg (by omega) (fun _ _ e => e) (fun h' u tk hk => ⟨.str _, H, I.kept (t' := tk) hk, ⟨_, rfl⟩, q⟩) h4
/-- == of such a thing with itself -/
def rEqO (K : PySem.W.Frag) : R2 := fun x y H Q => ∃ d, x = y ∧ Od K H x d ∧ (d.hasDict = false → d.canLay0 = true ∧ d.depth ≤ 64) ∧ Q (.bl true) H
theorem op_eqO (hu : X.A.units + 64 < cLine) : OpR X (compareOp .Eq) (rEqO X.K) := by
  intro pins s σ H x y v u Q I rx ry h
  obtain ⟨d, rfl, hd, hl, q⟩ := h
  cases hd with
  | data hd hn =>
    obtain ⟨l1, l2⟩ := hl hn
    refine op_eqD hu pins s σ H x x v u Q I rx ry ⟨d, d, hd, hd, ?_, ?_, ?_⟩
    · show (d.canLay0 && decide (d.depth ≤ 64)) = true
      rw [l1, decide_eq_true l2]
      rfl
    · show (d.canLay0 && decide (d.depth ≤ 64)) = true
      rw [l1, decide_eq_true l2]
      rfl
    · rw [SeqAt.eqv_refl d l1]
      exact q
  | d0 ha =>
    rename_i a
    cases (show v = Value.ref a from rx)
    cases (show u = Value.ref a from ry)
    show wpAny (model X.prog X.w) X.A (richCompare .Eq (.ref a) (.ref a)) (EP X pins σ Q) X.xe s
    obtain ⟨_, ne, vs, kv, da⟩ := dk_of I.hok ha
    cases kv
    exact PySem.W.rcP_dicts (knd := mixKind X.prog X.w) (r := true) ne ne da da (by omega) (fun _ => .nil) _ _ ⟨.bl true, H, I, rfl, q⟩
  | d1 ha hb =>
    rename_i a b
    cases (show v = Value.ref a from rx)
    cases (show u = Value.ref a from ry)
    show wpAny (model X.prog X.w) X.A (richCompare .Eq (.ref a) (.ref a)) (EP X pins σ Q) X.xe s
    obtain ⟨_, ne, xs, kt, da⟩ := dt_of I.hok ha
    refine rc_self (knd := tupleKind (mixKind X.prog X.w)) ?_ ne da (by omega) (fun x hx => ?_) ⟨.bl true, H, I, rfl, q⟩
    · show X.A.units + 1 < cLine
      omega
    · cases kt with
      | cons r t =>
        cases t
        rw [List.mem_singleton.mp hx]
        exact ⟨b, r.2.2⟩
/-- {k: v}, k the tuple of nothing -/
def tDisp1 (tk tv : TE) : TE := fun σ H Q => ∀ p, H p = none → tk σ (upd H p (.dT [])) fun x H1 => tv σ H1 fun y H2 => ∃ a b : Addr, x = .ref a ∧ y = .ref b ∧ H2 p = some (.dT []) ∧ H2 a = some (.tup []) ∧ Q (.ref p) (upd H2 p (.dT [([], .ref b)]))
theorem pe_disp1 {k v : Expr} {tk tv : TE} {pos : Pos} (hu : X.A.units < cLine) (hk : PE X k tk) (hv : PE X v tv) : PE X (.Dict [some k] [v] pos) (tDisp1 tk tv) := by
  refine ⟨fun pins s σ H Q I q => ?_⟩
  have q1 := q _ (I.hok.fresh (Nat.le_refl s.heap.objs.size))
  have I1 := I.laid (a := s.heap.objs.size) (o := .dT []) (h' := s.heap.push { cls := .type "dict", data := .dict #[] }) (t' := s.toks) (fun _ _ q => Heap.get?_push_of_some _ q) (Nat.le_refl _) (dt_empty s.heap I.big)
  have sh := zip_pairTrees [some k] [v] X.env pos (by rfl) (by rfl)
  have ln := pairTrees_length [some k] [v] X.env pos (by rfl) (by rfl)
  have ne : pairTrees [some k] [v] X.env pos ≠ [] := fun z => by
    rw [z] at ln
    cases ln
  rw [arm_eval_Dict, sh, dictDisplay_pairs _ ne (by rw [ln]; show 1 < 17; decide)]
  refine wpAny_bind (wpAny_standAt (wpAny_bind ?_))
  refine wpAny_subDictH (knd := tupleKind (mixKind X.prog X.w)) (show X.A.units < cLine from hu) (by rw [ln]; show 1 ≤ 15; decide) ?_
  refine pairTrees_cons_walk (thn (hk.run pins _ σ _ _ I1 q1) fun u s1 z1 => ?_)
  obtain ⟨x, H1, J1, rx, q2⟩ := z1
  refine thn (hv.run pins s1 σ H1 _ J1 q2) fun u2 s2 z2 => ?_
  obtain ⟨y, H2, J2, ry, a, b, rfl, rfl, ep, ea, q3⟩ := z2
  cases (show u = Value.ref a from rx)
  cases (show u2 = Value.ref b from ry)
  refine pairTrees_nil_walk ?_
  obtain ⟨_, hd, xs0, kt0, dd⟩ := dt_of J2.hok ep
  cases kt0
  refine ⟨[([], a, .ref b)], ⟨rfl, rfl, key_of (ks := []) J2.hok ea, trivial⟩, dd, fun h' tk dd' hs => wpAny_pure ?_⟩
  have tp : ∃ q, h'.get? s.heap.objs.size = some q := let ⟨q, _, _, hq, _⟩ := dd'; ⟨q, hq⟩
  obtain ⟨o, es, ep2, h1, h2, h3, h4, h5, h6⟩ := dd'
  have na : a ≠ s.heap.objs.size := fun z => by
    rw [z, ep] at ea
    cases ea
  have new : ObjOk X.prog X.w (upd H2 s.heap.objs.size (.dT [([], .ref b)])) h' s.heap.objs.size (.dT [([], .ref b)]) :=
    ⟨(by show 1 ≤ sizeLine; decide), hd, [([], a, .ref b)], .cons ⟨rfl, by rw [upd_ne na]; exact ea, rfl⟩ .nil, o, es, ep2, h1, h2, h3, h4, h6⟩
  exact ⟨.ref s.heap.objs.size, _, d_write (t' := tk) J2 (by rw [ep]; exact True.intro) hs tp new, rfl, q3⟩
end
section
variable {X : Cx} {K : PySem.W.Frag} (h : X.K = K)
include h
theorem k_eqO (hu : X.A.units + 64 < cLine) : OpR X (compareOp .Eq) (rEqO K) := by
  subst h
  exact op_eqO hu
theorem k_reprO (hu : X.A.units + 64 < cLine) (hg : X.A.guards = some []) : CallR X (.builtin "repr") (rReprO K) := by
  subst h
  exact cr_reprO hu hg
end
end Tl
/-! an expression whose ways lead to one wish -/
namespace Tl
open PySem PySem.Spec PyProof.Rows L2 RZ
def tIfE (t : TT) (ta tb : TE) : TE := fun σ H Q => ∃ R : VK, (∀ v H', R v H' → Q v H') ∧ tIf t ta tb σ H R
theorem pe_ifExpE {X : Cx} {c a b : Expr} {pos : Pos} {tA : TT} {ta tb : TE} (hc : PT X c tA) (ha : PE X a ta) (hb : PE X b tb) : PE X (.IfExp c a b pos) (tIfE tA ta tb) := by
  refine ⟨fun pins s σ H Q I h => ?_⟩
  obtain ⟨R, hm, h'⟩ := h
  refine wpAny_mono ((pe_ifExp hc ha hb).run pins s σ H R I h') (fun u s' z => ?_) fun _ _ x => x
  obtain ⟨v, H', I', r, q⟩ := z
  exact ⟨v, H', I', r, hm v H' q⟩
end Tl
/-! ways that lead to one state -/
namespace Tl
open PySem PySem.Spec PyProof.Rows L2 RZ
/-- a statement whose ways lead to one state -/
def tJoin (t : TS) : TS := fun D σ H => ∃ R : L2.St → Hp → Prop, (∀ σ' H', R σ' H' → D.nx σ' H') ∧ t { nx := R, rt := D.rt, bk := D.bk, ct := D.ct } σ H
theorem ps_join {X : Cx} {st : Stmt} {t : TS} (h : PS X st t) : PS X st (tJoin t) := by
  refine ⟨fun pins s σ H D I h' => ?_⟩
  obtain ⟨R, hm, h'⟩ := h'
  refine wpAny_mono (h.run pins s σ H _ I h') (fun f s' z => ?_) fun _ _ x => x
  cases f with
  | ret u => exact z
  | next =>
    obtain ⟨σ', H', J, q⟩ := z
    exact ⟨σ', H', J, hm _ _ q⟩
  | brk => exact z
  | cont => exact z
end Tl
/-! odd things, drawn by displays -/
namespace Tl
open PySem PySem.Spec PyProof.Rows L2 RZ
/-- a named wish behind an expression -/
def tCut (te : TE) : TE := fun σ H Q => ∃ R : VK, te σ H R ∧ ∀ v H', R v H' → Q v H'
theorem pe_cut {X : Cx} {e : Expr} {te : TE} (h : PE X e te) : PE X e (tCut te) := by
  refine ⟨fun pins s σ H Q I h' => ?_⟩
  obtain ⟨R, h1, hm⟩ := h'
  refine wpAny_mono (h.run pins s σ H R I h1) (fun u s' z => ?_) fun _ _ x => x
  obtain ⟨v, H', I', r, q⟩ := z
  exact ⟨v, H', I', r, hm v H' q⟩
/-- a thing that is not too great -/
def Thing (K : PySem.W.Frag) (b g : Addr) (H : Hp) (v : V) : Prop := ∃ d, Ad K b g H v d ∧ BdA d
theorem Thing.keep {K : PySem.W.Frag} {b g : Addr} {H H' : Hp} {v : V} (B : Bag H b g) (f : Frm b g H H') (h : Thing K b g H v) : Thing K b g H' v := by
  obtain ⟨d, h, k⟩ := h
  exact ⟨d, h.keep B f, k⟩
theorem things_ds {K : PySem.W.Frag} {b g : Addr} {H : Hp} : ∀ {xs : List V}, (∀ x ∈ xs, Thing K b g H x) → ∃ ds : List AD, xs.length = ds.length ∧ (∀ (i : Nat) (x : V) (d : AD), xs[i]? = some x → ds[i]? = some d → Ad K b g H x d) ∧ ∀ d ∈ ds, BdA d
  | [], _ => ⟨[], rfl, fun i x d h => by simp at h, fun d h => absurd h List.not_mem_nil⟩
  | x :: xs, h => by
    obtain ⟨d, h1, h2⟩ := h x (List.mem_cons_self ..)
    obtain ⟨ds, l, k1, k2⟩ := things_ds fun y hy => h y (List.mem_cons_of_mem _ hy)
    refine ⟨d :: ds, by rw [List.length_cons, List.length_cons, l], fun i y e e1 e2 => ?_, fun e he => ?_⟩
    · match i, e1, e2 with
      | 0, e1, e2 =>
        cases e1
        cases e2
        exact h1
      | i + 1, e1, e2 => exact k1 i y e (by simpa using e1) (by simpa using e2)
    · rcases List.mem_cons.mp he with rfl | he
      · exact h2
      · exact k2 e he
theorem Thing.tup {K : PySem.W.Frag} {b g a : Addr} {H : Hp} {xs : List V} (h : SqT K H a xs) (l : xs.length ≤ 1000) (k : ∀ x ∈ xs, Thing K b g H x) : Thing K b g H (.ref a) := by
  obtain ⟨ds, l2, k1, k2⟩ := things_ds k
  exact ⟨.tup ds, .tup h l2 k1, .tup (by omega) k2⟩
theorem Thing.int {K : PySem.W.Frag} {b g : Addr} {H : Hp} {i : Int} (h : i.natAbs < 2 ^ 130 ∧ GI i) : Thing K b g H (.int i) := ⟨_, .int i, .int h.1 h.2⟩
theorem Thing.non {K : PySem.W.Frag} {b g : Addr} {H : Hp} : Thing K b g H .non := ⟨_, .non, .oth⟩
theorem Thing.bl {K : PySem.W.Frag} {b g : Addr} {H : Hp} {c : Bool} : Thing K b g H (.bl c) := ⟨_, .bl c, .oth⟩
theorem Thing.str {K : PySem.W.Frag} {b g : Addr} {H : Hp} {x : Str} : Thing K b g H (.str x) := ⟨_, .str x, .oth⟩
theorem Thing.lst {K : PySem.W.Frag} {b g a : Addr} {H : Hp} {xs : List V} (h : H a = some (.lst xs)) (n : a ≠ b) (m : a ≠ g) : Thing K b g H (.ref a) := ⟨_, .lst h n m, .oth⟩
/-- what else stands while a display is told -/
structure EnvOk (b g : Addr) (E : Hp → Prop) : Prop where
  bag : ∀ H, E H → Bag H b g
  keep : ∀ H H', E H → Frm b g H H' → Bag H' b g → E H'
theorem EnvOk.same {b g : Addr} {E : Hp → Prop} (e : EnvOk b g E) {H H' : Hp} (h : E H) (s : Same H H') : E H' := e.keep H H' h (.of s) ((e.bag H h).keep s)
/-- an expression tells a thing, whatever else stands -/
def Tel (K : PySem.W.Frag) (b g : Addr) (E : Hp → Prop) (te : TE) (σ : L2.St) : Prop := ∀ H Q, E H → (∀ v H', Thing K b g H' v → E H' → Frm b g H H' → Q v H') → te σ H Q
def Tels (K : PySem.W.Frag) (b g : Addr) (E : Hp → Prop) (n : Nat) (ta : TA) (σ : L2.St) : Prop := ∀ H R, E H → (∀ vs H', vs.length = n → (∀ x ∈ vs, Thing K b g H' x) → E H' → Frm b g H H' → R vs H') → ta σ H R
section
variable {K : PySem.W.Frag} {b g : Addr} {E : Hp → Prop} {σ : L2.St} {te : TE} {ta : TA} {n : Nat} (e : EnvOk b g E)
include e
theorem tel_c {v : V} (h : ∀ H, Thing K b g H v) : Tel K b g E (tC v) σ := fun H Q hE k => k v H (h H) hE (Frm.refl _ _ _)
theorem tel_int {i : Int} (h : i.natAbs < 2 ^ 130 ∧ GI i) : Tel K b g E (tC (.int i)) σ := tel_c e fun _ => .int h
theorem tel_non : Tel K b g E (tC .non) σ := tel_c e fun _ => .non
theorem tel_bl {c : Bool} : Tel K b g E (tC (.bl c)) σ := tel_c e fun _ => .bl
theorem tel_str {x : Str} : Tel K b g E (tC (.str x)) σ := tel_c e fun _ => .str
theorem tel_neg {i : Int} (h : i.natAbs < 2 ^ 130 ∧ GI (-i)) : Tel K b g E (tUn (rU fun i => .int (-i)) (tC (.int i))) σ := fun H Q hE k => ⟨i, rfl, k _ H (.int ⟨by rw [Int.natAbs_neg]; exact h.1, h.2⟩) hE (Frm.refl _ _ _)⟩
theorem tel_var {i : Nat} {v : V} (hv : σ[i]? = some (some v)) (h : ∀ H, E H → Thing K b g H v) : Tel K b g E (tVar i) σ := fun H Q hE k => ⟨v, hv, k v H (h H hE) hE (Frm.refl _ _ _)⟩
theorem tels_nil : Tels K b g E 0 tNil σ := fun H R hE k => k [] H rfl (fun x h => absurd h List.not_mem_nil) hE (Frm.refl _ _ _)
theorem tels_cons (h : Tel K b g E te σ) (t : Tels K b g E n ta σ) : Tels K b g E (n + 1) (tCons te ta) σ := fun H R hE k => h H _ hE fun v H1 tv hE1 f1 => t H1 _ hE1 fun vs H2 l hs hE2 f2 => k (v :: vs) H2 (by rw [List.length_cons, l]) (fun x hx => by
  rcases List.mem_cons.mp hx with rfl | hx
  · exact tv.keep (e.bag _ hE1) f2
  · exact hs x hx) hE2 (f1.trans f2)
theorem tel_tup (h : Tels K b g E n ta σ) (hn : n ≤ 1000) : Tel K b g E (tTup ta) σ := fun H Q hE k => h H _ hE fun vs H1 l hs hE1 f1 => by
  have : (1000 : Nat) < sizeLine := by decide
  refine ⟨by omega, fun p hp => ?_⟩
  have s := same_upd (o := .tup vs) hp
  exact k (.ref p) _ (.tup (.inl (.inl upd_same)) (by omega) fun x hx => (hs x hx).keep (e.bag _ hE1) (.of s)) (e.same hE1 s) (f1.trans (.of s))
theorem tel_lst (h : Tels K b g E n ta σ) (hn : n ≤ 1000) : Tel K b g E (tLst ta) σ := fun H Q hE k => h H _ hE fun vs H1 l hs hE1 f1 => by
  have : (1000 : Nat) < sizeLine := by decide
  refine ⟨by omega, fun p hp => ?_⟩
  have s := same_upd (o := .lst vs) hp
  obtain ⟨pb, pg⟩ := (e.bag _ hE1).neNew hp
  exact k (.ref p) _ (.lst upd_same pb pg) (e.same hE1 s) (f1.trans (.of s))
theorem tel_d0 : Tel K b g E tDNewK σ := fun H Q hE k p hp => by
  have s := same_upd (o := .dK []) hp
  obtain ⟨pb, pg⟩ := (e.bag _ hE).neNew hp
  exact k (.ref p) _ ⟨_, .dk upd_same pb pg, .oth⟩ (e.same hE s) (.of s)
theorem tel_d1 : Tel K b g E (tDisp1 (tTup tNil) (tTup tNil)) σ := fun H Q hE k p hp => by
  have s1 := same_upd (o := .dT []) hp
  obtain ⟨pb, pg⟩ := (e.bag _ hE).neNew hp
  refine ⟨by show 0 ≤ sizeLine; decide, fun a ha => ⟨by show 0 ≤ sizeLine; decide, fun c hc => ?_⟩⟩
  have s2 := same_upd (o := .tup []) ha
  have s3 := same_upd (o := .tup []) hc
  have ap : p ≠ a := fun z => by
    rw [← z, upd_same] at ha
    cases ha
  have cp : p ≠ c := fun z => by
    rw [← z, upd_ne ap, upd_same] at hc
    cases hc
  have ac : a ≠ c := fun z => by
    rw [← z, upd_same] at hc
    cases hc
  refine ⟨a, c, rfl, rfl, by rw [upd_ne cp, upd_ne ap, upd_same], by rw [upd_ne ac, upd_same], ?_⟩
  have s : Same H (upd (upd (upd (upd H p (.dT [])) a (.tup [])) c (.tup [])) p (.dT [([], .ref c)])) := fun z o hz => by
    rw [upd_ne (ne_of_none hz hp)]
    exact s3 _ _ (s2 _ _ (s1 _ _ hz))
  exact k (.ref p) _ ⟨_, .dt upd_same pb pg, .oth⟩ (e.same hE s) (.of s)
theorem tel_pow {i j : Int} {m : Nat} (h : CPow i j) (hb : (i ^ j.toNat).natAbs < 2 ^ 130 ∧ GI (i ^ j.toNat)) : Tel K b g E (tOp (rI CPow fun i j => .int (i ^ j.toNat)) (tC (.int i)) (tC (.int j))) σ := fun H Q hE k => ⟨i, j, rfl, rfl, h, k _ H (.int hb) hE (Frm.refl _ _ _)⟩
/-- what is drawn from a display of things -/
theorem tel_some {i : Nat} {E' : XK} (hv : σ[i]? = some (some (.ref b))) (h : Tels K b g E n ta σ) (h0 : 0 < n) (hn : n ≤ 1000) : Tel K b g E (tCall spSome [] E' (tCons (tVar i) (tCons (tLst ta) tNil))) σ := fun H Q hE k => ⟨_, hv, h H _ hE fun vs H1 l hs hE1 f1 => by
  have : (1000 : Nat) < sizeLine := by decide
  refine ⟨by omega, fun p hp => ?_⟩
  have s := same_upd (o := .lst vs) hp
  obtain ⟨pb, pg⟩ := (e.bag _ hE1).neNew hp
  refine ⟨b, g, p, vs, rfl, (e.bag _ hE1).keep s, upd_same, pb, pg, by omega, by omega, fun j y H' hj B' F' => ?_⟩
  have f := (Frm.of s).trans F'
  exact k y H' ((hs y (List.mem_of_getElem? hj)).keep (e.bag _ hE1) f) (e.keep _ _ hE1 f B') (f1.trans f)⟩
end
/-- what stood at H0 stands -/
def EnvAt (b g : Addr) (H0 : Hp) : Hp → Prop := fun H => Bag H b g ∧ Frm b g H0 H
theorem env_at {b g : Addr} {H0 : Hp} : EnvOk b g (EnvAt b g H0) := ⟨fun _ h => h.1, fun _ _ h f B => ⟨B, h.2.trans f⟩⟩
theorem EnvAt.now {b g : Addr} {H0 : Hp} (B : Bag H0 b g) : EnvAt b g H0 H0 := ⟨B, Frm.refl _ _ _⟩
/-- a tuple of things -/
def TupT (K : PySem.W.Frag) (b g : Addr) (m : Nat) (H : Hp) (a : Addr) : Prop := ∃ xs : List V, SqT K H a xs ∧ xs.length ≤ m ∧ ∀ x ∈ xs, Thing K b g H x
theorem TupT.keep {K : PySem.W.Frag} {b g a : Addr} {m : Nat} {H H' : Hp} (B : Bag H b g) (f : Frm b g H H') (h : TupT K b g m H a) : TupT K b g m H' a := by
  obtain ⟨xs, h1, l, h2⟩ := h
  exact ⟨xs, B.kt f _ _ h1, l, fun x hx => (h2 x hx).keep B f⟩
theorem TupT.thing {K : PySem.W.Frag} {b g a : Addr} {m : Nat} {H : Hp} (h : TupT K b g m H a) (hm : m ≤ 1000) : Thing K b g H (.ref a) := by
  obtain ⟨xs, h1, l, h2⟩ := h
  exact .tup h1 (by omega) h2
/-- a list of things -/
def LstT (K : PySem.W.Frag) (b g : Addr) (lo m : Nat) (H : Hp) (a : Addr) : Prop := ∃ xs : List V, H a = some (.lst xs) ∧ a ≠ b ∧ a ≠ g ∧ lo ≤ xs.length ∧ xs.length ≤ m ∧ ∀ x ∈ xs, Thing K b g H x
theorem LstT.keep {K : PySem.W.Frag} {b g a : Addr} {lo m : Nat} {H H' : Hp} (B : Bag H b g) (f : Frm b g H H') (h : LstT K b g lo m H a) : LstT K b g lo m H' a := by
  obtain ⟨xs, h1, n1, n2, l0, l, h2⟩ := h
  exact ⟨xs, f _ _ h1 n1 n2, n1, n2, l0, l, fun x hx => (h2 x hx).keep B f⟩
/-- an expression tells a tuple, a list of things, a small int -/
def TelT (K : PySem.W.Frag) (b g : Addr) (E : Hp → Prop) (m : Nat) (te : TE) (σ : L2.St) : Prop := ∀ H Q, E H → (∀ a H', TupT K b g m H' a → E H' → Frm b g H H' → Q (.ref a) H') → te σ H Q
def TelL (K : PySem.W.Frag) (b g : Addr) (E : Hp → Prop) (lo m : Nat) (te : TE) (σ : L2.St) : Prop := ∀ H Q, E H → (∀ a H', LstT K b g lo m H' a → E H' → Frm b g H H' → Q (.ref a) H') → te σ H Q
def TelI (E : Hp → Prop) (te : TE) (σ : L2.St) : Prop := ∀ H Q, E H → (∀ k : Int, -100 ≤ k → k ≤ 100 → Q (.int k) H) → te σ H Q
section
variable {K : PySem.W.Frag} {b g : Addr} {E : Hp → Prop} {σ : L2.St} {te te2 : TE} {ta : TA} {n m m2 lo lo2 : Nat} (e : EnvOk b g E)
include e
theorem TelT.tel (h : TelT K b g E m te σ) (hm : m ≤ 1000) : Tel K b g E te σ := fun H Q hE k => h H _ hE fun a H' t hE' f => k _ H' (t.thing hm) hE' f
theorem telT_tup (h : Tels K b g E n ta σ) (hn : n ≤ 1000) : TelT K b g E n (tTup ta) σ := fun H Q hE k => h H _ hE fun vs H1 l hs hE1 f1 => by
  have : (1000 : Nat) < sizeLine := by decide
  refine ⟨by omega, fun p hp => ?_⟩
  have s := same_upd (o := .tup vs) hp
  exact k p _ ⟨vs, .inl (.inl upd_same), by omega, fun x hx => (hs x hx).keep (e.bag _ hE1) (.of s)⟩ (e.same hE1 s) (f1.trans (.of s))
theorem telT_var {i : Nat} {a : Addr} (hv : σ[i]? = some (some (.ref a))) (h : ∀ H, E H → TupT K b g m H a) : TelT K b g E m (tVar i) σ := fun H Q hE k => ⟨_, hv, k a H (h H hE) hE (Frm.refl _ _ _)⟩
theorem telT_cat (h1 : TelT K b g E m te σ) (h2 : TelT K b g E m2 te2 σ) (hm : m + m2 ≤ 1000) : TelT K b g E (m + m2) (tOp (rCatP K) te te2) σ := fun H Q hE k => h1 H _ hE fun a H1 t1 hE1 f1 => h2 H1 _ hE1 fun c H2 t2 hE2 f2 => by
  obtain ⟨xs, s1, l1, k1⟩ := t1.keep (e.bag _ hE1) f2
  obtain ⟨ys, s2, l2, k2⟩ := t2
  have : (1000 : Nat) < sizeLine := by decide
  refine ⟨a, c, xs, ys, rfl, rfl, s1, s2, by omega, fun p H' s hp => k p H' ⟨xs ++ ys, hp, by rw [List.length_append]; omega, fun x hx => ?_⟩ (e.same hE2 s) ((f1.trans f2).trans (.of s))⟩
  rcases List.mem_append.mp hx with hx | hx
  · exact (k1 x hx).keep (e.bag _ hE2) (.of s)
  · exact (k2 x hx).keep (e.bag _ hE2) (.of s)
theorem telT_rep (h : TelT K b g E m te σ) (h0 : ∀ H, E H → True) (hi : TelI E te2 σ) (hn : ∀ H a, TupT K b g m H a → True) (ne : ∀ H Q, E H → (∀ a H', (∃ xs, SqT K H' a xs ∧ xs ≠ [] ∧ xs.length ≤ 2 ∧ ∀ x ∈ xs, Thing K b g H' x) → E H' → Frm b g H H' → Q (.ref a) H') → te σ H Q) : TelT K b g E 200 (tOp (rRepZ K) te te2) σ := fun H Q hE k => ne H _ hE fun a H1 t1 hE1 f1 => hi H1 _ hE1 fun j j0 j1 => by
  obtain ⟨xs, s1, n1, l1, k1⟩ := t1
  refine ⟨a, j, xs, rfl, rfl, s1, n1, by omega, by omega, by omega, fun p H' s hp => k p H' ⟨_, hp, ?_, fun x hx => ?_⟩ (e.same hE1 s) (f1.trans (.of s))⟩
  · rw [PyProof.Rows.lm_len_rep_flat]
    have : j.toNat * xs.length ≤ 100 * 2 := Nat.mul_le_mul (by omega) l1
    omega
  · obtain ⟨ys, hy, hx⟩ := List.mem_flatten.mp hx
    rw [List.eq_of_mem_replicate hy] at hx
    exact (k1 x hx).keep (e.bag _ hE1) (.of s)
theorem tup_ne (h : Tels K b g E (n + 1) ta σ) (hn : n + 1 ≤ 2) : ∀ H Q, E H → (∀ a H', (∃ xs, SqT K H' a xs ∧ xs ≠ [] ∧ xs.length ≤ 2 ∧ ∀ x ∈ xs, Thing K b g H' x) → E H' → Frm b g H H' → Q (.ref a) H') → tTup ta σ H Q := fun H Q hE k => h H _ hE fun vs H1 l hs hE1 f1 => by
  have : (1000 : Nat) < sizeLine := by decide
  refine ⟨by omega, fun p hp => ?_⟩
  have s := same_upd (o := .tup vs) hp
  exact k p _ ⟨vs, .inl (.inl upd_same), (fun z => by rw [z] at l; cases l), by omega, fun x hx => (hs x hx).keep (e.bag _ hE1) (.of s)⟩ (e.same hE1 s) (f1.trans (.of s))
theorem telT_repD (h : Tels K b g E (n + 1) ta σ) (hn : n + 1 ≤ 2) (hi : TelI E te2 σ) : TelT K b g E 200 (tOp (rRepZ K) (tTup ta) te2) σ := telT_rep (m := n + 1) e (telT_tup e h (by omega)) (fun _ _ => trivial) hi (fun _ _ _ => trivial) (tup_ne e h hn)
theorem telT_init (h : TelT K b g E m te σ) : TelT K b g E m (tSl (rSlP K) te tNoPart (tPart (tUn (rU fun i => .int (-i)) (tC (.int 1))))) σ := fun H Q hE k => h H _ hE fun a H1 t1 hE1 f1 => by
  obtain ⟨xs, s1, l1, k1⟩ := t1
  refine ⟨1, rfl, -1, rfl, a, xs, rfl, s1, fun p H' s hp => k p H' ⟨_, hp, Nat.le_trans (cutV_length _ _ _) l1, fun x hx => ?_⟩ (e.same hE1 s) (f1.trans (.of s))⟩
  exact (k1 x (List.mem_of_mem_drop (List.mem_of_mem_take hx))).keep (e.bag _ hE1) (.of s)
theorem telT_last (h : TelT K b g E m te σ) : TelT K b g E m (tSl (rSlP K) te (tPart (tUn (rU fun i => .int (-i)) (tC (.int 1)))) tNoPart) σ := fun H Q hE k => h H _ hE fun a H1 t1 hE1 f1 => by
  obtain ⟨xs, s1, l1, k1⟩ := t1
  refine ⟨1, rfl, -1, rfl, a, xs, rfl, s1, fun p H' s hp => k p H' ⟨_, hp, Nat.le_trans (cutV_length _ _ _) l1, fun x hx => ?_⟩ (e.same hE1 s) (f1.trans (.of s))⟩
  exact (k1 x (List.mem_of_mem_drop (List.mem_of_mem_take hx))).keep (e.bag _ hE1) (.of s)
theorem telT_to (h : TelT K b g E m te σ) (hi : TelI E te2 σ) : TelT K b g E m (tSl (rSlP K) te tNoPart (tPart te2)) σ := fun H Q hE k => h H _ hE fun a H1 t1 hE1 f1 => hi H1 _ hE1 fun j j0 j1 => by
  obtain ⟨xs, s1, l1, k1⟩ := t1
  refine ⟨j, rfl, a, xs, rfl, s1, fun p H' s hp => k p H' ⟨_, hp, Nat.le_trans (cutV_length _ _ _) l1, fun x hx => ?_⟩ (e.same hE1 s) (f1.trans (.of s))⟩
  exact (k1 x (List.mem_of_mem_drop (List.mem_of_mem_take hx))).keep (e.bag _ hE1) (.of s)
theorem telT_from (h : TelT K b g E m te σ) (hi : TelI E te2 σ) : TelT K b g E m (tSl (rSlP K) te (tPart te2) tNoPart) σ := fun H Q hE k => h H _ hE fun a H1 t1 hE1 f1 => hi H1 _ hE1 fun j j0 j1 => by
  obtain ⟨xs, s1, l1, k1⟩ := t1
  refine ⟨j, rfl, a, xs, rfl, s1, fun p H' s hp => k p H' ⟨_, hp, Nat.le_trans (cutV_length _ _ _) l1, fun x hx => ?_⟩ (e.same hE1 s) (f1.trans (.of s))⟩
  exact (k1 x (List.mem_of_mem_drop (List.mem_of_mem_take hx))).keep (e.bag _ hE1) (.of s)
theorem telT_rev (h : TelT K b g E m te σ) : TelT K b g E m (tRevT K te) σ := fun H Q hE k => h H _ hE fun a H1 t1 hE1 f1 => by
  obtain ⟨xs, s1, l1, k1⟩ := t1
  refine ⟨a, xs, rfl, s1, fun p H' s hp => k p H' ⟨_, hp, by rw [List.length_reverse]; exact l1, fun x hx => ?_⟩ (e.same hE1 s) (f1.trans (.of s))⟩
  exact (k1 x (List.mem_reverse.mp hx)).keep (e.bag _ hE1) (.of s)
theorem telI_c {i : Int} (h0 : -100 ≤ i) (h1 : i ≤ 100) : TelI E (tC (.int i)) σ := fun H Q hE k => k i h0 h1
theorem telI_var {i : Nat} {j : Int} (hv : σ[i]? = some (some (.int j))) (h0 : -100 ≤ j) (h1 : j ≤ 100) : TelI E (tVar i) σ := fun H Q hE k => ⟨_, hv, k j h0 h1⟩
theorem telL_lst (h : Tels K b g E n ta σ) (hn : n ≤ 1000) : TelL K b g E n n (tLst ta) σ := fun H Q hE k => h H _ hE fun vs H1 l hs hE1 f1 => by
  have : (1000 : Nat) < sizeLine := by decide
  refine ⟨by omega, fun p hp => ?_⟩
  have s := same_upd (o := .lst vs) hp
  obtain ⟨pb, pg⟩ := (e.bag _ hE1).neNew hp
  exact k p _ ⟨vs, upd_same, pb, pg, by omega, by omega, fun x hx => (hs x hx).keep (e.bag _ hE1) (.of s)⟩ (e.same hE1 s) (f1.trans (.of s))
theorem telL_var {i : Nat} {a : Addr} (hv : σ[i]? = some (some (.ref a))) (h : ∀ H, E H → LstT K b g lo m H a) : TelL K b g E lo m (tVar i) σ := fun H Q hE k => ⟨_, hv, k a H (h H hE) hE (Frm.refl _ _ _)⟩
theorem telL_cat (h1 : TelL K b g E lo m te σ) (h2 : TelL K b g E lo2 m2 te2 σ) (hm : m + m2 ≤ 1000) : TelL K b g E (lo + lo2) (m + m2) (tOp rCat te te2) σ := fun H Q hE k => h1 H _ hE fun a H1 t1 hE1 f1 => h2 H1 _ hE1 fun c H2 t2 hE2 f2 => by
  obtain ⟨xs, s1, n1, n2, l0, l1, k1⟩ := t1.keep (e.bag _ hE1) f2
  obtain ⟨ys, s2, n3, n4, l2, l3, k2⟩ := t2
  have : (1000 : Nat) < sizeLine := by decide
  refine ⟨a, c, xs, ys, rfl, rfl, s1, s2, by omega, fun p hp => ?_⟩
  have s := same_upd (o := .lst (xs ++ ys)) hp
  obtain ⟨pb, pg⟩ := (e.bag _ hE2).neNew hp
  refine k p _ ⟨_, upd_same, pb, pg, by rw [List.length_append]; omega, by rw [List.length_append]; omega, fun x hx => ?_⟩ (e.same hE2 s) ((f1.trans f2).trans (.of s))
  rcases List.mem_append.mp hx with hx | hx
  · exact (k1 x hx).keep (e.bag _ hE2) (.of s)
  · exact (k2 x hx).keep (e.bag _ hE2) (.of s)
theorem telL_rep (h1 : TelL K b g E lo m te σ) (hi : ∀ H Q, E H → (∀ k : Int, 0 ≤ k → k ≤ 2 → Q (.int k) H) → te2 σ H Q) (hm : m ≤ 400) : TelL K b g E 0 (m * 2) (tOp rRep te te2) σ := fun H Q hE k => h1 H _ hE fun a H1 t1 hE1 f1 => hi H1 _ hE1 fun j j0 j1 => by
  obtain ⟨xs, s1, n1, n2, l0, l1, k1⟩ := t1
  have : (1000 : Nat) < sizeLine := by decide
  have e2 : xs.length * j.toNat ≤ m * 2 := Nat.mul_le_mul l1 (by omega)
  refine ⟨a, j, xs, rfl, rfl, s1, by omega, by omega, by omega, fun p hp => ?_⟩
  have s := same_upd (o := .lst (List.replicate j.toNat xs).flatten) hp
  obtain ⟨pb, pg⟩ := (e.bag _ hE1).neNew hp
  refine k p _ ⟨_, upd_same, pb, pg, Nat.zero_le _, ?_, fun x hx => ?_⟩ (e.same hE1 s) (f1.trans (.of s))
  · rw [PyProof.Rows.lm_len_rep_flat, Nat.mul_comm]
    exact e2
  · obtain ⟨ys, hy, hx⟩ := List.mem_flatten.mp hx
    rw [List.eq_of_mem_replicate hy] at hx
    exact (k1 x hx).keep (e.bag _ hE1) (.of s)
/-- what is drawn from a list of things -/
theorem tel_someL {i : Nat} {E' : XK} (hv : σ[i]? = some (some (.ref b))) (h : TelL K b g E lo m te σ) (h0 : 0 < lo) (hm : m ≤ 1000) : Tel K b g E (tCall spSome [] E' (tCons (tVar i) (tCons te tNil))) σ := fun H Q hE k => ⟨_, hv, h H _ hE fun p H1 t1 hE1 f1 => by
  obtain ⟨vs, s1, n1, n2, l0, l1, k1⟩ := t1
  exact ⟨b, g, p, vs, rfl, e.bag _ hE1, s1, n1, n2, by omega, by omega, fun j y H' hj B' F' => k y H' ((k1 y (List.mem_of_getElem? hj)).keep (e.bag _ hE1) F') (e.keep _ _ hE1 F' B') (f1.trans F')⟩⟩
end
def spDeep0 (K : PySem.W.Frag) : Sp := fun vs H Q _ => ∃ _u : Unit, vs = [] ∧ ∀ (a : Addr) (xs : List V) (H' : Hp), Same H H' → H a = none → H' a = some (.lst xs) → Q (.ref a) H'
theorem tel_deep {K : PySem.W.Frag} {b g : Addr} {E : Hp → Prop} {σ : L2.St} {E' : XK} (e : EnvOk b g E) : Tel K b g E (tCall (spDeep0 K) [] E' tNil) σ := fun H Q hE k => ⟨(), rfl, fun a xs H' s n h => by
  obtain ⟨pb, pg⟩ := (e.bag _ hE).neNew n
  exact k _ H' (.lst h pb pg) (e.same hE s) (.of s)⟩
def spOdd (K : PySem.W.Frag) : Sp := fun vs H Q _ => ∃ (b g : Addr), vs = [.ref b] ∧ Bag H b g ∧ ∀ v H', Thing K b g H' v → Bag H' b g → Frm b g H H' → Q v H'
end Tl
/-! things that are no long tuples -/
namespace Tl
open PySem PySem.Spec PyProof.Rows L2 RZ
/-- a tuple of at most m things, or none -/
def TopLe (m : Nat) (d : AD) : Prop := ∀ ds, d = .tup ds → ds.length ≤ m
def ThM (K : PySem.W.Frag) (b g : Addr) (m : Nat) (H : Hp) (v : V) : Prop := ∃ d, Ad K b g H v d ∧ BdA d ∧ TopLe m d
theorem BdA.top {d : AD} (h : BdA d) : TopLe 1000 d := fun ds e => by
  subst e
  exact h.at_.1
theorem TopLe.mono {m n : Nat} {d : AD} (h : TopLe m d) (l : m ≤ n) : TopLe n d := fun ds e => Nat.le_trans (h ds e) l
theorem top_int {m : Nat} {i : Int} : TopLe m (.int i) := fun ds e => by cases e
theorem top_oth {m : Nat} {s : Option Str} : TopLe m (.oth s) := fun ds e => by cases e
theorem ThM.thing {K : PySem.W.Frag} {b g : Addr} {m : Nat} {H : Hp} {v : V} (h : ThM K b g m H v) : Thing K b g H v := let ⟨d, h1, h2, _⟩ := h; ⟨d, h1, h2⟩
theorem ThM.keep {K : PySem.W.Frag} {b g : Addr} {m : Nat} {H H' : Hp} {v : V} (B : Bag H b g) (f : Frm b g H H') (h : ThM K b g m H v) : ThM K b g m H' v := let ⟨d, h1, h2, h3⟩ := h; ⟨d, h1.keep B f, h2, h3⟩
theorem ThM.tup {K : PySem.W.Frag} {b g a : Addr} {m : Nat} {H : Hp} {xs : List V} (h : SqT K H a xs) (l : xs.length ≤ 1000) (lm : xs.length ≤ m) (k : ∀ x ∈ xs, Thing K b g H x) : ThM K b g m H (.ref a) := by
  obtain ⟨ds, l2, k1, k2⟩ := things_ds k
  exact ⟨.tup ds, .tup h l2 k1, .tup (by omega) k2, fun es e => by cases e; omega⟩
theorem ThM.lst {K : PySem.W.Frag} {b g a : Addr} {m : Nat} {H : Hp} {xs : List V} (h : H a = some (.lst xs)) (n : a ≠ b) (o : a ≠ g) : ThM K b g m H (.ref a) := ⟨_, .lst h n o, .oth, top_oth⟩
theorem ThM.int {K : PySem.W.Frag} {b g : Addr} {m : Nat} {H : Hp} {i : Int} (h : i.natAbs < 2 ^ 130 ∧ GI i) : ThM K b g m H (.int i) := ⟨_, .int i, .int h.1 h.2, top_int⟩
def TelM (K : PySem.W.Frag) (b g : Addr) (E : Hp → Prop) (m : Nat) (te : TE) (σ : L2.St) : Prop := ∀ H Q, E H → (∀ v H', ThM K b g m H' v → E H' → Frm b g H H' → Q v H') → te σ H Q
def TelsM (K : PySem.W.Frag) (b g : Addr) (E : Hp → Prop) (m n : Nat) (ta : TA) (σ : L2.St) : Prop := ∀ H R, E H → (∀ vs H', vs.length = n → (∀ x ∈ vs, ThM K b g m H' x) → E H' → Frm b g H H' → R vs H') → ta σ H R
theorem ThM.mono {K : PySem.W.Frag} {b g : Addr} {m n : Nat} {H : Hp} {v : V} (h : ThM K b g m H v) (l : m ≤ n) : ThM K b g n H v := let ⟨d, h1, h2, h3⟩ := h; ⟨d, h1, h2, h3.mono l⟩
theorem TupT.thM {K : PySem.W.Frag} {b g a : Addr} {m n : Nat} {H : Hp} (h : TupT K b g m H a) (l : m ≤ n) (hn : n ≤ 1000) : ThM K b g n H (.ref a) := by
  obtain ⟨xs, h1, l1, h2⟩ := h
  exact .tup h1 (by omega) (by omega) h2
section
variable {K : PySem.W.Frag} {b g : Addr} {E : Hp → Prop} {σ : L2.St} {te te2 : TE} {ta : TA} {n m m2 : Nat} (e : EnvOk b g E)
include e
theorem telsM_nil : TelsM K b g E m 0 tNil σ := fun H R hE k => k [] H rfl (fun x h => absurd h List.not_mem_nil) hE (Frm.refl _ _ _)
theorem telsM_cons (h : TelM K b g E m te σ) (t : TelsM K b g E m n ta σ) : TelsM K b g E m (n + 1) (tCons te ta) σ := fun H R hE k => h H _ hE fun v H1 tv hE1 f1 => t H1 _ hE1 fun vs H2 l hs hE2 f2 => k (v :: vs) H2 (by rw [List.length_cons, l]) (fun x hx => by
  rcases List.mem_cons.mp hx with rfl | hx
  · exact tv.keep (e.bag _ hE1) f2
  · exact hs x hx) hE2 (f1.trans f2)
theorem telM_T (h : TelT K b g E m te σ) (l : m ≤ m2) (h2 : m2 ≤ 1000) : TelM K b g E m2 te σ := fun H Q hE k => h H _ hE fun a H' t hE' f => k _ H' (t.thM l h2) hE' f
theorem telM_listOf (h : TelT K b g E 512 te σ) : TelM K b g E m (tCB (rListOf K) (tCons te tNil)) σ := fun H Q hE k => h H _ hE fun a H1 t1 hE1 f1 => by
  obtain ⟨xs, s1, l1, k1⟩ := t1
  refine ⟨a, xs, rfl, .inr s1, fun l hl => ?_⟩
  have s5 := same_upd (o := .lst xs) hl
  obtain ⟨lb, lg⟩ := (e.bag _ hE1).neNew hl
  exact k _ _ (.lst upd_same lb lg) (e.same hE1 s5) (f1.trans (.of s5))
theorem telM_ix {i : Nat} {j : Int} {a : Addr} {xs : List V} {x : V} (hv : σ[i]? = some (some (.ref a))) (hx : ∀ H, E H → SqT K H a xs) (hj : atI xs j = some x) (h : ∀ H, E H → ThM K b g m H x) : TelM K b g E m (tOp (rIxT K) (tVar i) (tC (.int j))) σ := fun H Q hE k => ⟨_, hv, a, xs, j, x, rfl, rfl, hx H hE, hj, k x H (h H hE) hE (Frm.refl _ _ _)⟩
theorem telM_some {i : Nat} {E' : XK} (hv : σ[i]? = some (some (.ref b))) (h : TelsM K b g E m n ta σ) (h0 : 0 < n) (hn : n ≤ 1000) : TelM K b g E m (tCall spSome [] E' (tCons (tVar i) (tCons (tLst ta) tNil))) σ := fun H Q hE k => ⟨_, hv, h H _ hE fun vs H1 l hs hE1 f1 => by
  have : (1000 : Nat) < sizeLine := by decide
  refine ⟨by omega, fun p hp => ?_⟩
  have s := same_upd (o := .lst vs) hp
  obtain ⟨pb, pg⟩ := (e.bag _ hE1).neNew hp
  refine ⟨b, g, p, vs, rfl, (e.bag _ hE1).keep s, upd_same, pb, pg, by omega, by omega, fun j y H' hj B' F' => ?_⟩
  have f := (Frm.of s).trans F'
  exact k y H' ((hs y (List.mem_of_getElem? hj)).keep (e.bag _ hE1) f) (e.keep _ _ hE1 f B') (f1.trans f)⟩
end
end Tl
/-! rows of things; combinators -/
namespace Tl
open PySem PySem.Spec PyProof.Rows L2 RZ
theorem Thing.env {K : PySem.W.Frag} {b g : Addr} {H : Hp} {v : V} (B : Bag H b g) (h : Thing K b g H v) : ∀ H', EnvAt b g H H' → Thing K b g H' v := fun _ e => h.keep B e.2
theorem TupT.env {K : PySem.W.Frag} {b g a : Addr} {m : Nat} {H : Hp} (B : Bag H b g) (h : TupT K b g m H a) : ∀ H', EnvAt b g H H' → TupT K b g m H' a := fun _ e => h.keep B e.2
theorem thing_td {K : PySem.W.Frag} {b g : Addr} {H : Hp} {v : V} {d : PyData} (h : Td K H v d) (bd : BdA (ofD d)) : Thing K b g H v := ⟨_, h.ad, bd⟩
theorem bd_parts {ds : List PyData} (h : BdA (ofD (.tuple ds))) : ds.length ≤ 1000 ∧ ∀ d ∈ ds, BdA (ofD d) := by
  have h : BdA (.tup (ofD.ofDs ds)) := h
  rw [ofDs_map] at h
  obtain ⟨h1, h2⟩ := h.at_
  rw [List.length_map] at h1
  exact ⟨h1, fun d hd => h2 _ (List.mem_map.mpr ⟨d, hd, rfl⟩)⟩
theorem tds_things {K : PySem.W.Frag} {b g : Addr} {H : Hp} {xs : List V} {ds : List PyData} (t : TdAll K H xs ds) (bd : ∀ d ∈ ds, BdA (ofD d)) : ∀ x ∈ xs, Thing K b g H x := fun x hx => by
  obtain ⟨i, hi⟩ := List.getElem?_of_mem hx
  obtain ⟨d, hd, td⟩ := t.getV hi
  exact thing_td td (bd d (List.mem_of_getElem? hd))
theorem Ad.updL {K : PySem.W.Frag} {b g T : Addr} {H : Hp} {ws ws' : List V} {v : V} {d : AD} (hT : H T = some (.lst ws)) (nb : T ≠ b) (ng : T ≠ g) (h : Ad K b g H v d) : Ad K b g (upd H T (.lst ws')) v d := by
  induction h with
  | int i => exact .int i
  | tup h l _ ih => exact .tup (KT.updL hT _ _ h) l ih
  | non => exact .non
  | bl c => exact .bl c
  | str x => exact .str x
  | @lst a xs h n m =>
    by_cases e : a = T
    · subst e
      exact .lst upd_same nb ng
    · exact .lst (by rw [upd_ne e]; exact h) n m
  | dk h n m => exact .dk (by rw [upd_ne (ne_of h hT (by intro z; cases z))]; exact h) n m
  | dt h n m => exact .dt (by rw [upd_ne (ne_of h hT (by intro z; cases z))]; exact h) n m
  | ins h ty k1 k2 k3 => exact .ins (by rw [upd_ne (ne_of h hT (by intro z; cases z))]; exact h) ty k1 k2 k3
theorem Thing.updL {K : PySem.W.Frag} {b g T : Addr} {H : Hp} {ws ws' : List V} {v : V} (hT : H T = some (.lst ws)) (nb : T ≠ b) (ng : T ≠ g) (h : Thing K b g H v) : Thing K b g (upd H T (.lst ws')) v := by
  obtain ⟨d, h, k⟩ := h
  exact ⟨d, h.updL hT nb ng, k⟩
/-- a comprehension that tells things -/
theorem lc_things {K : PySem.W.Frag} {b g : Addr} {J : It} {n : Nat} {G : Hp → Prop} {Y : Nat → Hp → V → Hp → Prop} (w : Walk J n G Y) {gg : TG} {tt : TT} {te : TE} {vs : List Nat} {σ : L2.St} {H : Hp} {T : Addr} {Qd : Hp → Prop} (hn : n ≤ 900) (hT : H T = none) (B : Bag H b g) (hG : ∀ H', EnvAt b g H H' → G H')
    (hs : ∀ (i : Nat) (x : V) (H2 H3 : Hp) (Qy : V → Hp → Prop) (N : Hp → Prop), i < n → EnvAt b g H H2 → Y i H2 x H3 → (∀ y H5, EnvAt b g H2 H5 → Thing K b g H5 y → Qy y H5) → gg x (wipe σ vs) H3 fun σ2 H4 => wipe σ2 vs = wipe σ vs ∧ tt σ2 H4 fun b H5 => if b = true then te σ2 H5 Qy else N H5)
    (hd : ∀ H2 ws, H2 T = some (.lst ws) → ws.length = n → (∀ x ∈ ws, Thing K b g H2 x) → EnvAt b g H H2 → Qd H2) :
    ∃ W : Nat → Nat → Hp → Prop, (∃ m, W 0 m (upd H T (.lst []))) ∧ ∀ i m H, W i m H →
      (J.stop i H ∧ Qd H) ∨ (J.go i H ∧ ∃ Nx : Hp → Prop, (∀ H', Nx H' → ∃ m', m' < m ∧ W (i + 1) m' H') ∧ ∀ x H', J.yld i H x H' → gg x (wipe σ vs) H' fun σ2 H2 => wipe σ2 vs = wipe σ vs ∧ tt σ2 H2 fun b H3 =>
        if b = true then te σ2 H3 fun y H4 => ∃ acc, H4 T = some (.lst acc) ∧ acc.length < sizeLine ∧ Nx (upd H4 T (.lst (acc ++ [y]))) else Nx H3) := by
  obtain ⟨Tb, Tg⟩ := B.neNew hT
  refine lc_it w (fun i H2 => ∃ ws : List V, H2 T = some (.lst ws) ∧ ws.length = i ∧ (∀ x ∈ ws, Thing K b g H2 x) ∧ Bag H2 b g ∧ Frm b g H H2) ⟨[], upd_same, rfl, fun x h => absurd h List.not_mem_nil, B.keep (same_upd hT), .of (same_upd hT)⟩ (fun i H2 _ h => by obtain ⟨_, _, _, _, B2, F2⟩ := h; exact hG _ ⟨B2, F2⟩) ?_ ?_
  · rintro i x H2 H3 hi ⟨ws, h2, l2, t2, B2, F2⟩ y
    refine hs i x H2 H3 _ _ hi ⟨B2, F2⟩ y fun v H5 ⟨B5, F5⟩ tv => ?_
    have h5 := F5 _ _ h2 Tb Tg
    have line : (2000 : Nat) < sizeLine := by decide
    refine ⟨ws, h5, by omega, ws ++ [v], upd_same, by rw [List.length_append, l2]; rfl, fun z hz => ?_, B5.updN Tb Tg, (F2.trans F5).updN hT⟩
    rcases List.mem_append.mp hz with hz | hz
    · exact ((t2 z hz).keep B2 F5).updL h5 Tb Tg
    · rw [List.mem_singleton.mp hz]
      exact tv.updL h5 Tb Tg
  · rintro H2 ⟨ws, h2, l2, t2, B2, F2⟩
    exact hd H2 ws h2 l2 t2 ⟨B2, F2⟩
section
variable {K : PySem.W.Frag} {b g : Addr} {E : Hp → Prop} {σ : L2.St} {te te2 : TE} {ta : TA} {n m m2 lo lo2 : Nat} (e : EnvOk b g E)
include e
theorem TelT.mono (h : TelT K b g E m te σ) (hm : m ≤ m2) : TelT K b g E m2 te σ := fun H Q hE k => h H Q hE fun a H' t hE' f => k a H' (by
  obtain ⟨xs, h1, l, h2⟩ := t
  exact ⟨xs, h1, Nat.le_trans l hm, h2⟩) hE' f
theorem telX (h : TelT K b g E 512 te σ) : Tel K b g E te σ := TelT.tel e h (by decide)
theorem telX_var {i : Nat} {a : Addr} (hv : σ[i]? = some (some (.ref a))) (h : ∀ H, E H → TupT K b g 16 H a) (hm : 16 ≤ m) : TelT K b g E m (tVar i) σ := (telT_var e hv h).mono e hm
theorem telX_var64 {i : Nat} {a : Addr} (hv : σ[i]? = some (some (.ref a))) (h : ∀ H, E H → TupT K b g 64 H a) (hm : 64 ≤ m) : TelT K b g E m (tVar i) σ := (telT_var e hv h).mono e hm
theorem telX_tup (h : Tels K b g E n ta σ) (hn : n ≤ m) (hm : m ≤ 512) : TelT K b g E m (tTup ta) σ := (telT_tup e h (by omega)).mono e hn
theorem telX_cat (h1 : TelT K b g E (m / 2) te σ) (h2 : TelT K b g E (m / 2) te2 σ) (hm : m ≤ 512) : TelT K b g E m (tOp (rCatP K) te te2) σ := (telT_cat e h1 h2 (by omega)).mono e (by omega)
theorem telX_repD {k : Nat} (h : Tels K b g E (k + 1) ta σ) (hn : k + 1 ≤ 2) (hi : TelI E te2 σ) (hm : 200 ≤ m) : TelT K b g E m (tOp (rRepZ K) (tTup ta) te2) σ := (telT_repD e h hn hi).mono e hm
theorem telX_listOf (h : TelT K b g E 512 te σ) : Tel K b g E (tCB (rListOf K) (tCons te tNil)) σ := fun H Q hE k => h H _ hE fun a H1 t1 hE1 f1 => by
  obtain ⟨xs, s1, l1, k1⟩ := t1
  refine ⟨a, xs, rfl, .inr s1, fun l hl => ?_⟩
  have s := same_upd (o := .lst xs) hl
  obtain ⟨pb, pg⟩ := (e.bag _ hE1).neNew hl
  exact k (.ref l) _ (.lst upd_same pb pg) (e.same hE1 s) (f1.trans (.of s))
theorem tel_listOf (h : TelT K b g E m te σ) : Tel K b g E (tCB (rListOf K) (tCons te tNil)) σ := fun H Q hE k => h H _ hE fun a H1 t1 hE1 f1 => by
  obtain ⟨xs, s1, l1, k1⟩ := t1
  refine ⟨a, xs, rfl, .inr s1, fun l hl => ?_⟩
  have s := same_upd (o := .lst xs) hl
  obtain ⟨pb, pg⟩ := (e.bag _ hE1).neNew hl
  exact k (.ref l) _ (.lst upd_same pb pg) (e.same hE1 s) (f1.trans (.of s))
theorem telI_add1 {i : Nat} {j : Int} (hv : σ[i]? = some (some (.int j))) (h0 : -100 ≤ j) (h1 : j ≤ 99) : TelI E (tOp (rI0 fun i j => V.int (i + j)) (tVar i) (tC (.int 1))) σ := fun H Q hE k => ⟨_, hv, j, 1, rfl, rfl, k _ (by omega) (by omega)⟩
theorem telI_sub {i : Nat} {j c : Int} (hv : σ[i]? = some (some (.int j))) (h0 : -100 ≤ j - c) (h1 : j - c ≤ 100) : TelI E (tOp (rI0 fun i j => V.int (i - j)) (tVar i) (tC (.int c))) σ := fun H Q hE k => ⟨_, hv, j, c, rfl, rfl, k _ h0 h1⟩
theorem telT_ix {i : Nat} {j : Int} {a : Addr} {xs : List V} {x : Addr} (hv : σ[i]? = some (some (.ref a))) (hx : ∀ H, E H → SqT K H a xs) (hj : atI xs j = some (.ref x)) (h : ∀ H, E H → TupT K b g m H x) : TelT K b g E m (tOp (rIxT K) (tVar i) (tC (.int j))) σ := fun H Q hE k => ⟨_, hv, a, xs, j, _, rfl, rfl, hx H hE, hj, k x H (h H hE) hE (Frm.refl _ _ _)⟩
theorem tel_ix {i : Nat} {j : Int} {a : Addr} {xs : List V} {x : V} (hv : σ[i]? = some (some (.ref a))) (hx : ∀ H, E H → SqT K H a xs) (hj : atI xs j = some x) (h : ∀ H, E H → Thing K b g H x) : Tel K b g E (tOp (rIxT K) (tVar i) (tC (.int j))) σ := fun H Q hE k => ⟨_, hv, a, xs, j, _, rfl, rfl, hx H hE, hj, k x H (h H hE) hE (Frm.refl _ _ _)⟩
end
theorem env_re {b g : Addr} {H H1 : Hp} {P : Hp → Prop} (h : ∀ H', EnvAt b g H H' → P H') (f : Frm b g H H1) : ∀ H', EnvAt b g H1 H' → P H' := fun H' e => h H' ⟨e.1, f.trans e.2⟩
end Tl
namespace Tl
open PySem PySem.Spec PyProof.Rows L2 RZ
/-! ### plans: moves for a question, by the depth of the stand -/
def MvT (A : Nat → Type) : Nat → Type
  | 0 => Nat × A 0
  | n + 1 => Sum (Nat × A (n + 1)) (Nat × List (MvT A n))
def Wt : Nat → Nat → Type
  | 0 => fun _ => Unit
  | m + 1 => fun n => List (MvT (Wt m) n)
abbrev Mv (m n : Nat) : Type := MvT (Wt m) n
def tellD (a : Nat) (d : PyData) : PyData := .tuple [.str "tell", .int (a : Int), d]
def askD2 (i : Nat) (ds : List PyData) : PyData := .tuple [.str "ask", .int (i : Int), .tuple ds]
def mvD {A : Nat → Type} (wD : (n : Nat) → A n → PyData) : (n : Nat) → MvT A n → PyData
  | 0, x => tellD x.1 (wD 0 x.2)
  | n + 1, .inl x => tellD x.1 (wD (n + 1) x.2)
  | n + 1, .inr x => askD2 x.1 (x.2.map (mvD wD n))
def waitD : (m n : Nat) → Wt m n → PyData
  | 0, _, _ => .tuple []
  | m + 1, n, ms => .tuple ((show List (Mv m n) from ms).map (mvD (waitD m) n))
/-- a move that is right for a question, at a stand -/
def MvOk {m : Nat} {A : Nat → Type} (wOk : (n : Nat) → Nd n → Nd m → A n → Prop) : (n : Nat) → Nd n → Qn m → MvT A n → Prop
  | 0, t, q, x => ∃ an, q[x.1]? = some an ∧ wOk 0 t an.2.2 x.2
  | n + 1, t, q, .inl x => ∃ an, q[x.1]? = some an ∧ wOk (n + 1) t an.2.2 x.2
  | n + 1, t, q, .inr x => ∃ qn, (show List (Qn n) from t)[x.1]? = some qn ∧ Al (fun (an : An n) (y : MvT A n) => MvOk wOk n an.2.2 q y) qn x.2
def WtOk : (m n : Nat) → Nd n → Nd m → Wt m n → Prop
  | 0, _, _, _, _ => True
  | m + 1, n, t, gs, ms => Al (fun (q : Qn m) (y : Mv m n) => MvOk (WtOk m) n t q y) gs ms
def tellM {A : Nat → Type} : (n : Nat) → Nat → A n → MvT A n
  | 0, a, w => (a, w)
  | _ + 1, a, w => .inl (a, w)
theorem tellM_D {A : Nat → Type} (wD : (n : Nat) → A n → PyData) : ∀ (n a : Nat) (w : A n), mvD wD n (tellM n a w) = tellD a (wD n w)
  | 0, _, _ => rfl
  | _ + 1, _, _ => rfl
theorem tellM_ok {m : Nat} {A : Nat → Type} {wOk : (n : Nat) → Nd n → Nd m → A n → Prop} : ∀ {n : Nat} {t : Nd n} {q : Qn m} {a : Nat} {w : A n} {an : An m}, q[a]? = some an → wOk n t an.2.2 w → MvOk wOk n t q (tellM n a w)
  | 0, _, _, _, _, _, h, k => ⟨_, h, k⟩
  | _ + 1, _, _, _, _, _, h, k => ⟨_, h, k⟩
def spWait (K : PySem.W.Frag) (m n : Nat) : Sp := fun vs H Q _ => ∃ (b g l : Addr) (W : Nat) (vh vg : V) (ahead ahead' : List Rat) (L : Int) (t : Nd n) (gs : Nd m), vs = [.ref b, vh, vg, .ref l] ∧ BagL H b g l L ∧ Td K H vh (ndD n t) ∧ Td K H vg (ndD m gs) ∧ n ≤ 6 ∧ NdOk W n ahead t ∧ NdOk W m ahead' gs ∧
  ∀ (v : V) (wt : Wt m n) (L' : Int) (H' : Hp), Td K H' v (waitD m n wt) → WtOk m n t gs wt → BagL H' b g l L' → Frl b g l H H' → Q v H'
def spMove (K : PySem.W.Frag) (m n : Nat) : Sp := fun vs H Q _ => ∃ (b g l : Addr) (W : Nat) (vh vq : V) (ahead ahead' : List Rat) (L : Int) (t : Nd n) (q : Qn m), vs = [.ref b, vh, vq, .ref l] ∧ BagL H b g l L ∧ Td K H vh (ndD n t) ∧ Td K H vq (qnD m q) ∧ n ≤ 6 ∧ NdOk W n ahead t ∧ QnOk W ahead' q ∧ (∀ a ∈ q, NdOk W m a.2.1 a.2.2) ∧
  ∀ (v : V) (mv : Mv m n) (L' : Int) (H' : Hp), Td K H' v (mvD (waitD m) n mv) → MvOk (WtOk m) n t q mv → BagL H' b g l L' → Frl b g l H H' → Q v H'
section
variable {P : Program} {w : World} {K : PySem.W.Frag} {mg : Str → Option Value} {base : Heap}
def lvW (m : Nat) : Nat := 2 + 8 * m
end
end Tl
namespace Tl
open PySem PySem.Spec PyProof.Rows L2 RZ
theorem mk_pos {p s : Nat} (hp : 1 ≤ p) (hs : 0 < s) : (0 : Rat) < mkRat (p : Int) s := by
  have h1 : 0 < (mkRat (p : Int) s).num := by
    rw [(mkRat_parts (p : Int) s hs).1, Int.natAbs_natCast]
    have hg : 0 < Nat.gcd p s := Nat.gcd_pos_of_pos_right _ hs
    have hd : Nat.gcd p s ≤ p := Nat.le_of_dvd hp (Nat.gcd_dvd_left p s)
    have := Nat.div_pos hd hg
    rw [← Int.natCast_ediv]
    omega
  refine (Rat.lt_iff _ _).mpr ?_
  show (0 : Int) * _ < (mkRat (p : Int) s).num * ((1 : Nat) : Int)
  omega
theorem frm_new {b g p : Addr} {H H' : Hp} (f : Frm b g H H') (h : H' p = none) (h1 : p ≠ b) (h2 : p ≠ g) : H p = none := by
  cases e : H p with
  | none => rfl
  | some o =>
    rw [f p o e h1 h2] at h
    cases h
def spShares1 (K : PySem.W.Frag) : Sp := fun vs H Q _ => ∃ (b g : Addr) (m : Nat), vs = [.ref b, .int (m : Int), .int 1] ∧ Bag H b g ∧ 1 ≤ m ∧ m ≤ 12 ∧
  ∀ (r : Addr) (rs : List Rat) (us : List V) (H' : Hp), IsShares m rs → (∀ r ∈ rs, 0 < r) → H' r = some (.lst us) → TdAll K H' us (rs.map rD) → H r = none → Bag H' b g → Frm b g H H' → Q (.ref r) H'
theorem shares_den {m : Nat} {rs : List Rat} (h : IsShares m rs) : ∀ r ∈ rs, r.den ≤ 5 * m + 1 := fun r hr => by
  obtain ⟨ps, _, h0, h1, rfl⟩ := h
  obtain ⟨p, _, rfl⟩ := List.mem_map.mp hr
  exact Nat.le_trans (Nat.le_of_dvd h0 (mk_den_dvd h0)) h1
/-! ### go-betweens -/
abbrev Bw (m n : Nat) : Type := List (Rat × Wt m n)
def bwI (m n : Nat) (x : Rat × Wt m n) : PyData := .tuple [rD x.1, waitD m n x.2]
def bwD (m n : Nat) (bs : Bw m n) : PyData := .tuple (bs.map (bwI m n))
structure BwOk (m n : Nat) (t : Nd n) (gs : Nd m) (bs : Bw m n) : Prop where
  one : 1 ≤ bs.length
  most : bs.length ≤ 3
  ch : ∀ x ∈ bs, Ch 1 x.1 ∧ 0 < x.1
  sum : fsum (bs.map (·.1)) = 1
  ok : ∀ x ∈ bs, WtOk m n t gs x.2
def spBw (K : PySem.W.Frag) (m n : Nat) : Sp := fun vs H Q _ => ∃ (b g : Addr) (W p : Nat) (vh vg : V) (ahead ahead' : List Rat) (t : Nd n) (gs : Nd m), vs = [.ref b, vh, vg, .int (p : Int)] ∧ Bag H b g ∧ Td K H vh (ndD n t) ∧ Td K H vg (ndD m gs) ∧ n ≤ 6 ∧ 1 ≤ p ∧ p ≤ 3 ∧ NdOk W n ahead t ∧ NdOk W m ahead' gs ∧
  ∀ (v : V) (bs : Bw m n) (H' : Hp), Td K H' v (bwD m n bs) → BwOk m n t gs bs → ((∀ x ∈ bs, Ch 1 x.1) ∧ bs.length ≤ p ∧ ∀ x ∈ bs, x.1.den ≤ 16) → Bag H' b g → Frm b g H H' → Q v H'
section
variable {P : Program} {w : World} {K : PySem.W.Frag} {mg : Str → Option Value} {base : Heap}
theorem ok_law_shares1 {f f1 f2 f3 : Addr} {fd fd1 fd2 fd3 : FuncData} (D : Dn K mg "_law_shares" s_law_shares ["bag", "many", "least"] f fd) (B : Blt mg) (D_law_low : Dn K mg "_law_low" s_law_low ["top", "bottom"] f1 fd1) (D_law_common : Dn K mg "_law_common" s_law_common ["one", "other"] f2 fd2)
    (D_law_pick : Dn K mg "_law_pick" s_law_pick ["bag", "many"] f3 fd3) : FnOk P w K mg base CX0 3 f fd ["bag", "many", "least"] (spShares1 K) := by
  have G_law_low : FnOk P w K mg base CX0 2 f1 fd1 ["top", "bottom"] (spLow K) := ok_law_low D_law_low B D_law_common
  have G_law_pick : FnOk P w K mg base CX0 1 f3 fd3 ["bag", "many"] spPick := ok_law_pick D_law_pick B
  refine D.F.ok sc_law_shares (fun vs H Q E h => ?_) (fun cdv A outer s H vs Q E hr h => ?_)
  · obtain ⟨b, g, m, rfl, _⟩ := h
    rfl
  obtain ⟨b, g, m, rfl, hB, hm1, hm2, q⟩ := h
  have nd := sc_law_shares.nd
  refine ⟨_, (pss_cons (ps_set (i := 3) nd rfl (.inr rfl) (pe_lc (own := [("k", 4)]) rfl nd (pi_range1 (by rfl) B.range (pa_cons (pv 1) pa_nil)) (blkOk_by (own := [("k", 4)]) (by kernel_rfl)) (fun _ _ _ _ _ => (pg_name (i := 4) nd rfl (.inl rfl))) (fun _ _ _ _ _ => pts_nil) (fun _ _ _ _ _ => (pe_op op_add (pv 2) (pe_call G_law_pick (hr.mono (by omega)) (by rfl) D_law_pick.m D_law_pick.F.kp D_law_pick.b .nil pass0 (pa_cons (pv 0) (pa_cons pe_int pa_nil)))))))
      (pss_cons (ps_augS (pv 3) (pe_call G_law_pick (hr.mono (by omega)) (by rfl) D_law_pick.m D_law_pick.F.kp D_law_pick.b .nil pass0 (pa_cons (pv 0) (pa_cons (pv 1) pa_nil))) (k_getL (K := K) rfl) pe_int ip_add set_list)
      (pss_one (ps_ret (pe_lc (own := [("part", 5)]) rfl nd (k_iL (K := K) rfl (pv 3)) (blkOk_by (own := [("part", 5)]) (by kernel_rfl)) (fun _ _ _ _ _ => (pg_name (i := 5) nd rfl (.inl rfl))) (fun _ _ _ _ _ => pts_nil) (fun _ _ _ _ _ => (pe_call G_law_low (hr.mono (by omega)) (by rfl) D_law_low.m D_law_low.F.kp D_law_low.b .nil pass0 (pa_cons (pv 5) (pa_cons (pe_callB (k_sum (K := K) rfl rfl) (by rfl) B.sum (by decide +kernel) (pa_cons (pv 3) pa_nil)) pa_nil))))))))), ?_⟩
  -- parts = [least + _law_pick(bag, 4) for k in range(many)]
  refine ⟨_, rfl, _, rfl, by omega, by omega, fun d hd => ?_⟩
  obtain ⟨db, dg⟩ := hB.neNew hd
  refine lc_range (lo := 0) (n := m) (fun i H3 => ∃ ps : List Nat, ps.length = i ∧ (∀ p ∈ ps, 1 ≤ p ∧ p ≤ 4) ∧ H3 d = some (.lst ((nI ps).map V.int)) ∧ Bag H3 b g ∧ Frm b g H H3) ⟨[], rfl, fun _ h => absurd h List.not_mem_nil, upd_same, hB.updN db dg, (Frm.refl b g H).updN hd⟩ ?_ ?_
  · rintro i H3 hi ⟨ps, hp1, hp2, h3, B3, F3⟩
    refine ⟨rfl, ?_⟩
    refine iteT (B := ∃ ps : List Nat, ps.length = i + 1 ∧ (∀ p ∈ ps, 1 ≤ p ∧ p ≤ 4) ∧ H3 d = some (.lst ((nI ps).map V.int)) ∧ Bag H3 b g ∧ Frm b g H H3) ?_
    refine ⟨_, rfl, _, rfl, b, g, 4, rfl, B3, by decide, by decide, fun r H4 r0 r1 B4 F4 => ⟨_, _, rfl, rfl, ?_⟩⟩
    have h4 := F4 d _ h3 db dg
    refine ⟨_, h4, by rw [List.length_map, nI, List.length_map]; exact small1000 (by omega), ps ++ [((1 : Int) + r).toNat], by rw [List.length_append, hp1]; rfl, ?_, ?_, B4.updN db dg, (F3.trans F4).updN hd⟩
    · intro p hp
      rcases List.mem_append.mp hp with hp | hp
      · exact hp2 p hp
      · rw [List.mem_singleton.mp hp]
        omega
    · rw [upd_same, nI, nI, List.map_append, List.map_append]
      show some (HO.lst (_ ++ [V.int ((1 : Int) + r)])) = some (HO.lst (_ ++ [V.int ((((1 : Int) + r).toNat : Nat) : Int)]))
      rw [show ((((1 : Int) + r).toNat : Nat) : Int) = (1 : Int) + r by omega]
  rintro H3 ⟨ps, hp1, hp2, h3, B3, F3⟩
  -- parts[_law_pick(bag, many)] += 1
  refine ⟨_, rfl, _, rfl, _, rfl, b, g, (m : Int), rfl, B3, by omega, by omega, fun r H4 r0 r1 B4 F4 => ?_⟩
  have h4 := F4 d _ h3 db dg
  obtain ⟨j, ej⟩ : ∃ j : Nat, r = (j : Int) := ⟨r.toNat, by omega⟩
  have hj : j < ps.length := by omega
  have gj : ps[j]? = some ps[j] := List.getElem?_eq_getElem hj
  have gI : ((nI ps).map V.int)[j]? = some (.int ((ps[j] : Nat) : Int)) := by
    rw [List.getElem?_map, nI, List.getElem?_map, gj]
    rfl
  refine ⟨d, _, j, _, rfl, by rw [ej], SqL.of h4, gI, _, _, rfl, rfl, d, _, r, j, rfl, rfl, h4, ?_, ?_⟩
  · rw [List.length_map, nI, List.length_map]
    unfold ixN
    rw [if_pos r0, if_pos (by omega)]
    exact congrArg some (by omega)
  have h5 : (upd H4 d (.lst (((nI ps).map V.int).set j (.int (((ps[j] : Nat) : Int) + 1))))) d = some (.lst ((nI (ps.set j (ps[j] + 1))).map V.int)) := by
    rw [upd_same, nI, nI, List.map_set, List.map_set]
    rfl
  have B5 : Bag (upd H4 d (.lst (((nI ps).map V.int).set j (.int (((ps[j] : Nat) : Int) + 1))))) b g := B4.updN db dg
  have F5 : Frm b g H (upd H4 d (.lst (((nI ps).map V.int).set j (.int (((ps[j] : Nat) : Int) + 1))))) := (F3.trans F4).updN hd
  generalize upd H4 d (.lst (((nI ps).map V.int).set j (.int (((ps[j] : Nat) : Int) + 1)))) = H5 at h5 B5 F5
  have hsum := sum_bump ps j _ gj
  have hle := sum_le5 ps (fun x hx => (hp2 x hx).2)
  have hlen : (ps.set j (ps[j] + 1)).length = m := by rw [List.length_set]; exact hp1
  have hpos : ∀ p ∈ ps.set j (ps[j] + 1), 1 ≤ p := fun p hp => by
    rcases List.mem_or_eq_of_mem_set hp with z | z
    · exact (hp2 p z).1
    · omega
  generalize ps.set j (ps[j] + 1) = us at h5 hsum hlen hpos
  -- return [_law_low(part, sum(parts)) for part in parts]
  have hs0 : 0 < us.sum := by omega
  have hs1 : us.sum ≤ 5 * m + 1 := by omega
  refine ⟨_, rfl, d, rfl, ⟨_, SqL.of h5⟩, fun e he => ?_⟩
  obtain ⟨eb, eg⟩ := B5.neNew he
  have heH : H e = none := by
    cases z : H e with
    | none => rfl
    | some o =>
      rw [F5 e o z eb eg] at he
      cases he
  have hl5 : ((nI us).map V.int).length = m := by rw [List.length_map, nI, List.length_map, hlen]
  refine lc_list (K := K) (a := d) (xs := (nI us).map V.int) (fun i H6 => ∃ ws : List V, H6 e = some (.lst ws) ∧ TdAll K H6 ws ((us.take i).map fun (p : Nat) => rD (mkRat (p : Int) us.sum)) ∧ Same H5 H6) ⟨[], upd_same, .nil, same_upd he⟩ (fun i H6 _ h => by obtain ⟨_, _, _, s6⟩ := h; exact s6.seq (SqL.of h5)) ?_ ?_
  · rintro i y H6 hi ⟨ws, h6, t6, s6⟩
    obtain ⟨z, hz, rfl⟩ := int_at hi
    obtain ⟨p, hp, rfl⟩ : ∃ p : Nat, us[i]? = some p ∧ z = (p : Int) := by
      rw [nI, List.getElem?_map] at hz
      cases q2 : us[i]? with
      | none =>
        rw [q2] at hz
        cases hz
      | some p =>
        rw [q2] at hz
        exact ⟨p, rfl, (Option.some.inj hz).symm⟩
    have hi2 : i < us.length := (List.getElem?_eq_some_iff.mp hp).1
    refine ⟨rfl, ?_⟩
    refine iteT (B := ∃ ws : List V, H6 e = some (.lst ws) ∧ TdAll K H6 ws ((us.take (i + 1)).map fun (p : Nat) => rD (mkRat (p : Int) us.sum)) ∧ Same H5 H6) ?_
    refine ⟨_, rfl, _, rfl, d, nI us, rfl, SqL.of (s6 _ _ h5), (p : Int), us.sum, by rw [nI_sum]; rfl, hs0, ?_, fun v H7 s7 hv => ?_⟩
    · exact Nat.lt_of_le_of_lt (Nat.le_trans hs1 (show 5 * m + 1 ≤ 2 ^ 10 by omega)) (Nat.pow_lt_pow_right (by decide) (by decide))
    · have h7 := s7 _ _ h6
      have kt7 : KT K H7 (upd H7 e (.lst (ws ++ [v]))) := KT.updL h7
      have kt : KT K H6 (upd H7 e (.lst (ws ++ [v]))) := (Same.kt s7).trans kt7
      refine ⟨ws, h7, ?_, ws ++ [v], upd_same, ?_, fun a o q => ?_⟩
      · rw [t6.len, List.length_map, List.length_take]
        exact small1000 (by omega)
      · rw [List.take_add_one, hp, List.map_append]
        exact (t6.keep kt).app (.cons (hv.keep kt7) .nil)
      · rw [upd_ne (ne_of_none q he)]
        exact s7 _ _ (s6 _ _ q)
  · rintro H6 ⟨ws, h6, t6, s6⟩
    rw [hl5, ← hlen, List.take_length] at t6
    have t7 : TdAll K H6 ws ((us.map fun (p : Nat) => mkRat (p : Int) us.sum).map rD) := by
      rw [List.map_map]
      exact t6
    exact q e _ ws H6 ⟨us, hlen, hs0, hs1, rfl⟩ (fun r hr => by obtain ⟨p, hp, rfl⟩ := List.mem_map.mp hr; exact mk_pos (hpos p hp) hs0) h6 t7 heH (B5.keep s6) (F5.trans (Frm.of s6))
end
end Tl
namespace Tl
open PySem PySem.Spec PyProof.Rows L2 RZ
/-! ### plans judged: right ones -/
def spIsW (K : PySem.W.Frag) (m n : Nat) : Sp := fun vs H Q _ => ∃ (W : Nat) (vt vg vh : V) (ahead ahead' : List Rat) (t : Nd n) (gs : Nd m) (wt : Wt m n), vs = [vt, vg, vh] ∧ Td K H vt (waitD m n wt) ∧ Td K H vg (ndD m gs) ∧ Td K H vh (ndD n t) ∧ NdOk W n ahead t ∧ NdOk W m ahead' gs ∧ WtOk m n t gs wt ∧ ∀ H', Same H H' → Q (.bl true) H'
def spIsM (K : PySem.W.Frag) (m n : Nat) : Sp := fun vs H Q _ => ∃ (W : Nat) (vt vq vh : V) (ahead ahead' : List Rat) (t : Nd n) (q : Qn m) (mv : Mv m n), vs = [vt, vq, vh] ∧ Td K H vt (mvD (waitD m) n mv) ∧ Td K H vq (qnD m q) ∧ Td K H vh (ndD n t) ∧ NdOk W n ahead t ∧ QnOk W ahead' q ∧ (∀ a ∈ q, NdOk W m a.2.1 a.2.2) ∧ MvOk (WtOk m) n t q mv ∧ ∀ H', Same H H' → Q (.bl true) H'
theorem mv_cases {m n : Nat} {t : Nd n} {q : Qn m} {mv : Mv m n} (h : MvOk (WtOk m) n t q mv) : (∃ (a : Nat) (w : Wt m n) (an : An m), mvD (waitD m) n mv = tellD a (waitD m n w) ∧ q[a]? = some an ∧ WtOk m n t an.2.2 w) ∨
    (∃ (n' : Nat) (e : n = n' + 1) (i : Nat) (ms : List (Mv m n')) (qs : List (Qn n')) (qn : Qn n'), HEq t qs ∧ mvD (waitD m) n mv = askD2 i (ms.map (mvD (waitD m) n')) ∧ ndD n t = .tuple (qs.map (qnD n')) ∧ qs[i]? = some qn ∧ Al (fun (an : An n') (y : Mv m n') => MvOk (WtOk m) n' an.2.2 q y) qn ms) := by
  cases n with
  | zero =>
    obtain ⟨an, h1, h2⟩ := h
    exact .inl ⟨mv.1, mv.2, an, rfl, h1, h2⟩
  | succ n =>
    cases mv with
    | inl x =>
      obtain ⟨an, h1, h2⟩ := h
      exact .inl ⟨x.1, x.2, an, rfl, h1, h2⟩
    | inr x =>
      obtain ⟨qn, h1, h2⟩ := h
      exact .inr ⟨n, rfl, x.1, x.2, t, qn, HEq.rfl, rfl, rfl, h1, h2⟩
section
variable {P : Program} {w : World} {K : PySem.W.Frag} {mg : Str → Option Value} {base : Heap}
theorem and_true2 {a b : Prop} [Decidable a] [Decidable b] (h1 : a) (h2 : b) : (decide a && decide b) = true := by
  rw [decide_eq_true h1, decide_eq_true h2]
  rfl
end
end Tl
/-! plans judged at things of any kind -/
namespace Tl
open PySem PySem.Spec PyProof.Rows L2 RZ
def getI {α : Type} (xs : List α) (i : Int) : Option α := if 0 ≤ i then xs[i.toNat]? else none
def numA (lo hi : Int) : AD → Bool
  | .int i => decide (lo ≤ i) && decide (i ≤ hi)
  | _ => false
theorem getI_num {α : Type} {xs : List α} {i : Int} (h : numA 0 ((xs.length : Int) - 1) (.int i) = true) : ∃ (j : Nat) (x : α), i = (j : Int) ∧ xs[j]? = some x ∧ getI xs i = some x := by
  have h : (decide (0 ≤ i) && decide (i ≤ (xs.length : Int) - 1)) = true := h
  rw [Bool.and_eq_true] at h
  have h1 := of_decide_eq_true h.1
  have h2 := of_decide_eq_true h.2
  refine ⟨i.toNat, xs[i.toNat]'(by omega), by omega, List.getElem?_eq_getElem _, ?_⟩
  unfold getI
  rw [if_pos h1]
  exact List.getElem?_eq_getElem _
theorem getI_no {α : Type} {xs : List α} {i : Int} (h : numA 0 ((xs.length : Int) - 1) (.int i) = false) : getI xs i = none := by
  have h : (decide (0 ≤ i) && decide (i ≤ (xs.length : Int) - 1)) = false := h
  unfold getI
  by_cases h1 : 0 ≤ i
  · rw [decide_eq_true h1, Bool.true_and] at h
    have h2 := of_decide_eq_false h
    rw [if_pos h1]
    exact List.getElem?_eq_none (by omega)
  · rw [if_neg h1]
def tellA {m : Nat} (w : Nd m → AD → Bool) (q : Qn m) (d1 d2 : AD) : Bool := match d1 with
  | .int i => (match getI q i with
    | some an => w an.2.2 d2
    | none => false)
  | _ => false
def askA2 {n : Nat} (f : An n → AD → Bool) (t : List (Qn n)) (d1 d2 : AD) : Bool := match d1 with
  | .int i => (match getI t i with
    | some qn => (match d2 with
      | .tup ds => decide (ds.length = qn.length) && (List.zipWith f qn ds).all id
      | _ => false)
    | none => false)
  | _ => false
def mv3 (tl ak : AD → AD → Bool) : AD → Bool
  | .tup [d0, d1, d2] => (match strA d0 with
    | some x => if x = ("tell" : Str) then tl d1 d2 else if x = ("ask" : Str) then ak d1 d2 else false
    | none => false)
  | _ => false
def mvA {m : Nat} (wt : (n : Nat) → Nd n → Nd m → AD → Bool) : (n : Nat) → Nd n → Qn m → AD → Bool
  | 0, t, q, d => mv3 (tellA (wt 0 t) q) (fun _ _ => false) d
  | n + 1, t, q, d => mv3 (tellA (wt (n + 1) t) q) (askA2 (fun (an : An n) x => mvA wt n an.2.2 q x) (show List (Qn n) from t)) d
def wtA : (m n : Nat) → Nd n → Nd m → AD → Bool
  | 0, _, _, _, .tup ds => decide (ds.length = 0)
  | m + 1, n, t, gs, .tup ds => decide (ds.length = (show List (Qn m) from gs).length) && (List.zipWith (fun (q : Qn m) x => mvA (wtA m) n t q x) (show List (Qn m) from gs) ds).all id
  | _, _, _, _, _ => false
theorem mv3_no {tl ak ak' : AD → AD → Bool} (h : ∀ x y, ak x y = ak' x y) (d : AD) : mv3 tl ak d = mv3 tl ak' d := by
  have : ak = ak' := funext fun x => funext fun y => h x y
  rw [this]
theorem mvA_qs {m : Nat} (wt : (n : Nat) → Nd n → Nd m → AD → Bool) (n : Nat) (t : Nd n) (q : Qn m) (d : AD) : mvA wt n t q d = mv3 (tellA (wt n t) q) (askA2 (fun (an : An (n - 1)) x => mvA wt (n - 1) an.2.2 q x) (qsOf n t)) d := by
  cases n with
  | succ n => rfl
  | zero =>
    refine mv3_no (fun x y => ?_) d
    cases x with
    | int i =>
      have e : getI (qsOf 0 t) i = none := by
        show getI ([] : List (Qn (0 - 1))) i = none
        unfold getI
        split <;> rfl
      unfold askA2
      simp only [e]
    | tup _ => rfl
    | oth _ => rfl
theorem wtA_qs (m n : Nat) (t : Nd n) (gs : Nd m) (ds : List AD) : wtA m n t gs (.tup ds) = (decide (ds.length = (qsOf m gs).length) && (List.zipWith (fun (q : Qn (m - 1)) x => mvA (wtA (m - 1)) n t q x) (qsOf m gs) ds).all id) := by
  cases m with
  | succ m => rfl
  | zero =>
    show decide (ds.length = 0) = (decide (ds.length = 0) && true)
    rw [Bool.and_true]
theorem wtA_not {m n : Nat} {t : Nd n} {gs : Nd m} {d : AD} (h : ∀ ds, d ≠ .tup ds) : wtA m n t gs d = false := by
  cases d with
  | tup ds => exact absurd rfl (h ds)
  | int i => cases m <;> rfl
  | oth s => cases m <;> rfl
theorem mv3_three {tl ak : AD → AD → Bool} {ds : List AD} (h : ds.length ≠ 3) : mv3 tl ak (.tup ds) = false := by
  match ds, h with
  | [], _ => rfl
  | [_], _ => rfl
  | [_, _], _ => rfl
  | [_, _, _], h => exact absurd rfl h
  | _ :: _ :: _ :: _ :: _, _ => rfl
theorem three_of {α : Type} {ds : List α} (h : ds.length = 3) : ∃ x y z, ds = [x, y, z] := by
  match ds, h with
  | [x, y, z], _ => exact ⟨x, y, z, rfl⟩
def spNumA (K : PySem.W.Frag) : Sp := fun vs H Q _ => ∃ (b g : Addr) (v : V) (d : AD) (lo hi : Int), vs = [v, .int lo, .int hi] ∧ Ad K b g H v d ∧ Q (.bl (numA lo hi d)) H
def spWtA (K : PySem.W.Frag) (m n : Nat) : Sp := fun vs H Q _ => ∃ (b g : Addr) (W : Nat) (v vg vh : V) (d : AD) (ahead ahead' : List Rat) (t : Nd n) (gs : Nd m), vs = [v, vg, vh] ∧ Ad K b g H v d ∧ Td K H vg (ndD m gs) ∧ Td K H vh (ndD n t) ∧ NdOk W n ahead t ∧ NdOk W m ahead' gs ∧ ∀ H', Same H H' → Q (.bl (wtA m n t gs d)) H'
def spMvA (K : PySem.W.Frag) (m n : Nat) : Sp := fun vs H Q _ => ∃ (b g : Addr) (W : Nat) (v vq vh : V) (d : AD) (ahead ahead' : List Rat) (t : Nd n) (q : Qn m), vs = [v, vq, vh] ∧ Ad K b g H v d ∧ Td K H vq (qnD m q) ∧ Td K H vh (ndD n t) ∧ NdOk W n ahead t ∧ QnOk W ahead' q ∧ (∀ a ∈ q, NdOk W m a.2.1 a.2.2) ∧ ∀ H', Same H H' → Q (.bl (mvA (wtA m) n t q d)) H'
theorem ndok_qs {W n : Nat} {ahead : List Rat} {t : Nd n} (h : NdOk W n ahead t) : (qsOf n t).length ≤ 5 ∧ ∀ q ∈ qsOf n t, QnOk W ahead q ∧ ∀ a ∈ q, NdOk W (n - 1) a.2.1 a.2.2 := by
  cases n with
  | zero => exact ⟨Nat.zero_le _, fun q hq => absurd hq List.not_mem_nil⟩
  | succ n => exact h
section
variable {P : Program} {w : World} {K : PySem.W.Frag} {mg : Str → Option Value} {base : Heap} {aN aO : Addr} {t1 t2 t3 t4 t5 t6 t7 : Tok}
theorem ok_is_number_a {f f1 : Addr} {fd fd1 : FuncData} (D : Dn K mg "is_number" s_is_number ["thing", "least", "most"] f fd) (B : Blt mg) (C : Cst K mg aN aO t1 t2 t3 t4 t5 t6 t7)
    (D_is_integral : Dn K mg "is_integral" s_is_integral ["thing"] f1 fd1) (G_is_integral : FnOk P w K mg base CX0 1 f1 fd1 ["thing"] (spIn K)) : FnOk P w K mg base CX0 2 f fd ["thing", "least", "most"] (spNumA K) := by
  refine D.F.ok sc_is_number (fun vs H Q E h => ?_) (fun cdv A outer s H vs Q E hr h => ?_)
  · obtain ⟨b, g, v, d, lo, hi, rfl, _⟩ := h
    rfl
  obtain ⟨b, g, v, d, lo, hi, rfl, hv, q⟩ := h
  have nd := sc_is_number.nd
  refine ⟨_, (pss_one (ps_ret (pe_and (pe_call G_is_integral (hr.mono (by omega)) (by rfl) D_is_integral.m D_is_integral.F.kp D_is_integral.b .nil pass0 (pa_cons (pv 0) pa_nil)) (pe_one (pe_chain op_le op_le (pv 1) (pv 0) (pv 2)))))), ?_⟩
  refine ⟨_, rfl, b, g, v, d, rfl, hv, _, rfl, ?_⟩
  cases d with
  | int i =>
    cases hv
    refine iteT ⟨_, rfl, _, rfl, _, _, rfl, rfl, _, rfl, ?_⟩
    by_cases c : lo ≤ i
    · rw [decide_eq_true c]
      refine iteT ⟨_, rfl, _, _, rfl, rfl, ?_⟩
      have e : numA lo hi (.int i) = decide (i ≤ hi) := by
        show (decide (lo ≤ i) && _) = _
        rw [decide_eq_true c, Bool.true_and]
      rw [e] at q
      exact q
    · rw [decide_eq_false c]
      refine iteF ?_
      have e : numA lo hi (.int i) = false := by
        show (decide (lo ≤ i) && _) = _
        rw [decide_eq_false c, Bool.false_and]
      rw [e] at q
      exact q
  | tup _ => exact iteF q
  | oth _ => exact iteF q
end
end Tl
/-! gains and askers judged at things of any kind -/
namespace Tl
open PySem PySem.Spec PyProof.Rows L2 RZ
def gnA (W : Nat) : AD → Bool
  | .tup ds => !decide (ds.length = 0) && ds.all (fun d => arA frA d W)
  | _ => false
def lenA : AD → Nat
  | .tup ds => ds.length
  | _ => 0
def ak2 (M : Nat) : AD → Bool
  | .tup [d0, d1] => (match strA d0 with
    | some x => decide (x = ("stop" : Str)) && numA 0 ((M : Int) - 1) d1
    | none => false)
  | _ => false
def ak3 (f : AD → AD → Bool) : AD → Bool
  | .tup [d0, d1, d2] => (match strA d0 with
    | some x => decide (x = ("ask" : Str)) && f d1 d2
    | none => false)
  | _ => false
def akA (M : Nat) : (n : Nat) → Nd n → AD → Bool
  | 0, _, d => ak2 M d
  | n + 1, t, d => ak2 M d || ak3 (askA2 (fun (an : An n) x => akA M n an.2.2 x) (show List (Qn n) from t)) d
theorem akA_qs (M n : Nat) (t : Nd n) (d : AD) : akA M n t d = (ak2 M d || ak3 (askA2 (fun (an : An (n - 1)) x => akA M (n - 1) an.2.2 x) (qsOf n t)) d) := by
  cases n with
  | succ n => rfl
  | zero =>
    show ak2 M d = _
    have : ak3 (askA2 (fun (an : An 0) x => akA M 0 an.2.2 x) []) d = false := by
      match d with
      | .int _ => rfl
      | .oth _ => rfl
      | .tup [] => rfl
      | .tup [_] => rfl
      | .tup [_, _] => rfl
      | .tup (_ :: _ :: _ :: _ :: _) => rfl
      | .tup [d0, d1, d2] =>
        show (match strA d0 with | some x => decide (x = ("ask" : Str)) && askA2 (fun (an : An 0) x => akA M 0 an.2.2 x) [] d1 d2 | none => false) = false
        have z : askA2 (fun (an : An 0) x => akA M 0 an.2.2 x) [] d1 d2 = false := by
          cases d1 with
          | int i =>
            have : getI ([] : List (Qn 0)) i = none := by
              unfold getI
              split
              · rfl
              · rfl
            unfold askA2
            simp only [this]
          | tup _ => rfl
          | oth _ => rfl
        rw [z]
        cases strA d0 with
        | none => rfl
        | some x =>
          show (decide _ && false) = false
          rw [Bool.and_false]
    show ak2 M d = (ak2 M d || ak3 (askA2 (fun (an : An 0) x => akA M 0 an.2.2 x) []) d)
    rw [this, Bool.or_false]
def spAkA (K : PySem.W.Frag) (n : Nat) : Sp := fun vs H Q _ => ∃ (b g : Addr) (W M : Nat) (v va : V) (d : AD) (ahead : List Rat) (t : Nd n), vs = [va, v, .int (M : Int)] ∧ Ad K b g H va d ∧ BdA d ∧ Td K H v (ndD n t) ∧ NdOk W n ahead t ∧ ∀ H', Same H H' → Q (.bl (akA M n t d)) H'
def spGnA (K : PySem.W.Frag) : Sp := fun vs H Q _ => ∃ (b g : Addr) (v : V) (d : AD) (W : Nat), vs = [v, .int (W : Int)] ∧ Ad K b g H v d ∧ BdA d ∧ W ≤ 5 ∧ ∀ H', Same H H' → Q (.bl (gnA W d)) H'
def spCkPr (K : PySem.W.Frag) (CP : Addr) : Sp := fun vs H Q E => ∃ (b g : Addr) (v : V) (d : AD) (W : Nat), vs = [v, .int (W : Int)] ∧ Ad K b g H v d ∧ BdA d ∧ W ≤ 5 ∧ (prA d W = true → ∀ H', Same H H' → Q .non H') ∧ (prA d W = false → ∀ H', Same H H' → E (.ref CP) none H')
def spCkGn (K : PySem.W.Frag) (CG : Addr) : Sp := fun vs H Q E => ∃ (b g : Addr) (v : V) (d : AD) (W : Nat), vs = [v, .int (W : Int)] ∧ Ad K b g H v d ∧ BdA d ∧ W ≤ 5 ∧ (gnA W d = true → ∀ H', Same H H' → Q .non H') ∧ (gnA W d = false → ∀ H', Same H H' → E (.ref CG) none H')
section
variable {P : Program} {w : World} {K : PySem.W.Frag} {mg : Str → Option Value} {base : Heap} {aN aO : Addr} {t1 t2 t3 t4 t5 t6 t7 : Tok}
theorem ok_are_gains_a {f f1 : Addr} {fd fd1 : FuncData} (D : Dn K mg "are_gains" s_are_gains ["thing", "worlds"] f fd) (B : Blt mg) (C : Cst K mg aN aO t1 t2 t3 t4 t5 t6 t7)
    (D_are_fractions : Dn K mg "are_fractions" s_are_fractions ["thing", "many"] f1 fd1) (G_are_fractions : FnOk P w K mg base CX0 3 f1 fd1 ["thing", "many"] (spArA K frA)) : FnOk P w K mg base CX0 4 f fd ["thing", "worlds"] (spGnA K) := by
  refine D.F.ok sc_are_gains (fun vs H Q E h => ?_) (fun cdv A outer s H vs Q E hr h => ?_)
  · obtain ⟨b, g, v, d, W, rfl, _⟩ := h
    rfl
  obtain ⟨b, g, v, d, W, rfl, hv, bd, h5, q⟩ := h
  have nd := sc_are_gains.nd
  refine ⟨_, (pss_cons (ps_if (PW.pt (pw_or (pt_not (pt_val (pe_callB (k_isi (K := K) rfl) (by rfl) B.isinstance (by decide +kernel) (pa_cons (pv 0) (pa_cons (pe_bltn (v := .ty "tuple") (u := .type "tuple") (by rfl) B.tuple (by decide +kernel) rfl) pa_nil))))) (pw_or1 (pt_cmpR op_eq (pe_callB (k_len (K := K) rfl) (by rfl) B.len PySem.boot_len (pa_cons (pv 0) pa_nil)) pe_int (nomark _))))) (pss_one (ps_ret pe_bl)) pss_nil)
      (pss_one (ps_ret (pe_callB (k_all (K := K) rfl rfl) (by rfl) B.all (by decide +kernel) (pa_cons (pe_lc (own := [("deed", 2)]) rfl nd (k_iT (K := K) rfl (pv 0)) (blkOk_by (own := [("deed", 2)]) (by kernel_rfl)) (fun _ _ _ _ _ => (pg_name (i := 2) nd rfl (.inl rfl))) (fun _ _ _ _ _ => pts_nil) (fun _ _ _ _ _ => (pe_call G_are_fractions (hr.mono (by omega)) (by rfl) D_are_fractions.m D_are_fractions.F.kp D_are_fractions.b .nil pass0 (pa_cons (pv 2) (pa_cons (pv 1) pa_nil))))) pa_nil))))), ?_⟩
  rcases id hv.kind with ⟨i, rfl, rfl⟩ | ⟨a, xs, ds, rfl, rfl, hs, hl, hk⟩ | ⟨_, rfl, t, ty, k1, k2⟩
  · exact ⟨_, rfl, _, _, _, _, false, rfl, .ty "tuple", .base (.int i), kit_ty (by decide +kernel), _, rfl, iteT (q H (Same.refl _))⟩
  rotate_left
  · exact ⟨_, rfl, _, _, _, _, false, rfl, .ty "tuple", ty, k1, _, rfl, iteT (q H (Same.refl _))⟩
  refine ⟨_, rfl, _, _, _, _, true, rfl, .ty "tuple", tyx_tup hs, kit_ty (by decide +kernel), _, rfl, iteF ?_⟩
  refine ⟨_, rfl, a, _, rfl, .inr hs, rfl, ?_⟩
  have l1000 := bd.at_.1
  by_cases l0 : ds.length = 0
  · rw [hl, l0, decide_eq_true (show V.int ((0 : Nat) : Int) = V.int 0 from rfl)]
    refine ⟨_, rfl, iteT ?_⟩
    have z := q H (Same.refl _)
    rw [show gnA W (.tup ds) = false by show (!decide (ds.length = 0) && _) = false; rw [decide_eq_true l0]; rfl] at z
    exact z
  rw [hl, decide_eq_false (show ¬ V.int ((ds.length : Nat) : Int) = V.int 0 from fun z => l0 (by have := V.int.inj z; omega))]
  refine ⟨_, rfl, iteF ?_⟩
  refine ⟨_, rfl, a, rfl, ⟨_, hs⟩, fun T hT => ?_⟩
  refine lc_bools (K := K) (walk_tup (K := K) (a := a) (xs := xs)) (ds.map fun d => arA frA d W) (by rw [List.length_map]; omega) (by omega) hT (fun H' s => Same.kt s _ _ hs) ?_ ?_
  · rintro i x cc H2 H3 Qy N hcc s2 ⟨e3, e1⟩ hQ
    subst e3
    rw [List.getElem?_map] at hcc
    obtain ⟨d, ed, rfl⟩ := Option.map_eq_some_iff.mp hcc
    refine ⟨rfl, ?_⟩
    refine iteT (B := N H3) ?_
    exact ⟨_, rfl, _, rfl, b, g, x, d, W, rfl, (hk i x d e1 ed).same s2, by omega, fun H5 s5 => hQ H5 s5⟩
  · intro H2 h2 s2
    refine ⟨T, _, rfl, SqL.of h2, ?_⟩
    have z := q H2 s2
    rw [show gnA W (.tup ds) = ((ds.map fun d => arA frA d W).all id) by show (!decide (ds.length = 0) && _) = _; rw [decide_eq_false l0, List.all_map]; rfl] at z
    exact z
end
end Tl
/-! askers judged at things of any kind -/
namespace Tl
open PySem PySem.Spec PyProof.Rows L2 RZ
theorem ak_len {M n : Nat} {t : Nd n} {ds : List AD} (h2 : ds.length ≠ 2) (h3 : ds.length ≠ 3) : akA M n t (.tup ds) = false := by
  rw [akA_qs]
  match ds, h2, h3 with
  | [], _, _ => rfl
  | [_], _, _ => rfl
  | [_, _], h, _ => exact absurd rfl h
  | [_, _, _], _, h => exact absurd rfl h
  | _ :: _ :: _ :: _ :: _, _, _ => rfl
theorem inV_23 {l : Nat} (h2 : l ≠ 2) (h3 : l ≠ 3) : inV (V.int ((l : Nat) : Int)) [V.int 2, V.int 3] = false := by
  have e2 : decide (V.int (l : Int) = V.int 2) = false := decide_eq_false (fun z => h2 (by have := V.int.inj z; omega))
  have e3 : decide (V.int (l : Int) = V.int 3) = false := decide_eq_false (fun z => h3 (by have := V.int.inj z; omega))
  unfold inV
  simp only [List.any_cons, List.any_nil, Bool.or_false, Bool.or_eq_false_iff]
  exact ⟨by show decide ((2 : Int) = (l : Int)) = false; exact decide_eq_false (by omega), by show decide ((3 : Int) = (l : Int)) = false; exact decide_eq_false (by omega)⟩
section
variable {P : Program} {w : World} {K : PySem.W.Frag} {mg : Str → Option Value} {base : Heap} {aN aO : Addr} {t1 t2 t3 t4 t5 t6 t7 : Tok}
theorem ok_is_asker_a {f f1 : Addr} {fd fd1 : FuncData} (D : Dn K mg "is_asker" s_is_asker ["thing", "node", "deeds"] f fd) (B : Blt mg) (C : Cst K mg aN aO t1 t2 t3 t4 t5 t6 t7)
    (D_is_number : Dn K mg "is_number" s_is_number ["thing", "least", "most"] f1 fd1) (G_is_number : FnOk P w K mg base CX0 2 f1 fd1 ["thing", "least", "most"] (spNumA K)) (BS : mg "str" = none) : ∀ n : Nat, FnOk P w K mg base CX0 (4 + n) f fd ["thing", "node", "deeds"] ((spAkA K) n) := by
  intro n
  obtain ⟨sp0, G_is_asker, hsp⟩ : ∃ sp0, FnOk P w K mg base CX0 (3 + n) f fd ["thing", "node", "deeds"] sp0 ∧ (∀ m, n = m + 1 → sp0 = (spAkA K) m) := by
    cases n with
    | zero => exact ⟨fun _ _ _ _ => False, ⟨fun vs H Q E h => h.elim, fun A outer s H args us vs Q E _ _ _ _ h => h.elim⟩, fun m e => by omega⟩
    | succ m =>
      have G := ok_is_asker_a D B C D_is_number G_is_number BS m
      rw [show 4 + m = 3 + (m + 1) by omega] at G
      exact ⟨_, G, fun m' e => by rw [show m' = m by omega]⟩
  rw [show 4 + n = (3 + n) + 1 by omega]
  refine D.F.ok sc_is_asker (fun vs H Q E h => ?_) (fun cdv A outer s H vs Q E hr h => ?_)
  · obtain ⟨b, g, W, M, v, va, d, ahead, t, rfl, _⟩ := h
    rfl
  obtain ⟨b, g, W, M, v, va, d, ahead, t, rfl, had, bd, hv, hok, q⟩ := h
  have nd := sc_is_asker.nd
  have D_is_asker := D
  refine ⟨_, (pss_cons (ps_if (PW.pt (pw_or (pt_not (pt_val (pe_callB (k_isi (K := K) rfl) (by rfl) B.isinstance (by decide +kernel) (pa_cons (pv 0) (pa_cons (pe_bltn (v := .ty "tuple") (u := .type "tuple") (by rfl) B.tuple (by decide +kernel) rfl) pa_nil))))) (pw_or (pt_cmpR op_notIn_seq (pe_callB (k_len (K := K) rfl) (by rfl) B.len PySem.boot_len (pa_cons (pv 0) pa_nil)) (pe_tup (pa_cons pe_int (pa_cons pe_int pa_nil))) (by rfl)) (pw_or1 (pt_not (pt_val (pe_callB (k_isi (K := K) rfl) (by rfl) B.isinstance (by decide +kernel) (pa_cons (pe_ix (k_ixT (K := K) rfl) (pv 0) pe_int (fun _ _ => rfl)) (pa_cons (pe_bltn (v := .ty "str") (u := .type "str") (by rfl) BS (by decide +kernel) rfl) pa_nil))))))))) (pss_one (ps_ret pe_bl)) pss_nil)
      (pss_cons (ps_if (pt_cmpR op_eq (pe_callB (k_len (K := K) rfl) (by rfl) B.len PySem.boot_len (pa_cons (pv 0) pa_nil)) pe_int (nomark _)) (pss_one (ps_ret (pe_and (pe_cmpR op_eq (pe_ix (k_ixT (K := K) rfl) (pv 0) pe_int (fun _ _ => rfl)) pe_str (nomark _)) (pe_one (pe_call G_is_number (hr.mono (by omega)) (by rfl) D_is_number.m D_is_number.F.kp D_is_number.b .nil pass0 (pa_cons (pe_ix (k_ixT (K := K) rfl) (pv 0) pe_int (fun _ _ => rfl)) (pa_cons pe_int (pa_cons (pe_op op_sub (pv 2) pe_int) pa_nil)))))))) pss_nil)
      (pss_cons (ps_asg (pv 0) (k_tup (K := K) (n := 3) rfl rfl (pgs_cons (pg_name (i := 3) nd rfl (.inl rfl)) (pgs_cons (pg_name (i := 4) nd rfl (.inl rfl)) (pgs_cons (pg_name (i := 5) nd rfl (.inl rfl)) pgs_nil)))))
      (pss_cons (ps_if (PW.pt (pw_or (pt_cmpR op_ne (pv 3) pe_str (nomark _)) (pw_or1 (pt_not (pt_val (pe_call G_is_number (hr.mono (by omega)) (by rfl) D_is_number.m D_is_number.F.kp D_is_number.b .nil pass0 (pa_cons (pv 4) (pa_cons pe_int (pa_cons (pe_op op_sub (pe_callB (k_len (K := K) rfl) (by rfl) B.len PySem.boot_len (pa_cons (pv 1) pa_nil)) pe_int) pa_nil))))))))) (pss_one (ps_ret pe_bl)) pss_nil)
      (pss_cons (ps_if (PW.pt (pw_or (pt_not (pt_val (pe_callB (k_isi (K := K) rfl) (by rfl) B.isinstance (by decide +kernel) (pa_cons (pv 5) (pa_cons (pe_bltn (v := .ty "tuple") (u := .type "tuple") (by rfl) B.tuple (by decide +kernel) rfl) pa_nil))))) (pw_or1 (pt_cmpR op_ne (pe_callB (k_len (K := K) rfl) (by rfl) B.len PySem.boot_len (pa_cons (pv 5) pa_nil)) (pe_callB (k_len (K := K) rfl) (by rfl) B.len PySem.boot_len (pa_cons (pe_ix (k_ixT (K := K) rfl) (pv 1) (pv 4) (fun _ _ => rfl)) pa_nil)) (nomark _))))) (pss_one (ps_ret pe_bl)) pss_nil)
      (pss_one (ps_ret (pe_callB (k_all (K := K) rfl rfl) (by rfl) B.all (by decide +kernel) (pa_cons (pe_lc (own := [("asker", 6), ("answer", 7)]) rfl nd (k_zip (K := K) rfl (by rfl) B.zip (pa_cons (pv 5) (pa_cons (pe_ix (k_ixT (K := K) rfl) (pv 1) (pv 4) (fun _ _ => rfl)) pa_nil))) (blkOk_by (own := [("asker", 6), ("answer", 7)]) (by kernel_rfl)) (fun _ _ _ _ _ => (k_tup (K := K) (n := 2) rfl rfl (pgs_cons (pg_name (i := 6) nd rfl (.inl rfl)) (pgs_cons (pg_name (i := 7) nd rfl (.inl rfl)) pgs_nil)))) (fun _ _ _ _ _ => pts_nil) (fun _ _ _ _ _ => (pe_call G_is_asker (hr.mono (by omega)) (by rfl) D_is_asker.m D_is_asker.F.kp D_is_asker.b .nil pass0 (pa_cons (pv 6) (pa_cons (pe_ix (k_ixT (K := K) rfl) (pv 7) pe_int (fun _ _ => rfl)) (pa_cons (pv 2) pa_nil)))))) pa_nil))))))))), ?_⟩
  have f0 : ∀ i, akA M n t (.int i) = false := fun i => by cases n <;> rfl
  have f1 : ∀ o, akA M n t (.oth o) = false := fun o => by cases n <;> rfl
  rcases id had.kind with ⟨i, rfl, rfl⟩ | ⟨a, xs, ds, rfl, rfl, hs0, hl, hk0⟩ | ⟨_, rfl, t0, ty, k1, k2⟩
  · exact ⟨_, rfl, _, _, _, _, false, rfl, .ty "tuple", .base (.int i), kit_ty (by decide +kernel), _, rfl, iteT (by have z := q H (Same.refl H); rw [f0] at z; exact z)⟩
  rotate_left
  · exact ⟨_, rfl, _, _, _, _, false, rfl, .ty "tuple", ty, k1, _, rfl, iteT (by have z := q H (Same.refl H); rw [f1] at z; exact z)⟩
  refine ⟨_, rfl, _, _, _, _, true, rfl, .ty "tuple", tyx_tup hs0, kit_ty (by decide +kernel), _, rfl, iteF ?_⟩
  refine ⟨_, rfl, a, _, rfl, .inr hs0, by show 2 ≤ sizeLine; decide, fun p2 n2 => ?_⟩
  have z2 := same_upd (o := .tup [.int 2, .int 3]) n2
  have e2 : SqT K (upd H p2 (.tup [.int 2, .int 3])) p2 [.int 2, .int 3] := .inl (.inl upd_same)
  have hs := Same.kt z2 _ _ hs0
  have hk := fun i x d e1 e2 => (hk0 i x d e1 e2).same z2
  have hv := hv.keep (Same.kt z2)
  generalize upd H p2 (.tup [.int 2, .int 3]) = H1 at z2 e2 hs hk hv ⊢
  have q : ∀ H', Same H1 H' → Q (.bl (akA M n t (.tup ds))) H' := fun H' s => q H' (z2.trans s)
  obtain ⟨_, bk⟩ := bd.at_
  refine ⟨p2, _, rfl, .inr e2, rfl, rfl, ?_⟩
  show ∃ k, V.bl (!inV (V.int ((xs.length : Nat) : Int)) [V.int 2, V.int 3]) = V.bl k ∧ _
  by_cases l2 : ds.length = 2
  · obtain ⟨d1, d2, rfl⟩ := two_of l2
    obtain ⟨v1, v2, rfl⟩ := two_v hl
    have h1 := hk 0 v1 d1 rfl rfl
    have h2 := hk 1 v2 d2 rfl rfl
    refine ⟨_, rfl, iteF ?_⟩
    obtain ⟨t1', ty1, ks, kx⟩ := h1.is_str
    refine ⟨_, rfl, a, _, 0, v1, rfl, rfl, hs, at_of (j := 0) rfl rfl, _, _, _, _, _, rfl, .ty "str", ty1, ks, _, rfl, ?_⟩
    have e3 : akA M n t (.tup [d1, d2]) = ak2 M (.tup [d1, d2]) := by
      cases n with
      | zero => rfl
      | succ n => exact Bool.or_false _
    rw [e3] at q
    cases es : strA d1 with
    | none =>
      refine iteT ?_
      have z := q H1 (Same.refl _)
      rw [show ak2 M (.tup [d1, d2]) = (match strA d1 with | some x => decide (x = ("stop" : Str)) && numA 0 ((M : Int) - 1) d2 | none => false) from rfl, es] at z
      exact z
    | some x =>
      refine iteF ?_
      obtain rfl := kx x es
      refine ⟨_, rfl, a, _, rfl, .inr hs, rfl, _, rfl, iteT ?_⟩
      refine ⟨_, rfl, a, _, 0, _, rfl, rfl, hs, at_of (j := 0) rfl rfl, rfl, _, rfl, ?_⟩
      have e4 : ak2 M (.tup [d1, d2]) = (decide (x = ("stop" : Str)) && numA 0 ((M : Int) - 1) d2) := by
        show (match strA d1 with | some x => decide (x = ("stop" : Str)) && numA 0 ((M : Int) - 1) d2 | none => false) = _
        rw [es]
      rw [e4] at q
      by_cases c : x = ("stop" : Str)
      · rw [decide_eq_true (show V.str x = V.str "stop" by rw [c])]
        refine iteT ?_
        refine ⟨_, rfl, a, _, 1, v2, rfl, rfl, hs, at_of (j := 1) rfl rfl, _, rfl, _, _, rfl, rfl, b, g, v2, d2, 0, (M : Int) - 1, rfl, h2, ?_⟩
        have z := q H1 (Same.refl _)
        rw [decide_eq_true c, Bool.true_and] at z
        exact z
      · rw [decide_eq_false (show ¬ V.str x = V.str "stop" from fun z => c (by injection z))]
        refine iteF ?_
        have z := q H1 (Same.refl _)
        rw [decide_eq_false c, Bool.false_and] at z
        exact z
  by_cases l3 : ds.length = 3
  · obtain ⟨d1, d2, d3, rfl⟩ : ∃ x y z, ds = [x, y, z] := by
      match ds, l3 with
      | [x, y, z], _ => exact ⟨x, y, z, rfl⟩
    obtain ⟨v1, v2, v3, rfl⟩ : ∃ x y z, xs = [x, y, z] := by
      match xs, hl with
      | [x, y, z], _ => exact ⟨x, y, z, rfl⟩
    have h1 := hk 0 v1 d1 rfl rfl
    have h2 := hk 1 v2 d2 rfl rfl
    have h3 := hk 2 v3 d3 rfl rfl
    refine ⟨_, rfl, iteF ?_⟩
    obtain ⟨t1', ty1, ks, kx⟩ := h1.is_str
    refine ⟨_, rfl, a, _, 0, v1, rfl, rfl, hs, at_of (j := 0) rfl rfl, _, _, _, _, _, rfl, .ty "str", ty1, ks, _, rfl, ?_⟩
    have e3 : akA M n t (.tup [d1, d2, d3]) = ak3 (askA2 (fun (an : An (n - 1)) x => akA M (n - 1) an.2.2 x) (qsOf n t)) (.tup [d1, d2, d3]) := by
      rw [akA_qs]
      exact Bool.false_or _
    rw [e3] at q
    cases es : strA d1 with
    | none =>
      refine iteT ?_
      have z := q H1 (Same.refl _)
      rw [show ak3 (askA2 (fun (an : An (n - 1)) x => akA M (n - 1) an.2.2 x) (qsOf n t)) (.tup [d1, d2, d3]) = (match strA d1 with | some x => decide (x = ("ask" : Str)) && askA2 (fun (an : An (n - 1)) x => akA M (n - 1) an.2.2 x) (qsOf n t) d2 d3 | none => false) from rfl, es] at z
      exact z
    | some x =>
      refine iteF ?_
      obtain rfl := kx x es
      refine ⟨_, rfl, a, _, rfl, .inr hs, rfl, _, rfl, iteF ?_⟩
      refine ⟨_, rfl, a, _, rfl, hs, rfl, _, _, rfl, _, _, rfl, _, _, rfl, rfl, ?_⟩
      refine ⟨_, rfl, rfl, _, rfl, ?_⟩
      have e4 : ak3 (askA2 (fun (an : An (n - 1)) x => akA M (n - 1) an.2.2 x) (qsOf n t)) (.tup [d1, d2, d3]) = (decide (x = ("ask" : Str)) && askA2 (fun (an : An (n - 1)) x => akA M (n - 1) an.2.2 x) (qsOf n t) d2 d3) := by
        show (match strA d1 with | some x => decide (x = ("ask" : Str)) && askA2 (fun (an : An (n - 1)) x => akA M (n - 1) an.2.2 x) (qsOf n t) d2 d3 | none => false) = _
        rw [es]
      rw [e4] at q
      by_cases c : x = ("ask" : Str)
      · rw [decide_eq_true (show V.str x = V.str "ask" by rw [c])]
        refine iteF ?_
        rw [decide_eq_true c, Bool.true_and] at q
        obtain ⟨ch, zs, rfl, hch, tch⟩ := qs_td hv
        have lz : zs.length = (qsOf n t).length := by rw [tch.len, List.length_map]
        obtain ⟨t5, tk⟩ := ndok_qs hok
        refine ⟨_, rfl, _, rfl, ch, zs, rfl, .inr hch, _, _, rfl, rfl, b, g, v2, d2, 0, (zs.length : Int) - 1, rfl, h2, _, rfl, ?_⟩
        rw [lz]
        cases hn : numA 0 (((qsOf n t).length : Int) - 1) d2 with
        | false =>
          refine iteT ?_
          have e : askA2 (fun (an : An (n - 1)) x => akA M (n - 1) an.2.2 x) (qsOf n t) d2 d3 = false := by
            cases d2 with
            | int i =>
              unfold askA2
              simp only [getI_no hn]
            | tup _ => rfl
            | oth _ => rfl
          rw [e] at q
          exact q H1 (Same.refl _)
        | true =>
        cases d2 with
        | tup _ => cases hn
        | oth _ => cases hn
        | int i =>
        cases h2
        obtain ⟨j, qj, rfl, eqj, eg⟩ := getI_num hn
        refine iteF ?_
        obtain ⟨y, ey, ty⟩ := tch.get (i := j) (d := qnD (n - 1) qj) (by rw [List.getElem?_map, eqj]; rfl)
        obtain ⟨p', ww, rfl, hp', tp'⟩ := id ty.tupE
        have lww : ww.length = qj.length := by rw [tp'.len, List.length_map]
        obtain ⟨qjok, qjn⟩ := tk qj (List.mem_of_getElem? eqj)
        have q12 := qjok.most
        rcases id h3.kind with ⟨i, rfl, rfl⟩ | ⟨a2, xs2, ds2, rfl, rfl, hs2, hl2, hk2'⟩ | ⟨_, rfl, ty0, ty2, k1, k2⟩
        · have e : askA2 (fun (an : An (n - 1)) x => akA M (n - 1) an.2.2 x) (qsOf n t) (.int (j : Int)) (.int i) = false := by
            unfold askA2
            simp only [eg]
          rw [e] at q
          exact ⟨_, rfl, _, _, _, _, false, rfl, .ty "tuple", .base (.int i), kit_ty (by decide +kernel), _, rfl, iteT (q H1 (Same.refl _))⟩
        rotate_left
        · have e : ∀ s, askA2 (fun (an : An (n - 1)) x => akA M (n - 1) an.2.2 x) (qsOf n t) (.int (j : Int)) (.oth s) = false := fun s => by
            unfold askA2
            simp only [eg]
          rw [e] at q
          exact ⟨_, rfl, _, _, _, _, false, rfl, .ty "tuple", ty2, k1, _, rfl, iteT (q H1 (Same.refl _))⟩
        have e : askA2 (fun (an : An (n - 1)) x => akA M (n - 1) an.2.2 x) (qsOf n t) (.int (j : Int)) (.tup ds2) = (decide (ds2.length = qj.length) && (List.zipWith (fun (an : An (n - 1)) x => akA M (n - 1) an.2.2 x) qj ds2).all id) := by
          unfold askA2
          simp only [eg]
        rw [e] at q
        refine ⟨_, rfl, _, _, _, _, true, rfl, .ty "tuple", tyx_tup hs2, kit_ty (by decide +kernel), _, rfl, iteF ?_⟩
        refine ⟨_, rfl, a2, _, rfl, .inr hs2, _, rfl, _, rfl, ch, zs, (j : Int), _, rfl, rfl, hch, at_of (j := j) rfl ey, p', ww, rfl, .inr hp', rfl, _, rfl, ?_⟩
        by_cases le : ds2.length = qj.length
        rotate_left
        · rw [hl2, lww, decide_eq_false (show ¬ V.int ((ds2.length : Nat) : Int) = V.int ((qj.length : Nat) : Int) from fun z => le (by have := V.int.inj z; omega))]
          refine iteT ?_
          rw [decide_eq_false le, Bool.false_and] at q
          exact q H1 (Same.refl _)
        rw [hl2, lww, le, decide_eq_true rfl]
        refine iteF ?_
        rw [decide_eq_true le, Bool.true_and] at q
        obtain ⟨n', rfl⟩ : ∃ n', n = n' + 1 := by
          cases n with
          | zero => exact absurd (List.mem_of_getElem? eqj) List.not_mem_nil
          | succ n => exact ⟨n, rfl⟩
        have hsp := hsp n' rfl
        subst hsp
        have bd3 := bk _ (List.mem_cons_of_mem _ (List.mem_cons_of_mem _ List.mem_cons_self))
        refine ⟨_, rfl, _, rfl, _, rfl, ch, zs, (j : Int), _, rfl, rfl, hch, at_of (j := j) rfl ey, a2, p', xs2, ww, rfl, .inr ⟨hs2, hp', fun T hT => ?_⟩⟩
        refine lc_bools (K := K) (walk_zipT (K := K) (a := a2) (b := p') (xs := xs2) (ys := ww) (n := qj.length) (by omega)) (List.zipWith (fun (an : An n') x => akA M n' an.2.2 x) qj ds2) (by rw [List.length_zipWith]; omega) (by omega) hT (fun H' s => ⟨Same.kt s _ _ hs2, Same.kt s _ _ hp'⟩) ?_ ?_
        · rintro i y' cc H2 H3 Qy N hcc s2 ⟨T2, x', y2, rfl, n2, rfl, e1, e2⟩ hQ
          have s3 : Same H2 (upd H2 T2 (.tup [x', y2])) := same_upd n2
          obtain ⟨dy, ey2, ty2⟩ := tp'.getV e2
          rw [List.getElem?_map] at ey2
          obtain ⟨an, ean, rfl⟩ := Option.map_eq_some_iff.mp ey2
          obtain ⟨r, er⟩ : ∃ r, ds2[i]? = some r := ⟨_, List.getElem?_eq_getElem (by
            have := (List.getElem?_eq_some_iff.mp e1).1
            omega)⟩
          rw [List.getElem?_zipWith, er, ean] at hcc
          cases hcc
          have k23 := Same.kt (K := K) (s2.trans s3)
          obtain ⟨pn, vw, vz, vt, rfl, hpn, tw, tz, tt⟩ := td_an (ty2.keep k23)
          refine ⟨T2, _, rfl, .inl (.inl upd_same), rfl, _, _, rfl, _, _, rfl, rfl, ?_⟩
          refine ⟨rfl, ?_⟩
          refine iteT (B := N (upd H2 T2 (.tup [x', .ref pn]))) ?_
          exact ⟨_, rfl, _, rfl, pn, _, 2, _, rfl, rfl, hpn, at_of (j := 2) rfl rfl, _, rfl, b, g, W, M, vt, x', r, an.2.1, an.2.2, rfl, (hk2' i x' r e1 er).same (s2.trans s3), (bd3.at_).2 r (List.mem_of_getElem? er), tt, qjn an (List.mem_of_getElem? ean), fun H5 s5 => hQ H5 (s3.trans s5)⟩
        · intro H2 h2' s2
          exact ⟨T, _, rfl, SqL.of h2', q H2 s2⟩
      · rw [decide_eq_false (show ¬ V.str x = V.str "ask" from fun z => c (by injection z))]
        refine iteT ?_
        have z := q H1 (Same.refl _)
        rw [decide_eq_false c, Bool.false_and] at z
        exact z
  · have z := q H1 (Same.refl _)
    rw [ak_len l2 l3] at z
    have e : inV (V.int ((xs.length : Nat) : Int)) [V.int 2, V.int 3] = false := by
      rw [hl]
      exact inV_23 l2 l3
    rw [e]
    exact ⟨_, rfl, iteT z⟩
end
end Tl
/-! things of any kind and data, place by place -/
namespace Tl
open PySem PySem.Spec PyProof.Rows L2 RZ
/-- place by place a datum is found -/
theorem tds_find {α β : Type} {K : PySem.W.Frag} {b g : Addr} {H : Hp} {R : α → β → Prop} {D : β → PyData} {F : α → AD → Bool} :
    ∀ {xs : List α} {ds : List AD} {vs : List V}, (∀ x ∈ xs, ∀ d v, F x d = true → Ad K b g H v d → ∃ y, R x y ∧ Td K H v (D y)) → ds.length = xs.length → vs.length = ds.length → (∀ (i : Nat) (x : V) (d : AD), vs[i]? = some x → ds[i]? = some d → Ad K b g H x d) → (List.zipWith F xs ds).all id = true →
    ∃ ys : List β, Al R xs ys ∧ TdAll K H vs (ys.map D)
  | [], [], [], _, _, _, _, _ => ⟨[], .nil, .nil⟩
  | [], _ :: _, _, _, l, _, _, _ => by simp at l
  | _ :: _, [], _, _, l, _, _, _ => by simp at l
  | _ :: _, _ :: _, [], _, _, l, _, _ => by simp at l
  | [], [], _ :: _, _, _, l, _, _ => by simp at l
  | x :: xs, d :: ds, v :: vs, h, l1, l2, k, e => by
    rw [List.zipWith_cons_cons, List.all_cons, Bool.and_eq_true] at e
    obtain ⟨y, r, t⟩ := h x (List.mem_cons_self ..) d v e.1 (k 0 v d rfl rfl)
    obtain ⟨ys, al, ts⟩ := tds_find (xs := xs) (ds := ds) (vs := vs) (fun z hz => h z (List.mem_cons_of_mem _ hz)) (by simpa using l1) (by simpa using l2) (fun i x d e1 e2 => k (i + 1) x d (by simpa using e1) (by simpa using e2)) e.2
    exact ⟨y :: ys, .cons r al, .cons t ts⟩
theorem getI_some {α : Type} {xs : List α} {i : Int} {x : α} (h : getI xs i = some x) : ∃ j : Nat, i = (j : Int) ∧ xs[j]? = some x := by
  unfold getI at h
  by_cases c : 0 ≤ i
  · rw [if_pos c] at h
    exact ⟨i.toNat, by omega, h⟩
  · rw [if_neg c] at h
    cases h
theorem askA2_of {n : Nat} {f : An n → AD → Bool} {t : List (Qn n)} {d1 d2 : AD} (h : askA2 f t d1 d2 = true) : ∃ (j : Nat) (qn : Qn n) (ds : List AD), d1 = .int (j : Int) ∧ t[j]? = some qn ∧ d2 = .tup ds ∧ ds.length = qn.length ∧ (List.zipWith f qn ds).all id = true := by
  cases d1 with
  | int i =>
    unfold askA2 at h
    simp only at h
    cases e : getI t i with
    | none => rw [e] at h; cases h
    | some qn =>
      rw [e] at h
      obtain ⟨j, rfl, ej⟩ := getI_some e
      cases d2 with
      | int _ => cases h
      | oth _ => cases h
      | tup ds =>
        have h : (decide (ds.length = qn.length) && (List.zipWith f qn ds).all id) = true := h
        rw [Bool.and_eq_true] at h
        exact ⟨j, qn, ds, rfl, ej, rfl, of_decide_eq_true h.1, h.2⟩
  | tup _ => cases h
  | oth _ => cases h
theorem ad_three {K : PySem.W.Frag} {b g : Addr} {H : Hp} {v : V} {x : Str} {d1 d2 : AD} (h : Ad K b g H v (.tup [.oth (some x), d1, d2])) : ∃ a v1 v2, v = .ref a ∧ SqT K H a [.str x, v1, v2] ∧ Ad K b g H v1 d1 ∧ Ad K b g H v2 d2 := by
  cases h with
  | @tup a xs _ hs hl hk =>
    match xs, hl with
    | [u0, u1, u2], _ =>
      cases hk 0 u0 _ rfl rfl
      exact ⟨a, u1, u2, rfl, hs, hk 1 u1 d1 rfl rfl, hk 2 u2 d2 rfl rfl⟩
theorem ad_tup {K : PySem.W.Frag} {b g : Addr} {H : Hp} {v : V} {ds : List AD} (h : Ad K b g H v (.tup ds)) : ∃ a xs, v = .ref a ∧ SqT K H a xs ∧ xs.length = ds.length ∧ ∀ (i : Nat) (x : V) (d : AD), xs[i]? = some x → ds[i]? = some d → Ad K b g H x d := by
  cases h with
  | @tup a xs _ hs hl hk => exact ⟨a, xs, rfl, hs, hl, hk⟩
theorem ad_int {K : PySem.W.Frag} {b g : Addr} {H : Hp} {v : V} {i : Int} (h : Ad K b g H v (.int i)) : v = .int i := by
  cases h
  rfl
theorem tds_each {α β : Type} {K : PySem.W.Frag} {b g : Addr} {H : Hp} {R : AD → β → Prop} {D : β → PyData} :
    ∀ {ds : List AD} {vs : List V}, (∀ d ∈ ds, ∀ v, Ad K b g H v d → ∃ y, R d y ∧ Td K H v (D y)) → vs.length = ds.length → (∀ (i : Nat) (x : V) (d : AD), vs[i]? = some x → ds[i]? = some d → Ad K b g H x d) → ∃ ys : List β, Al R ds ys ∧ TdAll K H vs (ys.map D)
  | [], [], _, _, _ => ⟨[], .nil, .nil⟩
  | _ :: _, [], _, l, _ => by simp at l
  | [], _ :: _, _, l, _ => by simp at l
  | d :: ds, v :: vs, h, l2, k => by
    obtain ⟨y, r, t⟩ := h d (List.mem_cons_self ..) v (k 0 v d rfl rfl)
    obtain ⟨ys, al, ts⟩ := tds_each (α := α) (ds := ds) (vs := vs) (fun z hz => h z (List.mem_cons_of_mem _ hz)) (by simpa using l2) (fun i x d e1 e2 => k (i + 1) x d (by simpa using e1) (by simpa using e2))
    exact ⟨y :: ys, .cons r al, .cons t ts⟩
end Tl
/-! askers, gains, priors: refused or told -/
namespace Tl
open PySem PySem.Spec PyProof.Rows L2 RZ
/-- a chance that is judged right -/
theorem chA_ok {d : AD} (h : chA d = true) (bd : BdA d) : Ch 1 (ratA d) := by
  have hf := ch_is h
  have gi := rat_gi hf bd
  obtain ⟨x, y, rfl, e1, e2⟩ := rat_of hf
  have h1 : (frA (.tup [.int x, .int y]) && (decide (0 ≤ x) && decide (x ≤ y))) = true := h
  rw [Bool.and_eq_true, Bool.and_eq_true] at h1
  have x0 : 0 ≤ x := of_decide_eq_true h1.2.1
  have xy : x ≤ y := of_decide_eq_true h1.2.2
  refine ⟨?_, ?_, by rw [Nat.pow_one]; exact gi⟩
  · exact Rat.num_nonneg.mp (by rw [e1]; omega)
  · refine (Rat.le_iff _ _).mpr ?_
    show _ * 1 ≤ 1 * _
    rw [e1, e2]
    omega
theorem pr_data {K : PySem.W.Frag} {b g : Addr} {H : Hp} {W : Nat} {d : AD} {v : V} (h : prA d W = true) (bd : BdA d) (had : Ad K b g H v d) : ∃ p : List Rat, PriorOk W p ∧ Td K H v (wsD p) := by
  cases d with
  | int _ => cases h
  | oth _ => cases h
  | tup ds =>
    have h : ((decide (ds.length = W) && ds.all chA) && decide (fsum (ds.map ratA) = 1)) = true := h
    rw [Bool.and_eq_true, Bool.and_eq_true] at h
    have hc := List.all_eq_true.mp h.1.2
    obtain ⟨a, xs, rfl, hq, hl, hk⟩ := ad_tup had
    refine ⟨ds.map ratA, ⟨by rw [List.length_map]; exact of_decide_eq_true h.1.1, fun r hr => ?_, of_decide_eq_true h.2⟩, .tup hq (tds_of (by rw [List.length_map, hl]) fun i x r e1 e2 => ?_)⟩
    · obtain ⟨d, hd, rfl⟩ := List.mem_map.mp hr
      exact chA_ok (hc d hd) (bd.at_.2 d hd)
    · rw [List.getElem?_map] at e2
      obtain ⟨d, ed, rfl⟩ := Option.map_eq_some_iff.mp e2
      exact td_rat (hk i x d e1 ed) (ch_is (hc d (List.mem_of_getElem? ed)))
theorem ga_data {K : PySem.W.Frag} {b g : Addr} {H : Hp} {W : Nat} {d : AD} {v : V} (h : arA frA d W = true) (bd : BdA d) (had : Ad K b g H v d) : ∃ p : List Rat, PaysM W (2 ^ 130) p ∧ Td K H v (wsD p) := by
  cases d with
  | int _ => cases h
  | oth _ => cases h
  | tup ds =>
    have h : (decide (ds.length = W) && ds.all frA) = true := h
    rw [Bool.and_eq_true] at h
    have hc := List.all_eq_true.mp h.2
    obtain ⟨a, xs, rfl, hq, hl, hk⟩ := ad_tup had
    refine ⟨ds.map ratA, ⟨by rw [List.length_map]; exact of_decide_eq_true h.1, fun r hr => ?_⟩, .tup hq (tds_of (by rw [List.length_map, hl]) fun i x r e1 e2 => ?_)⟩
    · obtain ⟨d, hd, rfl⟩ := List.mem_map.mp hr
      have z := rat_bd (hc d hd) (bd.at_.2 d hd)
      exact ⟨by rw [Nat.pow_one]; exact z.2.2, bd_of_num z.2.1⟩
    · rw [List.getElem?_map] at e2
      obtain ⟨d, ed, rfl⟩ := Option.map_eq_some_iff.mp e2
      exact td_rat (hk i x d e1 ed) (hc d (List.mem_of_getElem? ed))
theorem gn_data {K : PySem.W.Frag} {b g : Addr} {H : Hp} {W : Nat} {d : AD} {v : V} (h : gnA W d = true) (bd : BdA d) (l : lenA d ≤ 20) (had : Ad K b g H v d) : ∃ gs : List (List Rat), GainsOk W (2 ^ 130) gs ∧ gs.length = lenA d ∧ Td K H v (gsD gs) := by
  cases d with
  | int _ => cases h
  | oth _ => cases h
  | tup ds =>
    have h : (!decide (ds.length = 0) && ds.all (fun d => arA frA d W)) = true := h
    rw [Bool.and_eq_true] at h
    have hc := List.all_eq_true.mp h.2
    have l0 : ds.length ≠ 0 := fun z => by
      rw [decide_eq_true z] at h
      cases h.1
    obtain ⟨a, xs, rfl, hq, hl, hk⟩ := ad_tup had
    obtain ⟨gs, al, ts⟩ := tds_each (α := Unit) (R := fun (_ : AD) (x : List Rat) => PaysM W (2 ^ 130) x) (D := wsD) (ds := ds) (vs := xs) (fun d hd v hv => ga_data (hc d hd) (bd.at_.2 d hd) hv) hl hk
    have ll := al.len
    have l : ds.length ≤ 20 := l
    refine ⟨gs, ⟨by omega, by omega, fun x hx => ?_, by decide⟩, ll.symm, .tup hq ts⟩
    obtain ⟨i, hi⟩ := List.getElem?_of_mem hx
    obtain ⟨d, ed⟩ : ∃ d, ds[i]? = some d := ⟨_, List.getElem?_eq_getElem (by
      have := (List.getElem?_eq_some_iff.mp hi).1
      omega)⟩
    obtain ⟨x', e1, e2⟩ := al.get ed
    rw [hi] at e1
    cases e1
    exact e2
theorem ak2_of {M : Nat} {d : AD} (h : ak2 M d = true) : ∃ j : Nat, d = .tup [.oth (some ("stop" : Str)), .int (j : Int)] ∧ j < M := by
  match d, h with
  | .tup [d0, d1], h =>
    cases d0 with
    | int _ => cases h
    | tup _ => cases h
    | oth s =>
      cases s with
      | none => cases h
      | some x =>
        have h : (decide (x = ("stop" : Str)) && numA 0 ((M : Int) - 1) d1) = true := h
        rw [Bool.and_eq_true] at h
        obtain rfl := of_decide_eq_true h.1
        cases d1 with
        | tup _ => cases h.2
        | oth _ => cases h.2
        | int i =>
          have h2 : (decide (0 ≤ i) && decide (i ≤ (M : Int) - 1)) = true := h.2
          rw [Bool.and_eq_true] at h2
          have a := of_decide_eq_true h2.1
          have b := of_decide_eq_true h2.2
          exact ⟨i.toNat, by rw [show ((i.toNat : Nat) : Int) = i by omega], by omega⟩
theorem ak3_of {f : AD → AD → Bool} {d : AD} (h : ak3 f d = true) : ∃ d1 d2, d = .tup [.oth (some ("ask" : Str)), d1, d2] ∧ f d1 d2 = true := by
  match d, h with
  | .tup [d0, d1, d2], h =>
    cases d0 with
    | int _ => cases h
    | tup _ => cases h
    | oth s =>
      cases s with
      | none => cases h
      | some x =>
        have h : (decide (x = ("ask" : Str)) && f d1 d2) = true := h
        rw [Bool.and_eq_true] at h
        obtain rfl := of_decide_eq_true h.1
        exact ⟨d1, d2, rfl, h.2⟩
theorem ad_two {K : PySem.W.Frag} {b g : Addr} {H : Hp} {v : V} {x : Str} {d1 : AD} (h : Ad K b g H v (.tup [.oth (some x), d1])) : ∃ a v1, v = .ref a ∧ SqT K H a [.str x, v1] ∧ Ad K b g H v1 d1 := by
  cases h with
  | @tup a xs _ hs hl hk =>
    match xs, hl with
    | [u0, u1], _ =>
      cases hk 0 u0 _ rfl rfl
      exact ⟨a, u1, rfl, hs, hk 1 u1 d1 rfl rfl⟩
theorem ak_data {K : PySem.W.Frag} {b g : Addr} {H : Hp} {M : Nat} : ∀ (n : Nat) (t : Nd n) (d : AD) (v : V), akA M n t d = true → Ad K b g H v d → ∃ a : Ak n, IsAk M n t a ∧ Td K H v (akD n a)
  | n, t, d, v, h, had => by
    rw [akA_qs, Bool.or_eq_true] at h
    rcases h with h | h
    · obtain ⟨j, rfl, hj⟩ := ak2_of h
      obtain ⟨a, v1, rfl, hs, h1⟩ := ad_two had
      obtain rfl := ad_int h1
      refine ⟨stopA n j, isAk_stop hj, ?_⟩
      rw [akD_stop]
      exact .tup hs (.cons (.str _) (.cons (.int _) .nil))
    · obtain ⟨d1, d2, rfl, h⟩ := ak3_of h
      obtain ⟨j, qn, ds, rfl, ej, rfl, l, hz⟩ := askA2_of h
      obtain ⟨a, v1, v2, rfl, hs, h1, h2⟩ := ad_three had
      obtain rfl := ad_int h1
      obtain ⟨c, ys, rfl, hc, lc, kc⟩ := ad_tup h2
      cases n with
      | zero => exact absurd (List.mem_of_getElem? ej) List.not_mem_nil
      | succ n =>
        obtain ⟨ms, al, ts⟩ := tds_find (R := fun (an : An n) (y : Ak n) => IsAk M n an.2.2 y) (D := akD n) (F := fun (an : An n) x => akA M n an.2.2 x) (fun an _ d v hd hv => ak_data n an.2.2 d v hd hv) l lc kc hz
        refine ⟨.inr (j, ms), ⟨qn, ej, al⟩, ?_⟩
        exact .tup hs (.cons (.str _) (.cons (.int _) (.cons (.tup hc ts) .nil)))
theorem akD_tup : ∀ (n : Nat) (a : Ak n), ∃ ds, akD n a = .tuple ds
  | 0, d => ⟨_, rfl⟩
  | _ + 1, .inl d => ⟨_, rfl⟩
  | n + 1, .inr (q, xs) => ⟨_, rfl⟩
/-- what is given to those that tell what an asker gets: things of any kind -/
structure Giv (K : PySem.W.Frag) (b g : Addr) (H : Hp) (vp vg : V) (dp dg : AD) : Prop where
  ap : Ad K b g H vp dp
  bp : BdA dp
  ag : Ad K b g H vg dg
  bg : BdA dg
  l : lenA dg ≤ 20
theorem Giv.keep {K : PySem.W.Frag} {b g : Addr} {H H' : Hp} {vp vg : V} {dp dg : AD} (h : Giv K b g H vp vg dp dg) (s : Same H H') : Giv K b g H' vp vg dp dg := ⟨h.ap.same s, h.bp, h.ag.same s, h.bg, h.l⟩
def spAgR (K : PySem.W.Frag) (C CP CG CN : Addr) (n : Nat) : Sp := fun vs H Q E => ∃ (b g p : Addr) (W : Nat) (v vp vg va : V) (t : Nd n) (dp dg da : AD), vs = [.ref p, vp, vg, va] ∧ HsOk K C H p W n t v ∧ n ≤ 6 ∧ Giv K b g H vp vg dp dg ∧ Ad K b g H va da ∧ BdA da ∧
  (prA dp W = false → ∀ H', Same H H' → E (.ref CP) none H') ∧ (prA dp W = true → gnA W dg = false → ∀ H', Same H H' → E (.ref CG) none H') ∧
  (prA dp W = true → gnA W dg = true → akA (lenA dg) n t da = false → ∀ H', Same H H' → E (.ref CN) none H') ∧ (prA dp W = true → gnA W dg = true → akA (lenA dg) n t da = true → ∀ r xs H', Same H H' → SqT K H' r xs → Q (.ref r) H')
def spBwR2 (K : PySem.W.Frag) (C CP CG : Addr) (n : Nat) : Sp := fun vs H Q E => ∃ (b g p : Addr) (W : Nat) (v vp vg : V) (t : Nd n) (dp dg : AD), vs = [.ref p, vp, vg] ∧ HsOk K C H p W n t v ∧ n ≤ 6 ∧ Giv K b g H vp vg dp dg ∧
  (prA dp W = false → ∀ H', Same H H' → E (.ref CP) none H') ∧ (prA dp W = true → gnA W dg = false → ∀ H', Same H H' → E (.ref CG) none H') ∧
  (prA dp W = true → gnA W dg = true → ∀ r x a H', Same H H' → Td K H' r (wayD n x a) → Q r H')
def spWoR (K : PySem.W.Frag) (C CP CG : Addr) (n : Nat) : Sp := fun vs H Q E => ∃ (b g p : Addr) (W : Nat) (v vp vg : V) (t : Nd n) (dp dg : AD), vs = [.ref p, vp, vg] ∧ HsOk K C H p W n t v ∧ n ≤ 6 ∧ Giv K b g H vp vg dp dg ∧
  (prA dp W = false → ∀ H', Same H H' → E (.ref CP) none H') ∧ (prA dp W = true → gnA W dg = false → ∀ H', Same H H' → E (.ref CG) none H') ∧
  (prA dp W = true → gnA W dg = true → ∀ r xs H', Same H H' → SqT K H' r xs → Q (.ref r) H')
/-- of how many worlds a prior is, if it may be one -/
def wdA : AD → Bool
  | .tup ds => decide (1 ≤ ds.length) && decide (ds.length ≤ 5)
  | _ => false
def spWuR (K : PySem.W.Frag) (CP CG : Addr) : Sp := fun vs H Q E => ∃ (b g : Addr) (vp vg : V) (dp dg : AD), vs = [vp, vg] ∧ Giv K b g H vp vg dp dg ∧
  ((wdA dp && prA dp (lenA dp)) = false → ∀ H', Same H H' → E (.ref CP) none H') ∧ ((wdA dp && prA dp (lenA dp)) = true → gnA (lenA dp) dg = false → ∀ H', Same H H' → E (.ref CG) none H') ∧
  ((wdA dp && prA dp (lenA dp)) = true → gnA (lenA dp) dg = true → ∀ r xs H', Same H H' → SqT K H' r xs → Q (.ref r) H')
section
variable {P : Program} {w : World} {K : PySem.W.Frag} {mg : Str → Option Value} {base : Heap} {aN aO : Addr} {t1 t2 t3 t4 t5 t6 t7 : Tok}
theorem ok_check_prior_r {HE CP : Addr} {f f1 : Addr} {fd fd1 : FuncData} (D : Dn K mg "check_prior" s_check_prior ["prior", "worlds"] f fd) (B : Blt mg) (C : Cst K mg aN aO t1 t2 t3 t4 t5 t6 t7)
    (D_is_prior : Dn K mg "is_prior" s_is_prior ["thing", "worlds"] f1 fd1) (G_is_prior : FnOk P w K mg base CX0 5 f1 fd1 ["thing", "worlds"] (spPrA K)) (X_NoPrior : XRs K mg HE "NoPrior" CP) : FnOk P w K mg base (L2.CX P w) 6 f fd ["prior", "worlds"] (spCkPr K CP) := by
  refine D.F.okX sc_check_prior (fun vs H Q E h => ?_) (fun cdv A outer s H vs Q E hr h => ?_)
  · obtain ⟨b, g, v, d, W, rfl, _⟩ := h
    rfl
  obtain ⟨b, g, v, d, W, rfl, hv, bd, h5, q, r⟩ := h
  have nd := sc_check_prior.nd
  refine ⟨_, (pss_one (ps_if (pt_not (pt_val (pe_call G_is_prior (hr.mono (by omega)) (by rfl) D_is_prior.m D_is_prior.F.kp D_is_prior.b .nil pass0 (pa_cons (pv 0) (pa_cons (pv 1) pa_nil))))) (pss_one (ps_raise rfl (takes_of rfl rfl rfl rfl) (pmk_own0 PySem.F.excBase_ValueError X_NoPrior.q X_NoPrior.X.g X_NoPrior.X.k (raises_own X_NoPrior.X.E.hs X_NoPrior.X.T.tyC) (by rfl)))) pss_nil)), ?_⟩
  refine ⟨_, rfl, _, rfl, b, g, v, d, W, rfl, hv, bd, h5, fun H1 s1 => ⟨_, rfl, ?_⟩⟩
  cases e : prA d W with
  | false => exact iteT (r e H1 s1)
  | true => exact iteF (q e H1 s1)
theorem ok_check_gains_r {HE CG : Addr} {f f1 : Addr} {fd fd1 : FuncData} (D : Dn K mg "check_gains" s_check_gains ["gains", "worlds"] f fd) (B : Blt mg) (C : Cst K mg aN aO t1 t2 t3 t4 t5 t6 t7)
    (D_are_gains : Dn K mg "are_gains" s_are_gains ["thing", "worlds"] f1 fd1) (G_are_gains : FnOk P w K mg base CX0 4 f1 fd1 ["thing", "worlds"] (spGnA K)) (X_NoGains : XRs K mg HE "NoGains" CG) : FnOk P w K mg base (L2.CX P w) 5 f fd ["gains", "worlds"] (spCkGn K CG) := by
  refine D.F.okX sc_check_gains (fun vs H Q E h => ?_) (fun cdv A outer s H vs Q E hr h => ?_)
  · obtain ⟨b, g, v, d, W, rfl, _⟩ := h
    rfl
  obtain ⟨b, g, v, d, W, rfl, hv, bd, h5, q, r⟩ := h
  have nd := sc_check_gains.nd
  refine ⟨_, (pss_one (ps_if (pt_not (pt_val (pe_call G_are_gains (hr.mono (by omega)) (by rfl) D_are_gains.m D_are_gains.F.kp D_are_gains.b .nil pass0 (pa_cons (pv 0) (pa_cons (pv 1) pa_nil))))) (pss_one (ps_raise rfl (takes_of rfl rfl rfl rfl) (pmk_own0 PySem.F.excBase_ValueError X_NoGains.q X_NoGains.X.g X_NoGains.X.k (raises_own X_NoGains.X.E.hs X_NoGains.X.T.tyC) (by rfl)))) pss_nil)), ?_⟩
  refine ⟨_, rfl, _, rfl, b, g, v, d, W, rfl, hv, bd, h5, fun H1 s1 => ⟨_, rfl, ?_⟩⟩
  cases e : gnA W d with
  | false => exact iteT (r e H1 s1)
  | true => exact iteF (q e H1 s1)
theorem ok_asker_gets_r {HE CP CG CN : Addr} {n : Nat} {f f1 f2 f3 f4 : Addr} {fd fd1 fd2 fd3 fd4 : FuncData} {Cc fi fe : Addr} (D : Dn K mg "asker_gets" s_asker_gets ["house", "prior", "gains", "asker"] f fd) (B : Blt mg) (C : Cst K mg aN aO t1 t2 t3 t4 t5 t6 t7) (U : Hcl K mg Cc fi fe)
    (D_check_prior : Dn K mg "check_prior" s_check_prior ["prior", "worlds"] f1 fd1) (G_check_prior : FnOk P w K mg base (L2.CX P w) 6 f1 fd1 ["prior", "worlds"] (spCkPr K CP))
    (D_check_gains : Dn K mg "check_gains" s_check_gains ["gains", "worlds"] f2 fd2) (G_check_gains : FnOk P w K mg base (L2.CX P w) 5 f2 fd2 ["gains", "worlds"] (spCkGn K CG))
    (D_is_asker : Dn K mg "is_asker" s_is_asker ["thing", "node", "deeds"] f3 fd3) (G_is_asker : FnOk P w K mg base CX0 (4 + n) f3 fd3 ["thing", "node", "deeds"] (spAkA K n))
    (D_gets_at : Dn K mg "gets_at" s_gets_at ["node", "weights", "prior", "gains", "asker"] f4 fd4) (G_gets_at : FnOk P w K mg base CX0 (5 + n) f4 fd4 ["node", "weights", "prior", "gains", "asker"] (spGA K n)) (X_NoAsker : XRs K mg HE "NoAsker" CN) : FnOk P w K mg base (L2.CX P w) (7 + n) f fd ["house", "prior", "gains", "asker"] (spAgR K Cc CP CG CN n) := by
  rw [show 7 + n = (6 + n) + 1 by omega]
  refine D.F.okX sc_asker_gets (fun vs H Q E h => ?_) (fun cdv A outer s H vs Q E hr h => ?_)
  · obtain ⟨b, g, p, W, v, vp, vg, va, t, dp, dg, da, rfl, _⟩ := h
    rfl
  obtain ⟨b, g, p, W, v, vp, vg, va, t, dp, dg, da, rfl, hs, hn, G, ha, bda, r1, r2, r3, q⟩ := h
  have nd := sc_asker_gets.nd
  refine ⟨_, (pss_cons (ps_expr (pe_call G_check_prior (hr.mono (by omega)) (by rfl) D_check_prior.m D_check_prior.F.kp D_check_prior.b .nil (passes_call (takes_of rfl rfl rfl rfl) (fun _ _ _ _ h => h)) (pa_cons (pv 1) (pa_cons (k_fld (K := K) rfl (pv 0) rfl) pa_nil))))
      (pss_cons (ps_expr (pe_call G_check_gains (hr.mono (by omega)) (by rfl) D_check_gains.m D_check_gains.F.kp D_check_gains.b .nil (passes_call (takes_of rfl rfl rfl rfl) (fun _ _ _ _ h => h)) (pa_cons (pv 2) (pa_cons (k_fld (K := K) rfl (pv 0) rfl) pa_nil))))
      (pss_cons (ps_if (pt_not (pt_val (pe_call G_is_asker (hr.mono (by omega)) (by rfl) D_is_asker.m D_is_asker.F.kp D_is_asker.b .nil pass0 (pa_cons (pv 3) (pa_cons (k_fld (K := K) rfl (pv 0) rfl) (pa_cons (pe_callB (k_len (K := K) rfl) (by rfl) B.len PySem.boot_len (pa_cons (pv 2) pa_nil)) pa_nil)))))) (pss_one (ps_raise rfl (takes_of rfl rfl rfl rfl) (pmk_own0 PySem.F.excBase_ValueError X_NoAsker.q X_NoAsker.X.g X_NoAsker.X.k (raises_own X_NoAsker.X.E.hs X_NoAsker.X.T.tyC) (by rfl)))) pss_nil)
      (pss_one (ps_ret (pe_call G_gets_at (hr.mono (by omega)) (by rfl) D_gets_at.m D_gets_at.F.kp D_gets_at.b .nil pass0 (pa_cons (k_fld (K := K) rfl (pv 0) rfl) (pa_cons (pe_op (k_rep (K := K) rfl) (pe_tup (pa_cons (pe_glob (v := .ref _) rfl C.ONE rfl) pa_nil)) (k_fld (K := K) rfl (pv 0) rfl)) (pa_cons (pv 1) (pa_cons (pv 2) (pa_cons (pv 3) pa_nil))))))))))), ?_⟩
  have h5 := hs.w5
  have w1 := hs.w1
  obtain ⟨d, ed⟩ := id hs.at_
  refine ⟨_, rfl, _, rfl, p, Cc, d, _, _, rfl, ed, U.cl, U.nw, hf_w _ _, b, g, vp, dp, W, rfl, G.ap, G.bp, h5, fun e1 H1 s1 => ?_, fun e1 H1 s1 => r1 e1 H1 s1⟩
  have G1 := G.keep s1
  refine ⟨_, rfl, _, rfl, p, Cc, d, _, _, rfl, s1 _ _ ed, U.cl, U.nw, hf_w _ _, b, g, vg, dg, W, rfl, G1.ag, G1.bg, h5, fun e2 H2 s2 => ?_, fun e2 H2 s2 => r2 e1 e2 H2 (s1.trans s2)⟩
  have s02 := s1.trans s2
  have G2 := G1.keep s2
  obtain ⟨pr, pok, tp⟩ := pr_data e1 G2.bp G2.ap
  obtain ⟨gs, gok, lg, tg⟩ := gn_data e2 G2.bg G2.l G2.ag
  obtain ⟨ga, gus, rfl, hga, tga⟩ := id tg.tupE
  have lgu : gus.length = gs.length := by rw [tga.len, List.length_map]
  refine ⟨_, rfl, _, rfl, p, Cc, d, _, _, rfl, s02 _ _ ed, U.cl, U.nt, hf_t _ _, _, rfl, ga, _, rfl, .inr hga, b, g, W, gs.length, v, va, da, ones W, t, by rw [lgu]; rfl, ha.same s02, bda, hs.td.keep (Same.kt s02), hs.ok, fun H3 s3 => ⟨_, rfl, ?_⟩⟩
  have s03 := s02.trans s3
  rw [lg]
  cases e3 : akA (lenA dg) n t da with
  | false => exact iteT (r3 e1 e2 e3 H3 s03)
  | true =>
    refine iteF ?_
    obtain ⟨a, hA, ta⟩ := ak_data n t da va e3 (ha.same s03)
    rw [← lg] at hA
    refine ⟨_, rfl, p, Cc, d, _, _, rfl, s03 _ _ ed, U.cl, U.nt, hf_t _ _, by show 1 ≤ sizeLine; decide, fun p2 n2 => ?_⟩
    have s4 := same_upd (o := .tup [.ref aO]) n2
    have s04 := s03.trans s4
    refine ⟨_, rfl, p, Cc, d, _, _, rfl, s04 _ _ ed, U.cl, U.nw, hf_w _ _, p2, (W : Int), _, rfl, rfl, .inl (.inl upd_same), by simp, by omega, by omega, by simp, fun pa H5 s5 q5 => ?_⟩
    have s05 := s04.trans s5
    have s25 := s3.trans (s4.trans s5)
    have tO : Td K H5 (.ref aO) (rD 1) := by
      rw [rD_one]
      exact .tup (C.tO _) (tdAll_ints [1, 1])
    refine ⟨_, rfl, _, rfl, _, rfl, W, _, v, .ref pa, vp, .ref ga, va, pr, ones W, gs, t, a, rfl, hs.td.keep (Same.kt s05), ones_td tO q5, tp.keep (Same.kt s25), tg.keep (Same.kt s25), ta.keep (Same.kt (s4.trans s5)), pok, h5, ones_ws, gok, hs.ok, hn, hA, fun r H6 s6 tr => ?_⟩
    obtain ⟨rp, ys, rfl, hr, _⟩ := tr.tupE
    exact q e1 e2 e3 rp ys H6 (s05.trans s6) hr
theorem ok_best_way_r {HE CP CG : Addr} {n : Nat} {f f1 f2 f3 : Addr} {fd fd1 fd2 fd3 : FuncData} {Cc fi fe : Addr} (D : Dn K mg "best_way" s_best_way ["house", "prior", "gains"] f fd) (B : Blt mg) (C : Cst K mg aN aO t1 t2 t3 t4 t5 t6 t7) (U : Hcl K mg Cc fi fe)
    (D_check_prior : Dn K mg "check_prior" s_check_prior ["prior", "worlds"] f1 fd1) (G_check_prior : FnOk P w K mg base (L2.CX P w) 6 f1 fd1 ["prior", "worlds"] (spCkPr K CP))
    (D_check_gains : Dn K mg "check_gains" s_check_gains ["gains", "worlds"] f2 fd2) (G_check_gains : FnOk P w K mg base (L2.CX P w) 5 f2 fd2 ["gains", "worlds"] (spCkGn K CG))
    (D_best_at : Dn K mg "best_at" s_best_at ["node", "weights", "prior", "gains"] f3 fd3) (G_best_at : FnOk P w K mg base CX0 (6 + n) f3 fd3 ["node", "weights", "prior", "gains"] (spBA K n)) : FnOk P w K mg base (L2.CX P w) (7 + n) f fd ["house", "prior", "gains"] (spBwR2 K Cc CP CG n) := by
  rw [show 7 + n = (6 + n) + 1 by omega]
  refine D.F.okX sc_best_way (fun vs H Q E h => ?_) (fun cdv A outer s H vs Q E hr h => ?_)
  · obtain ⟨b, g, p, W, v, vp, vg, t, dp, dg, rfl, _⟩ := h
    rfl
  obtain ⟨b, g, p, W, v, vp, vg, t, dp, dg, rfl, hs, hn, G, r1, r2, q⟩ := h
  have nd := sc_best_way.nd
  refine ⟨_, (pss_cons (ps_expr (pe_call G_check_prior (hr.mono (by omega)) (by rfl) D_check_prior.m D_check_prior.F.kp D_check_prior.b .nil (passes_call (takes_of rfl rfl rfl rfl) (fun _ _ _ _ h => h)) (pa_cons (pv 1) (pa_cons (k_fld (K := K) rfl (pv 0) rfl) pa_nil))))
      (pss_cons (ps_expr (pe_call G_check_gains (hr.mono (by omega)) (by rfl) D_check_gains.m D_check_gains.F.kp D_check_gains.b .nil (passes_call (takes_of rfl rfl rfl rfl) (fun _ _ _ _ h => h)) (pa_cons (pv 2) (pa_cons (k_fld (K := K) rfl (pv 0) rfl) pa_nil))))
      (pss_one (ps_ret (pe_call G_best_at (hr.mono (by omega)) (by rfl) D_best_at.m D_best_at.F.kp D_best_at.b .nil pass0 (pa_cons (k_fld (K := K) rfl (pv 0) rfl) (pa_cons (pe_op (k_rep (K := K) rfl) (pe_tup (pa_cons (pe_glob (v := .ref _) rfl C.ONE rfl) pa_nil)) (k_fld (K := K) rfl (pv 0) rfl)) (pa_cons (pv 1) (pa_cons (pv 2) pa_nil))))))))), ?_⟩
  have h5 := hs.w5
  have w1 := hs.w1
  obtain ⟨d, ed⟩ := id hs.at_
  refine ⟨_, rfl, _, rfl, p, Cc, d, _, _, rfl, ed, U.cl, U.nw, hf_w _ _, b, g, vp, dp, W, rfl, G.ap, G.bp, h5, fun e1 H1 s1 => ?_, fun e1 H1 s1 => r1 e1 H1 s1⟩
  have G1 := G.keep s1
  refine ⟨_, rfl, _, rfl, p, Cc, d, _, _, rfl, s1 _ _ ed, U.cl, U.nw, hf_w _ _, b, g, vg, dg, W, rfl, G1.ag, G1.bg, h5, fun e2 H2 s2 => ?_, fun e2 H2 s2 => r2 e1 e2 H2 (s1.trans s2)⟩
  have s02 := s1.trans s2
  have G2 := G1.keep s2
  obtain ⟨pr, pok, tp⟩ := pr_data e1 G2.bp G2.ap
  obtain ⟨gs, gok, lg, tg⟩ := gn_data e2 G2.bg G2.l G2.ag
  refine ⟨_, rfl, p, Cc, d, _, _, rfl, s02 _ _ ed, U.cl, U.nt, hf_t _ _, by show 1 ≤ sizeLine; decide, fun p2 n2 => ?_⟩
  have s3 := same_upd (o := .tup [.ref aO]) n2
  have s03 := s02.trans s3
  refine ⟨_, rfl, p, Cc, d, _, _, rfl, s03 _ _ ed, U.cl, U.nw, hf_w _ _, p2, (W : Int), _, rfl, rfl, .inl (.inl upd_same), by simp, by omega, by omega, by simp, fun pa H4 s4 q4 => ?_⟩
  have s04 := s03.trans s4
  have s24 := s3.trans s4
  have tO : Td K H4 (.ref aO) (rD 1) := by
    rw [rD_one]
    exact .tup (C.tO _) (tdAll_ints [1, 1])
  exact ⟨_, rfl, _, rfl, W, _, v, .ref pa, vp, vg, pr, ones W, gs, t, rfl, hs.td.keep (Same.kt s04), ones_td tO q4, tp.keep (Same.kt s24), tg.keep (Same.kt s24), pok, h5, ones_ws, gok, hs.ok, hn, fun r a H5 s5 i1 i2 i3 => q e1 e2 r _ a H5 (s04.trans s5) i3⟩
theorem ok_worth_r {HE CP CG : Addr} {n : Nat} {f f1 : Addr} {fd fd1 : FuncData} {Cc fi fe : Addr} (D : Dn K mg "worth" s_worth ["house", "prior", "gains"] f fd) (B : Blt mg) (C : Cst K mg aN aO t1 t2 t3 t4 t5 t6 t7) (U : Hcl K mg Cc fi fe)
    (D_best_way : Dn K mg "best_way" s_best_way ["house", "prior", "gains"] f1 fd1) (G_best_way : FnOk P w K mg base (L2.CX P w) (7 + n) f1 fd1 ["house", "prior", "gains"] (spBwR2 K Cc CP CG n)) : FnOk P w K mg base (L2.CX P w) (8 + n) f fd ["house", "prior", "gains"] (spWoR K Cc CP CG n) := by
  rw [show 8 + n = (7 + n) + 1 by omega]
  refine D.F.okX sc_worth (fun vs H Q E h => ?_) (fun cdv A outer s H vs Q E hr h => ?_)
  · obtain ⟨b, g, p, W, v, vp, vg, t, dp, dg, rfl, _⟩ := h
    rfl
  obtain ⟨b, g, p, W, v, vp, vg, t, dp, dg, rfl, hs, hn, G, r1, r2, q⟩ := h
  have nd := sc_worth.nd
  refine ⟨_, (pss_one (ps_ret (pe_ix (k_ixT (K := K) rfl) (pe_call G_best_way (hr.mono (by omega)) (by rfl) D_best_way.m D_best_way.F.kp D_best_way.b .nil (passes_call (takes_of rfl rfl rfl rfl) (fun _ _ _ _ h => h)) (pa_cons (pv 0) (pa_cons (pv 1) (pa_cons (pv 2) pa_nil)))) pe_int (fun _ _ => rfl)))), ?_⟩
  refine ⟨_, rfl, _, rfl, _, rfl, b, g, p, W, v, vp, vg, t, dp, dg, rfl, hs, hn, G, r1, r2, fun e1 e2 r x a H1 s1 i3 => ?_⟩
  obtain ⟨pr, v0, v1, rfl, hpr, tv0, tv1⟩ := td_two i3
  obtain ⟨rp, ys, rfl, hr, _⟩ := tv0.tupE
  exact ⟨pr, _, 0, _, rfl, rfl, hpr, at_of (j := 0) rfl rfl, q e1 e2 rp ys H1 s1 hr⟩
theorem ok_best_asker_r {HE CP CG : Addr} {n : Nat} {f f1 : Addr} {fd fd1 : FuncData} {Cc fi fe : Addr} (D : Dn K mg "best_asker" s_best_asker ["house", "prior", "gains"] f fd) (B : Blt mg) (C : Cst K mg aN aO t1 t2 t3 t4 t5 t6 t7) (U : Hcl K mg Cc fi fe)
    (D_best_way : Dn K mg "best_way" s_best_way ["house", "prior", "gains"] f1 fd1) (G_best_way : FnOk P w K mg base (L2.CX P w) (7 + n) f1 fd1 ["house", "prior", "gains"] (spBwR2 K Cc CP CG n)) : FnOk P w K mg base (L2.CX P w) (8 + n) f fd ["house", "prior", "gains"] (spWoR K Cc CP CG n) := by
  rw [show 8 + n = (7 + n) + 1 by omega]
  refine D.F.okX sc_best_asker (fun vs H Q E h => ?_) (fun cdv A outer s H vs Q E hr h => ?_)
  · obtain ⟨b, g, p, W, v, vp, vg, t, dp, dg, rfl, _⟩ := h
    rfl
  obtain ⟨b, g, p, W, v, vp, vg, t, dp, dg, rfl, hs, hn, G, r1, r2, q⟩ := h
  have nd := sc_best_asker.nd
  refine ⟨_, (pss_one (ps_ret (pe_ix (k_ixT (K := K) rfl) (pe_call G_best_way (hr.mono (by omega)) (by rfl) D_best_way.m D_best_way.F.kp D_best_way.b .nil (passes_call (takes_of rfl rfl rfl rfl) (fun _ _ _ _ h => h)) (pa_cons (pv 0) (pa_cons (pv 1) (pa_cons (pv 2) pa_nil)))) pe_int (fun _ _ => rfl)))), ?_⟩
  refine ⟨_, rfl, _, rfl, _, rfl, b, g, p, W, v, vp, vg, t, dp, dg, rfl, hs, hn, G, r1, r2, fun e1 e2 r x a H1 s1 i3 => ?_⟩
  obtain ⟨pr, v0, v1, rfl, hpr, tv0, tv1⟩ := td_two i3
  obtain ⟨ds, eds⟩ := akD_tup n a
  rw [eds] at tv1
  obtain ⟨rp, ys, rfl, hr, _⟩ := tv1.tupE
  exact ⟨pr, _, 1, _, rfl, rfl, hpr, at_of (j := 1) rfl rfl, q e1 e2 rp ys H1 s1 hr⟩
theorem ok_worth_unasked_r {HE CP CG : Addr} {tw : Tok} {f f1 f2 f3 : Addr} {fd fd1 fd2 fd3 : FuncData} (D : Dn K mg "worth_unasked" s_worth_unasked ["prior", "gains"] f fd) (B : Blt mg) (C : Cst K mg aN aO t1 t2 t3 t4 t5 t6 t7)
    (D_check_prior : Dn K mg "check_prior" s_check_prior ["prior", "worlds"] f1 fd1) (G_check_prior : FnOk P w K mg base (L2.CX P w) 6 f1 fd1 ["prior", "worlds"] (spCkPr K CP))
    (D_check_gains : Dn K mg "check_gains" s_check_gains ["gains", "worlds"] f2 fd2) (G_check_gains : FnOk P w K mg base (L2.CX P w) 5 f2 fd2 ["gains", "worlds"] (spCkGn K CG))
    (D_best_stop : Dn K mg "best_stop" s_best_stop ["weights", "prior", "gains"] f3 fd3) (G_best_stop : FnOk P w K mg base CX0 5 f3 fd3 ["weights", "prior", "gains"] (spBS K)) (X_NoPrior : XRs K mg HE "NoPrior" CP) (C_MOST_WORLDS : mg "MOST_WORLDS" = some (.int 5 tw)) : FnOk P w K mg base (L2.CX P w) 7 f fd ["prior", "gains"] (spWuR K CP CG) := by
  refine D.F.okX sc_worth_unasked (fun vs H Q E h => ?_) (fun cdv A outer s H vs Q E hr h => ?_)
  · obtain ⟨b, g, vp, vg, dp, dg, rfl, _⟩ := h
    rfl
  obtain ⟨b, g, vp, vg, dp, dg, rfl, G, r1, r2, q⟩ := h
  have nd := sc_worth_unasked.nd
  refine ⟨_, (pss_cons (ps_if (PW.pt (pw_or (pt_not (pt_val (pe_callB (k_isi (K := K) rfl) (by rfl) B.isinstance (by decide +kernel) (pa_cons (pv 0) (pa_cons (pe_bltn (v := .ty "tuple") (u := .type "tuple") (by rfl) B.tuple (by decide +kernel) rfl) pa_nil))))) (pw_or1 (pt_not (pt_chain op_le op_le pe_int (pe_callB (k_len (K := K) rfl) (by rfl) B.len PySem.boot_len (pa_cons (pv 0) pa_nil)) (pe_glob (v := .int _) rfl C_MOST_WORLDS ⟨_, rfl⟩)))))) (pss_one (ps_raise rfl (takes_of rfl rfl rfl rfl) (pmk_own0 PySem.F.excBase_ValueError X_NoPrior.q X_NoPrior.X.g X_NoPrior.X.k (raises_own X_NoPrior.X.E.hs X_NoPrior.X.T.tyC) (by rfl)))) pss_nil)
      (pss_cons (ps_expr (pe_call G_check_prior (hr.mono (by omega)) (by rfl) D_check_prior.m D_check_prior.F.kp D_check_prior.b .nil (passes_call (takes_of rfl rfl rfl rfl) (fun _ _ _ _ h => h)) (pa_cons (pv 0) (pa_cons (pe_callB (k_len (K := K) rfl) (by rfl) B.len PySem.boot_len (pa_cons (pv 0) pa_nil)) pa_nil))))
      (pss_cons (ps_expr (pe_call G_check_gains (hr.mono (by omega)) (by rfl) D_check_gains.m D_check_gains.F.kp D_check_gains.b .nil (passes_call (takes_of rfl rfl rfl rfl) (fun _ _ _ _ h => h)) (pa_cons (pv 1) (pa_cons (pe_callB (k_len (K := K) rfl) (by rfl) B.len PySem.boot_len (pa_cons (pv 0) pa_nil)) pa_nil))))
      (pss_one (ps_ret (pe_ix (k_ixT (K := K) rfl) (pe_call G_best_stop (hr.mono (by omega)) (by rfl) D_best_stop.m D_best_stop.F.kp D_best_stop.b .nil pass0 (pa_cons (pe_op (k_rep (K := K) rfl) (pe_tup (pa_cons (pe_glob (v := .ref _) rfl C.ONE rfl) pa_nil)) (pe_callB (k_len (K := K) rfl) (by rfl) B.len PySem.boot_len (pa_cons (pv 0) pa_nil))) (pa_cons (pv 0) (pa_cons (pv 1) pa_nil)))) pe_int (fun _ _ => rfl))))))), ?_⟩
  rcases id G.ap.kind with ⟨i, rfl, rfl⟩ | ⟨a, xs, ds, rfl, rfl, hs, hl, hk⟩ | ⟨_, rfl, t, ty, k1, k2⟩
  · exact ⟨_, rfl, _, _, _, _, false, rfl, .ty "tuple", .base (.int i), kit_ty (by decide +kernel), _, rfl, iteT (r1 rfl H (Same.refl _))⟩
  rotate_left
  · exact ⟨_, rfl, _, _, _, _, false, rfl, .ty "tuple", ty, k1, _, rfl, iteT (r1 rfl H (Same.refl _))⟩
  refine ⟨_, rfl, _, _, _, _, true, rfl, .ty "tuple", tyx_tup hs, kit_ty (by decide +kernel), _, rfl, iteF ?_⟩
  refine ⟨_, rfl, a, _, rfl, .inr hs, _, _, rfl, rfl, _, rfl, ?_⟩
  have ew : wdA (.tup ds) = (decide (1 ≤ ds.length) && decide (ds.length ≤ 5)) := rfl
  by_cases c1 : 1 ≤ ds.length
  rotate_left
  · rw [decide_eq_false (show ¬ (1 : Int) ≤ ((xs.length : Nat) : Int) by omega)]
    refine iteF ⟨_, rfl, iteT ?_⟩
    exact r1 (by rw [ew, decide_eq_false c1]; rfl) H (Same.refl _)
  rw [decide_eq_true (show (1 : Int) ≤ ((xs.length : Nat) : Int) by omega)]
  refine iteT ⟨_, _, rfl, rfl, _, rfl, ?_⟩
  by_cases c5 : ds.length ≤ 5
  rotate_left
  · rw [decide_eq_false (show ¬ ((xs.length : Nat) : Int) ≤ 5 by omega)]
    refine iteT ?_
    exact r1 (by rw [ew, decide_eq_false c5, Bool.and_false]; rfl) H (Same.refl _)
  rw [decide_eq_true (show ((xs.length : Nat) : Int) ≤ 5 by omega)]
  refine iteF ?_
  have ew : wdA (.tup ds) = true := by rw [ew, decide_eq_true c1, decide_eq_true c5]; rfl
  rw [ew, Bool.true_and] at r1 r2 q
  have h5 : lenA (.tup ds) ≤ 5 := c5
  have lx : xs.length = lenA (.tup ds) := hl
  refine ⟨_, rfl, _, rfl, a, _, rfl, .inr hs, b, g, .ref a, .tup ds, lenA (.tup ds), by rw [lx]; rfl, G.ap, G.bp, h5, fun e1 H1 s1 => ?_, fun e1 H1 s1 => r1 e1 H1 s1⟩
  have G1 := G.keep s1
  have hs1 := Same.kt s1 _ _ hs
  refine ⟨_, rfl, _, rfl, a, _, rfl, .inr hs1, b, g, vg, dg, lenA (.tup ds), by rw [lx]; rfl, G1.ag, G1.bg, h5, fun e2 H2 s2 => ?_, fun e2 H2 s2 => r2 e1 e2 H2 (s1.trans s2)⟩
  have s02 := s1.trans s2
  have G2 := G1.keep s2
  obtain ⟨pr, pok, tp⟩ := pr_data e1 G2.bp G2.ap
  obtain ⟨gs, gok, lg, tg⟩ := gn_data e2 G2.bg G2.l G2.ag
  refine ⟨by show 1 ≤ sizeLine; decide, fun p2 n2 => ?_⟩
  have s3 := same_upd (o := .tup [.ref aO]) n2
  have s03 := s02.trans s3
  refine ⟨_, rfl, a, _, rfl, .inr (Same.kt s03 _ _ hs), p2, (xs.length : Int), _, rfl, rfl, .inl (.inl upd_same), by simp, by omega, by omega, by simp, fun pa H4 s4 q4 => ?_⟩
  have s04 := s03.trans s4
  have s24 := s3.trans s4
  have tO : Td K H4 (.ref aO) (rD 1) := by
    rw [rD_one]
    exact .tup (C.tO _) (tdAll_ints [1, 1])
  rw [lx] at q4
  refine ⟨_, rfl, _, rfl, _, _, .ref pa, .ref a, vg, pr, ones (lenA (.tup ds)), gs, rfl, tp.keep (Same.kt s24), ones_td tO q4, tg.keep (Same.kt s24), pok, h5, ones_ws, gok, fun r dd H5 s5 i1 i3 => ?_⟩
  obtain ⟨pr, v0, v1, rfl, hpr, tv0, tv1⟩ := td_two i3
  obtain ⟨rp, ys, rfl, hr, _⟩ := tv0.tupE
  exact ⟨pr, _, 0, _, rfl, rfl, hpr, at_of (j := 0) rfl rfl, q e1 e2 rp ys H5 (s04.trans s5) hr⟩
end
end Tl
/-! the law's judges of priors, gains, askers -/
namespace Tl
open PySem PySem.Spec PyProof.Rows L2 RZ
def spLFrB (K : PySem.W.Frag) : Sp := fun vs H Q _ => ∃ (b g : Addr) (v : V) (d : AD), vs = [v] ∧ Ad K b g H v d ∧ BdA d ∧ ∀ H', Same H H' → Q (.bl (frA d)) H'
def spLPr (K : PySem.W.Frag) : Sp := fun vs H Q _ => ∃ (b g : Addr) (v : V) (d : AD) (W : Nat), vs = [.int (W : Int), v] ∧ Ad K b g H v d ∧ BdA d ∧ W ≤ 5 ∧ ∀ H', Same H H' → Q (.bl (prA d W)) H'
def spLGn (K : PySem.W.Frag) : Sp := fun vs H Q _ => ∃ (b g : Addr) (v : V) (d : AD) (W : Nat), vs = [.int (W : Int), v] ∧ Ad K b g H v d ∧ BdA d ∧ W ≤ 5 ∧ ∀ H', Same H H' → Q (.bl (gnA W d)) H'
def spLAkA (K : PySem.W.Frag) (n : Nat) : Sp := fun vs H Q _ => ∃ (b g : Addr) (W M : Nat) (v va : V) (d : AD) (ahead : List Rat) (t : Nd n), vs = [v, .int (M : Int), va] ∧ Ad K b g H va d ∧ BdA d ∧ Td K H v (ndD n t) ∧ NdOk W n ahead t ∧ ∀ H', Same H H' → Q (.bl (akA M n t d)) H'
theorem num_int {lo hi : Int} {d : AD} (h : numA lo hi d = true) : ∃ i, d = .int i := by
  cases d with
  | int i => exact ⟨i, rfl⟩
  | tup _ => cases h
  | oth _ => cases h
theorem fr_in {ds : List AD} (bd : BdA (.tup ds)) (l : ds.length = 2) : (ds.map (numA (-10 ^ 40) (10 ^ 40))).all id = true ↔ ∃ x y, ds = [.int x, .int y] := by
  obtain ⟨d1, d2, rfl⟩ := two_of l
  have k := bd.at_.2
  have one : ∀ i, BdA (.int i) → numA (-10 ^ 40) (10 ^ 40) (.int i) = true := fun i h => by
    cases h with
    | int h _ =>
      have h2 : i.natAbs < 10000000000000000000000000000000000000000 := Nat.lt_trans h (by decide)
      have e : (10 ^ 40 : Int) = 10000000000000000000000000000000000000000 := by decide
      show (decide ((-10 ^ 40 : Int) ≤ i) && decide (i ≤ 10 ^ 40)) = true
      rw [e, decide_eq_true (by omega), decide_eq_true (by omega)]
      rfl
  constructor
  · intro z
    have z : (numA (-10 ^ 40) (10 ^ 40) d1 && (numA (-10 ^ 40) (10 ^ 40) d2 && true)) = true := z
    rw [Bool.and_eq_true, Bool.and_eq_true] at z
    obtain ⟨x, rfl⟩ := num_int z.1
    obtain ⟨y, rfl⟩ := num_int z.2.1
    exact ⟨x, y, rfl⟩
  · rintro ⟨x, y, e⟩
    cases e
    show (numA _ _ (.int x) && (numA _ _ (.int y) && true)) = true
    rw [one x (k _ (by simp)), one y (k _ (by simp))]
    rfl
theorem nn_le : ∀ {rs : List Rat}, (∀ r ∈ rs, 0 ≤ r) → 0 ≤ fsum rs ∧ ∀ r ∈ rs, r ≤ fsum rs
  | [], _ => ⟨by rw [fsum_nil]; exact Rat.le_refl, fun r hr => absurd hr List.not_mem_nil⟩
  | x :: rs, h => by
    obtain ⟨h1, h2⟩ := nn_le (rs := rs) fun r hr => h r (List.mem_cons_of_mem _ hr)
    have hx := h x (List.mem_cons_self ..)
    rw [fsum_cons]
    have a1 : x ≤ x + fsum rs := by
      have z := le2 (Rat.le_refl (a := x)) h1
      rwa [Rat.add_zero] at z
    have a2 : fsum rs ≤ x + fsum rs := by
      have z := le2 hx (Rat.le_refl (a := fsum rs))
      rwa [Rat.zero_add] at z
    refine ⟨Rat.le_trans hx a1, fun r hr => ?_⟩
    rcases List.mem_cons.mp hr with rfl | hr
    · exact a1
    · exact Rat.le_trans (h2 r hr) a2
def nnA : AD → Bool
  | .tup [.int x, .int _] => decide (0 ≤ x)
  | _ => false
/-- the law's judge of priors is the program's -/
theorem pr_is (W : Nat) (ds : List AD) : prA (.tup ds) W = (decide (ds.length = W) && ((ds.map frA).all id && ((ds.map nnA).all id && decide (fsum (ds.map ratA) = 1)))) := by
  show ((decide (ds.length = W) && ds.all chA) && decide (fsum (ds.map ratA) = 1)) = _
  rw [Bool.and_assoc]
  congr 1
  rw [List.all_map, List.all_map]
  by_cases hf : ds.all frA = true
  rotate_left
  · have : ds.all chA = false := by
      cases e : ds.all chA with
      | false => rfl
      | true =>
        exact absurd (List.all_eq_true.mpr fun d hd => ch_is (List.all_eq_true.mp e d hd)) hf
    rw [this, Bool.false_and, show (ds.all (id ∘ frA)) = false from Bool.eq_false_iff.mpr hf, Bool.false_and]
  rw [show (ds.all (id ∘ frA)) = true from hf, Bool.true_and]
  have hf := List.all_eq_true.mp hf
  by_cases hs : fsum (ds.map ratA) = 1
  rotate_left
  · rw [decide_eq_false hs, Bool.and_false, Bool.and_false]
  rw [decide_eq_true hs, Bool.and_true, Bool.and_true]
  have eq : ∀ d ∈ ds, ∃ x y : Int, d = .tup [.int x, .int y] ∧ (ratA d).num = x ∧ ((ratA d).den : Int) = y := fun d hd => rat_of (hf d hd)
  rw [Bool.eq_iff_iff, List.all_eq_true, List.all_eq_true]
  constructor
  · intro h d hd
    obtain ⟨x, y, rfl, _, _⟩ := eq d hd
    have z : (frA (.tup [.int x, .int y]) && (decide (0 ≤ x) && decide (x ≤ y))) = true := h _ hd
    rw [Bool.and_eq_true, Bool.and_eq_true] at z
    exact z.2.1
  · intro h d hd
    have nn : ∀ r ∈ ds.map ratA, 0 ≤ r := fun r hr => by
      obtain ⟨d, hd, rfl⟩ := List.mem_map.mp hr
      obtain ⟨x, y, rfl, e1, e2⟩ := eq d hd
      have z : decide (0 ≤ x) = true := h _ hd
      exact Rat.num_nonneg.mp (by rw [e1]; exact of_decide_eq_true z)
    have le := (nn_le nn).2 (ratA d) (List.mem_map.mpr ⟨d, hd, rfl⟩)
    rw [hs] at le
    have f := hf d hd
    have z := h d hd
    obtain ⟨x, y, rfl, e1, e2⟩ := eq d hd
    show (frA (.tup [.int x, .int y]) && (decide (0 ≤ x) && decide (x ≤ y))) = true
    have z : decide (0 ≤ x) = true := z
    have le := rat_le_one le
    rw [f, z, decide_eq_true (by omega)]
    rfl
theorem ak_hd {M n : Nat} {t : Nd n} {d1 : AD} {r : List AD} (h : strA d1 = none) : akA M n t (.tup (d1 :: r)) = false := by
  rw [akA_qs]
  match r with
  | [] => rfl
  | [d2] =>
    show ((match strA d1 with | some x => decide (x = ("stop" : Str)) && numA 0 ((M : Int) - 1) d2 | none => false) || false) = false
    rw [h]
    rfl
  | [d2, d3] =>
    show (false || (match strA d1 with | some x => decide (x = ("ask" : Str)) && askA2 _ (qsOf n t) d2 d3 | none => false)) = false
    rw [h]
    rfl
  | _ :: _ :: _ :: _ => rfl
theorem ak_two {M n : Nat} {t : Nd n} {d1 d2 : AD} {x : Str} (h : strA d1 = some x) : akA M n t (.tup [d1, d2]) = (decide (x = ("stop" : Str)) && numA 0 ((M : Int) - 1) d2) := by
  rw [akA_qs]
  show ((match strA d1 with | some x => decide (x = ("stop" : Str)) && numA 0 ((M : Int) - 1) d2 | none => false) || false) = _
  rw [h, Bool.or_false]
theorem ak_three {M n : Nat} {t : Nd n} {d1 d2 d3 : AD} {x : Str} (h : strA d1 = some x) : akA M n t (.tup [d1, d2, d3]) = (decide (x = ("ask" : Str)) && askA2 (fun (an : An (n - 1)) x => akA M (n - 1) an.2.2 x) (qsOf n t) d2 d3) := by
  rw [akA_qs]
  show (false || (match strA d1 with | some x => decide (x = ("ask" : Str)) && askA2 (fun (an : An (n - 1)) x => akA M (n - 1) an.2.2 x) (qsOf n t) d2 d3 | none => false)) = _
  rw [h, Bool.false_or]
theorem ak_stopN {M n : Nat} {t : Nd n} {d1 : AD} {r : List AD} (h : strA d1 = some ("stop" : Str)) (l : r.length ≠ 1) : akA M n t (.tup (d1 :: r)) = false := by
  match r, l with
  | [], _ => rw [akA_qs]; rfl
  | [_], l => exact absurd rfl l
  | [d2, d3], _ =>
    rw [ak_three h]
    rfl
  | _ :: _ :: _ :: _, _ => rw [akA_qs]; rfl
theorem ak_askN {M n : Nat} {t : Nd n} {d1 : AD} {r : List AD} {x : Str} (h : strA d1 = some x) (hx : x ≠ ("stop" : Str)) (l : r.length ≠ 2 ∨ x ≠ ("ask" : Str)) : akA M n t (.tup (d1 :: r)) = false := by
  match r, l with
  | [], _ => rw [akA_qs]; rfl
  | [_], l =>
    rw [ak_two h, decide_eq_false hx]
    rfl
  | [d2, d3], l =>
    rw [ak_three h, decide_eq_false (l.resolve_left fun z => z rfl)]
    rfl
  | _ :: _ :: _ :: _, _ => rw [akA_qs]; rfl
section
variable {P : Program} {w : World} {K : PySem.W.Frag} {mg : Str → Option Value} {base : Heap} {aN aO : Addr} {t1 t2 t3 t4 t5 t6 t7 : Tok}
theorem ok_law_int_a {f : Addr} {fd : FuncData} (D : Dn K mg "_law_int" s_law_int ["thing", "least", "most"] f fd) (B : Blt mg) (C : Cst K mg aN aO t1 t2 t3 t4 t5 t6 t7) : FnOk P w K mg base CX0 1 f fd ["thing", "least", "most"] (spNumA K) := by
  refine D.F.ok sc_law_int (fun vs H Q E h => ?_) (fun cdv A outer s H vs Q E hr h => ?_)
  · obtain ⟨b, g, v, d, lo, hi, rfl, _⟩ := h
    rfl
  obtain ⟨b, g, v, d, lo, hi, rfl, hv, q⟩ := h
  have nd := sc_law_int.nd
  refine ⟨_, (pss_one (ps_ret (pe_and (pe_callB (k_isi (K := K) rfl) (by rfl) B.isinstance (by decide +kernel) (pa_cons (pv 0) (pa_cons (pe_bltn (v := .ty "int") (u := .type "int") (by rfl) B.int (by decide +kernel) rfl) pa_nil))) (pe_and (pe_not (pe_callB (k_isi (K := K) rfl) (by rfl) B.isinstance (by decide +kernel) (pa_cons (pv 0) (pa_cons (pe_bltn (v := .ty "bool") (u := .type "bool") (by rfl) B.bool (by decide +kernel) rfl) pa_nil)))) (pe_one (pe_chain op_le op_le (pv 1) (pv 0) (pv 2))))))), ?_⟩
  rcases id hv.kind with ⟨i, rfl, rfl⟩ | ⟨a', xs', ds', rfl, rfl, hs', _, _⟩ | ⟨_, rfl, ty0, ty, k1, k2⟩
  · refine ⟨_, rfl, _, _, _, _, true, rfl, .ty "int", .base (.int i), kit_ty (by decide +kernel), _, rfl, iteT ⟨_, rfl, _, _, _, _, false, rfl, .ty "bool", .base (.int i), kit_ty (by decide +kernel), _, rfl, ?_⟩⟩
    refine ⟨_, rfl, iteT ⟨_, rfl, _, rfl, _, _, rfl, rfl, _, rfl, ?_⟩⟩
    have q : Q (.bl (decide (lo ≤ i) && decide (i ≤ hi))) H := q
    by_cases c : lo ≤ i
    · rw [decide_eq_true c] at q ⊢
      refine iteT ⟨_, rfl, _, _, rfl, rfl, ?_⟩
      rw [Bool.true_and] at q
      exact q
    · rw [decide_eq_false c] at q ⊢
      exact iteF q
  · exact ⟨_, rfl, _, _, _, _, false, rfl, .ty "int", tyx_tup hs', kit_ty (by decide +kernel), _, rfl, iteF q⟩
  · rcases k2 with k2 | ⟨k2, k3⟩
    · exact ⟨_, rfl, _, _, _, _, false, rfl, .ty "int", ty, k2, _, rfl, iteF q⟩
    · exact ⟨_, rfl, _, _, _, _, true, rfl, .ty "int", ty, k2, _, rfl, iteT ⟨_, rfl, _, _, _, _, true, rfl, .ty "bool", ty, k3, _, rfl, _, rfl, iteF q⟩⟩
theorem ok_law_is_fraction_b {f f1 f2 : Addr} {fd fd1 fd2 : FuncData} (D : Dn K mg "_law_is_fraction" s_law_is_fraction ["thing"] f fd) (B : Blt mg) (C : Cst K mg aN aO t1 t2 t3 t4 t5 t6 t7)
    (D_law_common : Dn K mg "_law_common" s_law_common ["one", "other"] f1 fd1) (G_law_common : FnOk P w K mg base CX0 1 f1 fd1 ["one", "other"] spCommon)
    (D_law_int : Dn K mg "_law_int" s_law_int ["thing", "least", "most"] f2 fd2) (G_law_int : FnOk P w K mg base CX0 1 f2 fd2 ["thing", "least", "most"] (spNumA K)) : FnOk P w K mg base CX0 2 f fd ["thing"] (spLFrB K) := by
  refine D.F.ok sc_law_is_fraction (fun vs H Q E h => ?_) (fun cdv A outer s H vs Q E hr h => ?_)
  · obtain ⟨b, g, v, d, rfl, _⟩ := h
    rfl
  obtain ⟨b, g, v, d, rfl, hv, bd, q⟩ := h
  have nd := sc_law_is_fraction.nd
  refine ⟨_, (pss_cons (ps_if (PW.pt (pw_or (pt_not (pt_val (pe_callB (k_isi (K := K) rfl) (by rfl) B.isinstance (by decide +kernel) (pa_cons (pv 0) (pa_cons (pe_bltn (v := .ty "tuple") (u := .type "tuple") (by rfl) B.tuple (by decide +kernel) rfl) pa_nil))))) (pw_or (pt_cmpR op_ne (pe_callB (k_len (K := K) rfl) (by rfl) B.len PySem.boot_len (pa_cons (pv 0) pa_nil)) pe_int (nomark _)) (pw_or1 (pt_not (pt_val (pe_callB (k_all (K := K) rfl rfl) (by rfl) B.all (by decide +kernel) (pa_cons (pe_lc (own := [("one", 1)]) rfl nd (k_iT (K := K) rfl (pv 0)) (blkOk_by (own := [("one", 1)]) (by kernel_rfl)) (fun _ _ _ _ _ => (pg_name (i := 1) nd rfl (.inl rfl))) (fun _ _ _ _ _ => pts_nil) (fun _ _ _ _ _ => (pe_call G_law_int (hr.mono (by omega)) (by rfl) D_law_int.m D_law_int.F.kp D_law_int.b .nil pass0 (pa_cons (pv 1) (pa_cons (pe_un un_neg (pe_op op_pow pe_int pe_int)) (pa_cons (pe_op op_pow pe_int pe_int) pa_nil)))))) pa_nil)))))))) (pss_one (ps_ret pe_bl)) pss_nil)
      (pss_one (ps_ret (pe_and (pe_cmpR op_gt (pe_ix (k_ixT (K := K) rfl) (pv 0) pe_int (fun _ _ => rfl)) pe_int (nomark _)) (pe_one (pe_cmpR op_eq (pe_call G_law_common (hr.mono (by omega)) (by rfl) D_law_common.m D_law_common.F.kp D_law_common.b .nil pass0 (pa_cons (pe_callB call_abs (by rfl) B.abs (by decide +kernel) (pa_cons (pe_ix (k_ixT (K := K) rfl) (pv 0) pe_int (fun _ _ => rfl)) pa_nil)) (pa_cons (pe_ix (k_ixT (K := K) rfl) (pv 0) pe_int (fun _ _ => rfl)) pa_nil))) pe_int (nomark _))))))), ?_⟩
  rcases id hv.kind with ⟨i, rfl, rfl⟩ | ⟨a, xs, ds, rfl, rfl, hs, hl, hk⟩ | ⟨_, rfl, ty0, ty, k1, k2⟩
  · exact ⟨_, rfl, _, _, _, _, false, rfl, .ty "tuple", .base (.int i), kit_ty (by decide +kernel), _, rfl, iteT (q H (Same.refl _))⟩
  rotate_left
  · exact ⟨_, rfl, _, _, _, _, false, rfl, .ty "tuple", ty, k1, _, rfl, iteT (q H (Same.refl _))⟩
  refine ⟨_, rfl, _, _, _, _, true, rfl, .ty "tuple", tyx_tup hs, kit_ty (by decide +kernel), _, rfl, iteF ?_⟩
  refine ⟨_, rfl, a, _, rfl, .inr hs, rfl, _, rfl, ?_⟩
  by_cases l2 : ds.length = 2
  rotate_left
  · rw [hl, decide_eq_false (show ¬ (V.int ((ds.length : Nat) : Int)) = V.int 2 from fun z => l2 (by have := V.int.inj z; omega))]
    refine iteT ?_
    have z := q H (Same.refl _)
    rw [fr_no (fun ⟨x, y, e⟩ => l2 (by rw [e]; rfl))] at z
    exact z
  rw [hl, l2, decide_eq_true (show V.int ((2 : Nat) : Int) = V.int 2 from rfl)]
  refine iteF ?_
  refine ⟨_, rfl, a, rfl, ⟨_, hs⟩, fun T hT => ?_⟩
  refine lc_bools (K := K) (walk_tup (K := K) (a := a) (xs := xs)) (ds.map (numA (-10 ^ 40) (10 ^ 40))) (by rw [List.length_map, hl]) (by omega) hT (fun H' s => Same.kt s _ _ hs) ?_ ?_
  · rintro i x c H2 H3 Qy N hc s2 ⟨e3, g1⟩ hQ
    subst e3
    rw [List.getElem?_map] at hc
    obtain ⟨e, he, rfl⟩ := Option.map_eq_some_iff.mp hc
    refine ⟨rfl, ?_⟩
    refine iteT (B := N H3) ?_
    exact ⟨_, rfl, _, _, rfl, rfl, ⟨by decide, by decide, by decide⟩, _, rfl, _, _, rfl, rfl, ⟨by decide, by decide, by decide⟩, b, g, x, e, -10 ^ 40, 10 ^ 40, rfl, (hk i x e g1 he).same s2, hQ H3 (Same.refl _)⟩
  · intro H2 h2 s2
    refine ⟨T, _, rfl, SqL.of h2, ?_⟩
    have z := q H2 s2
    cases ea : (ds.map (numA (-10 ^ 40) (10 ^ 40))).all id with
    | false =>
      rw [fr_no (fun h => by rw [(fr_in bd l2).mpr h] at ea; cases ea)] at z
      exact ⟨_, rfl, iteT z⟩
    | true =>
      obtain ⟨x, y, rfl⟩ := (fr_in bd l2).mp ea
      obtain ⟨v1, v2, rfl⟩ := two_v hl
      cases hk 0 v1 _ rfl rfl
      cases hk 1 v2 _ rfl rfl
      have hs2 := Same.kt (K := K) s2 _ _ hs
      refine ⟨_, rfl, iteF ?_⟩
      refine ⟨_, rfl, a, _, 1, _, rfl, rfl, hs2, at_of (j := 1) rfl rfl, _, _, rfl, rfl, _, rfl, ?_⟩
      by_cases hy : 0 < y
      · rw [decide_eq_true (show y > 0 from hy)]
        refine iteT ⟨_, rfl, a, _, 0, _, rfl, rfl, hs2, at_of (j := 0) rfl rfl, ?_⟩
        refine ⟨x, rfl, _, rfl, a, _, 1, _, rfl, rfl, hs2, at_of (j := 1) rfl rfl, (if x < 0 then -x else x), y, rfl, by split <;> omega, by omega, rfl, ?_⟩
        have ex : (if x < 0 then -x else x).toNat = x.natAbs := by split <;> omega
        have ey : y.toNat = y.natAbs := by omega
        rw [ex, ey]
        rw [show frA (.tup [.int x, .int y]) = decide (V.int ((Nat.gcd x.natAbs y.natAbs : Nat) : Int) = V.int 1) by
          show (decide (1 ≤ y) && decide (Nat.gcd x.natAbs y.natAbs = 1)) = _
          rw [decide_eq_true (show 1 ≤ y by omega), Bool.true_and]
          exact decide_eq_decide.mpr ⟨fun z => by rw [z]; rfl, fun z => by have := V.int.inj z; omega⟩] at z
        exact z
      · rw [decide_eq_false (show ¬ y > 0 from hy)]
        refine iteF ?_
        rw [show frA (.tup [.int x, .int y]) = false by show (decide (1 ≤ y) && _) = false; rw [decide_eq_false (by omega), Bool.false_and]] at z
        exact z
theorem ok_law_is_prior {f f1 f2 : Addr} {fd fd1 fd2 : FuncData} (D : Dn K mg "_law_is_prior" s_law_is_prior ["worlds", "thing"] f fd) (B : Blt mg) (C : Cst K mg aN aO t1 t2 t3 t4 t5 t6 t7)
    (D_law_is_fraction : Dn K mg "_law_is_fraction" s_law_is_fraction ["thing"] f1 fd1) (G_law_is_fraction : FnOk P w K mg base CX0 2 f1 fd1 ["thing"] (spLFrB K))
    (D_law_total : Dn K mg "_law_total" s_law_total ["parts"] f2 fd2) (G_law_total : FnOk P w K mg base CX0 4 f2 fd2 ["parts"] (spLTo K)) : FnOk P w K mg base CX0 5 f fd ["worlds", "thing"] (spLPr K) := by
  refine D.F.ok sc_law_is_prior (fun vs H Q E h => ?_) (fun cdv A outer s H vs Q E hr h => ?_)
  · obtain ⟨b, g, v, d, W, rfl, _⟩ := h
    rfl
  obtain ⟨b, g, v, d, W, rfl, hv, bd, h5, q⟩ := h
  have nd := sc_law_is_prior.nd
  refine ⟨_, (pss_cons (ps_if (PW.pt (pw_or (pt_not (pt_val (pe_callB (k_isi (K := K) rfl) (by rfl) B.isinstance (by decide +kernel) (pa_cons (pv 1) (pa_cons (pe_bltn (v := .ty "tuple") (u := .type "tuple") (by rfl) B.tuple (by decide +kernel) rfl) pa_nil))))) (pw_or (pt_cmpR op_ne (pe_callB (k_len (K := K) rfl) (by rfl) B.len PySem.boot_len (pa_cons (pv 1) pa_nil)) (pv 0) (nomark _)) (pw_or1 (pt_not (pt_val (pe_callB (k_all (K := K) rfl rfl) (by rfl) B.all (by decide +kernel) (pa_cons (pe_lc (own := [("one", 2)]) rfl nd (k_iT (K := K) rfl (pv 1)) (blkOk_by (own := [("one", 2)]) (by kernel_rfl)) (fun _ _ _ _ _ => (pg_name (i := 2) nd rfl (.inl rfl))) (fun _ _ _ _ _ => pts_nil) (fun _ _ _ _ _ => (pe_call G_law_is_fraction (hr.mono (by omega)) (by rfl) D_law_is_fraction.m D_law_is_fraction.F.kp D_law_is_fraction.b .nil pass0 (pa_cons (pv 2) pa_nil)))) pa_nil)))))))) (pss_one (ps_ret pe_bl)) pss_nil)
      (pss_one (ps_ret (pe_and (pe_callB (k_all (K := K) rfl rfl) (by rfl) B.all (by decide +kernel) (pa_cons (pe_lc (own := [("one", 2)]) rfl nd (k_iT (K := K) rfl (pv 1)) (blkOk_by (own := [("one", 2)]) (by kernel_rfl)) (fun _ _ _ _ _ => (pg_name (i := 2) nd rfl (.inl rfl))) (fun _ _ _ _ _ => pts_nil) (fun _ _ _ _ _ => (pe_cmpR op_ge (pe_ix (k_ixT (K := K) rfl) (pv 2) pe_int (fun _ _ => rfl)) pe_int (nomark _)))) pa_nil)) (pe_one (pe_cmpR (k_eqD (K := K) rfl hr.units) (pe_call G_law_total (hr.mono (by omega)) (by rfl) D_law_total.m D_law_total.F.kp D_law_total.b .nil pass0 (pa_cons (pv 1) pa_nil)) (pe_tup (pa_cons pe_int (pa_cons pe_int pa_nil))) (nomark _))))))), ?_⟩
  rcases id hv.kind with ⟨i, rfl, rfl⟩ | ⟨a, xs, ds, rfl, rfl, hs, hl, hk⟩ | ⟨_, rfl, ty0, ty, k1, k2⟩
  · exact ⟨_, rfl, _, _, _, _, false, rfl, .ty "tuple", .base (.int i), kit_ty (by decide +kernel), _, rfl, iteT (q H (Same.refl _))⟩
  rotate_left
  · exact ⟨_, rfl, _, _, _, _, false, rfl, .ty "tuple", ty, k1, _, rfl, iteT (q H (Same.refl _))⟩
  refine ⟨_, rfl, _, _, _, _, true, rfl, .ty "tuple", tyx_tup hs, kit_ty (by decide +kernel), _, rfl, iteF ?_⟩
  refine ⟨_, rfl, a, _, rfl, .inr hs, _, rfl, rfl, _, rfl, ?_⟩
  rw [pr_is] at q
  by_cases l2 : ds.length = W
  rotate_left
  · rw [hl, decide_eq_false (show ¬ (V.int ((ds.length : Nat) : Int)) = V.int (W : Int) from fun z => l2 (by have := V.int.inj z; omega))]
    refine iteT ?_
    have z := q H (Same.refl _)
    rw [decide_eq_false l2, Bool.false_and] at z
    exact z
  rw [decide_eq_true l2, Bool.true_and] at q
  rw [hl, l2, decide_eq_true rfl]
  refine iteF ?_
  refine ⟨_, rfl, a, rfl, ⟨_, hs⟩, fun T hT => ?_⟩
  obtain ⟨_, bk⟩ := bd.at_
  refine lc_bools (K := K) (walk_tup (K := K) (a := a) (xs := xs)) (ds.map frA) (by rw [List.length_map, hl]) (by omega) hT (fun H' s => Same.kt s _ _ hs) ?_ ?_
  · rintro i x c H2 H3 Qy N hc s2 ⟨e3, g1⟩ hQ
    subst e3
    rw [List.getElem?_map] at hc
    obtain ⟨e, he, rfl⟩ := Option.map_eq_some_iff.mp hc
    refine ⟨rfl, ?_⟩
    refine iteT (B := N H3) ?_
    exact ⟨_, rfl, b, g, x, e, rfl, (hk i x e g1 he).same s2, bk e (List.mem_of_getElem? he), fun H5 s5 => hQ H5 s5⟩
  intro H2 h2 s2
  refine ⟨T, _, rfl, SqL.of h2, ?_⟩
  cases ea : (ds.map frA).all id with
  | false =>
    rw [ea, Bool.false_and] at q
    exact ⟨_, rfl, iteT (q H2 s2)⟩
  | true =>
    rw [ea, Bool.true_and] at q
    refine ⟨_, rfl, iteF ?_⟩
    have hf := all_at ea
    have hs2 := Same.kt (K := K) s2 _ _ hs
    refine ⟨_, rfl, a, rfl, ⟨_, hs2⟩, fun T3 hT3 => ?_⟩
    refine lc_bools (K := K) (walk_tup (K := K) (a := a) (xs := xs)) (ds.map nnA) (by rw [List.length_map, hl]) (by omega) hT3 (fun H' s => Same.kt s _ _ hs2) ?_ ?_
    · rintro i x c H3 H4 Qy N hc s3 ⟨e3, g1⟩ hQ
      subst e3
      rw [List.getElem?_map] at hc
      obtain ⟨x', hx', rfl⟩ := Option.map_eq_some_iff.mp hc
      obtain ⟨cx, cy, rfl⟩ := fr_pair (hf x' (List.mem_of_getElem? hx'))
      obtain ⟨pa, pys, rfl, hpa, lpa, kpa⟩ := ad_tup ((hk i x _ g1 hx').same (s2.trans s3))
      obtain ⟨w0, w1, rfl⟩ := two_v lpa
      obtain rfl := ad_int (kpa 0 w0 _ rfl rfl)
      refine ⟨rfl, ?_⟩
      refine iteT (B := N H4) ?_
      exact ⟨_, rfl, pa, _, 0, _, rfl, rfl, hpa, at_of (j := 0) rfl rfl, _, _, rfl, rfl, hQ H4 (Same.refl _)⟩
    intro H3 h3 s3
    refine ⟨T3, _, rfl, SqL.of h3, ?_⟩
    have s03 := s2.trans s3
    cases en : (ds.map nnA).all id with
    | false =>
      rw [en, Bool.false_and] at q
      exact ⟨_, rfl, iteF (q H3 s03)⟩
    | true =>
      rw [en, Bool.true_and] at q
      refine ⟨_, rfl, iteT ?_⟩
      have hs3 := Same.kt (K := K) s03 _ _ hs
      have hrs : ∀ r ∈ ds.map ratA, Sg r := fun r hr => by
        obtain ⟨e, he, rfl⟩ := List.mem_map.mp hr
        exact rat_bd (hf e he) (bk e he)
      have ta : TdAll K H3 xs ((ds.map ratA).map rD) := tds_of (by rw [List.length_map, hl]) fun i x r e1 e2 => by
        rw [List.getElem?_map] at e2
        obtain ⟨dd, e3, rfl⟩ := Option.map_eq_some_iff.mp e2
        exact td_rat ((hk i x dd e1 e3).same s03) (hf dd (List.mem_of_getElem? e3))
      refine ⟨_, rfl, a, xs, ds.map ratA, rfl, .inr hs3, ta, by rw [List.length_map]; omega, hrs, fun v4 H4 s4 tv => ?_⟩
      refine ⟨by show 2 ≤ sizeLine; decide, fun p5 n5 => ?_⟩
      have s5 := same_upd (o := .tup [.int 1, .int 1]) n5
      have tp : Td K (upd H4 p5 (.tup [.int 1, .int 1])) (.ref p5) (rD 1) := td_inj (.inl (.inl upd_same))
      have tv := tv.keep (Same.kt s5)
      refine ⟨rD (fsum (ds.map ratA)), rD 1, tv.dp, tp.dp, (good_rD _).shaped (by decide), (good_rD 1).shaped (by decide), ?_⟩
      rw [eqv_rD]
      exact q _ (s03.trans (s4.trans s5))
theorem ok_law_are_gains {f f1 : Addr} {fd fd1 : FuncData} (D : Dn K mg "_law_are_gains" s_law_are_gains ["worlds", "thing"] f fd) (B : Blt mg) (C : Cst K mg aN aO t1 t2 t3 t4 t5 t6 t7)
    (D_law_is_fraction : Dn K mg "_law_is_fraction" s_law_is_fraction ["thing"] f1 fd1) (G_law_is_fraction : FnOk P w K mg base CX0 2 f1 fd1 ["thing"] (spLFrB K)) : FnOk P w K mg base CX0 3 f fd ["worlds", "thing"] (spLGn K) := by
  refine D.F.ok sc_law_are_gains (fun vs H Q E h => ?_) (fun cdv A outer s H vs Q E hr h => ?_)
  · obtain ⟨b, g, v, d, W, rfl, _⟩ := h
    rfl
  obtain ⟨b, g, v, d, W, rfl, hv, bd, h5, q⟩ := h
  have nd := sc_law_are_gains.nd
  refine ⟨_, (pss_cons (ps_if (PW.pt (pw_or (pt_not (pt_val (pe_callB (k_isi (K := K) rfl) (by rfl) B.isinstance (by decide +kernel) (pa_cons (pv 1) (pa_cons (pe_bltn (v := .ty "tuple") (u := .type "tuple") (by rfl) B.tuple (by decide +kernel) rfl) pa_nil))))) (pw_or1 (pt_cmpR op_eq (pe_callB (k_len (K := K) rfl) (by rfl) B.len PySem.boot_len (pa_cons (pv 1) pa_nil)) pe_int (nomark _))))) (pss_one (ps_ret pe_bl)) pss_nil)
      (pss_cons (ps_for PassesOwn.never rfl (k_iT (K := K) rfl (pv 1)) (pg_name (i := 2) nd rfl (.inl rfl)) (pss_one (ps_if (PW.pt (pw_or (pt_not (pt_val (pe_callB (k_isi (K := K) rfl) (by rfl) B.isinstance (by decide +kernel) (pa_cons (pv 2) (pa_cons (pe_bltn (v := .ty "tuple") (u := .type "tuple") (by rfl) B.tuple (by decide +kernel) rfl) pa_nil))))) (pw_or (pt_cmpR op_ne (pe_callB (k_len (K := K) rfl) (by rfl) B.len PySem.boot_len (pa_cons (pv 2) pa_nil)) (pv 0) (nomark _)) (pw_or1 (pt_not (pt_val (pe_callB (k_all (K := K) rfl rfl) (by rfl) B.all (by decide +kernel) (pa_cons (pe_lc (own := [("one", 3)]) rfl nd (k_iT (K := K) rfl (pv 2)) (blkOk_by (own := [("one", 3)]) (by kernel_rfl)) (fun _ _ _ _ _ => (pg_name (i := 3) nd rfl (.inl rfl))) (fun _ _ _ _ _ => pts_nil) (fun _ _ _ _ _ => (pe_call G_law_is_fraction (hr.mono (by omega)) (by rfl) D_law_is_fraction.m D_law_is_fraction.F.kp D_law_is_fraction.b .nil pass0 (pa_cons (pv 3) pa_nil)))) pa_nil)))))))) (pss_one (ps_ret pe_bl)) pss_nil)))
      (pss_one (ps_ret pe_bl)))), ?_⟩
  rcases id hv.kind with ⟨i, rfl, rfl⟩ | ⟨a, xs, ds, rfl, rfl, hs, hl, hk⟩ | ⟨_, rfl, ty0, ty, k1, k2⟩
  · exact ⟨_, rfl, _, _, _, _, false, rfl, .ty "tuple", .base (.int i), kit_ty (by decide +kernel), _, rfl, iteT (q H (Same.refl _))⟩
  rotate_left
  · exact ⟨_, rfl, _, _, _, _, false, rfl, .ty "tuple", ty, k1, _, rfl, iteT (q H (Same.refl _))⟩
  refine ⟨_, rfl, _, _, _, _, true, rfl, .ty "tuple", tyx_tup hs, kit_ty (by decide +kernel), _, rfl, iteF ?_⟩
  refine ⟨_, rfl, a, _, rfl, .inr hs, rfl, _, rfl, ?_⟩
  obtain ⟨l1000, bk⟩ := bd.at_
  have eg : gnA W (.tup ds) = (!decide (ds.length = 0) && ds.all (fun d => arA frA d W)) := rfl
  by_cases l0 : ds.length = 0
  · rw [hl, l0, decide_eq_true (show V.int ((0 : Nat) : Int) = V.int 0 from rfl)]
    refine iteT ?_
    have z := q H (Same.refl _)
    rw [eg, decide_eq_true l0] at z
    exact z
  rw [hl, decide_eq_false (show ¬ V.int ((ds.length : Nat) : Int) = V.int 0 from fun z => l0 (by have := V.int.inj z; omega))]
  refine iteF ?_
  rw [eg, decide_eq_false l0, show (!false) = true from rfl, Bool.true_and] at q
  refine ⟨_, rfl, a, rfl, ⟨_, hs⟩, for_it (walk_tup (K := K) (a := a) (xs := xs)) (fun i σ H2 => ∃ o1 o2 : Option V, σ = [some (.int (W : Int)), some (.ref a), o1, o2] ∧ Same H H2 ∧ ∀ d ∈ ds.take i, arA frA d W = true) ⟨none, none, rfl, Same.refl _, fun d hd => by rw [List.take_zero] at hd; cases hd⟩ (fun i σ H2 _ h => by obtain ⟨_, _, _, s2, _⟩ := h; exact Same.kt s2 _ _ hs) ?_ ?_⟩
  · rintro i x σ H0 H2 hi ⟨o1, o2, rfl, s2, hall⟩ ⟨rfl, e1⟩
    obtain ⟨d, ed⟩ : ∃ d, ds[i]? = some d := ⟨_, List.getElem?_eq_getElem (by
      have := (List.getElem?_eq_some_iff.mp e1).1
      omega)⟩
    have md := List.mem_of_getElem? ed
    have no : arA frA d W = false → ∀ H', Same H H' → Q (.bl false) H' := fun z H' s => by
      have y := q H' s
      rw [show ds.all (fun d => arA frA d W) = false from Bool.eq_false_iff.mpr fun h => by rw [List.all_eq_true.mp h d md] at z; cases z] at y
      exact y
    have yes : arA frA d W = true → ∀ d' ∈ ds.take (i + 1), arA frA d' W = true := fun z d' h => by
      rw [List.take_add_one, ed] at h
      rcases List.mem_append.mp h with h | h
      · exact hall d' h
      · cases h with
        | head => exact z
        | tail _ h => cases h
    have had := (hk i x d e1 ed).same s2
    rcases id had.kind with ⟨j, rfl, rfl⟩ | ⟨a', xs', ds', rfl, rfl, hs', hl', hk'⟩ | ⟨_, rfl, ty0, ty, k1, k2⟩
    · exact ⟨_, rfl, _, _, _, _, false, rfl, .ty "tuple", .base (.int j), kit_ty (by decide +kernel), _, rfl, iteT (no rfl H2 s2)⟩
    rotate_left
    · exact ⟨_, rfl, _, _, _, _, false, rfl, .ty "tuple", ty, k1, _, rfl, iteT (no rfl H2 s2)⟩
    refine ⟨_, rfl, _, _, _, _, true, rfl, .ty "tuple", tyx_tup hs', kit_ty (by decide +kernel), _, rfl, iteF ?_⟩
    refine ⟨_, rfl, a', _, rfl, .inr hs', _, rfl, rfl, _, rfl, ?_⟩
    have ea : arA frA (.tup ds') W = (decide (ds'.length = W) && ds'.all frA) := rfl
    by_cases l2 : ds'.length = W
    rotate_left
    · rw [hl', decide_eq_false (show ¬ V.int ((ds'.length : Nat) : Int) = V.int (W : Int) from fun z => l2 (by have := V.int.inj z; omega))]
      refine iteT ?_
      exact no (by rw [ea, decide_eq_false l2, Bool.false_and]) H2 s2
    rw [hl', l2, decide_eq_true rfl]
    refine iteF ?_
    rw [ea, decide_eq_true l2, Bool.true_and] at no yes
    refine ⟨_, rfl, a', rfl, ⟨_, hs'⟩, fun T hT => ?_⟩
    refine lc_bools (K := K) (walk_tup (K := K) (a := a') (xs := xs')) (ds'.map frA) (by rw [List.length_map, hl']) (by omega) hT (fun H' s => Same.kt s _ _ hs') ?_ ?_
    · rintro j y c H3 H4 Qy N hc s3 ⟨e3, g1⟩ hQ
      subst e3
      rw [List.getElem?_map] at hc
      obtain ⟨e, he, rfl⟩ := Option.map_eq_some_iff.mp hc
      refine ⟨rfl, ?_⟩
      refine iteT (B := N H4) ?_
      exact ⟨_, rfl, b, g, y, e, rfl, (hk' j y e g1 he).same s3, (bk _ md).at_.2 e (List.mem_of_getElem? he), fun H5 s5 => hQ H5 s5⟩
    intro H3 h3 s3
    refine ⟨T, _, rfl, SqL.of h3, ?_⟩
    rw [List.all_map, show id ∘ frA = frA from rfl]
    cases e2 : ds'.all frA with
    | false => exact ⟨_, rfl, iteT (no e2 H3 (s2.trans s3))⟩
    | true => exact ⟨_, rfl, iteF ⟨_, _, rfl, s2.trans s3, yes e2⟩⟩
  · rintro σ H2 ⟨o1, o2, rfl, s2, hall⟩
    have y := q H2 s2
    rw [show ds.all (fun d => arA frA d W) = true from List.all_eq_true.mpr fun d hd => hall d (by rw [List.take_of_length_le (by omega)]; exact hd)] at y
    exact y
theorem ok_law_is_asker_a {f f1 : Addr} {fd fd1 : FuncData} (D : Dn K mg "_law_is_asker" s_law_is_asker ["node", "deeds", "thing"] f fd) (B : Blt mg) (C : Cst K mg aN aO t1 t2 t3 t4 t5 t6 t7)
    (D_law_int : Dn K mg "_law_int" s_law_int ["thing", "least", "most"] f1 fd1) (G_law_int : FnOk P w K mg base CX0 1 f1 fd1 ["thing", "least", "most"] (spNumA K)) (BS : mg "str" = none) : ∀ n : Nat, FnOk P w K mg base CX0 (3 + n) f fd ["node", "deeds", "thing"] ((spLAkA K) n) := by
  intro n
  obtain ⟨sp0, G_law_is_asker, hsp⟩ : ∃ sp0, FnOk P w K mg base CX0 (2 + n) f fd ["node", "deeds", "thing"] sp0 ∧ (∀ m, n = m + 1 → sp0 = (spLAkA K) m) := by
    cases n with
    | zero => exact ⟨fun _ _ _ _ => False, ⟨fun vs H Q E h => h.elim, fun A outer s H args us vs Q E _ _ _ _ h => h.elim⟩, fun m e => by omega⟩
    | succ m =>
      have G := ok_law_is_asker_a D B C D_law_int G_law_int BS m
      rw [show 3 + m = 2 + (m + 1) by omega] at G
      exact ⟨_, G, fun m' e => by rw [show m' = m by omega]⟩
  rw [show 3 + n = (2 + n) + 1 by omega]
  refine D.F.ok sc_law_is_asker (fun vs H Q E h => ?_) (fun cdv A outer s H vs Q E hr h => ?_)
  · obtain ⟨b, g, W, M, v, va, d, ahead, t, rfl, _⟩ := h
    rfl
  obtain ⟨b, g, W, M, v, va, d, ahead, t, rfl, had, bd, hv, hok, q⟩ := h
  have nd := sc_law_is_asker.nd
  have D_law_is_asker := D
  refine ⟨_, (pss_cons (ps_if (PW.pt (pw_or (pt_not (pt_val (pe_callB (k_isi (K := K) rfl) (by rfl) B.isinstance (by decide +kernel) (pa_cons (pv 2) (pa_cons (pe_bltn (v := .ty "tuple") (u := .type "tuple") (by rfl) B.tuple (by decide +kernel) rfl) pa_nil))))) (pw_or (pt_cmpR op_lt (pe_callB (k_len (K := K) rfl) (by rfl) B.len PySem.boot_len (pa_cons (pv 2) pa_nil)) pe_int (nomark _)) (pw_or1 (pt_not (pt_val (pe_callB (k_isi (K := K) rfl) (by rfl) B.isinstance (by decide +kernel) (pa_cons (pe_ix (k_ixT (K := K) rfl) (pv 2) pe_int (fun _ _ => rfl)) (pa_cons (pe_bltn (v := .ty "str") (u := .type "str") (by rfl) BS (by decide +kernel) rfl) pa_nil))))))))) (pss_one (ps_ret pe_bl)) pss_nil)
      (pss_cons (ps_if (pt_cmpR op_eq (pe_ix (k_ixT (K := K) rfl) (pv 2) pe_int (fun _ _ => rfl)) pe_str (nomark _)) (pss_one (ps_ret (pe_and (pe_cmpR op_eq (pe_callB (k_len (K := K) rfl) (by rfl) B.len PySem.boot_len (pa_cons (pv 2) pa_nil)) pe_int (nomark _)) (pe_one (pe_call G_law_int (hr.mono (by omega)) (by rfl) D_law_int.m D_law_int.F.kp D_law_int.b .nil pass0 (pa_cons (pe_ix (k_ixT (K := K) rfl) (pv 2) pe_int (fun _ _ => rfl)) (pa_cons pe_int (pa_cons (pe_op op_sub (pv 1) pe_int) pa_nil)))))))) pss_nil)
      (pss_cons (ps_if (PW.pt (pw_or (pt_cmpR op_ne (pe_ix (k_ixT (K := K) rfl) (pv 2) pe_int (fun _ _ => rfl)) pe_str (nomark _)) (pw_or (pt_cmpR op_ne (pe_callB (k_len (K := K) rfl) (by rfl) B.len PySem.boot_len (pa_cons (pv 2) pa_nil)) pe_int (nomark _)) (pw_or1 (pt_not (pt_val (pe_call G_law_int (hr.mono (by omega)) (by rfl) D_law_int.m D_law_int.F.kp D_law_int.b .nil pass0 (pa_cons (pe_ix (k_ixT (K := K) rfl) (pv 2) pe_int (fun _ _ => rfl)) (pa_cons pe_int (pa_cons (pe_op op_sub (pe_callB (k_len (K := K) rfl) (by rfl) B.len PySem.boot_len (pa_cons (pv 0) pa_nil)) pe_int) pa_nil)))))))))) (pss_one (ps_ret pe_bl)) pss_nil)
      (pss_cons (ps_set (i := 3) nd rfl (.inl rfl) (pe_ix (k_ixT (K := K) rfl) (pv 0) (pe_ix (k_ixT (K := K) rfl) (pv 2) pe_int (fun _ _ => rfl)) (fun _ _ => rfl)))
      (pss_cons (ps_if (PW.pt (pw_or (pt_not (pt_val (pe_callB (k_isi (K := K) rfl) (by rfl) B.isinstance (by decide +kernel) (pa_cons (pe_ix (k_ixT (K := K) rfl) (pv 2) pe_int (fun _ _ => rfl)) (pa_cons (pe_bltn (v := .ty "tuple") (u := .type "tuple") (by rfl) B.tuple (by decide +kernel) rfl) pa_nil))))) (pw_or1 (pt_cmpR op_ne (pe_callB (k_len (K := K) rfl) (by rfl) B.len PySem.boot_len (pa_cons (pe_ix (k_ixT (K := K) rfl) (pv 2) pe_int (fun _ _ => rfl)) pa_nil)) (pe_callB (k_len (K := K) rfl) (by rfl) B.len PySem.boot_len (pa_cons (pv 3) pa_nil)) (nomark _))))) (pss_one (ps_ret pe_bl)) pss_nil)
      (pss_one (ps_ret (pe_callB (k_all (K := K) rfl rfl) (by rfl) B.all (by decide +kernel) (pa_cons (pe_lc (own := [("answer", 4), ("one", 5)]) rfl nd (k_zip (K := K) rfl (by rfl) B.zip (pa_cons (pv 3) (pa_cons (pe_ix (k_ixT (K := K) rfl) (pv 2) pe_int (fun _ _ => rfl)) pa_nil))) (blkOk_by (own := [("answer", 4), ("one", 5)]) (by kernel_rfl)) (fun _ _ _ _ _ => (k_tup (K := K) (n := 2) rfl rfl (pgs_cons (pg_name (i := 4) nd rfl (.inl rfl)) (pgs_cons (pg_name (i := 5) nd rfl (.inl rfl)) pgs_nil)))) (fun _ _ _ _ _ => pts_nil) (fun _ _ _ _ _ => (pe_call G_law_is_asker (hr.mono (by omega)) (by rfl) D_law_is_asker.m D_law_is_asker.F.kp D_law_is_asker.b .nil pass0 (pa_cons (pe_ix (k_ixT (K := K) rfl) (pv 4) pe_int (fun _ _ => rfl)) (pa_cons (pv 1) (pa_cons (pv 5) pa_nil)))))) pa_nil))))))))), ?_⟩
  have f0 : ∀ i, akA M n t (.int i) = false := fun i => by cases n <;> rfl
  have f1 : ∀ o, akA M n t (.oth o) = false := fun o => by cases n <;> rfl
  rcases id had.kind with ⟨i, rfl, rfl⟩ | ⟨a, xs, ds, rfl, rfl, hs, hl, hk⟩ | ⟨_, rfl, t0, ty, k1, k2⟩
  · exact ⟨_, rfl, _, _, _, _, false, rfl, .ty "tuple", .base (.int i), kit_ty (by decide +kernel), _, rfl, iteT (by have z := q H (Same.refl H); rw [f0] at z; exact z)⟩
  rotate_left
  · exact ⟨_, rfl, _, _, _, _, false, rfl, .ty "tuple", ty, k1, _, rfl, iteT (by have z := q H (Same.refl H); rw [f1] at z; exact z)⟩
  refine ⟨_, rfl, _, _, _, _, true, rfl, .ty "tuple", tyx_tup hs, kit_ty (by decide +kernel), _, rfl, iteF ?_⟩
  refine ⟨_, rfl, a, _, rfl, .inr hs, _, _, rfl, rfl, _, rfl, ?_⟩
  obtain ⟨l1000, bk⟩ := bd.at_
  by_cases l2 : ds.length < 2
  · rw [decide_eq_true (show ((xs.length : Nat) : Int) < 2 by omega)]
    refine iteT ?_
    have z := q H (Same.refl _)
    rw [ak_len (by omega) (by omega)] at z
    exact z
  rw [decide_eq_false (show ¬ ((xs.length : Nat) : Int) < 2 by omega)]
  refine iteF ?_
  obtain ⟨d1, r, rfl⟩ : ∃ d1 r, ds = d1 :: r := by
    match ds, l2 with
    | [], l2 => exact absurd (by show 0 < 2; decide) l2
    | d1 :: r, _ => exact ⟨d1, r, rfl⟩
  obtain ⟨v1, us, rfl⟩ : ∃ v1 us, xs = v1 :: us := by
    match xs, hl with
    | v1 :: us, _ => exact ⟨v1, us, rfl⟩
  have lu : us.length = r.length := by simpa using hl
  have h1 := hk 0 v1 d1 rfl rfl
  obtain ⟨t1', ty1, ks, kx⟩ := h1.is_str
  have i0 : atI (v1 :: us) 0 = some v1 := at_of (j := 0) rfl rfl
  refine ⟨_, rfl, a, _, 0, v1, rfl, rfl, hs, i0, _, _, _, _, _, rfl, .ty "str", ty1, ks, _, rfl, ?_⟩
  cases es : strA d1 with
  | none =>
    refine iteT ?_
    have z := q H (Same.refl _)
    rw [ak_hd es] at z
    exact z
  | some x =>
    refine iteF ?_
    obtain rfl := kx x es
    refine ⟨_, rfl, a, _, 0, _, rfl, rfl, hs, i0, rfl, _, rfl, ?_⟩
    by_cases c : x = ("stop" : Str)
    · subst c
      rw [decide_eq_true rfl]
      refine iteT ?_
      by_cases l1 : r.length = 1
      · obtain ⟨d2, rfl⟩ : ∃ d2, r = [d2] := by
          match r, l1 with
          | [d2], _ => exact ⟨d2, rfl⟩
        obtain ⟨v2, rfl⟩ : ∃ v2, us = [v2] := by
          match us, lu with
          | [v2], _ => exact ⟨v2, rfl⟩
        rw [ak_two es, decide_eq_true rfl, Bool.true_and] at q
        exact ⟨_, rfl, a, _, rfl, .inr hs, rfl, _, rfl, iteT ⟨_, rfl, a, _, 1, v2, rfl, rfl, hs, at_of (j := 1) rfl rfl, _, rfl, _, _, rfl, rfl, b, g, v2, d2, 0, (M : Int) - 1, rfl, hk 1 v2 d2 rfl rfl, q H (Same.refl _)⟩⟩
      · rw [ak_stopN es l1] at q
        refine ⟨_, rfl, a, _, rfl, .inr hs, rfl, _, rfl, ?_⟩
        rw [decide_eq_false (show ¬ V.int (((V.str "stop" :: us).length : Nat) : Int) = V.int 2 from fun z => l1 (by have := V.int.inj z; rw [List.length_cons] at this; omega))]
        exact iteF (q H (Same.refl _))
    rw [decide_eq_false (show ¬ V.str x = V.str "stop" from fun z => c (V.str.inj z))]
    refine iteF ?_
    refine ⟨_, rfl, a, _, 0, _, rfl, rfl, hs, i0, rfl, _, rfl, ?_⟩
    by_cases c2 : x = ("ask" : Str)
    rotate_left
    · rw [decide_eq_false (show ¬ V.str x = V.str "ask" from fun z => c2 (V.str.inj z))]
      refine iteT ?_
      have z := q H (Same.refl _)
      rw [ak_askN es c (.inr c2)] at z
      exact z
    subst c2
    rw [decide_eq_true rfl]
    refine iteF ?_
    refine ⟨_, rfl, a, _, rfl, .inr hs, rfl, _, rfl, ?_⟩
    by_cases l3 : r.length = 2
    rotate_left
    · rw [decide_eq_false (show ¬ V.int (((V.str "ask" :: us).length : Nat) : Int) = V.int 3 from fun z => l3 (by have := V.int.inj z; rw [List.length_cons] at this; omega))]
      refine iteT ?_
      have z := q H (Same.refl _)
      rw [ak_askN es c (.inl l3)] at z
      exact z
    obtain ⟨d2, d3, rfl⟩ := two_of l3
    obtain ⟨v2, v3, rfl⟩ := two_v lu
    rw [decide_eq_true (show V.int ((([V.str "ask", v2, v3] : List V).length : Nat) : Int) = V.int 3 from rfl)]
    refine iteF ?_
    rw [ak_three es, decide_eq_true rfl, Bool.true_and] at q
    have h2 := hk 1 v2 d2 rfl rfl
    have h3 := hk 2 v3 d3 rfl rfl
    obtain ⟨ch, zs, rfl, hch, tch⟩ := qs_td hv
    have lz : zs.length = (qsOf n t).length := by rw [tch.len, List.length_map]
    obtain ⟨t5, tk⟩ := ndok_qs hok
    have i1 : atI [V.str "ask", v2, v3] 1 = some v2 := at_of (j := 1) rfl rfl
    have i2 : atI [V.str "ask", v2, v3] 2 = some v3 := at_of (j := 2) rfl rfl
    refine ⟨_, rfl, a, _, 1, v2, rfl, rfl, hs, i1, _, rfl, ch, zs, rfl, .inr hch, _, _, rfl, rfl, b, g, v2, d2, 0, (zs.length : Int) - 1, rfl, h2, _, rfl, ?_⟩
    rw [lz]
    cases hn : numA 0 (((qsOf n t).length : Int) - 1) d2 with
    | false =>
      refine iteT ?_
      have e : askA2 (fun (an : An (n - 1)) x => akA M (n - 1) an.2.2 x) (qsOf n t) d2 d3 = false := by
        cases d2 with
        | int i =>
          unfold askA2
          simp only [getI_no hn]
        | tup _ => rfl
        | oth _ => rfl
      rw [e] at q
      exact q H (Same.refl _)
    | true =>
    cases d2 with
    | tup _ => cases hn
    | oth _ => cases hn
    | int i =>
    cases h2
    obtain ⟨j, qj, rfl, eqj, eg⟩ := getI_num hn
    refine iteF ?_
    obtain ⟨y, ey, ty⟩ := tch.get (i := j) (d := qnD (n - 1) qj) (by rw [List.getElem?_map, eqj]; rfl)
    obtain ⟨p', ww, rfl, hp', tp'⟩ := id ty.tupE
    have lww : ww.length = qj.length := by rw [tp'.len, List.length_map]
    obtain ⟨qjok, qjn⟩ := tk qj (List.mem_of_getElem? eqj)
    have q12 := qjok.most
    refine ⟨_, rfl, _, rfl, a, _, 1, _, rfl, rfl, hs, i1, ch, zs, (j : Int), _, rfl, rfl, hch, at_of (j := j) rfl ey, ?_⟩
    rcases id h3.kind with ⟨i, rfl, rfl⟩ | ⟨a2, xs2, ds2, rfl, rfl, hs2, hl2, hk2'⟩ | ⟨_, rfl, ty0, ty2, k1, k2⟩
    · have e : askA2 (fun (an : An (n - 1)) x => akA M (n - 1) an.2.2 x) (qsOf n t) (.int (j : Int)) (.int i) = false := by
        unfold askA2
        simp only [eg]
      rw [e] at q
      exact ⟨_, rfl, a, _, 2, _, rfl, rfl, hs, i2, _, _, _, _, false, rfl, .ty "tuple", .base (.int i), kit_ty (by decide +kernel), _, rfl, iteT (q H (Same.refl _))⟩
    rotate_left
    · have e : ∀ s, askA2 (fun (an : An (n - 1)) x => akA M (n - 1) an.2.2 x) (qsOf n t) (.int (j : Int)) (.oth s) = false := fun s => by
        unfold askA2
        simp only [eg]
      rw [e] at q
      exact ⟨_, rfl, a, _, 2, _, rfl, rfl, hs, i2, _, _, _, _, false, rfl, .ty "tuple", ty2, k1, _, rfl, iteT (q H (Same.refl _))⟩
    have e : askA2 (fun (an : An (n - 1)) x => akA M (n - 1) an.2.2 x) (qsOf n t) (.int (j : Int)) (.tup ds2) = (decide (ds2.length = qj.length) && (List.zipWith (fun (an : An (n - 1)) x => akA M (n - 1) an.2.2 x) qj ds2).all id) := by
      unfold askA2
      simp only [eg]
    rw [e] at q
    refine ⟨_, rfl, a, _, 2, _, rfl, rfl, hs, i2, _, _, _, _, true, rfl, .ty "tuple", tyx_tup hs2, kit_ty (by decide +kernel), _, rfl, iteF ?_⟩
    refine ⟨_, rfl, a, _, 2, _, rfl, rfl, hs, i2, a2, _, rfl, .inr hs2, _, rfl, p', ww, rfl, .inr hp', rfl, _, rfl, ?_⟩
    by_cases le : ds2.length = qj.length
    rotate_left
    · rw [hl2, lww, decide_eq_false (show ¬ V.int ((ds2.length : Nat) : Int) = V.int ((qj.length : Nat) : Int) from fun z => le (by have := V.int.inj z; omega))]
      refine iteT ?_
      rw [decide_eq_false le, Bool.false_and] at q
      exact q H (Same.refl _)
    rw [hl2, lww, le, decide_eq_true rfl]
    refine iteF ?_
    rw [decide_eq_true le, Bool.true_and] at q
    obtain ⟨n', rfl⟩ : ∃ n', n = n' + 1 := by
      cases n with
      | zero => exact absurd (List.mem_of_getElem? eqj) List.not_mem_nil
      | succ n => exact ⟨n, rfl⟩
    have hsp := hsp n' rfl
    subst hsp
    have bd3 := bk _ (List.mem_cons_of_mem _ (List.mem_cons_of_mem _ List.mem_cons_self))
    refine ⟨_, rfl, _, rfl, a, _, 2, _, rfl, rfl, hs, i2, p', a2, ww, xs2, rfl, .inr ⟨hp', hs2, fun T hT => ?_⟩⟩
    refine lc_bools (K := K) (walk_zipT (K := K) (a := p') (b := a2) (xs := ww) (ys := xs2) (n := qj.length) (by omega)) (List.zipWith (fun (an : An n') x => akA M n' an.2.2 x) qj ds2) (by rw [List.length_zipWith]; omega) (by omega) hT (fun H' s => ⟨Same.kt s _ _ hp', Same.kt s _ _ hs2⟩) ?_ ?_
    · rintro i y' cc H2 H3 Qy N hcc s2 ⟨T2, y2, x', rfl, n2, rfl, e2, e1⟩ hQ
      have s3 : Same H2 (upd H2 T2 (.tup [y2, x'])) := same_upd n2
      obtain ⟨dy, ey2, ty2⟩ := tp'.getV e2
      rw [List.getElem?_map] at ey2
      obtain ⟨an, ean, rfl⟩ := Option.map_eq_some_iff.mp ey2
      obtain ⟨r, er⟩ : ∃ r, ds2[i]? = some r := ⟨_, List.getElem?_eq_getElem (by
        have := (List.getElem?_eq_some_iff.mp e1).1
        omega)⟩
      rw [List.getElem?_zipWith, er, ean] at hcc
      cases hcc
      have k23 := Same.kt (K := K) (s2.trans s3)
      obtain ⟨pn, vw, vz, vt, rfl, hpn, tw, tz, tt⟩ := td_an (ty2.keep k23)
      refine ⟨T2, _, rfl, .inl (.inl upd_same), rfl, _, _, rfl, _, _, rfl, rfl, ?_⟩
      refine ⟨rfl, ?_⟩
      refine iteT (B := N (upd H2 T2 (.tup [.ref pn, x']))) ?_
      exact ⟨_, rfl, pn, _, 2, _, rfl, rfl, hpn, at_of (j := 2) rfl rfl, _, rfl, _, rfl, b, g, W, M, vt, x', r, an.2.1, an.2.2, rfl, (hk2' i x' r e1 er).same (s2.trans s3), (bd3.at_).2 r (List.mem_of_getElem? er), tt, qjn an (List.mem_of_getElem? ean), fun H5 s5 => hQ H5 (s3.trans s5)⟩
    · intro H2 h2' s2
      exact ⟨T, _, rfl, SqL.of h2', q H2 s2⟩
end
end Tl
/-! houses that are made; trees of any depth -/
namespace Tl
open PySem PySem.Spec PyProof.Rows L2 RZ
def anyS (N : Nat) (sp : Nat → Sp) : Sp := fun vs H Q E => ∃ n, n ≤ N ∧ sp n vs H Q E
def orS (sp sq : Sp) : Sp := fun vs H Q E => sp vs H Q E ∨ sq vs H Q E
theorem TreeOk.keep {K : PySem.W.Frag} {H H' : Hp} {W n : Nat} {v : V} {t : Nd n} (T : TreeOk K H W n v t) (s : Same H H') : TreeOk K H' W n v t := ⟨T.td.keep (Same.kt s), T.ok, T.few, T.deep, T.w1, T.w5⟩
theorem own_same {H : Hp} {C x dx : Addr} (nx : H x = none) (ndx : H dx = none) : Same H (upd (upd H dx (.own x)) x (.ins C dx [])) := fun b o e => by
  rw [upd_ne (ne_of_none e nx), upd_ne (ne_of_none e ndx)]
  exact e
theorem mk_hs {K : PySem.W.Frag} {H H7 : Hp} {C x dx : Addr} {W n : Nat} {v : V} {t : Nd n} (nx : H x = none) (ndx : H dx = none) (T : TreeOk K H W n v t) (h7 : H7 x = some (.ins C dx (hf W v))) (k7 : ∀ b o, upd (upd H dx (.own x)) x (.ins C dx []) b = some o → b ≠ x → H7 b = some o) :
    Same H H7 ∧ HsOk K C H7 x W n t v := by
  have s : Same H H7 := fun b o e => k7 _ _ (own_same nx ndx b o e) (ne_of_none e nx)
  exact ⟨s, ⟨dx, h7⟩, T.td.keep (Same.kt s), T.ok, T.few, T.deep, T.w1, T.w5⟩
theorem HsOk.frm {K : PySem.W.Frag} {C b g p : Addr} {H H' : Hp} {W n : Nat} {t : Nd n} {v : V} (h : HsOk K C H p W n t v) (B : Bag H b g) (F : Frm b g H H') : HsOk K C H' p W n t v := by
  obtain ⟨d, e⟩ := h.at_
  obtain ⟨n1, n2⟩ := B.other e (fun xs z => by cases z)
  exact ⟨⟨d, F _ _ e n1 n2⟩, h.td.keep (B.kt F), h.ok, h.few, h.deep, h.w1, h.w5⟩
theorem FnOk.anyN {CX : CXT} {P : Program} {w : World} {K : PySem.W.Frag} {mg : Str → Option Value} {base : Heap} {f : Addr} {fd : FuncData} {ps : List Str} {N k : Nat} {sp : Nat → Sp} (h : ∀ n, n ≤ N → FnOk P w K mg base CX k f fd ps (sp n)) : FnOk P w K mg base CX k f fd ps (Tl.anyS N sp) :=
  ⟨fun vs H Q E h' => by
    obtain ⟨n, hn, h'⟩ := h'
    exact (h n hn).len vs H Q E h', fun A outer s H args us vs Q E hr e hb rv h' => by
    obtain ⟨n, hn, h'⟩ := h'
    exact (h n hn).run A outer s H args us vs Q E hr e hb rv h'⟩
def spTrueT (K : PySem.W.Frag) (T : Addr) : Sp := fun vs H Q _ => ∃ (a : Addr) (ns : List Int), vs = [.ref a] ∧ SqL K H a (ns.map V.int) ∧ ns.length ≤ 63 ∧ H T = some (.tbl #[]) ∧ ∀ H', Q (.bl true) H'
section
variable {P : Program} {w : World} {K : PySem.W.Frag} {mg : Str → Option Value} {base : Heap} {aN aO : Addr} {t1 t2 t3 t4 t5 t6 t7 : Tok}
theorem FnOk.anyS {f : Addr} {fd : FuncData} {ps : List Str} {N k : Nat} {sp : Nat → Sp} {lv : Nat → Nat} (h : ∀ n, FnOk P w K mg base CX0 (lv n) f fd ps (sp n)) (hk : ∀ n, n ≤ N → lv n ≤ k) : FnOk P w K mg base CX0 k f fd ps (anyS N sp) :=
  ⟨fun vs H Q E h' => by
    obtain ⟨n, _, h'⟩ := h'
    exact (h n).len vs H Q E h', fun A outer s H args us vs Q E hr e hb rv h' => by
    obtain ⟨n, hn, h'⟩ := h'
    exact (h n).run A outer s H args us vs Q E (hr.mono (hk n hn)) e hb rv h'⟩
end
end Tl
/-! odd things, things with a change -/
namespace Tl
open PySem PySem.Spec PyProof.Rows L2 RZ
/-- a list of things of at most m parts -/
def LsM (K : PySem.W.Frag) (b g : Addr) (m lo hi : Nat) (H : Hp) (a : Addr) : Prop := ∃ xs : List V, H a = some (.lst xs) ∧ a ≠ b ∧ a ≠ g ∧ lo ≤ xs.length ∧ xs.length ≤ hi ∧ ∀ x ∈ xs, ThM K b g m H x
theorem LsM.keep {K : PySem.W.Frag} {b g a : Addr} {m lo hi : Nat} {H H' : Hp} (B : Bag H b g) (f : Frm b g H H') (h : LsM K b g m lo hi H a) : LsM K b g m lo hi H' a := by
  obtain ⟨xs, h1, n1, n2, l0, l, h2⟩ := h
  exact ⟨xs, f _ _ h1 n1 n2, n1, n2, l0, l, fun x hx => (h2 x hx).keep B f⟩
def TelL2 (K : PySem.W.Frag) (b g : Addr) (E : Hp → Prop) (m lo hi : Nat) (te : TE) (σ : L2.St) : Prop := ∀ H Q, E H → (∀ a H', LsM K b g m lo hi H' a → E H' → Frm b g H H' → Q (.ref a) H') → te σ H Q
section
variable {K : PySem.W.Frag} {b g : Addr} {E : Hp → Prop} {σ : L2.St} {te te2 : TE} {ta : TA} {n m lo hi lo2 hi2 : Nat} (e : EnvOk b g E)
include e
theorem telM_c {v : V} (h : ∀ H, ThM K b g m H v) : TelM K b g E m (tC v) σ := fun H Q hE k => k v H (h H) hE (Frm.refl _ _ _)
theorem telM_int {i : Int} (h : i.natAbs < 2 ^ 130 ∧ GI i) : TelM K b g E m (tC (.int i)) σ := telM_c e fun _ => .int h
theorem telM_non : TelM K b g E m (tC .non) σ := telM_c e fun _ => ⟨_, .non, .oth, top_oth⟩
theorem telM_bl {c : Bool} : TelM K b g E m (tC (.bl c)) σ := telM_c e fun _ => ⟨_, .bl c, .oth, top_oth⟩
theorem telM_str {x : Str} : TelM K b g E m (tC (.str x)) σ := telM_c e fun _ => ⟨_, .str x, .oth, top_oth⟩
theorem telM_neg {i : Int} (h : i.natAbs < 2 ^ 130 ∧ GI (-i)) : TelM K b g E m (tUn (rU fun i => .int (-i)) (tC (.int i))) σ := fun H Q hE k => ⟨i, rfl, k _ H (.int ⟨by rw [Int.natAbs_neg]; exact h.1, h.2⟩) hE (Frm.refl _ _ _)⟩
theorem telM_pow {i j : Int} (h : CPow i j) (hb : (i ^ j.toNat).natAbs < 2 ^ 130 ∧ GI (i ^ j.toNat)) : TelM K b g E m (tOp (rI CPow fun i j => .int (i ^ j.toNat)) (tC (.int i)) (tC (.int j))) σ := fun H Q hE k => ⟨i, j, rfl, rfl, h, k _ H (.int hb) hE (Frm.refl _ _ _)⟩
theorem telM_tup (h : Tels K b g E n ta σ) (l : n ≤ m) (hm : m ≤ 1000) : TelM K b g E m (tTup ta) σ := telM_T e (telT_tup e h (by omega)) l hm
theorem telM_lst (h : Tels K b g E n ta σ) (hn : n ≤ 1000) : TelM K b g E m (tLst ta) σ := fun H Q hE k => h H _ hE fun vs H1 l hs hE1 f1 => by
  have : (1000 : Nat) < sizeLine := by decide
  refine ⟨by omega, fun p hp => ?_⟩
  have s := same_upd (o := .lst vs) hp
  obtain ⟨pb, pg⟩ := (e.bag _ hE1).neNew hp
  exact k (.ref p) _ (.lst upd_same pb pg) (e.same hE1 s) (f1.trans (.of s))
theorem telM_d0 : TelM K b g E m tDNewK σ := fun H Q hE k p hp => by
  have s := same_upd (o := .dK []) hp
  obtain ⟨pb, pg⟩ := (e.bag _ hE).neNew hp
  exact k (.ref p) _ ⟨_, .dk upd_same pb pg, .oth, top_oth⟩ (e.same hE s) (.of s)
theorem telM_var {i : Nat} {v : V} (hv : σ[i]? = some (some v)) (h : ∀ H, E H → ThM K b g m H v) : TelM K b g E m (tVar i) σ := fun H Q hE k => ⟨v, hv, k v H (h H hE) hE (Frm.refl _ _ _)⟩
theorem telL2_lst (h : TelsM K b g E m n ta σ) (hn : n ≤ 1000) : TelL2 K b g E m n n (tLst ta) σ := fun H Q hE k => h H _ hE fun vs H1 l hs hE1 f1 => by
  have : (1000 : Nat) < sizeLine := by decide
  refine ⟨by omega, fun p hp => ?_⟩
  have s := same_upd (o := .lst vs) hp
  obtain ⟨pb, pg⟩ := (e.bag _ hE1).neNew hp
  exact k p _ ⟨vs, upd_same, pb, pg, by omega, by omega, fun x hx => (hs x hx).keep (e.bag _ hE1) (.of s)⟩ (e.same hE1 s) (f1.trans (.of s))
theorem telL2_var {i : Nat} {a : Addr} (hv : σ[i]? = some (some (.ref a))) (h : ∀ H, E H → LsM K b g m lo hi H a) : TelL2 K b g E m lo hi (tVar i) σ := fun H Q hE k => ⟨_, hv, k a H (h H hE) hE (Frm.refl _ _ _)⟩
theorem telL2_cat (h1 : TelL2 K b g E m lo hi te σ) (h2 : TelL2 K b g E m lo2 hi2 te2 σ) (hm : hi + hi2 ≤ 1000) : TelL2 K b g E m (lo + lo2) (hi + hi2) (tOp rCat te te2) σ := fun H Q hE k => h1 H _ hE fun a H1 t1 hE1 f1 => h2 H1 _ hE1 fun c H2 t2 hE2 f2 => by
  obtain ⟨xs, s1, n1, n2, l0, l1, k1⟩ := t1.keep (e.bag _ hE1) f2
  obtain ⟨ys, s2, n3, n4, l2, l3, k2⟩ := t2
  have : (1000 : Nat) < sizeLine := by decide
  refine ⟨a, c, xs, ys, rfl, rfl, s1, s2, by omega, fun p hp => ?_⟩
  have s := same_upd (o := .lst (xs ++ ys)) hp
  obtain ⟨pb, pg⟩ := (e.bag _ hE2).neNew hp
  refine k p _ ⟨_, upd_same, pb, pg, by rw [List.length_append]; omega, by rw [List.length_append]; omega, fun x hx => ?_⟩ (e.same hE2 s) ((f1.trans f2).trans (.of s))
  rcases List.mem_append.mp hx with hx | hx
  · exact (k1 x hx).keep (e.bag _ hE2) (.of s)
  · exact (k2 x hx).keep (e.bag _ hE2) (.of s)
theorem telT_mid {te3 : TE} (h : TelT K b g E m te σ) (hi : TelI E te2 σ) (hj : TelI E te3 σ) : TelT K b g E m (tSl (rSlP K) te (tPart te2) (tPart te3)) σ := fun H Q hE k => h H _ hE fun a H1 t1 hE1 f1 => hi H1 _ hE1 fun j j0 j1 => ⟨j, rfl, hj H1 _ hE1 fun l _ _ => by
  obtain ⟨xs, s1, l1, k1⟩ := t1
  refine ⟨l, rfl, a, xs, rfl, s1, fun p H' s hp => k p H' ⟨_, hp, Nat.le_trans (cutV_length _ _ _) l1, fun x hx => ?_⟩ (e.same hE1 s) (f1.trans (.of s))⟩
  exact (k1 x (List.mem_of_mem_drop (List.mem_of_mem_take hx))).keep (e.bag _ hE1) (.of s)⟩
/-- what is drawn from a list of things -/
theorem telM_someL {i : Nat} {E' : XK} (hv : σ[i]? = some (some (.ref b))) (h : TelL2 K b g E m lo hi te σ) (h0 : 0 < lo) (hm : hi ≤ 1000) : TelM K b g E m (tCall spSome [] E' (tCons (tVar i) (tCons te tNil))) σ := fun H Q hE k => ⟨_, hv, h H _ hE fun p H1 t1 hE1 f1 => by
  obtain ⟨vs, s1, n1, n2, l0, l1, k1⟩ := t1
  exact ⟨b, g, p, vs, rfl, e.bag _ hE1, s1, n1, n2, by omega, by omega, fun j y H' hj B' F' => k y H' ((k1 y (List.mem_of_getElem? hj)).keep (e.bag _ hE1) F') (e.keep _ _ hE1 F' B') (f1.trans F')⟩⟩
end
def spDeepB (K : PySem.W.Frag) : Sp := fun vs H Q _ => ∃ (b g : Addr), vs = [.ref b] ∧ Bag H b g ∧ ∀ v H', ThM K b g 1 H' v → Bag H' b g → Frm b g H H' → Q v H'
theorem telM_deep {K : PySem.W.Frag} {b g : Addr} {E : Hp → Prop} {σ : L2.St} {E' : XK} {i m : Nat} (e : EnvOk b g E) (hv : σ[i]? = some (some (.ref b))) (hm : 1 ≤ m) : TelM K b g E m (tCall (spDeepB K) [] E' (tCons (tVar i) tNil)) σ := fun H Q hE k => ⟨_, hv, b, g, rfl, e.bag _ hE, fun v H' t B' F' => k v H' (t.mono hm) (e.keep _ _ hE F' B') F'⟩
theorem telM_house {K : PySem.W.Frag} {b g Cc : Addr} {E : Hp → Prop} {σ : L2.St} {E' : XK} {m : Nat} {mg : Str → Option Value} {fi fe : Addr} (U : Hcl K mg Cc fi fe) (e : EnvOk b g E) (k1 : PySem.W.kitOne K (.ref Cc) (.type "tuple") = some false) (k2 : PySem.W.kitOne K (.ref Cc) (.type "int") = some false) (k3 : PySem.W.kitOne K (.ref Cc) (.type "str") = some false) :
    TelM K b g E m (tMake Cc (anyS 5 (spInit K Cc)) [] E' (tCons (tC (.int 1)) (tCons (tTup tNil) tNil))) σ := fun H Q hE k => by
  refine ⟨by show 0 ≤ sizeLine; decide, fun p hp => ?_⟩
  have s1 := same_upd (o := .tup []) hp
  have T : TreeOk K (upd H p (.tup [])) 1 0 (.ref p) () := ⟨.tup (.inl (.inl upd_same)) .nil, trivial, by decide, by decide, by decide, by decide⟩
  have hE1 := e.same hE s1
  generalize upd H p (.tup []) = H1 at s1 T hE1 ⊢
  intro x dx nx ndx ne
  refine ⟨0, by omega, x, dx, 1, .ref p, (), rfl, upd_same, T.keep (own_same nx ndx), fun H5 h5 k5 => ⟨rfl, ?_⟩⟩
  obtain ⟨s5, hs⟩ := mk_hs nx ndx T h5 k5
  exact k (.ref x) H5 ⟨.oth none, .ins h5 (fun H' h => .base (.ins h U.cl U.ha U.hn U.htk U.hm)) k1 k2 k3, .oth, top_oth⟩ (e.same hE1 s5) (.of (s1.trans s5))
/-- nested not too deep, no tuple long -/
inductive NsA : Nat → AD → Prop
  | int {n : Nat} {i : Int} : i.natAbs < 2 ^ 130 → GI i → NsA n (.int i)
  | tup {n : Nat} {ds : List AD} : ds.length ≤ 20 → (∀ d ∈ ds, NsA n d) → NsA (n + 1) (.tup ds)
  | oth {n : Nat} {s : Option Str} : NsA n (.oth s)
theorem NsA.bd {n : Nat} {d : AD} (h : NsA n d) : BdA d := by
  induction h with
  | int h g => exact .int h g
  | oth => exact .oth
  | tup l _ ih => exact .tup (by omega) ih
def spBntA (K : PySem.W.Frag) (n : Nat) : Sp := fun vs H Q _ => ∃ (b g : Addr) (v : V) (d : AD) (mm : Nat), vs = [.ref b, v] ∧ Bag H b g ∧ Ad K b g H v d ∧ NsA n d ∧ TopLe mm d ∧ mm ≤ 100 ∧ ∀ v' H', ThM K b g (2 * mm + 3) H' v' → Bag H' b g → Frm b g H H' → Q v' H'
def spOddM (K : PySem.W.Frag) : Sp := fun vs H Q _ => ∃ (b g : Addr), vs = [.ref b] ∧ Bag H b g ∧ ∀ v H', ThM K b g 3 H' v → Bag H' b g → Frm b g H H' → Q v H'
section
variable {P : Program} {w : World} {K : PySem.W.Frag} {mg : Str → Option Value} {base : Heap} {aN aO : Addr} {t1 t2 t3 t4 t5 t6 t7 : Tok}
theorem ok_law_deep_b {f f1 : Addr} {fd fd1 : FuncData} (D : Dn K mg "_law_deep" s_law_deep ["bag"] f fd) (B : Blt mg) (C : Cst K mg aN aO t1 t2 t3 t4 t5 t6 t7)
    (D_law_pick : Dn K mg "_law_pick" s_law_pick ["bag", "many"] f1 fd1) (G_law_pick : FnOk P w K mg base CX0 1 f1 fd1 ["bag", "many"] spPick) : FnOk P w K mg base CX0 2 f fd ["bag"] (spDeepB K) := by
  refine D.F.ok sc_law_deep (fun vs H Q E h => ?_) (fun cdv A outer s H vs Q E hr h => ?_)
  · obtain ⟨b, g, rfl, _⟩ := h
    rfl
  obtain ⟨b, g, rfl, hB, q⟩ := h
  have nd := sc_law_deep.nd
  refine ⟨_, (pss_cons (ps_set (i := 1) nd rfl (.inl rfl) (pe_lst (pa_cons pe_non pa_nil)))
      (pss_cons (ps_for PassesOwn.never rfl (pi_range1 (by rfl) B.range (pa_cons (pe_op op_add pe_int (pe_call G_law_pick (hr.mono (by omega)) (by rfl) D_law_pick.m D_law_pick.F.kp D_law_pick.b .nil pass0 (pa_cons (pv 0) (pa_cons pe_int pa_nil)))) pa_nil)) (pg_name (i := 2) nd rfl (.inl rfl)) (pss_one (ps_set (i := 1) nd rfl (.inl rfl) (pe_ifExpE (pt_cmpR op_eq (pe_call G_law_pick (hr.mono (by omega)) (by rfl) D_law_pick.m D_law_pick.F.kp D_law_pick.b .nil pass0 (pa_cons (pv 0) (pa_cons pe_int pa_nil))) pe_int (nomark _)) (pe_lst (pa_cons (pv 1) pa_nil)) (pe_tup (pa_cons (pv 1) pa_nil))))))
      (pss_one (ps_ret (pv 1))))), ?_⟩
  refine ⟨by show 1 ≤ sizeLine; decide, fun p hp => ?_⟩
  have s0 := same_upd (o := .lst [.non]) hp
  obtain ⟨pb, pg⟩ := hB.neNew hp
  refine ⟨_, rfl, b, g, 5, rfl, hB.keep s0, by decide, by decide, fun r H1 r0 r1 B1 F1 => ?_⟩
  have t0 : ThM K b g 1 H1 (.ref p) := .lst (F1 _ _ upd_same pb pg) pb pg
  obtain ⟨N, eN⟩ : ∃ N : Nat, 28 + r = (N : Int) := ⟨(28 + r).toNat, by omega⟩
  refine ⟨_, _, rfl, rfl, (N : Int), by show [V.int (28 + r)] = _; rw [eN], by omega, by omega, for_range (lo := 0) (n := N) (fun i σ H2 => ∃ (v : V) (o2 : Option V), σ = [some (.ref b), some v, o2] ∧ ThM K b g 1 H2 v ∧ Bag H2 b g ∧ Frm b g H H2) ⟨.ref p, none, rfl, t0, B1, (Frm.of s0).trans F1⟩ ?_ ?_⟩
  · rintro i σ H2 hi ⟨v, o2, rfl, tv, B2, F2⟩
    refine ⟨fun v' H9 => ThM K b g 1 H9 v' ∧ Bag H9 b g ∧ Frm b g H H9, fun v' H9 h => ⟨v', _, rfl, h⟩, ?_⟩
    refine ⟨_, rfl, b, g, 2, rfl, B2, by decide, by decide, fun r2 H3 r20 r21 B3 F3 => ?_⟩
    have tv := tv.keep B2 F3
    refine ⟨rfl, _, rfl, ?_⟩
    refine ite2 (fun c => ?_) (fun c => ?_)
    · refine ⟨_, rfl, by show 1 ≤ sizeLine; decide, fun p5 n5 => ?_⟩
      obtain ⟨qb, qg⟩ := B3.neNew n5
      have s5 := same_upd (o := .lst [v]) n5
      exact ⟨.lst upd_same qb qg, B3.keep s5, (F2.trans F3).trans (.of s5)⟩
    · refine ⟨_, rfl, by show 1 ≤ sizeLine; decide, fun p5 n5 => ?_⟩
      have s5 := same_upd (o := .tup [v]) n5
      exact ⟨.tup (.inl (.inl upd_same)) (by show 1 ≤ 1000; decide) (Nat.le_refl _) (fun x hx => by rw [List.mem_singleton.mp hx]; exact (tv.keep B3 (.of s5)).thing), B3.keep s5, (F2.trans F3).trans (.of s5)⟩
  · rintro σ H2 ⟨v, o2, rfl, tv, B2, F2⟩
    exact ⟨_, rfl, q v H2 tv B2 F2⟩
theorem ok_law_odd {fdi : FuncData} {f f1 f2 : Addr} {fd fd1 fd2 : FuncData} {Cc fi fe : Addr} (D : Dn K mg "_law_odd" s_law_odd ["bag"] f fd) (B : Blt mg) (C : Cst K mg aN aO t1 t2 t3 t4 t5 t6 t7) (U : Hcl K mg Cc fi fe)
    (D_law_deep : Dn K mg "_law_deep" s_law_deep ["bag"] f1 fd1) (G_law_deep : FnOk P w K mg base CX0 2 f1 fd1 ["bag"] (spDeepB K))
    (D_law_some : Dn K mg "_law_some" s_law_some ["bag", "things"] f2 fd2) (G_law_some : FnOk P w K mg base CX0 2 f2 fd2 ["bag", "things"] spSome) (D_House_init : Dm K "__init__" "House.__init__" s_House_init ["self", "worlds", "tree"] fi fdi) (G_House_init : FnOk P w K mg base CX0 30 fi fdi ["self", "worlds", "tree"] (anyS 5 (spInit K Cc))) (hkT : PySem.W.kitOne K (.ref Cc) (.type "tuple") = some false) (hkI : PySem.W.kitOne K (.ref Cc) (.type "int") = some false) (hkS : PySem.W.kitOne K (.ref Cc) (.type "str") = some false) : FnOk P w K mg base CX0 32 f fd ["bag"] (spOddM K) := by
  refine D.F.ok sc_law_odd (fun vs H Q E h => ?_) (fun cdv A outer s H vs Q E hr h => ?_)
  · obtain ⟨b, g, rfl, _⟩ := h
    rfl
  obtain ⟨b, g, rfl, hB, q⟩ := h
  have nd := sc_law_odd.nd
  refine ⟨_, (pss_cons (ps_set (i := 1) nd rfl (.inl rfl) (pe_cut (pe_lst (pa_cons pe_non (pa_cons pe_bl (pa_cons pe_bl (pa_cons (pe_un un_neg pe_int) (pa_cons pe_int (pa_cons pe_int (pa_cons pe_str (pa_cons pe_str (pa_cons (pe_tup pa_nil) (pa_cons (pe_lst pa_nil) (pa_cons pe_dnewK (pa_cons (pe_tup (pa_cons pe_int (pa_cons pe_int pa_nil))) (pa_cons (pe_tup (pa_cons pe_int (pa_cons pe_int pa_nil))) (pa_cons (pe_tup (pa_cons pe_int (pa_cons pe_int pa_nil))) (pa_cons (pe_tup (pa_cons pe_int (pa_cons pe_int pa_nil))) (pa_cons (pe_tup (pa_cons (pe_un un_neg pe_int) (pa_cons pe_int pa_nil))) (pa_cons (pe_tup (pa_cons pe_int (pa_cons (pe_un un_neg pe_int) pa_nil))) (pa_cons (pe_tup (pa_cons (pe_tup (pa_cons pe_int (pa_cons pe_int pa_nil))) pa_nil)) pa_nil)))))))))))))))))))))
      (pss_one (ps_ret (pe_call G_law_some (hr.mono (by omega)) (by rfl) D_law_some.m D_law_some.F.kp D_law_some.b .nil pass0 (pa_cons (pv 0) (pa_cons (pe_cut (pe_op op_cat (pv 1) (pe_lst (pa_cons (pe_tup (pa_cons pe_str (pa_cons pe_int pa_nil))) (pa_cons (pe_tup (pa_cons pe_str (pa_cons pe_int pa_nil))) (pa_cons (pe_tup (pa_cons pe_str (pa_cons pe_int (pa_cons (pe_tup pa_nil) pa_nil)))) (pa_cons (pe_op op_pow pe_int pe_int) (pa_cons (pe_make U.mkH G_House_init (hr.mono (by omega)) (by rfl) U.gHouse D_House_init.b .nil pass0 (pa_cons pe_int (pa_cons (pe_tup pa_nil) pa_nil))) (pa_cons (pe_call G_law_deep (hr.mono (by omega)) (by rfl) D_law_deep.m D_law_deep.F.kp D_law_deep.b .nil pass0 (pa_cons (pv 0) pa_nil)) (pa_cons pe_str pa_nil)))))))))) pa_nil)))))), ?_⟩
  refine ⟨fun v H' => ∃ a, v = .ref a ∧ LsM K b g 3 18 18 H' a ∧ EnvAt b g H H', telL2_lst env_at (n := 18) ?_ (by decide) H _ (.now hB) fun a H1 t1 hE1 f1 => ⟨a, rfl, t1, hE1⟩, ?_⟩
  · repeat' (first | exact telsM_nil env_at | with_reducible apply telsM_cons env_at | exact telM_int env_at (by decide) | exact telM_non env_at | exact telM_bl env_at | exact telM_str env_at | exact telM_neg env_at (by decide) | exact telM_pow env_at ⟨by decide, by decide, by decide⟩ (by decide +kernel) | exact telM_d0 env_at | exact telM_house U env_at hkT hkI hkS | exact telM_deep env_at rfl (by decide) | with_reducible apply telM_tup env_at | with_reducible apply telM_lst env_at | exact tels_nil env_at | with_reducible apply tels_cons env_at | exact tel_int env_at (by decide) | exact tel_str env_at | exact tel_neg env_at (by decide) | with_reducible apply tel_tup env_at | decide | omega)
  · rintro _ H1 ⟨a, rfl, t1, B1, F1⟩
    refine ⟨_, rfl, fun v H' => ∃ c, v = .ref c ∧ LsM K b g 3 25 25 H' c ∧ EnvAt b g H H', telL2_cat (m := 3) (lo := 18) (hi := 18) (lo2 := 7) (hi2 := 7) (E := EnvAt b g H1) env_at (telL2_var env_at rfl fun H' h => t1.keep B1 h.2) (telL2_lst env_at (n := 7) ?_ (by decide)) (by decide) H1 _ (.now B1) fun c H2 t2 hE2 _ => ⟨c, rfl, t2, hE2.1, F1.trans hE2.2⟩, ?_⟩
    · repeat' (first | exact telsM_nil env_at | with_reducible apply telsM_cons env_at | exact telM_int env_at (by decide) | exact telM_non env_at | exact telM_bl env_at | exact telM_str env_at | exact telM_neg env_at (by decide) | exact telM_pow env_at ⟨by decide, by decide, by decide⟩ (by decide +kernel) | exact telM_d0 env_at | exact telM_house U env_at hkT hkI hkS | exact telM_deep env_at rfl (by decide) | with_reducible apply telM_tup env_at | with_reducible apply telM_lst env_at | exact tels_nil env_at | with_reducible apply tels_cons env_at | exact tel_int env_at (by decide) | exact tel_str env_at | exact tel_neg env_at (by decide) | with_reducible apply tel_tup env_at | decide | omega)
    · rintro _ H2 ⟨c, rfl, t2, B2, F2⟩
      obtain ⟨vs, s1, n1, n2, l0, l1, k1⟩ := t2
      exact ⟨b, g, c, vs, rfl, B2, s1, n1, n2, by omega, by omega, fun i y H3 hi B3 F3 => q y H3 ((k1 y (List.mem_of_getElem? hi)).keep B2 F3) B3 (F2.trans F3)⟩
theorem ok_law_bent {f f1 f2 : Addr} {fd fd1 fd2 : FuncData} (D : Dn K mg "_law_bent" s_law_bent ["bag", "thing"] f fd) (B : Blt mg) (C : Cst K mg aN aO t1 t2 t3 t4 t5 t6 t7)
    (D_law_pick : Dn K mg "_law_pick" s_law_pick ["bag", "many"] f1 fd1) (G_law_pick : FnOk P w K mg base CX0 1 f1 fd1 ["bag", "many"] spPick)
    (D_law_odd : Dn K mg "_law_odd" s_law_odd ["bag"] f2 fd2) (G_law_odd : FnOk P w K mg base CX0 32 f2 fd2 ["bag"] (spOddM K)) : ∀ n : Nat, FnOk P w K mg base CX0 (33 + n) f fd ["bag", "thing"] ((spBntA K) n) := by
  intro n
  obtain ⟨sp0, G_law_bent, hsp⟩ : ∃ sp0, FnOk P w K mg base CX0 (32 + n) f fd ["bag", "thing"] sp0 ∧ (∀ m, n = m + 1 → sp0 = (spBntA K) m) := by
    cases n with
    | zero => exact ⟨fun _ _ _ _ => False, ⟨fun vs H Q E h => h.elim, fun A outer s H args us vs Q E _ _ _ _ h => h.elim⟩, fun m e => by omega⟩
    | succ m =>
      have G := ok_law_bent D B C D_law_pick G_law_pick D_law_odd G_law_odd m
      rw [show 33 + m = 32 + (m + 1) by omega] at G
      exact ⟨_, G, fun m' e => by rw [show m' = m by omega]⟩
  rw [show 33 + n = (32 + n) + 1 by omega]
  refine D.F.ok sc_law_bent (fun vs H Q E h => ?_) (fun cdv A outer s H vs Q E hr h => ?_)
  · obtain ⟨b, g, v, d, mm, rfl, _⟩ := h
    rfl
  obtain ⟨b, g, v, d, mm, rfl, hB, hv, hns, tpd, hmm, q⟩ := h
  have nd := sc_law_bent.nd
  have D_law_bent := D
  refine ⟨_, (pss_cons (ps_if (PW.pt (pw_or (pt_not (pt_val (pe_callB (k_isi (K := K) rfl) (by rfl) B.isinstance (by decide +kernel) (pa_cons (pv 1) (pa_cons (pe_bltn (v := .ty "tuple") (u := .type "tuple") (by rfl) B.tuple (by decide +kernel) rfl) pa_nil))))) (pw_or (pt_cmpR op_eq (pe_callB (k_len (K := K) rfl) (by rfl) B.len PySem.boot_len (pa_cons (pv 1) pa_nil)) pe_int (nomark _)) (pw_or1 (pt_cmpR op_eq (pe_call G_law_pick (hr.mono (by omega)) (by rfl) D_law_pick.m D_law_pick.F.kp D_law_pick.b .nil pass0 (pa_cons (pv 0) (pa_cons pe_int pa_nil))) pe_int (nomark _)))))) (pss_one (ps_ret (pe_call G_law_odd (hr.mono (by omega)) (by rfl) D_law_odd.m D_law_odd.F.kp D_law_odd.b .nil pass0 (pa_cons (pv 0) pa_nil)))) pss_nil)
      (pss_cons (ps_set (i := 2) nd rfl (.inl rfl) (pe_call G_law_pick (hr.mono (by omega)) (by rfl) D_law_pick.m D_law_pick.F.kp D_law_pick.b .nil pass0 (pa_cons (pv 0) (pa_cons (pe_callB (k_len (K := K) rfl) (by rfl) B.len PySem.boot_len (pa_cons (pv 1) pa_nil)) pa_nil))))
      (pss_cons (ps_if (pt_cmpR op_eq (pe_call G_law_pick (hr.mono (by omega)) (by rfl) D_law_pick.m D_law_pick.F.kp D_law_pick.b .nil pass0 (pa_cons (pv 0) (pa_cons pe_int pa_nil))) pe_int (nomark _)) (pss_one (ps_ret (pe_ix (k_ixL (K := K) rfl) (pe_cut (pe_lst (pa_cons (pe_op (k_cat (K := K) rfl) (pe_slice (k_slT (K := K) rfl) (pv 1) po_none (po_some (pv 2))) (pe_slice (k_slT (K := K) rfl) (pv 1) (po_some (pe_op op_add (pv 2) pe_int)) po_none)) (pa_cons (pe_op (k_cat (K := K) rfl) (pv 1) (pe_slice (k_slT (K := K) rfl) (pv 1) (po_some (pv 2)) (po_some (pe_op op_add (pv 2) pe_int)))) (pa_cons (pe_callTy (k_listOf (K := K) rfl) (by rfl) B.list (by decide +kernel) (pa_cons (pv 1) pa_nil)) pa_nil))))) (pe_call G_law_pick (hr.mono (by omega)) (by rfl) D_law_pick.m D_law_pick.F.kp D_law_pick.b .nil pass0 (pa_cons (pv 0) (pa_cons pe_int pa_nil))) (fun _ _ => rfl)))) pss_nil)
      (pss_one (ps_ret (pe_cut (pe_op (k_cat (K := K) rfl) (pe_op (k_cat (K := K) rfl) (pe_slice (k_slT (K := K) rfl) (pv 1) po_none (po_some (pv 2))) (pe_tup (pa_cons (pe_call G_law_bent (hr.mono (by omega)) (by rfl) D_law_bent.m D_law_bent.F.kp D_law_bent.b .nil pass0 (pa_cons (pv 0) (pa_cons (pe_ix (k_ixT (K := K) rfl) (pv 1) (pv 2) (fun _ _ => rfl)) pa_nil))) pa_nil))) (pe_slice (k_slT (K := K) rfl) (pv 1) (po_some (pe_op op_add (pv 2) pe_int)) po_none)))))))), ?_⟩
  have bd := hns.bd
  have odd : spOddM K [.ref b] H Q E0 := ⟨b, g, rfl, hB, fun v' H' t B' F' => q v' H' (t.mono (by omega)) B' F'⟩
  rcases id hv.kind with ⟨i, rfl, rfl⟩ | ⟨a, xs, ds, rfl, rfl, hs, hl, hk⟩ | ⟨_, rfl, ty0, ty, k1, k2⟩
  · exact ⟨_, rfl, _, _, _, _, false, rfl, .ty "tuple", .base (.int i), kit_ty (by decide +kernel), _, rfl, iteT ⟨_, rfl, odd⟩⟩
  rotate_left
  · exact ⟨_, rfl, _, _, _, _, false, rfl, .ty "tuple", ty, k1, _, rfl, iteT ⟨_, rfl, odd⟩⟩
  refine ⟨_, rfl, _, _, _, _, true, rfl, .ty "tuple", tyx_tup hs, kit_ty (by decide +kernel), _, rfl, iteF ?_⟩
  refine ⟨_, rfl, a, _, rfl, .inr hs, rfl, _, rfl, ?_⟩
  refine ite2 (fun _ => ⟨_, rfl, odd⟩) (fun c0 => ?_)
  have l0 : xs.length ≠ 0 := fun z => c0 (decide_eq_true (by rw [z]; rfl))
  have tp := tpd ds rfl
  have each : ∃ m, n = m + 1 ∧ ds.length ≤ 20 ∧ ∀ d ∈ ds, NsA m d := by
    cases hns with
    | tup l h => exact ⟨_, rfl, l, h⟩
  obtain ⟨m, rfl, l20, hch⟩ := each
  have hsp := hsp m rfl
  subst hsp
  have tup0 : TupT K b g mm H a := ⟨xs, hs, by omega, fun x hx => by
    obtain ⟨i, hi⟩ := List.getElem?_of_mem hx
    obtain ⟨dx, ex⟩ : ∃ dx, ds[i]? = some dx := ⟨_, List.getElem?_eq_getElem (by
      have := (List.getElem?_eq_some_iff.mp hi).1
      omega)⟩
    exact ⟨dx, hk i x dx hi ex, (hch dx (List.mem_of_getElem? ex)).bd⟩⟩
  refine ⟨_, rfl, b, g, 6, rfl, hB, by decide, by decide, fun r H1 _ _ B1 F1 => ⟨rfl, _, rfl, ?_⟩⟩
  refine ite2 (fun _ => ⟨_, rfl, b, g, rfl, B1, fun v' H' t B' F' => q v' H' (t.mono (by omega)) B' (F1.trans F')⟩) (fun _ => ?_)
  refine ⟨_, rfl, _, rfl, a, xs, rfl, .inr (hB.kt F1 _ _ hs), b, g, _, rfl, B1, by omega, by omega, fun k H2 k0 k1 B2 F2 => ?_⟩
  obtain ⟨j, rfl⟩ : ∃ j : Nat, k = (j : Int) := ⟨k.toNat, by omega⟩
  have hj : j < xs.length := by omega
  have gj : xs[j]? = some xs[j] := List.getElem?_eq_getElem hj
  obtain ⟨dj, ej⟩ : ∃ dj, ds[j]? = some dj := ⟨_, List.getElem?_eq_getElem (by omega)⟩
  have adj := hk j _ dj gj ej
  have nsj := hch dj (List.mem_of_getElem? ej)
  have topj : TopLe 20 dj := fun es e => by
    subst e
    cases nsj with
    | tup l _ => exact l
  generalize xs[j] = xj at gj adj
  refine ⟨_, rfl, b, g, 8, rfl, B2, by decide, by decide, fun r H3 _ _ B3 F3 => ⟨rfl, _, rfl, ?_⟩⟩
  have F := (F1.trans F2).trans F3
  have tup3 := TupT.env B3 (tup0.keep hB F)
  have hs3 := hB.kt (K := K) F _ _ hs
  have adj := adj.keep hB F
  have kI : ∀ {E : Hp → Prop}, TelI E (tVar 2) [some (.ref b), some (.ref a), some (.int (j : Int))] := fun {E} H Q hE k => ⟨_, rfl, k (j : Int) (by omega) (by omega)⟩
  have kI1 : ∀ {E : Hp → Prop}, TelI E (tOp (rI0 fun i j => V.int (i + j)) (tVar 2) (tC (.int 1))) [some (.ref b), some (.ref a), some (.int (j : Int))] := fun {E} H Q hE k => ⟨_, rfl, _, _, rfl, rfl, k ((j : Int) + 1) (by omega) (by omega)⟩
  refine ite2 (fun _ => ?_) (fun _ => ?_)
  · refine ⟨fun v H' => ∃ c, v = .ref c ∧ LsM K b g (2 * mm + 3) 3 3 H' c ∧ EnvAt b g H3 H', telL2_lst env_at (n := 3) (telsM_cons env_at (telM_T env_at (telT_cat env_at (m := mm) (m2 := mm) (telT_to env_at (telT_var env_at rfl tup3) kI) (telT_from env_at (telT_var env_at rfl tup3) kI1) (by omega)) (by omega) (by omega)) (telsM_cons env_at (telM_T env_at (telT_cat env_at (m := mm) (m2 := mm) (telT_var env_at rfl tup3) (telT_mid env_at (telT_var env_at rfl tup3) kI kI1) (by omega)) (by omega) (by omega)) (telsM_cons env_at (telM_listOf env_at ((telT_var env_at rfl tup3).mono env_at (by omega))) (telsM_nil env_at)))) (by decide) H3 _ (.now B3) fun c H4 t4 hE4 _ => ⟨c, rfl, t4, hE4⟩, ?_⟩
    rintro _ H4 ⟨c, rfl, t4, B4, F4⟩
    refine ⟨_, rfl, b, g, 3, rfl, B4, by decide, by decide, fun r H5 r0 r1 B5 F5 => ?_⟩
    obtain ⟨vs, s1, n1, n2, ll0, ll1, kk⟩ := t4.keep B4 F5
    obtain ⟨i, rfl⟩ : ∃ i : Nat, r = (i : Int) := ⟨r.toNat, by omega⟩
    have hi : i < vs.length := by omega
    have gi : vs[i]? = some vs[i] := List.getElem?_eq_getElem hi
    exact ⟨c, vs, (i : Int), _, rfl, rfl, SqL.of s1, at_of (j := i) rfl gi, q _ H5 (kk _ (List.getElem_mem hi)) B5 (F.trans (F4.trans F5))⟩
  · have inner : Tel K b g (EnvAt b g H3) (tCall (spBntA K m) [] E0 (tCons (tVar 0) (tCons (tOp (rIxT K) (tVar 1) (tVar 2)) tNil))) [some (.ref b), some (.ref a), some (.int (j : Int))] := fun H Q hE k => ⟨_, rfl, _, rfl, _, rfl, a, xs, (j : Int), xj, rfl, rfl, B3.kt hE.2 _ _ hs3, at_of (j := j) rfl gj, b, g, xj, dj, 20, rfl, hE.1, adj.keep B3 hE.2, nsj, topj, by decide, fun v' H' t B' F' => k v' H' t.thing ⟨B', hE.2.trans F'⟩ F'⟩
    refine ⟨fun v' H' => ThM K b g (2 * mm + 3) H' v' ∧ EnvAt b g H3 H', ?_, fun v' H' h => q v' H' h.1 h.2.1 (F.trans h.2.2)⟩
    exact telT_cat env_at (m := mm + 1) (m2 := mm) (telT_cat env_at (m := mm) (m2 := 1) (telT_to env_at (telT_var env_at rfl tup3) kI) (telT_tup env_at (n := 1) (tels_cons env_at inner (tels_nil env_at)) (by decide)) (by omega)) (telT_from env_at (telT_var env_at rfl tup3) kI1) (by omega) H3 _ (.now B3) fun a' H' t hE' f' => ⟨t.thM (by omega) (by omega), hE'⟩
end
end Tl
/-! gains that are drawn; askers with a change at an edge -/
namespace Tl
open PySem PySem.Spec PyProof.Rows L2 RZ
def SmR (r : Rat) : Prop := r.den ≤ 7 ∧ r.num.natAbs ≤ 9
def SmG (W : Nat) (x : List Rat) : Prop := x.length = W ∧ ∀ r ∈ x, SmR r
theorem smr_mk {t : Int} {b : Nat} (h1 : -9 ≤ t) (h2 : t ≤ 9) (b1 : 1 ≤ b) (b7 : b ≤ 7) : SmR (mkRat t b) := by
  have hb : 0 < b := b1
  refine ⟨Nat.le_trans (Nat.le_of_dvd hb (mk_den_dvd hb)) b7, ?_⟩
  obtain ⟨p1, p2⟩ := mkRat_parts t b hb
  have z : (mkRat t b).num.natAbs ≤ t.natAbs := by
    rw [p1]
    exact Int.natAbs_ediv_le_natAbs _ _
  omega
theorem mk_nonneg' {t : Int} {b : Nat} (h : 0 ≤ t) (hb : 0 < b) : 0 ≤ mkRat t b := by
  have := mk_nonneg t.toNat b hb
  rw [show ((t.toNat : Nat) : Int) = t by omega] at this
  exact this
theorem pick5 {jj : Nat} {x : V} (h : [V.int 1, V.int 1, V.int 2, V.int 3, V.int 7][jj]? = some x) : ∃ b : Nat, x = .int (b : Int) ∧ 1 ≤ b ∧ b ≤ 7 := by
  match jj, h with
  | 0, h => exact ⟨1, by cases h; rfl, by decide, by decide⟩
  | 1, h => exact ⟨1, by cases h; rfl, by decide, by decide⟩
  | 2, h => exact ⟨2, by cases h; rfl, by decide, by decide⟩
  | 3, h => exact ⟨3, by cases h; rfl, by decide, by decide⟩
  | 4, h => exact ⟨7, by cases h; rfl, by decide, by decide⟩
def spGainsS (K : PySem.W.Frag) : Sp := fun vs H Q _ => ∃ (b g : Addr) (W : Nat) (l : Int), vs = [.ref b, .int (W : Int), .int l] ∧ Bag H b g ∧ 1 ≤ W ∧ W ≤ 5 ∧ -9 ≤ l ∧ l ≤ 0 ∧
  ∀ (v : V) (gs : List (List Rat)) H', 1 ≤ gs.length → gs.length ≤ 4 → (∀ x ∈ gs, SmG W x) → Td K H' v (gsD gs) → Bag H' b g → Frm b g H H' → Q v H'
theorem ns_small {n : Nat} {i : Int} (h : i.natAbs ≤ 66) : NsA n (.int i) := .int (Nat.lt_of_le_of_lt h (by decide)) (gi_small h)
theorem NsA.mono {n m : Nat} {d : AD} (h : NsA n d) (l : n ≤ m) : NsA m d := by
  induction h generalizing m with
  | int a b => exact .int a b
  | oth => exact .oth
  | @tup n ds l1 _ ih =>
    obtain ⟨k, rfl⟩ : ∃ k, m = k + 1 := ⟨m - 1, by omega⟩
    exact .tup l1 fun d hd => ih d hd (by omega)
theorem NsA.tuple {n : Nat} {ds : List PyData} (l : ds.length ≤ 20) (h : ∀ d ∈ ds, NsA n (ofD d)) : NsA (n + 1) (ofD (.tuple ds)) := by
  show NsA _ (.tup (ofD.ofDs ds))
  rw [ofDs_map]
  refine .tup (by rw [List.length_map]; exact l) fun d hd => ?_
  obtain ⟨x, hx, rfl⟩ := List.mem_map.mp hd
  exact h x hx
theorem ns_rD {r : Rat} (h1 : r.den ≤ 66) (h2 : r.num.natAbs ≤ 66) : NsA 1 (ofD (rD r)) := .tup (show 2 ≤ 20 by decide) fun d hd => by
  rcases List.mem_cons.mp (show d ∈ [AD.int r.num, AD.int ((r.den : Nat) : Int)] from hd) with rfl | hd
  · exact ns_small h2
  · rw [List.mem_singleton.mp hd]
    exact ns_small (by omega)
theorem ns_wsD {rs : List Rat} (l : rs.length ≤ 20) (h : ∀ r ∈ rs, r.den ≤ 66 ∧ r.num.natAbs ≤ 66) : NsA 2 (ofD (wsD rs)) := .tuple (by rw [List.length_map]; exact l) fun d hd => by
  obtain ⟨r, hr, rfl⟩ := List.mem_map.mp hd
  exact ns_rD (h r hr).1 (h r hr).2
theorem ns_gsD {W : Nat} {gs : List (List Rat)} (hW : W ≤ 5) (l : gs.length ≤ 20) (h : ∀ x ∈ gs, SmG W x) : NsA 3 (ofD (gsD gs)) := .tuple (by rw [List.length_map]; exact l) fun d hd => by
  obtain ⟨x, hx, rfl⟩ := List.mem_map.mp hd
  obtain ⟨lx, hx⟩ := h x hx
  exact ns_wsD (by omega) fun r hr => ⟨by have := (hx r hr).1; omega, by have := (hx r hr).2; omega⟩
theorem ns_akD {W M : Nat} (hM : M ≤ 20) : ∀ (n : Nat) (ahead : List Rat) (t : Nd n) (a : Ak n), NdOk W n ahead t → IsAk M n t a → NsA (2 * n + 1) (ofD (akD n a))
  | 0, _, _, d, _, h => by
    have h : (show Nat from d) < M := h
    exact .tuple (ds := [.str "stop", .int ((show Nat from d : Nat) : Int)]) (show 2 ≤ 20 by decide) fun e he => by
      rcases List.mem_cons.mp he with rfl | he
      · exact .oth
      · rw [List.mem_singleton.mp he]
        exact ns_small (by omega)
  | n + 1, _, _, .inl d, _, h => by
    have h : d < M := h
    exact (NsA.tuple (n := 0) (ds := [.str "stop", .int (d : Int)]) (show 2 ≤ 20 by decide) fun e he => by
      rcases List.mem_cons.mp he with rfl | he
      · exact .oth
      · rw [List.mem_singleton.mp he]
        exact ns_small (by omega)).mono (by omega)
  | n + 1, ahead, qs, .inr (k, xs), ok, h => by
    obtain ⟨q, hq, al⟩ := h
    obtain ⟨l5, tk⟩ := ndok_qs ok
    have hk := (List.getElem?_eq_some_iff.mp hq).1
    have l5 : (show List (Qn n) from qs).length ≤ 5 := l5
    obtain ⟨qok, qn⟩ := ok.2 q (List.mem_of_getElem? hq)
    have q12 := qok.most
    have lx := al.len
    have inner : NsA (2 * n + 2) (ofD (.tuple (xs.map (akD n)))) := .tuple (by rw [List.length_map]; omega) fun d hd => by
      obtain ⟨x, hx, rfl⟩ := List.mem_map.mp hd
      obtain ⟨i, hi⟩ := List.getElem?_of_mem hx
      obtain ⟨an, ean⟩ : ∃ an, q[i]? = some an := ⟨_, List.getElem?_eq_getElem (by
        have := (List.getElem?_eq_some_iff.mp hi).1
        omega)⟩
      obtain ⟨x', e1, e2⟩ := al.get ean
      rw [hi] at e1
      cases e1
      exact ns_akD hM n an.2.1 an.2.2 x (qn an (List.mem_of_getElem? ean)) e2
    exact NsA.tuple (n := 2 * n + 2) (ds := [.str "ask", .int (k : Int), .tuple (xs.map (akD n))]) (show 3 ≤ 20 by decide) fun e he => by
      simp only [List.mem_cons, List.not_mem_nil, or_false] at he
      rcases he with rfl | rfl | rfl
      · exact .oth
      · exact ns_small (by omega)
      · exact inner
theorem NsA.top {n : Nat} {d : AD} (h : NsA n d) : TopLe 20 d := fun ds e => by
  subst e
  cases h with
  | tup l _ => exact l
def spAEdge (K : PySem.W.Frag) (n : Nat) : Sp := fun vs H Q _ => ∃ (b g : Addr) (W M : Nat) (v va : V) (ahead : List Rat) (t : Nd n) (a : Ak n), vs = [.ref b, v, .int (M : Int), va] ∧ Bag H b g ∧ Td K H v (ndD n t) ∧ NdOk W n ahead t ∧ Td K H va (akD n a) ∧ IsAk M n t a ∧ M ≤ 20 ∧
  ∀ v' H', Thing K b g H' v' → Bag H' b g → Frm b g H H' → Q v' H'
section
variable {P : Program} {w : World} {K : PySem.W.Frag} {mg : Str → Option Value} {base : Heap} {aN aO : Addr} {t1 t2 t3 t4 t5 t6 t7 : Tok}
theorem ok_law_gains_s {f f1 f2 f3 : Addr} {fd fd1 fd2 fd3 : FuncData} (D : Dn K mg "_law_gains" s_law_gains ["bag", "worlds", "least"] f fd) (B : Blt mg) (C : Cst K mg aN aO t1 t2 t3 t4 t5 t6 t7)
    (D_law_pick : Dn K mg "_law_pick" s_law_pick ["bag", "many"] f1 fd1) (G_law_pick : FnOk P w K mg base CX0 1 f1 fd1 ["bag", "many"] spPick)
    (D_law_some : Dn K mg "_law_some" s_law_some ["bag", "things"] f2 fd2) (G_law_some : FnOk P w K mg base CX0 2 f2 fd2 ["bag", "things"] spSome)
    (D_law_low : Dn K mg "_law_low" s_law_low ["top", "bottom"] f3 fd3) (G_law_low : FnOk P w K mg base CX0 2 f3 fd3 ["top", "bottom"] (spLow K)) : FnOk P w K mg base CX0 3 f fd ["bag", "worlds", "least"] (spGainsS K) := by
  refine D.F.ok sc_law_gains (fun vs H Q E h => ?_) (fun cdv A outer s H vs Q E hr h => ?_)
  · obtain ⟨b, g, W, l, rfl, _⟩ := h
    rfl
  obtain ⟨b, g, W, l, rfl, hB, w1, w5, l9, l0, q⟩ := h
  have nd := sc_law_gains.nd
  refine ⟨_, (pss_cons (ps_set (i := 3) nd rfl (.inl rfl) (pe_lst pa_nil))
      (pss_cons (ps_for PassesOwn.never rfl (pi_range1 (by rfl) B.range (pa_cons (pe_op op_add pe_int (pe_call G_law_pick (hr.mono (by omega)) (by rfl) D_law_pick.m D_law_pick.F.kp D_law_pick.b .nil pass0 (pa_cons (pv 0) (pa_cons pe_int pa_nil)))) pa_nil)) (pg_name (i := 4) nd rfl (.inl rfl)) (pss_cons (ps_set (i := 5) nd rfl (.inl rfl) (pe_lst pa_nil))
      (pss_cons (ps_for PassesOwn.never rfl (pi_range1 (by rfl) B.range (pa_cons (pv 1) pa_nil)) (pg_name (i := 6) nd rfl (.inl rfl)) (pss_cons (ps_set (i := 7) nd rfl (.inl rfl) (pe_op op_sub (pe_call G_law_pick (hr.mono (by omega)) (by rfl) D_law_pick.m D_law_pick.F.kp D_law_pick.b .nil pass0 (pa_cons (pv 0) (pa_cons pe_int pa_nil))) (pe_call G_law_pick (hr.mono (by omega)) (by rfl) D_law_pick.m D_law_pick.F.kp D_law_pick.b .nil pass0 (pa_cons (pv 0) (pa_cons pe_int pa_nil)))))
      (pss_one (ps_expr (pe_bm PySem.F.plainAttrs_list PySem.F.slot_list_append PySem.F.type_list_append mt_append (pv 5) (pa_cons (pe_call G_law_low (hr.mono (by omega)) (by rfl) D_law_low.m D_law_low.F.kp D_law_low.b .nil pass0 (pa_cons (pe_callB (call_max2 rfl) (by rfl) B.max (by decide +kernel) (pa_cons (pv 2) (pa_cons (pv 7) pa_nil))) (pa_cons (pe_call G_law_some (hr.mono (by omega)) (by rfl) D_law_some.m D_law_some.F.kp D_law_some.b .nil pass0 (pa_cons (pv 0) (pa_cons (pe_lst (pa_cons pe_int (pa_cons pe_int (pa_cons pe_int (pa_cons pe_int (pa_cons pe_int pa_nil)))))) pa_nil))) pa_nil))) pa_nil))))))
      (pss_one (ps_expr (pe_bm PySem.F.plainAttrs_list PySem.F.slot_list_append PySem.F.type_list_append mt_append (pv 3) (pa_cons (pe_callTy (k_tupOf (K := K) rfl) (by rfl) B.tuple (by decide +kernel) (pa_cons (pv 5) pa_nil)) pa_nil)))))))
      (pss_one (ps_ret (pe_callTy (k_tupOf (K := K) rfl) (by rfl) B.tuple (by decide +kernel) (pa_cons (pv 3) pa_nil)))))), ?_⟩
  refine ⟨Nat.zero_le _, fun φ hφ => ?_⟩
  obtain ⟨φb, φg⟩ := hB.neNew hφ
  have B0 : Bag (upd H φ (.lst [])) b g := hB.updN φb φg
  have F0 : Frm b g H (upd H φ (.lst [])) := (Frm.refl b g H).updN hφ
  refine ⟨_, rfl, b, g, 4, rfl, B0, by decide, by decide, fun r H1 r0 r1 B1 F1 => ⟨_, _, rfl, rfl, ?_⟩⟩
  obtain ⟨M, eM⟩ : ∃ M : Nat, 1 + r = (M : Int) := ⟨(1 + r).toNat, by omega⟩
  have h1φ := F1 φ _ upd_same φb φg
  refine ⟨(M : Int), by show [V.int (1 + r)] = _; rw [eM], by omega, by omega, for_range (lo := 0) (n := M) (fun i σ H2 => ∃ (gs : List (List Rat)) (us : List V) (o4 o5 o6 o7 : Option V), σ = [some (.ref b), some (.int (W : Int)), some (.int l), some (.ref φ), o4, o5, o6, o7] ∧ gs.length = i ∧ H2 φ = some (.lst us) ∧ TdAll K H2 us (gs.map wsD) ∧ (∀ x ∈ gs, SmG W x ∧ (l = 0 → ∀ r ∈ x, 0 ≤ r)) ∧ Bag H2 b g ∧ Frm b g H H2) ⟨[], [], none, none, none, none, rfl, rfl, h1φ, .nil, fun x h => absurd h List.not_mem_nil, B1, F0.trans F1⟩ ?_ ?_⟩
  · rintro i σ H2 hi ⟨gs, us, o4, o5, o6, o7, rfl, lg, h2, t2, hg, B2, F2⟩
    refine ⟨Nat.zero_le _, fun δ hδ => ?_⟩
    obtain ⟨δb, δg⟩ := B2.neNew hδ
    have δφ : φ ≠ δ := ne_of_none h2 hδ
    have hδ0 : H δ = none := by
      cases z : H δ with
      | none => rfl
      | some o =>
        rw [F2 δ o z δb δg] at hδ
        cases hδ
    have sδ : Same H2 (upd H2 δ (.lst [])) := same_upd hδ
    refine ⟨_, rfl, _, rfl, by omega, by omega, for_range (lo := 0) (n := W) (fun j σ H3 => ∃ (ps : List Rat) (ws : List V) (o6 o7 : Option V), σ = [some (.ref b), some (.int (W : Int)), some (.int l), some (.ref φ), some (.int (0 + (i : Int))), some (.ref δ), o6, o7] ∧ ps.length = j ∧ H3 δ = some (.lst ws) ∧ TdAll K H3 ws (ps.map rD) ∧ (∀ p ∈ ps, SmR p ∧ (l = 0 → 0 ≤ p)) ∧ H3 φ = some (.lst us) ∧ TdAll K H3 us (gs.map wsD) ∧ Bag H3 b g ∧ Frm b g H H3)
      ⟨[], [], _, _, rfl, rfl, upd_same, .nil, fun p h => absurd h List.not_mem_nil, sδ _ _ h2, t2.keep (Same.kt sδ), B2.updN δb δg, F2.updN hδ0⟩ ?_ ?_⟩
    · rintro j σ H3 hj ⟨ps, ws, o6', o7', rfl, lp, h3, t3, hp, h3φ, t3φ, B3, F3⟩
      refine ⟨_, rfl, b, g, 7, rfl, B3, by decide, by decide, fun r1 H4 r10 r11 B4 F4 => ⟨_, rfl, b, g, 4, rfl, B4, by decide, by decide, fun r2 H5 r20 r21 B5 F5 => ⟨_, _, rfl, rfl, ?_⟩⟩⟩
      have F35 := F4.trans F5
      have h5 := F35 δ _ h3 δb δg
      have h5φ := F35 φ _ h3φ φb φg
      have k35 := B3.kt (K := K) F35
      refine ⟨_, rfl, .inl ⟨rfl, _, SqL.of h5⟩, _, rfl, _, rfl, _, _, rfl, ?_⟩
      refine ⟨_, rfl, by show 5 ≤ sizeLine; decide, fun t nt => ?_⟩
      obtain ⟨tb, tg⟩ := B5.neNew nt
      have st := same_upd (o := .lst [.int 1, .int 1, .int 2, .int 3, .int 7]) nt
      refine ⟨b, g, t, _, rfl, B5.keep st, upd_same, tb, tg, by decide, by decide, fun jj x H7 hx B7 F7 => ?_⟩
      obtain ⟨bb, rfl, b1, b7⟩ := pick5 hx
      have h7 := F7 δ _ (st _ _ h5) δb δg
      have h7φ := F7 φ _ (st _ _ h5φ) φb φg
      have k57 : KT K H5 H7 := (Same.kt st).trans ((B5.keep st).kt F7)
      obtain ⟨top, etop, top1, top2⟩ : ∃ top : Int, (if r1 - r2 > l then r1 - r2 else l) = top ∧ -9 ≤ top ∧ top ≤ 9 ∧ (l = 0 → 0 ≤ top) := ⟨_, rfl, by split <;> omega, by split <;> omega, fun e => by split <;> omega⟩
      rw [etop]
      refine ⟨top, bb, rfl, by omega, Nat.lt_of_le_of_lt (show bb ≤ 2 ^ 3 by omega) (Nat.pow_lt_pow_right (by decide) (by decide)), fun v H8 s8 tv => ?_⟩
      have h8 := s8 _ _ h7
      have h8φ := s8 _ _ h7φ
      have kT : KT K H8 (upd H8 δ (.lst (ws ++ [v]))) := KT.updL h8
      have k3 := (k35.trans k57).trans ((Same.kt s8).trans kT)
      refine ⟨δ, ws, _, rfl, rfl, h8, ?_, ps ++ [mkRat top bb], ws ++ [v], _, _, rfl, by rw [List.length_append, lp]; rfl, upd_same, ?_, fun p hp' => ?_, ?_, t3φ.keep k3, (B7.keep s8).updN δb δg, (((F3.trans F35).trans (Frm.of st)).trans (F7.trans (Frm.of s8))).updN hδ0⟩
      · rw [t3.len, List.length_map, lp]
        exact small1000 (by omega)
      · rw [List.map_append]
        exact (t3.keep k3).app (.cons (tv.keep kT) .nil)
      · rcases List.mem_append.mp hp' with h | h
        · exact hp p h
        · rw [List.mem_singleton.mp h]
          exact ⟨smr_mk top1 top2.1 b1 b7, fun e => mk_nonneg' (top2.2 e) b1⟩
      · rw [upd_ne δφ]
        exact h8φ
    · rintro σ H3 ⟨ps, ws, o6', o7', rfl, lp, h3, t3, hp, h3φ, t3φ, B3, F3⟩
      refine ⟨_, rfl, .inl ⟨rfl, _, SqL.of h3φ⟩, _, rfl, δ, ws, rfl, SqL.of h3, fun p H4 s4 q4 => ?_⟩
      have h4φ := s4 _ _ h3φ
      have kT : KT K H4 (upd H4 φ (.lst (us ++ [.ref p]))) := KT.updL h4φ
      have k3 := (Same.kt (K := K) s4).trans kT
      refine ⟨φ, us, _, rfl, rfl, h4φ, ?_, gs ++ [ps], us ++ [.ref p], _, _, _, _, rfl, by rw [List.length_append, lg]; rfl, upd_same, ?_, fun x hx => ?_, (B3.keep s4).updN φb φg, (F3.trans (Frm.of s4)).updN hφ⟩
      · rw [t3φ.len, List.length_map, lg]
        exact small1000 (by omega)
      · rw [List.map_append]
        exact (t3φ.keep k3).app (.cons (.tup (kT _ _ q4) (t3.keep k3)) .nil)
      · rcases List.mem_append.mp hx with h | h
        · exact hg x h
        · rw [List.mem_singleton.mp h]
          exact ⟨⟨lp, fun p h => (hp p h).1⟩, fun e r h => (hp r h).2 e⟩
  · rintro σ H2 ⟨gs, us, o4, o5, o6, o7, rfl, lg, h2, t2, hg, B2, F2⟩
    refine ⟨_, rfl, φ, us, rfl, SqL.of h2, fun p H4 s4 q4 => ?_⟩
    exact q (.ref p) gs H4 (by omega) (by omega) (fun x hx => (hg x hx).1) (.tup q4 (t2.keep (Same.kt s4))) (B2.keep s4) (F2.trans (Frm.of s4))
theorem ok_law_asker_edge {f f1 f2 : Addr} {fd fd1 fd2 : FuncData} (D : Dn K mg "_law_asker_edge" s_law_asker_edge ["bag", "node", "deeds", "thing"] f fd) (B : Blt mg) (C : Cst K mg aN aO t1 t2 t3 t4 t5 t6 t7)
    (D_law_pick : Dn K mg "_law_pick" s_law_pick ["bag", "many"] f1 fd1) (G_law_pick : FnOk P w K mg base CX0 1 f1 fd1 ["bag", "many"] spPick)
    (D_law_some : Dn K mg "_law_some" s_law_some ["bag", "things"] f2 fd2) (G_law_some : FnOk P w K mg base CX0 2 f2 fd2 ["bag", "things"] spSome) : ∀ n : Nat, FnOk P w K mg base CX0 (3 + n) f fd ["bag", "node", "deeds", "thing"] ((spAEdge K) n) := by
  intro n
  obtain ⟨sp0, G_law_asker_edge, hsp⟩ : ∃ sp0, FnOk P w K mg base CX0 (2 + n) f fd ["bag", "node", "deeds", "thing"] sp0 ∧ (∀ m, n = m + 1 → sp0 = (spAEdge K) m) := by
    cases n with
    | zero => exact ⟨fun _ _ _ _ => False, ⟨fun vs H Q E h => h.elim, fun A outer s H args us vs Q E _ _ _ _ h => h.elim⟩, fun m e => by omega⟩
    | succ m =>
      have G := ok_law_asker_edge D B C D_law_pick G_law_pick D_law_some G_law_some m
      rw [show 3 + m = 2 + (m + 1) by omega] at G
      exact ⟨_, G, fun m' e => by rw [show m' = m by omega]⟩
  rw [show 3 + n = (2 + n) + 1 by omega]
  refine D.F.ok sc_law_asker_edge (fun vs H Q E h => ?_) (fun cdv A outer s H vs Q E hr h => ?_)
  · obtain ⟨b, g, W, M, v, va, ahead, t, a, rfl, _⟩ := h
    rfl
  obtain ⟨b, g, W, M, v, va, ahead, t, a, rfl, hB, hv, hok, hva, hA, m20, q⟩ := h
  have nd := sc_law_asker_edge.nd
  have D_law_asker_edge := D
  refine ⟨_, (pss_cons (ps_if (pt_cmpR op_eq (pe_ix (k_ixT (K := K) rfl) (pv 3) pe_int (fun _ _ => rfl)) pe_str (nomark _)) (pss_one (ps_ret (pe_cut (pe_call G_law_some (hr.mono (by omega)) (by rfl) D_law_some.m D_law_some.F.kp D_law_some.b .nil pass0 (pa_cons (pv 0) (pa_cons (pe_lst (pa_cons (pe_tup (pa_cons pe_str (pa_cons (pv 2) pa_nil))) (pa_cons (pe_tup (pa_cons pe_str (pa_cons (pe_un un_neg pe_int) pa_nil))) (pa_cons (pe_tup (pa_cons pe_str (pa_cons (pe_op op_sub (pv 2) pe_int) pa_nil))) (pa_cons (pe_tup (pa_cons pe_str (pa_cons pe_bl pa_nil))) (pa_cons (pe_tup (pa_cons pe_str (pa_cons pe_int (pa_cons pe_int pa_nil)))) (pa_cons (pe_tup (pa_cons pe_str pa_nil)) pa_nil))))))) pa_nil)))))) pss_nil)
      (pss_cons (ps_par (i := 4) (j := 5) rfl nd rfl rfl (by decide) rfl rfl (pa_cons (pe_ix (k_ixT (K := K) rfl) (pv 3) pe_int (fun _ _ => rfl)) (pa_cons (pe_ix (k_ixT (K := K) rfl) (pv 3) pe_int (fun _ _ => rfl)) pa_nil)) (by rfl))
      (pss_cons (ps_join (ps_if (PW.pt (pw_and (pt_cmpR op_gt (pe_callB (k_len (K := K) rfl) (by rfl) B.len PySem.boot_len (pa_cons (pv 5) pa_nil)) pe_int (nomark _)) (pw_and1 (pt_cmpR op_gt (pe_call G_law_pick (hr.mono (by omega)) (by rfl) D_law_pick.m D_law_pick.F.kp D_law_pick.b .nil pass0 (pa_cons (pv 0) (pa_cons pe_int pa_nil))) pe_int (nomark _))))) (pss_cons (ps_set (i := 6) nd rfl (.inl rfl) (pe_call G_law_pick (hr.mono (by omega)) (by rfl) D_law_pick.m D_law_pick.F.kp D_law_pick.b .nil pass0 (pa_cons (pv 0) (pa_cons (pe_callB (k_len (K := K) rfl) (by rfl) B.len PySem.boot_len (pa_cons (pv 5) pa_nil)) pa_nil))))
      (pss_cons (ps_set (i := 7) nd rfl (.inl rfl) (pe_call G_law_asker_edge (hr.mono (by omega)) (by rfl) D_law_asker_edge.m D_law_asker_edge.F.kp D_law_asker_edge.b .nil pass0 (pa_cons (pv 0) (pa_cons (pe_ix (k_ixT (K := K) rfl) (pe_ix (k_ixT (K := K) rfl) (pe_ix (k_ixT (K := K) rfl) (pv 1) (pv 4) (fun _ _ => rfl)) (pv 6) (fun _ _ => rfl)) pe_int (fun _ _ => rfl)) (pa_cons (pv 2) (pa_cons (pe_ix (k_ixT (K := K) rfl) (pv 5) (pv 6) (fun _ _ => rfl)) pa_nil))))))
      (pss_one (ps_ret (pe_cut (pe_tup (pa_cons pe_str (pa_cons (pv 4) (pa_cons (pe_op (k_cat (K := K) rfl) (pe_op (k_cat (K := K) rfl) (pe_slice (k_slT (K := K) rfl) (pv 5) po_none (po_some (pv 6))) (pe_tup (pa_cons (pv 7) pa_nil))) (pe_slice (k_slT (K := K) rfl) (pv 5) (po_some (pe_op op_add (pv 6) pe_int)) po_none)) pa_nil))))))))) pss_nil))
      (pss_cons (ps_set (i := 8) nd rfl (.inl rfl) (pe_cut (pe_lst (pa_cons (pe_tup (pa_cons pe_str (pa_cons (pe_callB (k_len (K := K) rfl) (by rfl) B.len PySem.boot_len (pa_cons (pv 1) pa_nil)) (pa_cons (pv 5) pa_nil)))) (pa_cons (pe_tup (pa_cons pe_str (pa_cons (pe_un un_neg pe_int) (pa_cons (pv 5) pa_nil)))) (pa_cons (pe_tup (pa_cons pe_str (pa_cons (pv 4) (pa_cons (pe_slice (k_slT (K := K) rfl) (pv 5) po_none (po_some (pe_un un_neg pe_int))) pa_nil)))) (pa_cons (pe_tup (pa_cons pe_str (pa_cons (pv 4) (pa_cons (pe_op (k_cat (K := K) rfl) (pv 5) (pe_slice (k_slT (K := K) rfl) (pv 5) (po_some (pe_un un_neg pe_int)) po_none)) pa_nil)))) pa_nil)))))))
      (pss_one (ps_ret (pe_cut (pe_call G_law_some (hr.mono (by omega)) (by rfl) D_law_some.m D_law_some.F.kp D_law_some.b .nil pass0 (pa_cons (pv 0) (pa_cons (pe_op op_cat (pv 8) (pe_lst (pa_cons (pe_tup (pa_cons pe_str (pa_cons (pv 4) (pa_cons (pe_callTy (k_listOf (K := K) rfl) (by rfl) B.list (by decide +kernel) (pa_cons (pv 5) pa_nil)) pa_nil)))) (pa_cons (pe_tup (pa_cons pe_str (pa_cons (pv 4) pa_nil))) (pa_cons (pe_tup (pa_cons pe_str (pa_cons (pv 4) (pa_cons (pv 5) (pa_cons (pe_tup pa_nil) pa_nil))))) (pa_cons (pe_tup (pa_cons pe_str (pa_cons (pv 4) (pa_cons (pv 5) pa_nil)))) pa_nil)))))) pa_nil)))))))))), ?_⟩
  have fin : ∀ (v' : V) (H' : Hp), Thing K b g H' v' ∧ EnvAt b g H H' → Q v' H' := fun v' H' h => q v' H' h.1 h.2.1 h.2.2
  by_cases hs : ∃ d, d < M ∧ Td K H va (stopD d)
  · obtain ⟨d, hd, hvd⟩ := hs
    obtain ⟨pa, rfl, hpa⟩ := td_stop hvd
    refine ⟨_, rfl, pa, _, 0, _, rfl, rfl, hpa, at_of (j := 0) rfl rfl, rfl, _, rfl, ?_⟩
    rw [decide_eq_true rfl]
    refine iteT ?_
    have tM : Tel K b g (EnvAt b g H) (tVar 2) [some (.ref b), some v, some (.int (M : Int)), some (.ref pa), none, none, none, none, none] := tel_var env_at rfl fun _ _ => .int ⟨Nat.lt_of_le_of_lt (show ((M : Nat) : Int).natAbs ≤ 20 by omega) (by decide), gi_small (by omega)⟩
    have tM1 : Tel K b g (EnvAt b g H) (tOp (rI0 fun i j => V.int (i - j)) (tVar 2) (tC (.int 1))) [some (.ref b), some v, some (.int (M : Int)), some (.ref pa), none, none, none, none, none] := fun H' Q hE k => ⟨_, rfl, _, _, rfl, rfl, k _ H' (.int ⟨Nat.lt_of_le_of_lt (show ((M : Int) - 1).natAbs ≤ 20 by omega) (by decide), gi_small (by omega)⟩) hE (Frm.refl _ _ _)⟩
    refine ⟨fun v' H' => Thing K b g H' v' ∧ EnvAt b g H H', tel_some env_at rfl (n := 6) ?_ (by decide) (by decide) H _ (.now hB) fun v' H' t hE f => ⟨t, hE⟩, fin⟩
    repeat' (first | exact tels_nil env_at | with_reducible apply tels_cons env_at | exact tel_int env_at (by decide) | exact tel_bl env_at | exact tel_str env_at | exact tel_neg env_at (by decide) | exact tM | exact tM1 | with_reducible apply tel_tup env_at | decide | omega)
  · cases n with
    | zero =>
      have hA' : (show Nat from a) < M := hA
      exact absurd ⟨_, hA', hva⟩ hs
    | succ n =>
      have esp := hsp n rfl
      subst esp
      cases a with
      | inl d =>
        have hA' : d < M := hA
        exact absurd ⟨d, hA', hva⟩ hs
      | inr kx =>
        obtain ⟨kq, xs⟩ := kx
        clear hs
        have nsa := ns_akD m20 (n + 1) ahead t (.inr (kq, xs)) hok hA
        obtain ⟨qn, hq, al⟩ := hA
        obtain ⟨qok, nok⟩ := hok.2 qn (List.mem_of_getElem? hq)
        have o12 := qok.most
        have lal := al.len
        have hva2 : Td K H va (.tuple [.str "ask", .int (kq : Int), .tuple (xs.map (akD n))]) := hva
        obtain ⟨pa, v2, rfl, hpa, tv2⟩ := td_ask hva2
        have hv2 : Td K H v (.tuple ((show List (Qn n) from t).map (qnD n))) := hv
        obtain ⟨na, nxs, rfl, hna, tna⟩ := hv2.tupE
        have lnx : nxs.length = (show List (Qn n) from t).length := by rw [tna.len, List.length_map]
        have hkq := (List.getElem?_eq_some_iff.mp hq).1
        refine ⟨_, rfl, pa, _, 0, _, rfl, rfl, hpa, at_of (j := 0) rfl rfl, rfl, _, rfl, ?_⟩
        rw [decide_eq_false (show ¬ V.str "ask" = V.str "stop" by intro z; injection z with z; exact absurd z (by decide))]
        refine iteF ?_
        refine ⟨_, rfl, pa, _, 1, _, rfl, rfl, hpa, at_of (j := 1) rfl rfl, _, rfl, pa, _, 2, _, rfl, rfl, hpa, at_of (j := 2) rfl rfl, ?_⟩
        refine ⟨_, _, rfl, ?_⟩
        obtain ⟨c, ys, rfl, hc, tc⟩ := id tv2.tupE
        have lys : ys.length = xs.length := by rw [tc.len, List.length_map]
        have bdT : BdA (ofD (.tuple (xs.map (akD n)))) := (bd_parts (show BdA (ofD (.tuple [.str "ask", .int (kq : Int), .tuple (xs.map (akD n))])) from nsa.bd)).2 _ (by simp)
        have tup0 : TupT K b g 12 H c := ⟨ys, hc, by omega, tds_things tc (bd_parts bdT).2⟩
        refine ⟨fun σ' H' => σ' = [some (.ref b), some (.ref na), some (.int (M : Int)), some (.ref pa), some (.int (kq : Int)), some (.ref c), none, none, none] ∧ Bag H' b g ∧ Frm b g H H', fun σ' H2 ⟨e1, B2, F2⟩ => ?_, ?_⟩
        rotate_left
        · refine ⟨_, rfl, c, ys, rfl, .inr hc, _, _, rfl, rfl, _, rfl, ?_⟩
          refine ite2 (fun c1 => ?_) (fun _ => ⟨rfl, hB, Frm.refl _ _ _⟩)
          have c1 := of_decide_eq_true c1
          refine ⟨_, rfl, b, g, 3, rfl, hB, by decide, by decide, fun r H1 _ _ B1 F1 => ⟨_, _, rfl, rfl, _, rfl, ?_⟩⟩
          refine ite2 (fun _ => ?_) (fun _ => ⟨rfl, B1, F1⟩)
          refine ⟨_, rfl, _, rfl, c, ys, rfl, .inr (hB.kt F1 _ _ hc), b, g, _, rfl, B1, by omega, by omega, fun k H2 k0 k1 B2 F2 => ?_⟩
          obtain ⟨j, rfl⟩ : ∃ j : Nat, k = (j : Int) := ⟨k.toNat, by omega⟩
          have F02 := F1.trans F2
          have kt2 := hB.kt (K := K) F02
          have hj : j < ys.length := by omega
          have gy : ys[j]? = some ys[j] := List.getElem?_eq_getElem hj
          generalize ys[j] = yj at gy
          obtain ⟨dy, edy, tdy⟩ := (tc.keep kt2).getV gy
          obtain ⟨xa, exa, rfl⟩ := mapAt edy
          obtain ⟨an, ean⟩ : ∃ an, qn[j]? = some an := ⟨_, List.getElem?_eq_getElem (by
            have := (List.getElem?_eq_some_iff.mp exa).1
            omega)⟩
          obtain ⟨xa', exa', hax⟩ := al.get ean
          rw [exa] at exa'
          cases exa'
          have ma := List.mem_of_getElem? ean
          obtain ⟨vq, evq, tvq⟩ := (tna.keep kt2).get (i := kq) (d := qnD n qn) (by rw [List.getElem?_map, hq]; rfl)
          obtain ⟨qa, qas, rfl, hqa, tqa⟩ := id tvq.tupE
          obtain ⟨va2, eva, tva⟩ := tqa.get (i := j) (d := anD n an) (by rw [List.getElem?_map, ean]; rfl)
          obtain ⟨pn, vw', vz, vt, rfl, hpn, tw', tz, tt⟩ := td_an tva
          refine ⟨_, rfl, _, rfl, _, rfl, na, nxs, (kq : Int), _, rfl, rfl, kt2 _ _ hna, at_of (j := kq) rfl evq, _, rfl, qa, qas, (j : Int), _, rfl, rfl, hqa, at_of (j := j) rfl eva, pn, _, 2, _, rfl, rfl, hpn, at_of (j := 2) rfl rfl, _, rfl, _, rfl, _, rfl, c, ys, (j : Int), yj, rfl, rfl, kt2 _ _ hc, at_of (j := j) rfl gy, b, g, W, M, vt, yj, an.2.1, an.2.2, xa, rfl, B2, tt, nok an ma, tdy, hax, m20, fun v' H3 tv' B3 F3 => ?_⟩
          have F03 := F02.trans F3
          have tup3 := TupT.env B3 (tup0.keep hB F03)
          have ev := Thing.env B3 tv'
          have tK : ∀ {o1 o2 : Option V}, Tel K b g (EnvAt b g H3) (tVar 4) [some (.ref b), some (.ref na), some (.int (M : Int)), some (.ref pa), some (.int (kq : Int)), some (.ref c), some (.int (j : Int)), o1, o2] := fun {o1 o2} => tel_var env_at rfl fun _ _ => .int ⟨Nat.lt_of_le_of_lt (show ((kq : Nat) : Int).natAbs ≤ 5 by have := hok.1; omega) (by decide), gi_small (by have := hok.1; omega)⟩
          have kI : ∀ {E : Hp → Prop} {o1 o2 : Option V}, TelI E (tVar 6) [some (.ref b), some (.ref na), some (.int (M : Int)), some (.ref pa), some (.int (kq : Int)), some (.ref c), some (.int (j : Int)), o1, o2] := fun {E o1 o2} H Q hE k => ⟨_, rfl, k (j : Int) (by omega) (by omega)⟩
          have kI1 : ∀ {E : Hp → Prop} {o1 o2 : Option V}, TelI E (tOp (rI0 fun i j => V.int (i + j)) (tVar 6) (tC (.int 1))) [some (.ref b), some (.ref na), some (.int (M : Int)), some (.ref pa), some (.int (kq : Int)), some (.ref c), some (.int (j : Int)), o1, o2] := fun {E o1 o2} H Q hE k => ⟨_, rfl, _, _, rfl, rfl, k ((j : Int) + 1) (by omega) (by omega)⟩
          exact ⟨fun v' H' => Thing K b g H' v' ∧ EnvAt b g H3 H', tel_tup env_at (n := 3) (tels_cons env_at (tel_str env_at) (tels_cons env_at tK (tels_cons env_at (TelT.tel env_at (telT_cat env_at (m := 13) (m2 := 12) (telT_cat env_at (m := 12) (m2 := 1) (telT_to env_at (telT_var env_at rfl tup3) kI) (telT_tup env_at (n := 1) (tels_cons env_at (tel_var env_at rfl ev) (tels_nil env_at)) (by decide)) (by decide)) (telT_from env_at (telT_var env_at rfl tup3) kI1) (by decide)) (by decide)) (tels_nil env_at)))) (by decide) H3 _ (.now B3) fun v' H' t hE f => ⟨t, hE⟩, fun v' H' h => q v' H' h.1 h.2.1 (F03.trans h.2.2)⟩
        subst e1
        have tup2 := TupT.env B2 (tup0.keep hB F2)
        have hna2 := hB.kt (K := K) F2 _ _ hna
        have lq5 : (show List (Qn n) from t).length ≤ 5 := hok.1
        have tK : ∀ {E : Hp → Prop} {o8 : Option V}, EnvOk b g E → Tel K b g E (tVar 4) [some (.ref b), some (.ref na), some (.int (M : Int)), some (.ref pa), some (.int (kq : Int)), some (.ref c), none, none, o8] := fun {E o8} e => tel_var e rfl fun _ _ => .int ⟨Nat.lt_of_le_of_lt (show ((kq : Nat) : Int).natAbs ≤ 5 by omega) (by decide), gi_small (by omega)⟩
        have tN : ∀ {o8 : Option V}, Tel K b g (EnvAt b g H2) (tCB (rLen K) (tCons (tVar 1) tNil)) [some (.ref b), some (.ref na), some (.int (M : Int)), some (.ref pa), some (.int (kq : Int)), some (.ref c), none, none, o8] := fun {o8} H' Q hE k => ⟨_, rfl, na, nxs, rfl, .inr (B2.kt hE.2 _ _ hna2), k _ H' (.int ⟨Nat.lt_of_le_of_lt (show ((nxs.length : Nat) : Int).natAbs ≤ 5 by omega) (by decide), gi_small (by omega)⟩) hE (Frm.refl _ _ _)⟩
        have tT2 : ∀ {o8 : Option V}, TelT K b g (EnvAt b g H2) 12 (tVar 5) [some (.ref b), some (.ref na), some (.int (M : Int)), some (.ref pa), some (.int (kq : Int)), some (.ref c), none, none, o8] := fun {o8} => telT_var env_at rfl tup2
        have tT : ∀ {o8 : Option V}, Tel K b g (EnvAt b g H2) (tVar 5) [some (.ref b), some (.ref na), some (.int (M : Int)), some (.ref pa), some (.int (kq : Int)), some (.ref c), none, none, o8] := fun {o8} => TelT.tel env_at tT2 (by decide)
        have tK := fun {o8} => @tK (EnvAt b g H2) o8 env_at
        refine ⟨fun v H' => ∃ l, v = .ref l ∧ LstT K b g 4 4 H' l ∧ EnvAt b g H2 H', telL_lst env_at (n := 4) ?_ (by decide) H2 _ (.now B2) fun a H1 t1 hE1 f1 => ⟨a, rfl, t1, hE1⟩, ?_⟩
        · repeat' (first | exact tels_nil env_at | with_reducible apply tels_cons env_at | exact tel_int env_at (by decide) | exact tel_bl env_at | exact tel_str env_at | exact tel_neg env_at (by decide) | exact tN | exact tK | exact tT | exact TelT.tel env_at (telT_init env_at tT2) (by decide) | exact TelT.tel env_at (telT_cat env_at tT2 (telT_last env_at tT2) (by decide)) (by decide) | exact tel_listOf env_at tT2 | with_reducible apply tel_tup env_at | decide | omega)
        rintro _ H3 ⟨l, rfl, t3, B3, F3⟩
        have tup3 := TupT.env B3 (tup0.keep hB (F2.trans F3))
        have tT2 : ∀ {o8 : Option V}, TelT K b g (EnvAt b g H3) 12 (tVar 5) [some (.ref b), some (.ref na), some (.int (M : Int)), some (.ref pa), some (.int (kq : Int)), some (.ref c), none, none, o8] := fun {o8} => telT_var env_at rfl tup3
        have tT : ∀ {o8 : Option V}, Tel K b g (EnvAt b g H3) (tVar 5) [some (.ref b), some (.ref na), some (.int (M : Int)), some (.ref pa), some (.int (kq : Int)), some (.ref c), none, none, o8] := fun {o8} => TelT.tel env_at tT2 (by decide)
        have tK : ∀ {o8 : Option V}, Tel K b g (EnvAt b g H3) (tVar 4) [some (.ref b), some (.ref na), some (.int (M : Int)), some (.ref pa), some (.int (kq : Int)), some (.ref c), none, none, o8] := fun {o8} => tel_var env_at rfl fun _ _ => .int ⟨Nat.lt_of_le_of_lt (show ((kq : Nat) : Int).natAbs ≤ 5 by omega) (by decide), gi_small (by omega)⟩
        refine ⟨fun v' H' => Thing K b g H' v' ∧ EnvAt b g H3 H', tel_someL (lo := 8) (m := 8) env_at rfl (telL_cat (lo := 4) (m := 4) (lo2 := 4) (m2 := 4) env_at (telL_var env_at rfl fun H' e => t3.keep B3 e.2) (telL_lst env_at (n := 4) ?_ (by decide)) (by decide)) (by decide) (by decide) H3 _ (.now B3) fun v' H' t hE f => ⟨t, hE⟩, fun v' H' h => q v' H' h.1 h.2.1 ((F2.trans F3).trans h.2.2)⟩
        repeat' (first | exact tels_nil env_at | with_reducible apply tels_cons env_at | exact tel_int env_at (by decide) | exact tel_bl env_at | exact tel_str env_at | exact tel_neg env_at (by decide) | exact tK | exact tT | exact TelT.tel env_at (telT_init env_at tT2) (by decide) | exact TelT.tel env_at (telT_cat env_at tT2 (telT_last env_at tT2) (by decide)) (by decide) | exact tel_listOf env_at tT2 | with_reducible apply tel_tup env_at | decide | omega)
end
end Tl
/-! a prior, gains, an asker with a change at an edge -/
namespace Tl
open PySem PySem.Spec PyProof.Rows L2 RZ
def SmP (W : Nat) (x : List Rat) : Prop := x.length = W ∧ ∀ r ∈ x, r.den ≤ 33 ∧ r.num.natAbs ≤ 33
/-- what is drawn: a prior, gains, an asker -/
structure Trio (K : PySem.W.Frag) (H : Hp) (W n : Nat) (v : V) (t : Nd n) (vp vg va : V) (pr : List Rat) (gs : List (List Rat)) (a : Ak n) : Prop where
  tp : Td K H vp (wsD pr)
  sp : SmP W pr
  tg : Td K H vg (gsD gs)
  sg : ∀ x ∈ gs, SmG W x
  g1 : 1 ≤ gs.length
  g4 : gs.length ≤ 4
  ta : Td K H va (akD n a)
  ia : IsAk gs.length n t a
  tv : Td K H v (ndD n t)
  ok : ∃ ahead, NdOk W n ahead t
  w1 : 1 ≤ W
  w4 : W ≤ 4
theorem Trio.keep {K : PySem.W.Frag} {H H' : Hp} {W n : Nat} {v : V} {t : Nd n} {vp vg va : V} {pr : List Rat} {gs : List (List Rat)} {a : Ak n} (h : Trio K H W n v t vp vg va pr gs a) (s : KT K H H') : Trio K H' W n v t vp vg va pr gs a := ⟨h.tp.keep s, h.sp, h.tg.keep s, h.sg, h.g1, h.g4, h.ta.keep s, h.ia, h.tv.keep s, h.ok, h.w1, h.w4⟩
def spEdgd (K : PySem.W.Frag) (n : Nat) : Sp := fun vs H Q _ => ∃ (b g p : Addr) (W : Nat) (v vp vg va : V) (t : Nd n) (pr : List Rat) (gs : List (List Rat)) (a : Ak n), vs = [.ref b, .int (W : Int), v, .ref p] ∧ Bag H b g ∧ SqT K H p [vp, vg, va] ∧ Trio K H W n v t vp vg va pr gs a ∧
  ∀ p' x y z H', SqT K H' p' [x, y, z] → Thing K b g H' x → ThM K b g 20 H' y → Thing K b g H' z → Bag H' b g → Frm b g H H' → Q (.ref p') H'
theorem tand_at {ta tb : TT} {σ : L2.St} {H : Hp} {b1 b2 : Bool} {R : Bool → Hp → Prop} (h1 : ∀ R' : Bool → Hp → Prop, R' b1 H → ta σ H R') (h2 : ∀ R' : Bool → Hp → Prop, R' b2 H → tb σ H R') (h : R (b1 && b2) H) : tAnd ta tb σ H R := by
  refine h1 _ ?_
  cases b1 with
  | true => exact iteT (h2 _ h)
  | false => exact iteF h
section
variable {P : Program} {w : World} {K : PySem.W.Frag} {mg : Str → Option Value} {base : Heap} {aN aO : Addr} {t1 t2 t3 t4 t5 t6 t7 : Tok}
theorem ok_law_edged {n : Nat} {f f1 f2 f3 : Addr} {fd fd1 fd2 fd3 : FuncData} (D : Dn K mg "_law_edged" s_law_edged ["bag", "worlds", "tree", "parts"] f fd) (B : Blt mg) (C : Cst K mg aN aO t1 t2 t3 t4 t5 t6 t7)
    (D_law_pick : Dn K mg "_law_pick" s_law_pick ["bag", "many"] f1 fd1) (G_law_pick : FnOk P w K mg base CX0 1 f1 fd1 ["bag", "many"] spPick)
    (D_law_some : Dn K mg "_law_some" s_law_some ["bag", "things"] f2 fd2) (G_law_some : FnOk P w K mg base CX0 2 f2 fd2 ["bag", "things"] spSome)
    (D_law_asker_edge : Dn K mg "_law_asker_edge" s_law_asker_edge ["bag", "node", "deeds", "thing"] f3 fd3) (G_law_asker_edge : FnOk P w K mg base CX0 (3 + n) f3 fd3 ["bag", "node", "deeds", "thing"] (spAEdge K n)) : FnOk P w K mg base CX0 (4 + n) f fd ["bag", "worlds", "tree", "parts"] (spEdgd K n) := by
  rw [show 4 + n = (3 + n) + 1 by omega]
  refine D.F.ok sc_law_edged (fun vs H Q E h => ?_) (fun cdv A outer s H vs Q E hr h => ?_)
  · obtain ⟨b, g, p, W, v, vp, vg, va, t, pr, gs, a, rfl, _⟩ := h
    rfl
  obtain ⟨b, g, p, W, v, vp, vg, va, t, pr, gs, a, rfl, hB, hp, T, q⟩ := h
  have nd := sc_law_edged.nd
  refine ⟨_, (pss_cons (ps_asg (pv 3) (k_tup (K := K) (n := 3) rfl rfl (pgs_cons (pg_name (i := 4) nd rfl (.inl rfl)) (pgs_cons (pg_name (i := 5) nd rfl (.inl rfl)) (pgs_cons (pg_name (i := 6) nd rfl (.inl rfl)) pgs_nil)))))
      (pss_cons (ps_par (i := 7) (j := 8) rfl nd rfl rfl (by decide) rfl rfl (pa_cons (pe_call G_law_pick (hr.mono (by omega)) (by rfl) D_law_pick.m D_law_pick.F.kp D_law_pick.b .nil pass0 (pa_cons (pv 0) (pa_cons pe_int pa_nil))) (pa_cons (pe_call G_law_pick (hr.mono (by omega)) (by rfl) D_law_pick.m D_law_pick.F.kp D_law_pick.b .nil pass0 (pa_cons (pv 0) (pa_cons (pv 1) pa_nil))) pa_nil)) (by rfl))
      (pss_cons (ps_join (ps_if (PW.pt (pw_and (pt_cmpR op_eq (pv 7) pe_int (nomark _)) (pw_and1 (pt_cmpR op_gt (pv 1) pe_int (nomark _))))) (pss_one (ps_set (i := 4) nd rfl (.inl rfl) (pe_op (k_cat (K := K) rfl) (pe_tup (pa_cons (pe_tup (pa_cons pe_int (pa_cons pe_int pa_nil))) (pa_cons (pe_tup (pa_cons (pe_un un_neg pe_int) (pa_cons pe_int pa_nil))) pa_nil))) (pe_op (k_repZ (K := K) rfl) (pe_tup (pa_cons (pe_tup (pa_cons pe_int (pa_cons pe_int pa_nil))) pa_nil)) (pe_op op_sub (pv 1) pe_int))))) (pss_one (ps_if (pt_cmpR op_lt (pv 7) pe_int (nomark _)) (pss_one (ps_set (i := 4) nd rfl (.inl rfl) (pe_call G_law_some (hr.mono (by omega)) (by rfl) D_law_some.m D_law_some.F.kp D_law_some.b .nil pass0 (pa_cons (pv 0) (pa_cons (pe_lst (pa_cons (pe_op (k_cat (K := K) rfl) (pv 4) (pe_tup (pa_cons (pe_tup (pa_cons pe_int (pa_cons pe_int pa_nil))) pa_nil))) (pa_cons (pe_ifExpE (pt_cmpR op_eq (pe_ix (k_ixT (K := K) rfl) (pe_ix (k_ixT (K := K) rfl) (pv 4) pe_int (fun _ _ => rfl)) pe_int (fun _ _ => rfl)) pe_int (nomark _)) (pe_slice (k_slT (K := K) rfl) (pv 4) (po_some pe_int) po_none) (pe_slice (k_slT (K := K) rfl) (pv 4) po_none (po_some (pe_un un_neg pe_int)))) (pa_cons (pe_op (k_cat (K := K) rfl) (pe_tup (pa_cons (pe_tup (pa_cons pe_int (pa_cons pe_int pa_nil))) pa_nil)) (pe_op (k_repZ (K := K) rfl) (pe_tup (pa_cons (pe_tup (pa_cons pe_int (pa_cons pe_int pa_nil))) pa_nil)) pe_int)) pa_nil)))) pa_nil))))) (pss_one (ps_if (pt_cmpR op_eq (pv 7) pe_int (nomark _)) (pss_one (ps_set (i := 4) nd rfl (.inl rfl) (pe_op (k_cat (K := K) rfl) (pe_op (k_cat (K := K) rfl) (pe_slice (k_slT (K := K) rfl) (pv 4) po_none (po_some (pv 8))) (pe_tup (pa_cons (pe_tup (pa_cons (pe_op op_mulW pe_int (pe_ix (k_ixT (K := K) rfl) (pe_ix (k_ixT (K := K) rfl) (pv 4) (pv 8) (fun _ _ => rfl)) pe_int (fun _ _ => rfl))) (pa_cons (pe_op op_mulW pe_int (pe_ix (k_ixT (K := K) rfl) (pe_ix (k_ixT (K := K) rfl) (pv 4) (pv 8) (fun _ _ => rfl)) pe_int (fun _ _ => rfl))) pa_nil))) pa_nil))) (pe_slice (k_slT (K := K) rfl) (pv 4) (po_some (pe_op op_add (pv 8) pe_int)) po_none)))) (pss_one (ps_if (pt_cmpR op_eq (pv 7) pe_int (nomark _)) (pss_one (ps_set (i := 5) nd rfl (.inl rfl) (pe_call G_law_some (hr.mono (by omega)) (by rfl) D_law_some.m D_law_some.F.kp D_law_some.b .nil pass0 (pa_cons (pv 0) (pa_cons (pe_lst (pa_cons (pe_tup pa_nil) (pa_cons (pe_callTy (k_listOf (K := K) rfl) (by rfl) B.list (by decide +kernel) (pa_cons (pv 5) pa_nil)) (pa_cons (pe_slice (k_slT (K := K) rfl) (pv 5) po_none (po_some pe_int)) (pa_cons (pe_op (k_cat (K := K) rfl) (pv 5) (pe_tup (pa_cons (pe_slice (k_slT (K := K) rfl) (pe_ix (k_ixT (K := K) rfl) (pv 5) pe_int (fun _ _ => rfl)) po_none (po_some (pe_un un_neg pe_int))) pa_nil))) (pa_cons (pe_op (k_cat (K := K) rfl) (pv 5) (pe_tup (pa_cons (pe_op (k_cat (K := K) rfl) (pe_ix (k_ixT (K := K) rfl) (pv 5) pe_int (fun _ _ => rfl)) (pe_tup (pa_cons (pe_tup (pa_cons pe_int (pa_cons pe_int pa_nil))) pa_nil))) pa_nil))) pa_nil)))))) pa_nil))))) (pss_one (ps_if (pt_cmpR op_eq (pv 7) pe_int (nomark _)) (pss_cons (ps_set (i := 9) nd rfl (.inl rfl) (pe_call G_law_some (hr.mono (by omega)) (by rfl) D_law_some.m D_law_some.F.kp D_law_some.b .nil pass0 (pa_cons (pv 0) (pa_cons (pe_lst (pa_cons (pe_tup (pa_cons pe_int (pa_cons pe_int pa_nil))) (pa_cons (pe_tup (pa_cons pe_int (pa_cons (pe_un un_neg pe_int) pa_nil))) (pa_cons (pe_tup (pa_cons pe_int (pa_cons pe_int pa_nil))) (pa_cons (pe_tup (pa_cons pe_int (pa_cons pe_int pa_nil))) (pa_cons (pe_tup (pa_cons pe_int (pa_cons pe_int pa_nil))) (pa_cons (pe_tup (pa_cons pe_int (pa_cons pe_bl pa_nil))) (pa_cons (pe_tup (pa_cons (pe_un un_neg pe_int) (pa_cons (pe_op op_pow pe_int pe_int) pa_nil))) pa_nil)))))))) pa_nil))))
      (pss_one (ps_set (i := 5) nd rfl (.inl rfl) (pe_op (k_cat (K := K) rfl) (pe_slice (k_slT (K := K) rfl) (pv 5) po_none (po_some (pe_un un_neg pe_int))) (pe_tup (pa_cons (pe_op (k_cat (K := K) rfl) (pe_op (k_cat (K := K) rfl) (pe_slice (k_slT (K := K) rfl) (pe_ix (k_ixT (K := K) rfl) (pv 5) (pe_un un_neg pe_int) (fun _ _ => rfl)) po_none (po_some (pv 8))) (pe_tup (pa_cons (pv 9) pa_nil))) (pe_slice (k_slT (K := K) rfl) (pe_ix (k_ixT (K := K) rfl) (pv 5) (pe_un un_neg pe_int) (fun _ _ => rfl)) (po_some (pe_op op_add (pv 8) pe_int)) po_none)) pa_nil)))))) (pss_one (ps_set (i := 6) nd rfl (.inl rfl) (pe_call G_law_asker_edge (hr.mono (by omega)) (by rfl) D_law_asker_edge.m D_law_asker_edge.F.kp D_law_asker_edge.b .nil pass0 (pa_cons (pv 0) (pa_cons (pv 2) (pa_cons (pe_callB (k_len (K := K) rfl) (by rfl) B.len PySem.boot_len (pa_cons (pv 5) pa_nil)) (pa_cons (pv 6) pa_nil)))))))))))))))))
      (pss_one (ps_ret (pe_tup (pa_cons (pv 4) (pa_cons (pv 5) (pa_cons (pv 6) pa_nil))))))))), ?_⟩
  have w1 := T.w1
  have w4 := T.w4
  have g1 := T.g1
  have g4 := T.g4
  obtain ⟨ahead, hok⟩ := T.ok
  refine ⟨_, rfl, p, _, rfl, hp, rfl, _, _, rfl, _, _, rfl, _, _, rfl, rfl, ?_⟩
  refine ⟨_, rfl, b, g, 9, rfl, hB, by decide, by decide, fun kd H1 k0 k9 B1 F1 => ?_⟩
  refine ⟨_, rfl, _, rfl, b, g, (W : Int), rfl, B1, by omega, by omega, fun at_ H2 a0 a1 B2 F2 => ⟨_, _, rfl, ?_⟩⟩
  obtain ⟨j, rfl⟩ : ∃ j : Nat, at_ = (j : Int) := ⟨at_.toNat, by omega⟩
  have F := F1.trans F2
  have T := T.keep (hB.kt F)
  refine ⟨fun σ' H' => ∃ (x y z : V) (o9 : Option V), σ' = [some (.ref b), some (.int (W : Int)), some v, some (.ref p), some x, some y, some z, some (.int kd), some (.int (j : Int)), o9] ∧ Thing K b g H' x ∧ ThM K b g 20 H' y ∧ Thing K b g H' z ∧ Bag H' b g ∧ Frm b g H2 H', fun σ' H3 ⟨x, y, z, o9, e1, tx, ty, tz, B3, F3⟩ => ?_, ?_⟩
  · subst e1
    refine ⟨_, rfl, _, rfl, _, rfl, by show 3 ≤ sizeLine; decide, fun p5 n5 => ?_⟩
    have s5 := same_upd (o := .tup [x, y, z]) n5
    exact q p5 x y z _ (.inl (.inl upd_same)) (tx.keep B3 (.of s5)) (ty.keep B3 (.of s5)) (tz.keep B3 (.of s5)) (B3.keep s5) ((F.trans F3).trans (.of s5))
  obtain ⟨pp, ps, rfl, hps, tps⟩ := id T.tp.tupE
  obtain ⟨gp, gsv, rfl, hgs, tgs⟩ := id T.tg.tupE
  have lps : ps.length = W := by rw [tps.len, List.length_map]; exact T.sp.1
  have lgs : gsv.length = gs.length := by rw [tgs.len, List.length_map]
  have bdP := bd_parts (ds := pr.map rD) (ns_wsD (rs := pr) (by have := T.sp.1; omega) fun r hr => ⟨by have := (T.sp.2 r hr).1; omega, by have := (T.sp.2 r hr).2; omega⟩).bd
  have bdG := bd_parts (ds := gs.map wsD) (ns_gsD (W := W) (by omega) (by omega) T.sg).bd
  have tupP : TupT K b g 4 H2 pp := ⟨ps, hps, by omega, tds_things tps bdP.2⟩
  have tupG : TupT K b g 4 H2 gp := ⟨gsv, hgs, by omega, tds_things tgs bdG.2⟩
  have eP := TupT.env B2 tupP
  have eG := TupT.env B2 tupG
  have thP : Thing K b g H2 (.ref pp) := tupP.thing (by decide)
  have thG : ThM K b g 20 H2 (.ref gp) := tupG.thM (by decide) (by decide)
  have thA : Thing K b g H2 va := thing_td T.ta (ns_akD (by omega) n ahead t a hok T.ia).bd
  have rowAt : ∀ i, i < gsv.length → ∃ c, gsv[i]? = some (.ref c) ∧ TupT K b g 4 H2 c := fun i hi => by
    have gi : gsv[i]? = some gsv[i] := List.getElem?_eq_getElem hi
    obtain ⟨dx, ex, tx⟩ := tgs.getV gi
    obtain ⟨row, er, rfl⟩ := mapAt ex
    have mr := List.mem_of_getElem? er
    obtain ⟨c, cs, ec, hc, tc⟩ := tx.tupE
    rw [ec] at gi
    exact ⟨c, gi, cs, hc, by rw [tc.len, List.length_map, (T.sg row mr).1]; exact w4, tds_things tc (bd_parts (bdG.2 _ (List.mem_map.mpr ⟨row, mr, rfl⟩))).2⟩
  have finX : ∀ (o9 : Option V) (v' : V) (H' : Hp), Thing K b g H' v' → EnvAt b g H2 H' → ∃ (x y z : V) (o9' : Option V), [some (.ref b), some (.int (W : Int)), some v, some (.ref p), some v', some (.ref gp), some va, some (.int kd), some (.int (j : Int)), o9] = [some (.ref b), some (.int (W : Int)), some v, some (.ref p), some x, some y, some z, some (.int kd), some (.int (j : Int)), o9'] ∧ Thing K b g H' x ∧ ThM K b g 20 H' y ∧ Thing K b g H' z ∧ Bag H' b g ∧ Frm b g H2 H' := fun o9 v' H' t hE => ⟨v', .ref gp, va, o9, rfl, t, thG.keep B2 hE.2, thA.keep B2 hE.2, hE.1, hE.2⟩
  have finY : ∀ (o9 : Option V) (v' : V) (H' : Hp), ThM K b g 20 H' v' → EnvAt b g H2 H' → ∃ (x y z : V) (o9' : Option V), [some (.ref b), some (.int (W : Int)), some v, some (.ref p), some (.ref pp), some v', some va, some (.int kd), some (.int (j : Int)), o9] = [some (.ref b), some (.int (W : Int)), some v, some (.ref p), some x, some y, some z, some (.int kd), some (.int (j : Int)), o9'] ∧ Thing K b g H' x ∧ ThM K b g 20 H' y ∧ Thing K b g H' z ∧ Bag H' b g ∧ Frm b g H2 H' := fun o9 v' H' t hE => ⟨.ref pp, v', va, o9, rfl, thP.keep B2 hE.2, t, thA.keep B2 hE.2, hE.1, hE.2⟩
  have tP : ∀ {o9 : Option V}, TelT K b g (EnvAt b g H2) 4 (tVar 4) [some (.ref b), some (.int (W : Int)), some v, some (.ref p), some (.ref pp), some (.ref gp), some va, some (.int kd), some (.int (j : Int)), o9] := fun {o9} => telT_var env_at rfl eP
  have tG : ∀ {o9 : Option V}, TelT K b g (EnvAt b g H2) 4 (tVar 5) [some (.ref b), some (.int (W : Int)), some v, some (.ref p), some (.ref pp), some (.ref gp), some va, some (.int kd), some (.int (j : Int)), o9] := fun {o9} => telT_var env_at rfl eG
  -- kind 0
  refine tand_at (b1 := decide (V.int kd = V.int 0)) (b2 := decide ((1 : Int) < (W : Int))) (fun R h => ⟨_, rfl, rfl, _, rfl, h⟩) (fun R h => ⟨_, rfl, _, _, rfl, rfl, _, rfl, h⟩) ?_
  refine ite2 (fun _ => ?_) (fun _ => ?_)
  · refine telT_cat env_at (m := 2) (m2 := 200) (telT_tup env_at (n := 2) ?_ (by decide)) (telT_repD env_at (n := 0) ?_ (by decide) (telI_sub env_at rfl (by omega) (by omega))) (by decide) H2 _ (.now B2) fun a' H' t hE f => finX _ _ H' (t.thing (by decide)) hE
    · repeat' (first | exact tels_nil env_at | with_reducible apply tels_cons env_at | exact tel_int env_at (by decide) | exact tel_bl env_at | exact tel_str env_at | exact tel_neg env_at (by decide) | exact tel_pow (m := 0) env_at ⟨by decide, by decide, by decide⟩ (by decide +kernel) | with_reducible apply tel_tup env_at | decide | omega)
    · repeat' (first | exact tels_nil env_at | with_reducible apply tels_cons env_at | exact tel_int env_at (by decide) | exact tel_bl env_at | exact tel_str env_at | exact tel_neg env_at (by decide) | exact tel_pow (m := 0) env_at ⟨by decide, by decide, by decide⟩ (by decide +kernel) | with_reducible apply tel_tup env_at | decide | omega)
  -- kind < 2
  refine ⟨_, rfl, _, _, rfl, rfl, _, rfl, ?_⟩
  refine ite2 (fun _ => ?_) (fun _ => ?_)
  · obtain ⟨y0, ey0⟩ : ∃ y0, ps[0]? = some y0 := ⟨_, List.getElem?_eq_getElem (by omega)⟩
    obtain ⟨d0, ed0, td0⟩ := tps.getV ey0
    obtain ⟨r0, er0, rfl⟩ := mapAt ed0
    have tIf : Tel K b g (EnvAt b g H2) (tIfE (tTest (tOp rEq (tOp (rIxT K) (tOp (rIxT K) (tVar 4) (tC (.int 0))) (tC (.int 0))) (tC (.int 0)))) (tSl (rSlP K) (tVar 4) (tPart (tC (.int 1))) tNoPart) (tSl (rSlP K) (tVar 4) tNoPart (tPart (tUn (rU fun i => V.int (-i)) (tC (.int 1)))))) [some (.ref b), some (.int (W : Int)), some v, some (.ref p), some (.ref pp), some (.ref gp), some va, some (.int kd), some (.int (j : Int)), none] := fun H' Q' hE k => by
      obtain ⟨pr0, rfl, hp0⟩ := (td0.keep (B2.kt hE.2)).rE
      refine ⟨fun v' H'' => Thing K b g H'' v' ∧ EnvAt b g H2 H'' ∧ Frm b g H' H'', fun v' H'' h => k v' H'' h.1 h.2.1 h.2.2, ?_⟩
      refine ⟨_, rfl, pp, ps, 0, _, rfl, rfl, B2.kt hE.2 _ _ hps, at_of (j := 0) rfl ey0, pr0, _, 0, _, rfl, rfl, hp0, at_of (j := 0) rfl rfl, rfl, _, rfl, ?_⟩
      refine ite2 (fun _ => ?_) (fun _ => ?_)
      · exact telT_from env_at tP (telI_c env_at (by decide) (by decide)) H' _ hE fun a' H'' t hE' f => ⟨t.thing (by decide), hE', f⟩
      · exact telT_init env_at tP H' _ hE fun a' H'' t hE' f => ⟨t.thing (by decide), hE', f⟩
    refine tel_some env_at rfl (n := 3) (tels_cons env_at (TelT.tel env_at (telT_cat env_at (m := 4) (m2 := 1) tP (telT_tup env_at (n := 1) ?_ (by decide)) (by decide)) (by decide)) (tels_cons env_at tIf (tels_cons env_at (TelT.tel env_at (telT_cat env_at (m := 1) (m2 := 200) (telT_tup env_at (n := 1) ?_ (by decide)) (telT_repD env_at (n := 0) ?_ (by decide) (telI_c env_at (by decide) (by decide))) (by decide)) (by decide)) (tels_nil env_at)))) (by decide) (by decide) H2 _ (.now B2) fun v' H' t hE f => finX _ _ H' t hE
    · repeat' (first | exact tels_nil env_at | with_reducible apply tels_cons env_at | exact tel_int env_at (by decide) | exact tel_bl env_at | exact tel_str env_at | exact tel_neg env_at (by decide) | exact tel_pow (m := 0) env_at ⟨by decide, by decide, by decide⟩ (by decide +kernel) | with_reducible apply tel_tup env_at | decide | omega)
    · repeat' (first | exact tels_nil env_at | with_reducible apply tels_cons env_at | exact tel_int env_at (by decide) | exact tel_bl env_at | exact tel_str env_at | exact tel_neg env_at (by decide) | exact tel_pow (m := 0) env_at ⟨by decide, by decide, by decide⟩ (by decide +kernel) | with_reducible apply tel_tup env_at | decide | omega)
    · repeat' (first | exact tels_nil env_at | with_reducible apply tels_cons env_at | exact tel_int env_at (by decide) | exact tel_bl env_at | exact tel_str env_at | exact tel_neg env_at (by decide) | exact tel_pow (m := 0) env_at ⟨by decide, by decide, by decide⟩ (by decide +kernel) | with_reducible apply tel_tup env_at | decide | omega)
  -- kind 2
  have kI : ∀ {E : Hp → Prop} {o9 : Option V}, TelI E (tVar 8) [some (.ref b), some (.int (W : Int)), some v, some (.ref p), some (.ref pp), some (.ref gp), some va, some (.int kd), some (.int (j : Int)), o9] := fun {E o9} H Q hE k => ⟨_, rfl, k (j : Int) (by omega) (by omega)⟩
  have kI1 : ∀ {E : Hp → Prop} {o9 : Option V}, TelI E (tOp (rI0 fun i j => V.int (i + j)) (tVar 8) (tC (.int 1))) [some (.ref b), some (.int (W : Int)), some v, some (.ref p), some (.ref pp), some (.ref gp), some va, some (.int kd), some (.int (j : Int)), o9] := fun {E o9} H Q hE k => ⟨_, rfl, _, _, rfl, rfl, k ((j : Int) + 1) (by omega) (by omega)⟩
  refine ⟨_, rfl, rfl, _, rfl, ?_⟩
  refine ite2 (fun _ => ?_) (fun _ => ?_)
  · obtain ⟨y0, ey0⟩ : ∃ y0, ps[j]? = some y0 := ⟨_, List.getElem?_eq_getElem (by omega)⟩
    obtain ⟨d0, ed0, td0⟩ := tps.getV ey0
    obtain ⟨r0, er0, rfl⟩ := mapAt ed0
    obtain ⟨s1, s2⟩ := T.sp.2 r0 (List.mem_of_getElem? er0)
    have m0 : Tel K b g (EnvAt b g H2) (tOp (rI CMulW fun i j => V.int (i * j)) (tC (.int 2)) (tOp (rIxT K) (tOp (rIxT K) (tVar 4) (tVar 8)) (tC (.int 0)))) [some (.ref b), some (.int (W : Int)), some v, some (.ref p), some (.ref pp), some (.ref gp), some va, some (.int kd), some (.int (j : Int)), none] := fun H' Q' hE k => by
      obtain ⟨pr0, rfl, hp0⟩ := (td0.keep (B2.kt hE.2)).rE
      exact ⟨_, rfl, _, rfl, pp, ps, (j : Int), _, rfl, rfl, B2.kt hE.2 _ _ hps, at_of (j := j) rfl ey0, pr0, _, 0, _, rfl, rfl, hp0, at_of (j := 0) rfl rfl, 2, _, rfl, rfl, wide_mul (a := 10) (b := 10) (by decide) (Nat.lt_of_le_of_lt s2 (by decide)) (by decide) (by decide) (by decide), k _ H' (.int ⟨Nat.lt_of_le_of_lt (show (2 * r0.num).natAbs ≤ 66 by omega) (by decide), gi_small (by omega)⟩) hE (Frm.refl _ _ _)⟩
    have m1 : Tel K b g (EnvAt b g H2) (tOp (rI CMulW fun i j => V.int (i * j)) (tC (.int 2)) (tOp (rIxT K) (tOp (rIxT K) (tVar 4) (tVar 8)) (tC (.int 1)))) [some (.ref b), some (.int (W : Int)), some v, some (.ref p), some (.ref pp), some (.ref gp), some va, some (.int kd), some (.int (j : Int)), none] := fun H' Q' hE k => by
      obtain ⟨pr0, rfl, hp0⟩ := (td0.keep (B2.kt hE.2)).rE
      exact ⟨_, rfl, _, rfl, pp, ps, (j : Int), _, rfl, rfl, B2.kt hE.2 _ _ hps, at_of (j := j) rfl ey0, pr0, _, 1, _, rfl, rfl, hp0, at_of (j := 1) rfl rfl, 2, _, rfl, rfl, wide_mul (a := 10) (b := 10) (by decide) (Nat.lt_of_le_of_lt (show ((r0.den : Nat) : Int).natAbs ≤ 33 by omega) (by decide)) (by decide) (by decide) (by decide), k _ H' (.int ⟨Nat.lt_of_le_of_lt (show (2 * (r0.den : Int)).natAbs ≤ 66 by omega) (by decide), gi_small (by omega)⟩) hE (Frm.refl _ _ _)⟩
    exact telT_cat env_at (m := 5) (m2 := 4) (telT_cat env_at (m := 4) (m2 := 1) (telT_to env_at tP kI) (telT_tup env_at (n := 1) (tels_cons env_at (tel_tup env_at (n := 2) (tels_cons env_at m0 (tels_cons env_at m1 (tels_nil env_at))) (by decide)) (tels_nil env_at)) (by decide)) (by decide)) (telT_from env_at tP kI1) (by decide) H2 _ (.now B2) fun a' H' t hE f => finX _ _ H' (t.thing (by decide)) hE
  -- kind 3
  refine ⟨_, rfl, rfl, _, rfl, ?_⟩
  refine ite2 (fun _ => ?_) (fun _ => ?_)
  · obtain ⟨c0, ec0, tc0⟩ := rowAt 0 (by omega)
    have t0 : ∀ {o9 : Option V}, TelT K b g (EnvAt b g H2) 4 (tOp (rIxT K) (tVar 5) (tC (.int 0))) [some (.ref b), some (.int (W : Int)), some v, some (.ref p), some (.ref pp), some (.ref gp), some va, some (.int kd), some (.int (j : Int)), o9] := fun {o9} => telT_ix env_at rfl (fun H' e => B2.kt e.2 _ _ hgs) (at_of (j := 0) rfl ec0) (TupT.env B2 tc0)
    refine telM_some env_at rfl (n := 5) (telsM_cons env_at (telM_tup env_at (n := 0) (tels_nil env_at) (by decide) (by decide)) (telsM_cons env_at (telM_listOf env_at (tG.mono env_at (by decide))) (telsM_cons env_at (telM_T env_at (telT_to env_at tG (telI_c env_at (by decide) (by decide))) (by decide) (by decide)) (telsM_cons env_at (telM_T env_at (telT_cat env_at (m := 4) (m2 := 1) tG (telT_tup env_at (n := 1) (tels_cons env_at (TelT.tel env_at (telT_init env_at t0) (by decide)) (tels_nil env_at)) (by decide)) (by decide)) (by decide) (by decide)) (telsM_cons env_at (telM_T env_at (telT_cat env_at (m := 4) (m2 := 1) tG (telT_tup env_at (n := 1) (tels_cons env_at (TelT.tel env_at (telT_cat env_at (m := 4) (m2 := 1) t0 (telT_tup env_at (n := 1) ?_ (by decide)) (by decide)) (by decide)) (tels_nil env_at)) (by decide)) (by decide)) (by decide) (by decide)) (telsM_nil env_at)))))) (by decide) (by decide) H2 _ (.now B2) fun v' H' t hE f => finY _ _ H' t hE
    repeat' (first | exact tels_nil env_at | with_reducible apply tels_cons env_at | exact tel_int env_at (by decide) | exact tel_bl env_at | exact tel_str env_at | exact tel_neg env_at (by decide) | exact tel_pow (m := 0) env_at ⟨by decide, by decide, by decide⟩ (by decide +kernel) | with_reducible apply tel_tup env_at | decide | omega)
  -- kind 4
  refine ⟨_, rfl, rfl, _, rfl, ?_⟩
  refine ite2 (fun _ => ?_) (fun _ => ?_)
  · refine tel_some (K := K) env_at rfl (n := 7) ?_ (by decide) (by decide) H2 _ (.now B2) fun nv H3 tn hE3 f3 => ?_
    · repeat' (first | exact tels_nil env_at | with_reducible apply tels_cons env_at | exact tel_int env_at (by decide) | exact tel_bl env_at | exact tel_str env_at | exact tel_neg env_at (by decide) | exact tel_pow (m := 0) env_at ⟨by decide, by decide, by decide⟩ (by decide +kernel) | with_reducible apply tel_tup env_at | decide | omega)
    obtain ⟨c1, ec1, tc1⟩ := rowAt (gsv.length - 1) (by omega)
    have eN := Thing.env hE3.1 tn
    have hgs3 := B2.kt (K := K) hE3.2 _ _ hgs
    have eG3 := env_re eG hE3.2
    have eC3 := env_re (TupT.env B2 tc1) hE3.2
    have tG3 : ∀ {o9 : Option V}, TelT K b g (EnvAt b g H3) 4 (tVar 5) [some (.ref b), some (.int (W : Int)), some v, some (.ref p), some (.ref pp), some (.ref gp), some va, some (.int kd), some (.int (j : Int)), o9] := fun {o9} => telT_var env_at rfl eG3
    have tL : ∀ {o9 : Option V}, TelT K b g (EnvAt b g H3) 4 (tOp (rIxT K) (tVar 5) (tUn (rU fun i => V.int (-i)) (tC (.int 1)))) [some (.ref b), some (.int (W : Int)), some v, some (.ref p), some (.ref pp), some (.ref gp), some va, some (.int kd), some (.int (j : Int)), o9] := fun {o9} H' Q' hE k => ⟨_, rfl, 1, rfl, gp, gsv, -1, _, rfl, rfl, hE3.1.kt hE.2 _ _ hgs3, atI_neg1 ec1, k c1 H' (eC3 H' hE) hE (Frm.refl _ _ _)⟩
    exact telT_cat env_at (m := 4) (m2 := 1) (telT_init env_at tG3) (telT_tup env_at (n := 1) (tels_cons env_at (TelT.tel env_at (telT_cat env_at (m := 5) (m2 := 4) (telT_cat env_at (m := 4) (m2 := 1) (telT_to env_at tL kI) (telT_tup env_at (n := 1) (tels_cons env_at (tel_var env_at rfl eN) (tels_nil env_at)) (by decide)) (by decide)) (telT_from env_at tL kI1) (by decide)) (by decide)) (tels_nil env_at)) (by decide)) (by decide) H3 _ (.now hE3.1) fun a' H' t hE f => finY _ _ H' (t.thM (by decide) (by decide)) ⟨hE.1, hE3.2.trans hE.2⟩
  -- else
  exact ⟨_, rfl, _, rfl, _, rfl, gp, gsv, rfl, .inr hgs, _, rfl, b, g, W, gs.length, v, va, ahead, t, a, by rw [lgs]; rfl, B2, T.tv, hok, T.ta, T.ia, by omega, fun v' H' tv B' F' => ⟨.ref pp, .ref gp, v', _, rfl, thP.keep B2 F', thG.keep B2 F', tv, B', F'⟩⟩
end
end Tl
/-! which word is told, which is due -/
namespace Tl
open PySem PySem.Spec PyProof.Rows L2 RZ
def wd3 (a b c : Bool) : Str := if a = true then (if b = true then (if c = true then "told" else "asker") else "gains") else "prior"
def spWdH (K : PySem.W.Frag) (C : Addr) (n : Nat) : Sp := fun vs H Q _ => ∃ (b g p : Addr) (k W : Nat) (v vp vg va : V) (t : Nd n) (dp dg da : AD), vs = [.int (k : Int), .ref p, vp, vg, va] ∧ k < 3 ∧ HsOk K C H p W n t v ∧ n ≤ 6 ∧ Giv K b g H vp vg dp dg ∧ Ad K b g H va da ∧ BdA da ∧
  ∀ H', Same H H' → Q (.str (wd3 (prA dp W) (gnA W dg) (!decide (k = 0) || akA (lenA dg) n t da))) H'
def spWdU (K : PySem.W.Frag) : Sp := fun vs H Q _ => ∃ (b g : Addr) (h vp vg va : V) (dp dg : AD), vs = [.int 3, h, vp, vg, va] ∧ Giv K b g H vp vg dp dg ∧
  ∀ H', Same H H' → Q (.str (wd3 (wdA dp && prA dp (lenA dp)) (gnA (lenA dp) dg) true)) H'
def dueA (k W n : Nat) (t : Nd n) (dp dg da : AD) : Str := if k = 3 then wd3 (wdA dp && prA dp (lenA dp)) (gnA (lenA dp) dg) true else wd3 (prA dp W) (gnA W dg) (!decide (k = 0) || akA (lenA dg) n t da)
def spDue (K : PySem.W.Frag) (n : Nat) : Sp := fun vs H Q _ => ∃ (b g : Addr) (k W : Nat) (v vp vg va : V) (ahead : List Rat) (t : Nd n) (dp dg da : AD), vs = [.int (k : Int), .int (W : Int), v, vp, vg, va] ∧ k ≤ 3 ∧ 1 ≤ W ∧ W ≤ 5 ∧ Giv K b g H vp vg dp dg ∧ Ad K b g H va da ∧ BdA da ∧ Td K H v (ndD n t) ∧ NdOk W n ahead t ∧
  ∀ H', Same H H' → Q (.str (dueA k W n t dp dg da)) H'
theorem pr_wd {W : Nat} {d : AD} (h1 : 1 ≤ W) (h5 : W ≤ 5) (h : wdA d = false) : prA d W = false := by
  cases d with
  | int _ => rfl
  | oth _ => rfl
  | tup ds =>
    have h : (decide (1 ≤ ds.length) && decide (ds.length ≤ 5)) = false := h
    show ((decide (ds.length = W) && ds.all chA) && _) = false
    by_cases e : ds.length = W
    · rw [decide_eq_true (by omega), decide_eq_true (by omega)] at h
      cases h
    · rw [decide_eq_false e, Bool.false_and, Bool.false_and]
def wdN (k W : Nat) (dp : AD) : Nat := if k = 3 ∧ wdA dp = true then lenA dp else W
theorem wdN_le {k W : Nat} {dp : AD} (h : W ≤ 5) : wdN k W dp ≤ 5 := by
  unfold wdN
  split
  · rename_i c
    cases dp with
    | int _ => cases c.2
    | oth _ => cases c.2
    | tup ds =>
      have z : (decide (1 ≤ ds.length) && decide (ds.length ≤ 5)) = true := c.2
      rw [Bool.and_eq_true] at z
      exact of_decide_eq_true z.2
  · exact h
theorem due_is {k W n : Nat} {t : Nd n} {dp dg da : AD} (h1 : 1 ≤ W) (h5 : W ≤ 5) : dueA k W n t dp dg da = wd3 (prA dp (wdN k W dp)) (gnA (wdN k W dp) dg) (!decide (k = 0) || akA (lenA dg) n t da) := by
  unfold dueA wdN
  by_cases c : k = 3
  · rw [if_pos c]
    have k0 : (!decide (k = 0)) = true := by rw [decide_eq_false (by omega)]; rfl
    rw [k0, Bool.true_or]
    cases e : wdA dp with
    | true => rw [if_pos ⟨c, rfl⟩, Bool.true_and]
    | false =>
      rw [if_neg (fun z => by cases z.2), pr_wd h1 h5 e]
      rfl
  · rw [if_neg c, if_neg fun z => c z.1]
section
variable {P : Program} {w : World} {K : PySem.W.Frag} {mg : Str → Option Value} {base : Heap} {aN aO : Addr} {t1 t2 t3 t4 t5 t6 t7 : Tok}
theorem FnOk.or {f : Addr} {fd : FuncData} {ps : List Str} {k : Nat} {sp sq : Sp} (h1 : FnOk P w K mg base CX0 k f fd ps sp) (h2 : FnOk P w K mg base CX0 k f fd ps sq) : FnOk P w K mg base CX0 k f fd ps (orS sp sq) :=
  ⟨fun vs H Q E h => h.elim (h1.len vs H Q E) (h2.len vs H Q E), fun A outer s H args us vs Q E hr e hb rv h => h.elim (h1.run A outer s H args us vs Q E hr e hb rv) (h2.run A outer s H args us vs Q E hr e hb rv)⟩
theorem ok_law_word_u {HE CP CG CN : Addr} {n : Nat} {f f1 f2 f3 f4 : Addr} {fd fd1 fd2 fd3 fd4 : FuncData} {Cc fi fe : Addr} (D : Dn K mg "_law_word" s_law_word ["which", "house", "prior", "gains", "asker"] f fd) (B : Blt mg) (C : Cst K mg aN aO t1 t2 t3 t4 t5 t6 t7) (U : Hcl K mg Cc fi fe)
    (D_asker_gets : Dn K mg "asker_gets" s_asker_gets ["house", "prior", "gains", "asker"] f1 fd1) (G_asker_gets : FnOk P w K mg base (L2.CX P w) (7 + n) f1 fd1 ["house", "prior", "gains", "asker"] (spAgR K Cc CP CG CN n))
    (D_worth : Dn K mg "worth" s_worth ["house", "prior", "gains"] f2 fd2) (G_worth : FnOk P w K mg base (L2.CX P w) (8 + n) f2 fd2 ["house", "prior", "gains"] (spWoR K Cc CP CG n))
    (D_best_asker : Dn K mg "best_asker" s_best_asker ["house", "prior", "gains"] f3 fd3) (G_best_asker : FnOk P w K mg base (L2.CX P w) (8 + n) f3 fd3 ["house", "prior", "gains"] (spWoR K Cc CP CG n))
    (D_worth_unasked : Dn K mg "worth_unasked" s_worth_unasked ["prior", "gains"] f4 fd4) (G_worth_unasked : FnOk P w K mg base (L2.CX P w) 7 f4 fd4 ["prior", "gains"] (spWuR K CP CG)) (X_HouseError : XFact K mg "HouseError" HE veMro) (X_NoPrior : XRs K mg HE "NoPrior" CP) (X_NoGains : XRs K mg HE "NoGains" CG) (X_NoAsker : XRs K mg HE "NoAsker" CN) (nPG : CP ≠ CG) (nPN : CP ≠ CN) (nGN : CG ≠ CN) : FnOk P w K mg base CX0 (9 + n) f fd ["which", "house", "prior", "gains", "asker"] (spWdU K) := by
  rw [show 9 + n = (8 + n) + 1 by omega]
  refine D.F.ok sc_law_word (fun vs H Q E h => ?_) (fun cdv A outer s H vs Q E hr h => ?_)
  · obtain ⟨b, g, h, vp, vg, va, dp, dg, rfl, _⟩ := h
    rfl
  obtain ⟨b, g, h, vp, vg, va, dp, dg, rfl, G, q⟩ := h
  have nd := sc_law_word.nd
  refine ⟨_, (pss_cons (ps_set (i := 5) nd rfl (.inl rfl) pe_str)
      (pss_cons (ps_tries rfl rfl nd takes0 (fun W pn xe tk _ => (pss_cons (ps_join (ps_if (pt_cmpR op_eq (pv 0) pe_int (nomark _)) (pss_one (ps_set (i := 6) nd rfl (.inl rfl) (pe_callS G_asker_gets (hr.mono (by omega)) (by rfl) D_asker_gets.m D_asker_gets.F.kp D_asker_gets.b (fun σ => passAt tk σ) (pa_cons (pv 1) (pa_cons (pv 2) (pa_cons (pv 3) (pa_cons (pv 4) pa_nil))))))) (pss_one (ps_if (pt_cmpR op_eq (pv 0) pe_int (nomark _)) (pss_one (ps_set (i := 6) nd rfl (.inl rfl) (pe_callS G_worth (hr.mono (by omega)) (by rfl) D_worth.m D_worth.F.kp D_worth.b (fun σ => passAt tk σ) (pa_cons (pv 1) (pa_cons (pv 2) (pa_cons (pv 3) pa_nil)))))) (pss_one (ps_if (pt_cmpR op_eq (pv 0) pe_int (nomark _)) (pss_one (ps_set (i := 6) nd rfl (.inl rfl) (pe_callS G_best_asker (hr.mono (by omega)) (by rfl) D_best_asker.m D_best_asker.F.kp D_best_asker.b (fun σ => passAt tk σ) (pa_cons (pv 1) (pa_cons (pv 2) (pa_cons (pv 3) pa_nil)))))) (pss_one (ps_set (i := 6) nd rfl (.inl rfl) (pe_callS G_worth_unasked (hr.mono (by omega)) (by rfl) D_worth_unasked.m D_worth_unasked.F.kp D_worth_unasked.b (fun σ => passAt tk σ) (pa_cons (pv 2) (pa_cons (pv 3) pa_nil)))))))))))
      (pss_one (ps_set (i := 5) nd rfl (.inl rfl) (pe_ifExpE (pt_val (pe_callB (k_isi (K := K) rfl) (by rfl) B.isinstance (by decide +kernel) (pa_cons (pv 6) (pa_cons (pe_bltn (v := .ty "tuple") (u := .type "tuple") (by rfl) B.tuple (by decide +kernel) rfl) pa_nil)))) pe_str pe_str))))) (TryOk.cons (i := 7) ⟨rfl, by decide, .inl X_NoPrior.X.g⟩ rfl rfl (fun a oe cls d pn hz hf => (pss_one (ps_set (i := 5) nd rfl (.inl rfl) (pe_ifExp (pt_val (pe_callB (k_isE hz hf) (by rfl) B.isinstance (by decide +kernel) (pa_cons (pv 7) (pa_cons (pe_glob (v := .ref _) rfl X_HouseError.g rfl) pa_nil)))) pe_str pe_str)))) (TryOk.cons (i := 7) ⟨rfl, by decide, .inl X_NoGains.X.g⟩ rfl rfl (fun a oe cls d pn hz hf => (pss_one (ps_set (i := 5) nd rfl (.inl rfl) (pe_ifExp (pt_val (pe_callB (k_isE hz hf) (by rfl) B.isinstance (by decide +kernel) (pa_cons (pv 7) (pa_cons (pe_glob (v := .ref _) rfl X_HouseError.g rfl) pa_nil)))) pe_str pe_str)))) (TryOk.cons (i := 7) ⟨rfl, by decide, .inl X_NoAsker.X.g⟩ rfl rfl (fun a oe cls d pn hz hf => (pss_one (ps_set (i := 5) nd rfl (.inl rfl) (pe_ifExp (pt_val (pe_callB (k_isE hz hf) (by rfl) B.isinstance (by decide +kernel) (pa_cons (pv 7) (pa_cons (pe_glob (v := .ref _) rfl X_HouseError.g rfl) pa_nil)))) pe_str pe_str)))) TryOk.nil))))
      (pss_one (ps_ret (pv 5))))), ?_⟩
  have eAA : PySem.W.exmOne K (.ref CP) (.ref CP) = some true := by rw [exm_cc X_NoPrior X_NoPrior, decide_eq_true rfl]
  have eSA : PySem.W.exmOne K (.ref CG) (.ref CP) = some false := by rw [exm_cc X_NoGains X_NoPrior, decide_eq_false (Ne.symm nPG)]
  have eSS : PySem.W.exmOne K (.ref CG) (.ref CG) = some true := by rw [exm_cc X_NoGains X_NoGains, decide_eq_true rfl]
  have ePA : PySem.W.exmOne K (.ref CN) (.ref CP) = some false := by rw [exm_cc X_NoAsker X_NoPrior, decide_eq_false (Ne.symm nPN)]
  have ePS : PySem.W.exmOne K (.ref CN) (.ref CG) = some false := by rw [exm_cc X_NoAsker X_NoGains, decide_eq_false (Ne.symm nGN)]
  have ePP : PySem.W.exmOne K (.ref CN) (.ref CN) = some true := by rw [exm_cc X_NoAsker X_NoAsker, decide_eq_true rfl]
  have qP : (wdA dp && prA dp (lenA dp)) = false → ∀ H', Same H H' → Q (.str "prior") H' := fun h H' s => by
    have z := q H' s
    unfold wd3 at z
    rw [h, if_neg (by decide)] at z
    exact z
  have qG : (wdA dp && prA dp (lenA dp)) = true → gnA (lenA dp) dg = false → ∀ H', Same H H' → Q (.str "gains") H' := fun h h2 H' s => by
    have z := q H' s
    unfold wd3 at z
    rw [h, if_pos rfl, h2, if_neg (by decide)] at z
    exact z
  have qT : (wdA dp && prA dp (lenA dp)) = true → gnA (lenA dp) dg = true → ∀ H', Same H H' → Q (.str "told") H' := fun h h2 H' s => by
    have z := q H' s
    unfold wd3 at z
    rw [h, if_pos rfl, h2, if_pos rfl, if_pos rfl] at z
    exact z
  refine ⟨fun σ' H' => ∃ p xs, σ' = [some (.int 3), some h, some vp, some vg, some va, some (.str "odd"), some (.ref p), none] ∧ SqT K H' p xs ∧ ∀ H'', Same H' H'' → Q (.str "told") H'', fun σ' H' h9 => ?_, ?_⟩
  · obtain ⟨p9, xs9, rfl, hp9, qq⟩ := h9
    refine ⟨fun v9 H9 => v9 = .str "told" ∧ Same H' H9, fun v9 H9 h => ?_, ?_⟩
    · obtain ⟨rfl, s9⟩ := h
      exact ⟨_, rfl, qq H9 s9⟩
    · exact ⟨_, rfl, _, _, _, _, true, rfl, .ty "tuple", tyx_tup hp9, kit_ty (by decide +kernel), _, rfl, iteT ⟨rfl, Same.refl _⟩⟩
  refine ⟨_, rfl, rfl, _, rfl, ?_⟩
  rw [decide_eq_false (show ¬ V.int 3 = V.int 0 from fun z => by have := V.int.inj z; omega)]
  refine iteF ?_
  refine ⟨_, rfl, rfl, _, rfl, ?_⟩
  rw [decide_eq_false (show ¬ V.int 3 = V.int 1 from fun z => by have := V.int.inj z; omega)]
  refine iteF ?_
  refine ⟨_, rfl, rfl, _, rfl, ?_⟩
  rw [decide_eq_false (show ¬ V.int 3 = V.int 2 from fun z => by have := V.int.inj z; omega)]
  refine iteF ?_
  refine ⟨_, rfl, _, rfl, b, g, vp, vg, dp, dg, rfl, G, fun e H1 s1 => ?_, fun e e2 H1 s1 => ?_, fun e e2 r xs H1 s1 hr => ⟨r, xs, rfl, hr, fun H'' s'' => qT e e2 H'' (s1.trans s'')⟩⟩
  · refine ⟨true, eAA, fun _ a ha => ?_, fun z => Bool.noConfusion z⟩
    refine ⟨_, rfl, CP, rfl, rfl, X_NoPrior.X.E, .ref HE, .ref HE, true, rfl, fun u h => h, kit_base X_NoPrior.X X_HouseError, true, rfl, iteT ?_⟩
    exact ⟨_, rfl, qP e H1 s1⟩
  · refine ⟨false, eSA, fun z => Bool.noConfusion z, fun _ => ?_⟩
    refine ⟨true, eSS, fun _ a ha => ?_, fun z => Bool.noConfusion z⟩
    refine ⟨_, rfl, CG, rfl, rfl, X_NoGains.X.E, .ref HE, .ref HE, true, rfl, fun u h => h, kit_base X_NoGains.X X_HouseError, true, rfl, iteT ?_⟩
    exact ⟨_, rfl, qG e e2 H1 s1⟩
theorem ok_law_word_h {HE CP CG CN : Addr} {n : Nat} {f f1 f2 f3 f4 : Addr} {fd fd1 fd2 fd3 fd4 : FuncData} {Cc fi fe : Addr} (D : Dn K mg "_law_word" s_law_word ["which", "house", "prior", "gains", "asker"] f fd) (B : Blt mg) (C : Cst K mg aN aO t1 t2 t3 t4 t5 t6 t7) (U : Hcl K mg Cc fi fe)
    (D_asker_gets : Dn K mg "asker_gets" s_asker_gets ["house", "prior", "gains", "asker"] f1 fd1) (G_asker_gets : FnOk P w K mg base (L2.CX P w) (7 + n) f1 fd1 ["house", "prior", "gains", "asker"] (spAgR K Cc CP CG CN n))
    (D_worth : Dn K mg "worth" s_worth ["house", "prior", "gains"] f2 fd2) (G_worth : FnOk P w K mg base (L2.CX P w) (8 + n) f2 fd2 ["house", "prior", "gains"] (spWoR K Cc CP CG n))
    (D_best_asker : Dn K mg "best_asker" s_best_asker ["house", "prior", "gains"] f3 fd3) (G_best_asker : FnOk P w K mg base (L2.CX P w) (8 + n) f3 fd3 ["house", "prior", "gains"] (spWoR K Cc CP CG n))
    (D_worth_unasked : Dn K mg "worth_unasked" s_worth_unasked ["prior", "gains"] f4 fd4) (G_worth_unasked : FnOk P w K mg base (L2.CX P w) 7 f4 fd4 ["prior", "gains"] (spWuR K CP CG)) (X_HouseError : XFact K mg "HouseError" HE veMro) (X_NoPrior : XRs K mg HE "NoPrior" CP) (X_NoGains : XRs K mg HE "NoGains" CG) (X_NoAsker : XRs K mg HE "NoAsker" CN) (nPG : CP ≠ CG) (nPN : CP ≠ CN) (nGN : CG ≠ CN) : FnOk P w K mg base CX0 (9 + n) f fd ["which", "house", "prior", "gains", "asker"] (spWdH K Cc n) := by
  rw [show 9 + n = (8 + n) + 1 by omega]
  refine D.F.ok sc_law_word (fun vs H Q E h => ?_) (fun cdv A outer s H vs Q E hr h => ?_)
  · obtain ⟨b, g, p, k, W, v, vp, vg, va, t, dp, dg, da, rfl, _⟩ := h
    rfl
  obtain ⟨b, g, p, k, W, v, vp, vg, va, t, dp, dg, da, rfl, k3, hs, hn, G, ha, bda, q⟩ := h
  have nd := sc_law_word.nd
  refine ⟨_, (pss_cons (ps_set (i := 5) nd rfl (.inl rfl) pe_str)
      (pss_cons (ps_tries rfl rfl nd takes0 (fun W pn xe tk _ => (pss_cons (ps_join (ps_if (pt_cmpR op_eq (pv 0) pe_int (nomark _)) (pss_one (ps_set (i := 6) nd rfl (.inl rfl) (pe_callS G_asker_gets (hr.mono (by omega)) (by rfl) D_asker_gets.m D_asker_gets.F.kp D_asker_gets.b (fun σ => passAt tk σ) (pa_cons (pv 1) (pa_cons (pv 2) (pa_cons (pv 3) (pa_cons (pv 4) pa_nil))))))) (pss_one (ps_if (pt_cmpR op_eq (pv 0) pe_int (nomark _)) (pss_one (ps_set (i := 6) nd rfl (.inl rfl) (pe_callS G_worth (hr.mono (by omega)) (by rfl) D_worth.m D_worth.F.kp D_worth.b (fun σ => passAt tk σ) (pa_cons (pv 1) (pa_cons (pv 2) (pa_cons (pv 3) pa_nil)))))) (pss_one (ps_if (pt_cmpR op_eq (pv 0) pe_int (nomark _)) (pss_one (ps_set (i := 6) nd rfl (.inl rfl) (pe_callS G_best_asker (hr.mono (by omega)) (by rfl) D_best_asker.m D_best_asker.F.kp D_best_asker.b (fun σ => passAt tk σ) (pa_cons (pv 1) (pa_cons (pv 2) (pa_cons (pv 3) pa_nil)))))) (pss_one (ps_set (i := 6) nd rfl (.inl rfl) (pe_callS G_worth_unasked (hr.mono (by omega)) (by rfl) D_worth_unasked.m D_worth_unasked.F.kp D_worth_unasked.b (fun σ => passAt tk σ) (pa_cons (pv 2) (pa_cons (pv 3) pa_nil)))))))))))
      (pss_one (ps_set (i := 5) nd rfl (.inl rfl) (pe_ifExpE (pt_val (pe_callB (k_isi (K := K) rfl) (by rfl) B.isinstance (by decide +kernel) (pa_cons (pv 6) (pa_cons (pe_bltn (v := .ty "tuple") (u := .type "tuple") (by rfl) B.tuple (by decide +kernel) rfl) pa_nil)))) pe_str pe_str))))) (TryOk.cons (i := 7) ⟨rfl, by decide, .inl X_NoPrior.X.g⟩ rfl rfl (fun a oe cls d pn hz hf => (pss_one (ps_set (i := 5) nd rfl (.inl rfl) (pe_ifExp (pt_val (pe_callB (k_isE hz hf) (by rfl) B.isinstance (by decide +kernel) (pa_cons (pv 7) (pa_cons (pe_glob (v := .ref _) rfl X_HouseError.g rfl) pa_nil)))) pe_str pe_str)))) (TryOk.cons (i := 7) ⟨rfl, by decide, .inl X_NoGains.X.g⟩ rfl rfl (fun a oe cls d pn hz hf => (pss_one (ps_set (i := 5) nd rfl (.inl rfl) (pe_ifExp (pt_val (pe_callB (k_isE hz hf) (by rfl) B.isinstance (by decide +kernel) (pa_cons (pv 7) (pa_cons (pe_glob (v := .ref _) rfl X_HouseError.g rfl) pa_nil)))) pe_str pe_str)))) (TryOk.cons (i := 7) ⟨rfl, by decide, .inl X_NoAsker.X.g⟩ rfl rfl (fun a oe cls d pn hz hf => (pss_one (ps_set (i := 5) nd rfl (.inl rfl) (pe_ifExp (pt_val (pe_callB (k_isE hz hf) (by rfl) B.isinstance (by decide +kernel) (pa_cons (pv 7) (pa_cons (pe_glob (v := .ref _) rfl X_HouseError.g rfl) pa_nil)))) pe_str pe_str)))) TryOk.nil))))
      (pss_one (ps_ret (pv 5))))), ?_⟩
  have eAA : PySem.W.exmOne K (.ref CP) (.ref CP) = some true := by rw [exm_cc X_NoPrior X_NoPrior, decide_eq_true rfl]
  have eSA : PySem.W.exmOne K (.ref CG) (.ref CP) = some false := by rw [exm_cc X_NoGains X_NoPrior, decide_eq_false (Ne.symm nPG)]
  have eSS : PySem.W.exmOne K (.ref CG) (.ref CG) = some true := by rw [exm_cc X_NoGains X_NoGains, decide_eq_true rfl]
  have ePA : PySem.W.exmOne K (.ref CN) (.ref CP) = some false := by rw [exm_cc X_NoAsker X_NoPrior, decide_eq_false (Ne.symm nPN)]
  have ePS : PySem.W.exmOne K (.ref CN) (.ref CG) = some false := by rw [exm_cc X_NoAsker X_NoGains, decide_eq_false (Ne.symm nGN)]
  have ePP : PySem.W.exmOne K (.ref CN) (.ref CN) = some true := by rw [exm_cc X_NoAsker X_NoAsker, decide_eq_true rfl]
  have qP : prA dp W = false → ∀ H', Same H H' → Q (.str "prior") H' := fun h H' s => by
    have z := q H' s
    unfold wd3 at z
    rw [h, if_neg (by decide)] at z
    exact z
  have qG : prA dp W = true → gnA W dg = false → ∀ H', Same H H' → Q (.str "gains") H' := fun h h2 H' s => by
    have z := q H' s
    unfold wd3 at z
    rw [h, if_pos rfl, h2, if_neg (by decide)] at z
    exact z
  have qN : k = 0 → prA dp W = true → gnA W dg = true → akA (lenA dg) n t da = false → ∀ H', Same H H' → Q (.str "asker") H' := fun h0 h h2 h3 H' s => by
    have z := q H' s
    unfold wd3 at z
    rw [h, if_pos rfl, h2, if_pos rfl, h3, decide_eq_true h0, if_neg (by decide)] at z
    exact z
  have qT : prA dp W = true → gnA W dg = true → (k ≠ 0 ∨ akA (lenA dg) n t da = true) → ∀ H', Same H H' → Q (.str "told") H' := fun h h2 h3 H' s => by
    have z := q H' s
    unfold wd3 at z
    have e : (!decide (k = 0) || akA (lenA dg) n t da) = true := by
      rcases h3 with h3 | h3
      · rw [decide_eq_false h3]; rfl
      · rw [h3, Bool.or_true]
    rw [h, if_pos rfl, h2, if_pos rfl, e, if_pos rfl] at z
    exact z
  refine ⟨fun σ' H' => ∃ p9 xs, σ' = [some (.int (k : Int)), some (.ref p), some vp, some vg, some va, some (.str "odd"), some (.ref p9), none] ∧ SqT K H' p9 xs ∧ ∀ H'', Same H' H'' → Q (.str "told") H'', fun σ' H' h9 => ?_, ?_⟩
  · obtain ⟨p9, xs9, rfl, hp9, qq⟩ := h9
    refine ⟨fun v9 H9 => v9 = .str "told" ∧ Same H' H9, fun v9 H9 h => ?_, ?_⟩
    · obtain ⟨rfl, s9⟩ := h
      exact ⟨_, rfl, qq H9 s9⟩
    · exact ⟨_, rfl, _, _, _, _, true, rfl, .ty "tuple", tyx_tup hp9, kit_ty (by decide +kernel), _, rfl, iteT ⟨rfl, Same.refl _⟩⟩
  by_cases k0 : k = 0
  · subst k0
    refine ⟨_, rfl, rfl, _, rfl, ?_⟩
    rw [decide_eq_true (show V.int ((0 : Nat) : Int) = V.int 0 from rfl)]
    refine iteT ?_
    refine ⟨_, rfl, _, rfl, _, rfl, _, rfl, b, g, p, W, v, vp, vg, va, t, dp, dg, da, rfl, hs, hn, G, ha, bda, fun e H1 s1 => ?_, fun e e2 H1 s1 => ?_, fun e e2 e3 H1 s1 => ?_, fun e e2 e3 r xs H1 s1 hr => ⟨r, xs, rfl, hr, fun H'' s'' => qT e e2 (.inr e3) H'' (s1.trans s'')⟩⟩
    · refine ⟨true, eAA, fun _ a ha => ?_, fun z => Bool.noConfusion z⟩
      refine ⟨_, rfl, CP, rfl, rfl, X_NoPrior.X.E, .ref HE, .ref HE, true, rfl, fun u h => h, kit_base X_NoPrior.X X_HouseError, true, rfl, iteT ?_⟩
      exact ⟨_, rfl, qP e H1 s1⟩
    · refine ⟨false, eSA, fun z => Bool.noConfusion z, fun _ => ?_⟩
      refine ⟨true, eSS, fun _ a ha => ?_, fun z => Bool.noConfusion z⟩
      refine ⟨_, rfl, CG, rfl, rfl, X_NoGains.X.E, .ref HE, .ref HE, true, rfl, fun u h => h, kit_base X_NoGains.X X_HouseError, true, rfl, iteT ?_⟩
      exact ⟨_, rfl, qG e e2 H1 s1⟩
    · refine ⟨false, ePA, fun z => Bool.noConfusion z, fun _ => ?_⟩
      refine ⟨false, ePS, fun z => Bool.noConfusion z, fun _ => ?_⟩
      refine ⟨true, ePP, fun _ a ha => ?_, fun z => Bool.noConfusion z⟩
      refine ⟨_, rfl, CN, rfl, rfl, X_NoAsker.X.E, .ref HE, .ref HE, true, rfl, fun u h => h, kit_base X_NoAsker.X X_HouseError, true, rfl, iteT ?_⟩
      exact ⟨_, rfl, qN rfl e e2 e3 H1 s1⟩
  refine ⟨_, rfl, rfl, _, rfl, ?_⟩
  rw [decide_eq_false (show ¬ V.int (k : Int) = V.int 0 from fun z => by have := V.int.inj z; omega)]
  refine iteF ?_
  by_cases k1 : k = 1
  · subst k1
    refine ⟨_, rfl, rfl, _, rfl, ?_⟩
    rw [decide_eq_true (show V.int ((1 : Nat) : Int) = V.int 1 from rfl)]
    refine iteT ?_
    refine ⟨_, rfl, _, rfl, _, rfl, b, g, p, W, v, vp, vg, t, dp, dg, rfl, hs, hn, G, fun e H1 s1 => ?_, fun e e2 H1 s1 => ?_, fun e e2 r xs H1 s1 hr => ⟨r, xs, rfl, hr, fun H'' s'' => qT e e2 (.inl k0) H'' (s1.trans s'')⟩⟩
    · refine ⟨true, eAA, fun _ a ha => ?_, fun z => Bool.noConfusion z⟩
      refine ⟨_, rfl, CP, rfl, rfl, X_NoPrior.X.E, .ref HE, .ref HE, true, rfl, fun u h => h, kit_base X_NoPrior.X X_HouseError, true, rfl, iteT ?_⟩
      exact ⟨_, rfl, qP e H1 s1⟩
    · refine ⟨false, eSA, fun z => Bool.noConfusion z, fun _ => ?_⟩
      refine ⟨true, eSS, fun _ a ha => ?_, fun z => Bool.noConfusion z⟩
      refine ⟨_, rfl, CG, rfl, rfl, X_NoGains.X.E, .ref HE, .ref HE, true, rfl, fun u h => h, kit_base X_NoGains.X X_HouseError, true, rfl, iteT ?_⟩
      exact ⟨_, rfl, qG e e2 H1 s1⟩
  refine ⟨_, rfl, rfl, _, rfl, ?_⟩
  rw [decide_eq_false (show ¬ V.int (k : Int) = V.int 1 from fun z => by have := V.int.inj z; omega)]
  refine iteF ?_
  obtain rfl : k = 2 := by omega
  refine ⟨_, rfl, rfl, _, rfl, ?_⟩
  rw [decide_eq_true (show V.int ((2 : Nat) : Int) = V.int 2 from rfl)]
  refine iteT ?_
  refine ⟨_, rfl, _, rfl, _, rfl, b, g, p, W, v, vp, vg, t, dp, dg, rfl, hs, hn, G, fun e H1 s1 => ?_, fun e e2 H1 s1 => ?_, fun e e2 r xs H1 s1 hr => ⟨r, xs, rfl, hr, fun H'' s'' => qT e e2 (.inl k0) H'' (s1.trans s'')⟩⟩
  · refine ⟨true, eAA, fun _ a ha => ?_, fun z => Bool.noConfusion z⟩
    refine ⟨_, rfl, CP, rfl, rfl, X_NoPrior.X.E, .ref HE, .ref HE, true, rfl, fun u h => h, kit_base X_NoPrior.X X_HouseError, true, rfl, iteT ?_⟩
    exact ⟨_, rfl, qP e H1 s1⟩
  · refine ⟨false, eSA, fun z => Bool.noConfusion z, fun _ => ?_⟩
    refine ⟨true, eSS, fun _ a ha => ?_, fun z => Bool.noConfusion z⟩
    refine ⟨_, rfl, CG, rfl, rfl, X_NoGains.X.E, .ref HE, .ref HE, true, rfl, fun u h => h, kit_base X_NoGains.X X_HouseError, true, rfl, iteT ?_⟩
    exact ⟨_, rfl, qG e e2 H1 s1⟩
theorem ok_law_due {n : Nat} {f f1 f2 f3 : Addr} {fd fd1 fd2 fd3 : FuncData} (D : Dn K mg "_law_due" s_law_due ["which", "worlds", "tree", "prior", "gains", "asker"] f fd) (B : Blt mg) (C : Cst K mg aN aO t1 t2 t3 t4 t5 t6 t7)
    (D_law_is_prior : Dn K mg "_law_is_prior" s_law_is_prior ["worlds", "thing"] f1 fd1) (G_law_is_prior : FnOk P w K mg base CX0 5 f1 fd1 ["worlds", "thing"] (spLPr K))
    (D_law_are_gains : Dn K mg "_law_are_gains" s_law_are_gains ["worlds", "thing"] f2 fd2) (G_law_are_gains : FnOk P w K mg base CX0 3 f2 fd2 ["worlds", "thing"] (spLGn K))
    (D_law_is_asker : Dn K mg "_law_is_asker" s_law_is_asker ["node", "deeds", "thing"] f3 fd3) (G_law_is_asker : FnOk P w K mg base CX0 (3 + n) f3 fd3 ["node", "deeds", "thing"] (spLAkA K n)) : FnOk P w K mg base CX0 (6 + n) f fd ["which", "worlds", "tree", "prior", "gains", "asker"] (spDue K n) := by
  rw [show 6 + n = (5 + n) + 1 by omega]
  refine D.F.ok sc_law_due (fun vs H Q E h => ?_) (fun cdv A outer s H vs Q E hr h => ?_)
  · obtain ⟨b, g, k, W, v, vp, vg, va, ahead, t, dp, dg, da, rfl, _⟩ := h
    rfl
  obtain ⟨b, g, k, W, v, vp, vg, va, ahead, t, dp, dg, da, rfl, k3, w1, w5, G, ha, bda, hv, hok, q⟩ := h
  have nd := sc_law_due.nd
  refine ⟨_, (pss_cons (ps_join (ps_if (PW.pt (pw_and (pt_cmpR op_eq (pv 0) pe_int (nomark _)) (pw_and (pt_val (pe_callB (k_isi (K := K) rfl) (by rfl) B.isinstance (by decide +kernel) (pa_cons (pv 3) (pa_cons (pe_bltn (v := .ty "tuple") (u := .type "tuple") (by rfl) B.tuple (by decide +kernel) rfl) pa_nil)))) (pw_and1 (pt_chain op_le op_le pe_int (pe_callB (k_len (K := K) rfl) (by rfl) B.len PySem.boot_len (pa_cons (pv 3) pa_nil)) pe_int))))) (pss_one (ps_set (i := 1) nd rfl (.inl rfl) (pe_callB (k_len (K := K) rfl) (by rfl) B.len PySem.boot_len (pa_cons (pv 3) pa_nil)))) pss_nil))
      (pss_cons (ps_if (pt_not (pt_val (pe_call G_law_is_prior (hr.mono (by omega)) (by rfl) D_law_is_prior.m D_law_is_prior.F.kp D_law_is_prior.b .nil pass0 (pa_cons (pv 1) (pa_cons (pv 3) pa_nil))))) (pss_one (ps_ret pe_str)) pss_nil)
      (pss_cons (ps_if (pt_not (pt_val (pe_call G_law_are_gains (hr.mono (by omega)) (by rfl) D_law_are_gains.m D_law_are_gains.F.kp D_law_are_gains.b .nil pass0 (pa_cons (pv 1) (pa_cons (pv 4) pa_nil))))) (pss_one (ps_ret pe_str)) pss_nil)
      (pss_one (ps_ret (pe_ifExpE (PW.pt (pw_and (pt_cmpR op_eq (pv 0) pe_int (nomark _)) (pw_and1 (pt_not (pt_val (pe_call G_law_is_asker (hr.mono (by omega)) (by rfl) D_law_is_asker.m D_law_is_asker.F.kp D_law_is_asker.b .nil pass0 (pa_cons (pv 2) (pa_cons (pe_callB (k_len (K := K) rfl) (by rfl) B.len PySem.boot_len (pa_cons (pv 4) pa_nil)) (pa_cons (pv 5) pa_nil))))))))) pe_str pe_str)))))), ?_⟩
  obtain ⟨Wd, hWd⟩ : ∃ Wd, Wd = wdN k W dp := ⟨_, rfl⟩
  rw [due_is w1 w5, ← hWd] at q
  have wd5 : Wd ≤ 5 := by rw [hWd]; exact wdN_le w5
  refine ⟨fun σ' H' => σ' = [some (.int (k : Int)), some (.int (Wd : Int)), some v, some vp, some vg, some va] ∧ H' = H, fun σ' H' ⟨e1, e2⟩ => ?_, ?_⟩
  · subst e1 e2
    have qP : prA dp Wd = false → ∀ H'', Same H' H'' → Q (.str "prior") H'' := fun h H'' s => by
      have z := q H'' s
      unfold wd3 at z
      rw [h, if_neg (by decide)] at z
      exact z
    have qG : prA dp Wd = true → gnA Wd dg = false → ∀ H'', Same H' H'' → Q (.str "gains") H'' := fun h h2 H'' s => by
      have z := q H'' s
      unfold wd3 at z
      rw [h, if_pos rfl, h2, if_neg (by decide)] at z
      exact z
    refine ⟨_, rfl, _, rfl, b, g, vp, dp, Wd, rfl, G.ap, G.bp, wd5, fun H1 s1 => ⟨_, rfl, ?_⟩⟩
    cases e : prA dp Wd with
    | false => exact iteT (qP e H1 s1)
    | true =>
    refine iteF ?_
    have G1 := G.keep s1
    refine ⟨_, rfl, _, rfl, b, g, vg, dg, Wd, rfl, G1.ag, G1.bg, wd5, fun H2 s2 => ⟨_, rfl, ?_⟩⟩
    have s02 := s1.trans s2
    cases e2 : gnA Wd dg with
    | false => exact iteT (qG e e2 H2 s02)
    | true =>
    refine iteF ?_
    refine ⟨Q, fun v H' h => h, ?_⟩
    rw [e, e2] at q
    refine ⟨_, rfl, rfl, _, rfl, ?_⟩
    by_cases k0 : k = 0
    · subst k0
      rw [decide_eq_true (show V.int ((0 : Nat) : Int) = V.int 0 from rfl)]
      refine iteT ?_
      obtain ⟨ds, rfl⟩ : ∃ ds, dg = .tup ds := by
        cases dg with
        | tup ds => exact ⟨ds, rfl⟩
        | int _ => cases e2
        | oth _ => cases e2
      obtain ⟨c, xs, rfl, hc, lc, kc⟩ := ad_tup (G1.keep s2).ag
      refine ⟨_, rfl, _, rfl, c, xs, rfl, .inr hc, _, rfl, b, g, W, xs.length, v, va, da, ahead, t, rfl, ha.same s02, bda, hv.keep (Same.kt s02), hok, fun H3 s3 => ⟨_, rfl, ?_⟩⟩
      have z := q H3 (s02.trans s3)
      have el : lenA (.tup ds) = xs.length := lc.symm
      rw [el] at z
      cases e3 : akA xs.length n t da with
      | false =>
        rw [e3] at z
        exact iteT z
      | true =>
        rw [e3] at z
        exact iteF z
    · rw [decide_eq_false (show ¬ V.int (k : Int) = V.int 0 from fun z => k0 (by have := V.int.inj z; omega))]
      refine iteF ?_
      have z := q H2 s02
      rw [decide_eq_false k0] at z
      exact iteF z
  · have stay : wdN k W dp = W → ([some (.int (k : Int)), some (.int (W : Int)), some v, some vp, some vg, some va] : L2.St) = [some (.int (k : Int)), some (.int (Wd : Int)), some v, some vp, some vg, some va] ∧ H = H := fun h => by
      rw [hWd, h]
      exact ⟨rfl, rfl⟩
    refine ⟨_, rfl, rfl, _, rfl, ?_⟩
    by_cases c3 : k = 3
    rotate_left
    · rw [decide_eq_false (show ¬ V.int (k : Int) = V.int 3 from fun z => c3 (by have := V.int.inj z; omega))]
      refine iteF (stay ?_)
      unfold wdN
      rw [if_neg fun z => c3 z.1]
    subst c3
    rw [decide_eq_true (show V.int ((3 : Nat) : Int) = V.int 3 from rfl)]
    refine iteT ?_
    rcases id G.ap.kind with ⟨i, rfl, rfl⟩ | ⟨a, xs, ds, rfl, rfl, hs, hl, hk⟩ | ⟨_, rfl, t0, ty, k1, k2⟩
    · exact ⟨_, rfl, _, _, _, _, false, rfl, .ty "tuple", .base (.int i), kit_ty (by decide +kernel), _, rfl, iteF (stay rfl)⟩
    rotate_left
    · exact ⟨_, rfl, _, _, _, _, false, rfl, .ty "tuple", ty, k1, _, rfl, iteF (stay rfl)⟩
    refine ⟨_, rfl, _, _, _, _, true, rfl, .ty "tuple", tyx_tup hs, kit_ty (by decide +kernel), _, rfl, iteT ?_⟩
    refine ⟨_, rfl, a, _, rfl, .inr hs, _, _, rfl, rfl, _, rfl, ?_⟩
    by_cases c1 : 1 ≤ ds.length
    rotate_left
    · rw [decide_eq_false (show ¬ (1 : Int) ≤ ((xs.length : Nat) : Int) by omega)]
      refine iteF ⟨_, rfl, iteF (stay ?_)⟩
      have ew : wdA (.tup ds) = (decide (1 ≤ ds.length) && decide (ds.length ≤ 5)) := rfl
      rw [decide_eq_false c1] at ew
      unfold wdN
      rw [ew]
      rfl
    rw [decide_eq_true (show (1 : Int) ≤ ((xs.length : Nat) : Int) by omega)]
    refine iteT ⟨_, _, rfl, rfl, _, rfl, ?_⟩
    by_cases c5 : ds.length ≤ 5
    rotate_left
    · rw [decide_eq_false (show ¬ ((xs.length : Nat) : Int) ≤ 5 by omega)]
      refine iteF (stay ?_)
      have ew : wdA (.tup ds) = (decide (1 ≤ ds.length) && decide (ds.length ≤ 5)) := rfl
      rw [decide_eq_false c5, Bool.and_false] at ew
      unfold wdN
      rw [ew]
      rfl
    rw [decide_eq_true (show ((xs.length : Nat) : Int) ≤ 5 by omega)]
    refine iteT ?_
    have e : wdN 3 W (.tup ds) = xs.length := by
      have ew : wdA (.tup ds) = (decide (1 ≤ ds.length) && decide (ds.length ≤ 5)) := rfl
      rw [decide_eq_true c1, decide_eq_true c5] at ew
      unfold wdN
      rw [ew, if_pos ⟨rfl, rfl⟩]
      exact hl.symm
    refine ⟨_, rfl, a, xs, rfl, .inr hs, ?_⟩
    rw [hWd, e]
    exact ⟨rfl, rfl⟩
end
end Tl
/-! the law -/
namespace Tl
open PySem PySem.Spec PyProof.Rows L2 RZ
/-- three things: a prior, gains, an asker as they may be given -/
def TriT (K : PySem.W.Frag) (b g : Addr) (H : Hp) (v : V) : Prop := ∃ (p : Addr) (x y z : V), v = .ref p ∧ SqT K H p [x, y, z] ∧ Thing K b g H x ∧ ThM K b g 20 H y ∧ Thing K b g H z
theorem TriT.keep {K : PySem.W.Frag} {b g : Addr} {H H' : Hp} {v : V} (B : Bag H b g) (f : Frm b g H H') (h : TriT K b g H v) : TriT K b g H' v := let ⟨p, x, y, z, e, hp, hx, hy, hz⟩ := h; ⟨p, x, y, z, e, B.kt f _ _ hp, hx.keep B f, hy.keep B f, hz.keep B f⟩
theorem ThM.updL {K : PySem.W.Frag} {b g T : Addr} {m : Nat} {H : Hp} {ws ws' : List V} {v : V} (hT : H T = some (.lst ws)) (nb : T ≠ b) (ng : T ≠ g) (h : ThM K b g m H v) : ThM K b g m (upd H T (.lst ws')) v := let ⟨d, h1, h2, h3⟩ := h; ⟨d, h1.updL hT nb ng, h2, h3⟩
theorem TriT.updL {K : PySem.W.Frag} {b g T : Addr} {H : Hp} {ws ws' : List V} {v : V} (hT : H T = some (.lst ws)) (nb : T ≠ b) (ng : T ≠ g) (h : TriT K b g H v) : TriT K b g (upd H T (.lst ws')) v := let ⟨p, x, y, z, e, hp, hx, hy, hz⟩ := h; ⟨p, x, y, z, e, KT.updL hT _ _ hp, hx.updL hT nb ng, hy.updL hT nb ng, hz.updL hT nb ng⟩
def oneP : PyData := .tuple [.int 1, .int 1]
def noP : PyData := .tuple [.int 0, .int 1]
def longD (n : Nat) : PyData := .tuple (oneP :: List.replicate n noP)
theorem ns_pair {i j : Int} (hi : i.natAbs ≤ 66) (hj : j.natAbs ≤ 66) : NsA 1 (ofD (.tuple [.int i, .int j])) := .tup (show 2 ≤ 20 by decide) fun d hd => by
  rcases List.mem_cons.mp (show d ∈ [AD.int i, AD.int j] from hd) with rfl | hd
  · exact ns_small hi
  · rw [List.mem_singleton.mp hd]
    exact ns_small hj
theorem long_ns {n : Nat} (h : n ≤ 5) : NsA 2 (ofD (longD n)) := .tuple (by rw [List.length_cons, List.length_replicate]; omega) fun d hd => by
  rcases List.mem_cons.mp hd with rfl | hd
  · exact ns_pair (by decide) (by decide)
  · rw [List.eq_of_mem_replicate hd]
    exact ns_pair (by decide) (by decide)
theorem long_ns2 {n : Nat} (h : n ≤ 5) : NsA 3 (ofD (.tuple [longD n])) := .tuple (by show 1 ≤ 20; decide) fun d hd => by
  rw [List.mem_singleton.mp hd]
  exact long_ns h
theorem kit_no {K : PySem.W.Frag} {C : Addr} {T : String} (hk : PySem.W.kitMeta T = true) (hm : PySem.W.mroIn K C (.type T) = some false) : PySem.W.kitOne K (.ref C) (.type T) = some false := by
  unfold PySem.W.kitOne
  have nb : (Value.ref C == Value.type T) = false := beq_eq_false_iff_ne.mpr fun z => by cases z
  rw [nb, if_neg (by decide)]
  show (if PySem.W.kitMeta T = true then PySem.W.mroIn K C (.type T) else none) = some false
  rw [if_pos hk, hm]
theorem word5 : wd3 (wdA (ofD (longD 5)) && prA (ofD (longD 5)) (lenA (ofD (longD 5)))) (gnA (lenA (ofD (longD 5))) (ofD (PyData.tuple [longD 5]))) true = "prior" := by
  have e : (wdA (ofD (longD 5)) && prA (ofD (longD 5)) (lenA (ofD (longD 5)))) = false := rfl
  unfold wd3
  rw [e, if_neg (by decide)]
def A4 : AD := .tup [.tup [.int 1, .int 1], .tup [.int 0, .int 1], .tup [.int 0, .int 1], .tup [.int 0, .int 1], .tup [.int 0, .int 1]]
theorem word4 : wd3 (wdA (ofD (longD 4)) && prA (ofD (longD 4)) (lenA (ofD (longD 4)))) (gnA (lenA (ofD (longD 4))) (ofD (PyData.tuple [longD 4]))) true = "told" := by
  have e1 : (wdA (ofD (longD 4)) && prA (ofD (longD 4)) (lenA (ofD (longD 4)))) = true := by
    show (wdA A4 && prA A4 5) = true
    decide +kernel
  have e2 : gnA (lenA (ofD (longD 4))) (ofD (PyData.tuple [longD 4])) = true := by
    show gnA 5 (.tup [A4]) = true
    decide +kernel
  unfold wd3
  rw [e1, if_pos rfl, e2, if_pos rfl, if_pos rfl]
theorem shares_smP {W : Nat} {rs : List Rat} (h : IsShares W rs) (w4 : W ≤ 4) : SmP W rs := by
  have pr := shares_prior h (by omega)
  refine ⟨pr.len, fun r hr => ?_⟩
  have z := shares_den h r hr
  obtain ⟨c0, c1, _⟩ := pr.ch r hr
  have n0 := Rat.num_nonneg.mpr c0
  have n1 := rat_le_one c1
  omega
section
variable {P : Program} {w : World} {K : PySem.W.Frag} {mg : Str → Option Value} {base : Heap}
theorem ok_law {Cc fi fe f f1 f2 f3 f4 f5 f6 f7 f8 f9 f10 : Addr} {fd fd1 fd2 fd3 fd4 fd5 fd6 fd7 fd8 fd9 fd10 fdi : FuncData} (D : Dn K mg "law" s_law ["script"] f fd) (B : Blt mg) (U : Hcl K mg Cc fi fe)
    (D_law_bag : Dn K mg "_law_bag" s_law_bag ["script"] f1 fd1) (G_law_bag : FnOk P w K mg base CX0 1 f1 fd1 ["script"] (spBag K))
    (D_law_pick : Dn K mg "_law_pick" s_law_pick ["bag", "many"] f2 fd2) (G_law_pick : FnOk P w K mg base CX0 1 f2 fd2 ["bag", "many"] spPick)
    (D_law_tree : Dn K mg "_law_tree" s_law_tree ["bag", "worlds", "rounds", "answers"] f3 fd3) (G_law_tree : FnOk P w K mg base CX0 30 f3 fd3 ["bag", "worlds", "rounds", "answers"] (anyS 3 (spTree K)))
    (D_law_shares : Dn K mg "_law_shares" s_law_shares ["bag", "many", "least"] f4 fd4) (G_law_shares : FnOk P w K mg base CX0 3 f4 fd4 ["bag", "many", "least"] (spShares K))
    (D_law_gains : Dn K mg "_law_gains" s_law_gains ["bag", "worlds", "least"] f5 fd5) (G_law_gains : FnOk P w K mg base CX0 3 f5 fd5 ["bag", "worlds", "least"] (spGainsS K))
    (D_law_asker : Dn K mg "_law_asker" s_law_asker ["bag", "node", "deeds"] f6 fd6) (G_law_asker : FnOk P w K mg base CX0 30 f6 fd6 ["bag", "node", "deeds"] (anyS 5 (spLAk K)))
    (D_law_bent : Dn K mg "_law_bent" s_law_bent ["bag", "thing"] f7 fd7) (G_law_bent : FnOk P w K mg base CX0 50 f7 fd7 ["bag", "thing"] (anyS 12 (spBntA K)))
    (D_law_edged : Dn K mg "_law_edged" s_law_edged ["bag", "worlds", "tree", "parts"] f8 fd8) (G_law_edged : FnOk P w K mg base CX0 30 f8 fd8 ["bag", "worlds", "tree", "parts"] (anyS 5 (spEdgd K)))
    (D_law_due : Dn K mg "_law_due" s_law_due ["which", "worlds", "tree", "prior", "gains", "asker"] f9 fd9) (G_law_due : FnOk P w K mg base CX0 30 f9 fd9 ["which", "worlds", "tree", "prior", "gains", "asker"] (anyS 5 (spDue K)))
    (D_law_word : Dn K mg "_law_word" s_law_word ["which", "house", "prior", "gains", "asker"] f10 fd10) (G_law_word : FnOk P w K mg base CX0 30 f10 fd10 ["which", "house", "prior", "gains", "asker"] (orS (anyS 5 (spWdH K Cc)) (spWdU K)))
    (D_House_init : Dm K "__init__" "House.__init__" s_House_init ["self", "worlds", "tree"] fi fdi) (G_House_init : FnOk P w K mg base CX0 30 fi fdi ["self", "worlds", "tree"] (anyS 5 (spInit K Cc))) : FnG P w K mg base CX0 52 f fd ["script"] (spTrue K) := by
  refine okG D.F sc_law (fun vs H Q E h => ?_) (fun cdv A outer s H vs Q E hr hgu h => ?_)
  · obtain ⟨a, ns, rfl, _⟩ := h
    rfl
  obtain ⟨a, ns, rfl, hs, h63, q⟩ := h
  have nd := sc_law.nd
  refine ⟨_, (pss_cons (ps_set (i := 1) nd rfl (.inr rfl) (pe_call G_law_bag (hr.mono (by omega)) (by rfl) D_law_bag.m D_law_bag.F.kp D_law_bag.b .nil pass0 (pa_cons (pv 0) pa_nil)))
      (pss_cons (ps_for PassesOwn.never rfl (pi_range1 (by rfl) B.range (pa_cons pe_int pa_nil)) (pg_name (i := 2) nd rfl (.inl rfl)) (pss_cons (ps_set (i := 3) nd rfl (.inr rfl) (pe_op op_add pe_int (pe_call G_law_pick (hr.mono (by omega)) (by rfl) D_law_pick.m D_law_pick.F.kp D_law_pick.b .nil pass0 (pa_cons (pv 1) (pa_cons pe_int pa_nil)))))
      (pss_cons (ps_set (i := 4) nd rfl (.inr rfl) (pe_call G_law_tree (hr.mono (by omega)) (by rfl) D_law_tree.m D_law_tree.F.kp D_law_tree.b .nil pass0 (pa_cons (pv 1) (pa_cons (pv 3) (pa_cons (pe_op op_add pe_int (pe_call G_law_pick (hr.mono (by omega)) (by rfl) D_law_pick.m D_law_pick.F.kp D_law_pick.b .nil pass0 (pa_cons (pv 1) (pa_cons pe_int pa_nil)))) (pa_cons pe_int pa_nil))))))
      (pss_cons (ps_set (i := 5) nd rfl (.inl rfl) (pe_make U.mkH G_House_init (hr.mono (by omega)) (by rfl) U.gHouse D_House_init.b .nil pass0 (pa_cons (pv 3) (pa_cons (pv 4) pa_nil))))
      (pss_one (ps_for PassesOwn.never rfl (pi_range1 (by rfl) B.range (pa_cons pe_int pa_nil)) (pg_name (i := 6) nd rfl (.inl rfl)) (pss_cons (ps_set (i := 7) nd rfl (.inl rfl) (pe_callTy (k_tupOf (K := K) rfl) (by rfl) B.tuple (by decide +kernel) (pa_cons (pe_call G_law_shares (hr.mono (by omega)) (by rfl) D_law_shares.m D_law_shares.F.kp D_law_shares.b .nil pass0 (pa_cons (pv 1) (pa_cons (pv 3) (pa_cons (pe_call G_law_pick (hr.mono (by omega)) (by rfl) D_law_pick.m D_law_pick.F.kp D_law_pick.b .nil pass0 (pa_cons (pv 1) (pa_cons pe_int pa_nil))) pa_nil)))) pa_nil)))
      (pss_cons (ps_set (i := 8) nd rfl (.inl rfl) (pe_call G_law_gains (hr.mono (by omega)) (by rfl) D_law_gains.m D_law_gains.F.kp D_law_gains.b .nil pass0 (pa_cons (pv 1) (pa_cons (pv 3) (pa_cons (pe_un un_neg pe_int) pa_nil)))))
      (pss_cons (ps_set (i := 9) nd rfl (.inl rfl) (pe_call G_law_asker (hr.mono (by omega)) (by rfl) D_law_asker.m D_law_asker.F.kp D_law_asker.b .nil pass0 (pa_cons (pv 1) (pa_cons (pv 4) (pa_cons (pe_callB (k_len (K := K) rfl) (by rfl) B.len PySem.boot_len (pa_cons (pv 8) pa_nil)) pa_nil)))))
      (pss_cons (ps_asg (pe_tup (pa_cons (pe_call G_law_pick (hr.mono (by omega)) (by rfl) D_law_pick.m D_law_pick.F.kp D_law_pick.b .nil pass0 (pa_cons (pv 1) (pa_cons pe_int pa_nil))) (pa_cons (pe_tup (pa_cons (pv 7) (pa_cons (pv 8) (pa_cons (pv 9) pa_nil)))) pa_nil))) (k_tup (K := K) (n := 2) rfl rfl (pgs_cons (pg_name (i := 10) nd rfl (.inl rfl)) (pgs_cons (pg_name (i := 11) nd rfl (.inr rfl)) pgs_nil))))
      (pss_cons (ps_join (ps_if (pt_cmpR op_in_seq (pv 10) (pe_lst (pa_cons pe_int (pa_cons pe_int pa_nil))) (by rfl)) (pss_one (ps_set (i := 7) nd rfl (.inl rfl) (pe_call G_law_bent (hr.mono (by omega)) (by rfl) D_law_bent.m D_law_bent.F.kp D_law_bent.b .nil pass0 (pa_cons (pv 1) (pa_cons (pv 7) pa_nil))))) pss_nil))
      (pss_cons (ps_join (ps_if (pt_cmpR op_in_seq (pv 10) (pe_lst (pa_cons pe_int (pa_cons pe_int (pa_cons pe_int pa_nil)))) (by rfl)) (pss_one (ps_set (i := 8) nd rfl (.inl rfl) (pe_call G_law_bent (hr.mono (by omega)) (by rfl) D_law_bent.m D_law_bent.F.kp D_law_bent.b .nil pass0 (pa_cons (pv 1) (pa_cons (pv 8) pa_nil))))) pss_nil))
      (pss_cons (ps_join (ps_if (pt_cmpR op_in_seq (pv 10) (pe_lst (pa_cons pe_int (pa_cons pe_int (pa_cons pe_int (pa_cons pe_int (pa_cons pe_int pa_nil)))))) (by rfl)) (pss_one (ps_set (i := 9) nd rfl (.inl rfl) (pe_call G_law_bent (hr.mono (by omega)) (by rfl) D_law_bent.m D_law_bent.F.kp D_law_bent.b .nil pass0 (pa_cons (pv 1) (pa_cons (pv 9) pa_nil))))) pss_nil))
      (pss_one (ps_for PassesOwn.never rfl (k_iL (K := K) rfl (pe_op op_cat (pe_lst (pa_cons (pe_tup (pa_cons (pv 7) (pa_cons (pv 8) (pa_cons (pv 9) pa_nil)))) pa_nil)) (pe_lc (own := [("more", 13)]) rfl nd (pi_range1 (by rfl) B.range (pa_cons pe_int pa_nil)) (blkOk_by (own := [("more", 13)]) (by kernel_rfl)) (fun _ _ _ _ _ => (pg_name (i := 13) nd rfl (.inl rfl))) (fun _ _ _ _ _ => pts_nil) (fun _ _ _ _ _ => (pe_call G_law_edged (hr.mono (by omega)) (by rfl) D_law_edged.m D_law_edged.F.kp D_law_edged.b .nil pass0 (pa_cons (pv 1) (pa_cons (pv 3) (pa_cons (pv 4) (pa_cons (pv 11) pa_nil))))))))) (pg_name (i := 12) nd rfl (.inl rfl)) (pss_one (ps_for PassesOwn.never rfl (pi_range1 (by rfl) B.range (pa_cons pe_int pa_nil)) (pg_name (i := 14) nd rfl (.inl rfl)) (pss_cons (ps_set (i := 15) nd rfl (.inl rfl) (pe_call G_law_due (hr.mono (by omega)) (by rfl) D_law_due.m D_law_due.F.kp D_law_due.b .nil pass0 (pa_cons (pv 14) (pa_cons (pv 3) (pa_cons (pv 4) (pa_cons (pe_ix (k_ixT (K := K) rfl) (pv 12) pe_int (fun _ _ => rfl)) (pa_cons (pe_ix (k_ixT (K := K) rfl) (pv 12) pe_int (fun _ _ => rfl)) (pa_cons (pe_ix (k_ixT (K := K) rfl) (pv 12) pe_int (fun _ _ => rfl)) pa_nil))))))))
      (pss_one (ps_if (pt_cmpR op_ne (pe_call G_law_word (hr.mono (by omega)) (by rfl) D_law_word.m D_law_word.F.kp D_law_word.b .nil pass0 (pa_cons (pv 14) (pa_cons (pv 5) (pa_cons (pe_ix (k_ixT (K := K) rfl) (pv 12) pe_int (fun _ _ => rfl)) (pa_cons (pe_ix (k_ixT (K := K) rfl) (pv 12) pe_int (fun _ _ => rfl)) (pa_cons (pe_ix (k_ixT (K := K) rfl) (pv 12) pe_int (fun _ _ => rfl)) pa_nil)))))) (pv 15) (nomark _)) (pss_one (ps_ret pe_bl)) pss_nil))))))))))))))))))))
      (pss_cons (ps_set (i := 16) nd rfl (.inl rfl) (pe_op (k_cat (K := K) rfl) (pe_tup (pa_cons (pe_tup (pa_cons pe_int (pa_cons pe_int pa_nil))) pa_nil)) (pe_op (k_rep (K := K) rfl) (pe_tup (pa_cons (pe_tup (pa_cons pe_int (pa_cons pe_int pa_nil))) pa_nil)) pe_int)))
      (pss_one (ps_ret (pe_and (pe_cmpR op_eq (pe_call G_law_word (hr.mono (by omega)) (by rfl) D_law_word.m D_law_word.F.kp D_law_word.b .nil pass0 (pa_cons pe_int (pa_cons pe_non (pa_cons (pv 16) (pa_cons (pe_tup (pa_cons (pv 16) pa_nil)) (pa_cons pe_non pa_nil)))))) pe_str (nomark _)) (pe_one (pe_cmpR op_eq (pe_call G_law_word (hr.mono (by omega)) (by rfl) D_law_word.m D_law_word.F.kp D_law_word.b .nil pass0 (pa_cons pe_int (pa_cons pe_non (pa_cons (pe_slice (k_slT (K := K) rfl) (pv 16) po_none (po_some pe_int)) (pa_cons (pe_tup (pa_cons (pe_slice (k_slT (K := K) rfl) (pv 16) po_none (po_some pe_int)) pa_nil)) (pa_cons pe_non pa_nil)))))) pe_str (nomark _))))))))), ?_⟩
  refine ⟨_, rfl, a, ns, rfl, hs, h63, fun b g H1 s1 B1 b0 g0 => ?_⟩
  refine ⟨4, rfl, by decide, by decide, for_range (lo := 0) (n := 4) (fun i σ H2 => Bag H2 b g ∧ ∃ o2 o3 o4 o5 o6 o7 o8 o9 o10 o11 o12 o13 o14 o15 o16 : Option V, σ = [some (.ref a), some (.ref b), o2, o3, o4, o5, o6, o7, o8, o9, o10, o11, o12, o13, o14, o15, o16]) ⟨B1, none, none, none, none, none, none, none, none, none, none, none, none, none, none, none, rfl⟩ ?_ ?_⟩
  · rintro i σ H2 hi ⟨B2, o2, o3, o4, o5, o6, o7, o8, o9, o10, o11, o12, o13, o14, o15, o16, rfl⟩
    -- worlds
    refine ⟨_, rfl, b, g, 4, rfl, B2, by decide, by decide, fun r H3 r0 r1 B3 F3 => ⟨_, _, rfl, rfl, ?_⟩⟩
    obtain ⟨W, eW⟩ : ∃ W : Nat, 1 + r = (W : Int) := ⟨(1 + r).toNat, by omega⟩
    have w1 : 1 ≤ W := by omega
    have w4 : W ≤ 4 := by omega
    show gName 3 (V.int (1 + r)) _ _ _
    rw [eW]
    -- tree
    refine ⟨_, rfl, _, rfl, _, rfl, b, g, 2, rfl, B3, by decide, by decide, fun r' H4 r2 r3 B4 F4 => ⟨_, _, rfl, rfl, ?_⟩⟩
    obtain ⟨n, en⟩ : ∃ n : Nat, 1 + r' = ((n + 1 : Nat) : Int) := ⟨r'.toNat, by omega⟩
    refine ⟨n, by omega, b, g, W, 8, congrArg (fun z => [V.ref b, V.int (W : Int), V.int z, V.int 8]) en, B4, by omega, w1, by omega, fun v6 t H6 tv ok cn B6 F6 => ?_⟩
    obtain ⟨m, em, hm⟩ : ∃ m, n + 1 = m ∧ m ≤ 2 := ⟨_, rfl, by omega⟩
    have T6 : TreeOk K H6 W (n + 1) v6 t := ⟨tv, ok.ok, by omega, by omega, w1, by omega⟩
    revert t
    rw [em]
    intro t tv ok cn T6
    clear B2 F3 B3 F4 B4 F6 tv ok cn r0 r1 r2 r3 eW en em
    -- house
    refine ⟨_, rfl, _, rfl, fun x dx nx ndx ne => ⟨m, by omega, x, dx, W, v6, t, rfl, upd_same, T6.keep (own_same nx ndx), fun H7 h7 k7 => ⟨rfl, ?_⟩⟩⟩
    obtain ⟨s7, hs7⟩ := mk_hs nx ndx T6 h7 k7
    have B7 := B6.keep s7
    clear s7 h7 k7 nx ndx ne B6 T6
    refine ⟨5, rfl, by decide, by decide, for_range (lo := 0) (n := 5) (fun j σ H2 => Bag H2 b g ∧ HsOk K Cc H2 x W m t v6 ∧ ∃ o6' o7' o8' o9' o10' o11' o12' o13' o14' o15' o16' : Option V, σ = [some (.ref a), some (.ref b), some (.int (0 + (i : Int))), some (.int (W : Int)), some v6, some (.ref x), o6', o7', o8', o9', o10', o11', o12', o13', o14', o15', o16']) ⟨B7, hs7, _, _, _, _, _, _, _, _, _, _, _, rfl⟩ ?_ ?_⟩
    rotate_left
    · rintro σ H2 ⟨B2, _, o6', o7', o8', o9', o10', o11', o12', o13', o14', o15', o16', rfl⟩
      exact ⟨B2, _, _, _, _, _, _, _, _, _, _, _, _, _, _, _, rfl⟩
    clear B7 hs7
    rintro j σ H8 hj ⟨B8, hs8, o6', o7', o8', o9', o10', o11', o12', o13', o14', o15', o16', rfl⟩
    -- prior
    refine ⟨_, rfl, _, rfl, _, rfl, b, g, 2, rfl, B8, by decide, by decide, fun r1 H9 q0 q1 B9 F9 => ⟨b, g, W, r1, rfl, B9, w1, by omega, q0, by omega, fun l rs us H10 hsh h10 t10 hn B10 F10 => ⟨l, us, rfl, SqL.of h10, fun pp H11 s11 q11 => ?_⟩⟩⟩
    have sp : SmP W rs := shares_smP hsh w4
    have tp11 : Td K H11 (.ref pp) (wsD rs) := .tup q11 (t10.keep (Same.kt s11))
    have F811 := (F9.trans F10).trans (Frm.of s11)
    have B11 := B10.keep s11
    have hs11 := hs8.frm B8 F811
    clear F811 s11 q11 B10 F10 t10 h10 B9 F9 hs8 B8 hsh hn q0 q1
    -- gains
    refine ⟨_, rfl, _, rfl, _, rfl, b, g, W, -9, rfl, B11, w1, by omega, by decide, by decide, fun vg gs H12 g1 g4 sg tg12 B12 F12 => ?_⟩
    have hs12 := hs11.frm B11 F12
    have tp12 := tp11.keep (B11.kt F12)
    clear F12 B11 hs11 tp11
    obtain ⟨ga, gys, rfl, hga, tga⟩ := id tg12.tupE
    have lyg : gys.length = gs.length := by rw [tga.len, List.length_map]
    -- asker
    refine ⟨_, rfl, _, rfl, _, rfl, ga, _, rfl, .inr hga, m, by omega, b, g, W, gs.length, v6, ones W, t, by rw [lyg]; rfl, B12, hs12.td, hs12.ok, g1, by omega, fun va ak H13 ta ia B13 F13 => ?_⟩
    have hs13 := hs12.frm B12 F13
    have T13 : Trio K H13 W m v6 t (.ref pp) (.ref ga) va rs gs ak := ⟨tp12.keep (B12.kt F13), sp, tg12.keep (B12.kt F13), sg, g1, g4, ta, ia, hs13.td, ⟨_, hs13.ok⟩, w1, w4⟩
    clear hs12 tp12 tg12 hga tga lyg B12 F13 ta ia
    -- kind, plain
    refine ⟨_, rfl, b, g, 8, rfl, B13, by decide, by decide, fun kd H14 k0 k1 B14 F14 => ?_⟩
    have hs14 := hs13.frm B13 F14
    have T14 := T13.keep (B13.kt F14)
    clear hs13 T13 B13 F14
    refine ⟨_, rfl, _, rfl, _, rfl, by show 3 ≤ sizeLine; decide, fun p3 n3 => ⟨by show 2 ≤ sizeLine; decide, fun p2 n2 => ⟨p2, _, rfl, .inl (.inl upd_same), rfl, _, _, rfl, _, _, rfl, rfl, ?_⟩⟩⟩
    have s3 := same_upd (o := .tup [.ref pp, .ref ga, va]) n3
    have s2 := same_upd (o := .tup [.int kd, .ref p3]) n2
    have e3 : SqT K (upd (upd H14 p3 (.tup [.ref pp, .ref ga, va])) p2 (.tup [.int kd, .ref p3])) p3 [.ref pp, .ref ga, va] := Same.kt s2 _ _ (.inl (.inl upd_same))
    have hs15 := hs14.keep (s3.trans s2)
    have T15 := T14.keep (Same.kt (s3.trans s2))
    have B15 := B14.keep (s3.trans s2)
    generalize upd (upd H14 p3 (.tup [.ref pp, .ref ga, va])) p2 (.tup [.int kd, .ref p3]) = H15 at e3 hs15 T15 B15 ⊢
    clear hs14 T14 B14 s3 s2 n3 n2
    have nsP := ns_wsD (rs := rs) (by have := T15.sp.1; omega) fun r hr => ⟨by have := (T15.sp.2 r hr).1; omega, by have := (T15.sp.2 r hr).2; omega⟩
    have nsG := ns_gsD (W := W) (gs := gs) (by omega) (by omega) T15.sg
    have nsK := ns_akD (M := gs.length) (by omega) m (ones W) t ak hs15.ok T15.ia
    have topG : TopLe 4 (ofD (gsD gs)) := fun ds e => by
      have e : AD.tup (ofD.ofDs (gs.map wsD)) = .tup ds := e
      cases e
      rw [ofDs_map, List.length_map, List.length_map]
      exact g4
    have thP : Thing K b g H15 (.ref pp) := ⟨_, T15.tp.ad, nsP.bd⟩
    have thG : ThM K b g 20 H15 (.ref ga) := ⟨_, T15.tg.ad, nsG.bd, topG.mono (by decide)⟩
    have thK : Thing K b g H15 va := ⟨_, T15.ta.ad, nsK.bd⟩
    -- kind in [0, 1]
    refine ⟨fun σ' H' => ∃ x7, σ' = [some (.ref a), some (.ref b), some (.int (0 + (i : Int))), some (.int (W : Int)), some v6, some (.ref x), some (.int (0 + (j : Int))), some x7, some (.ref ga), some va, some (.int kd), some (.ref p3), o12', o13', o14', o15', o16'] ∧ Thing K b g H' x7 ∧ EnvAt b g H15 H', fun σ' H16 ⟨x7, e, t7, E16⟩ => ?_, ?_⟩
    rotate_left
    · refine ⟨_, rfl, by show 2 ≤ sizeLine; decide, fun l nl => ⟨l, _, rfl, .inl (SqL.of upd_same), rfl, rfl, _, rfl, ?_⟩⟩
      have sl := same_upd (o := .lst [.int 0, .int 1]) nl
      refine ite2 (fun _ => ?_) (fun _ => ⟨_, rfl, thP.keep B15 (.of sl), B15.keep sl, .of sl⟩)
      exact ⟨_, rfl, _, rfl, 2, by decide, b, g, .ref pp, _, 20, rfl, B15.keep sl, (T15.tp.keep (Same.kt sl)).ad, nsP, nsP.top, by decide, fun v' H' t' B' F' => ⟨v', rfl, t'.thing, B', (Frm.of sl).trans F'⟩⟩
    subst e
    -- kind in [1, 2, 3]
    refine ⟨fun σ' H' => ∃ x8, σ' = [some (.ref a), some (.ref b), some (.int (0 + (i : Int))), some (.int (W : Int)), some v6, some (.ref x), some (.int (0 + (j : Int))), some x7, some x8, some va, some (.int kd), some (.ref p3), o12', o13', o14', o15', o16'] ∧ ThM K b g 20 H' x8 ∧ EnvAt b g H16 H', fun σ' H17 ⟨x8, e, t8, E17⟩ => ?_, ?_⟩
    rotate_left
    · refine ⟨_, rfl, by show 3 ≤ sizeLine; decide, fun l nl => ⟨l, _, rfl, .inl (SqL.of upd_same), rfl, rfl, _, rfl, ?_⟩⟩
      have sl := same_upd (o := .lst [.int 1, .int 2, .int 3]) nl
      have F := E16.2.trans (.of sl)
      refine ite2 (fun _ => ?_) (fun _ => ⟨_, rfl, thG.keep B15 F, E16.1.keep sl, .of sl⟩)
      exact ⟨_, rfl, _, rfl, 3, by decide, b, g, .ref ga, _, 4, rfl, E16.1.keep sl, (T15.tg.keep (B15.kt F)).ad, nsG, topG, by decide, fun v' H' t' B' F' => ⟨v', rfl, t'.mono (by decide), B', (Frm.of sl).trans F'⟩⟩
    subst e
    -- kind in [1, 3, 4, 5, 6]
    refine ⟨fun σ' H' => ∃ x9, σ' = [some (.ref a), some (.ref b), some (.int (0 + (i : Int))), some (.int (W : Int)), some v6, some (.ref x), some (.int (0 + (j : Int))), some x7, some x8, some x9, some (.int kd), some (.ref p3), o12', o13', o14', o15', o16'] ∧ Thing K b g H' x9 ∧ EnvAt b g H17 H', fun σ' H18 ⟨x9, e, t9, E18⟩ => ?_, ?_⟩
    rotate_left
    · refine ⟨_, rfl, by show 5 ≤ sizeLine; decide, fun l nl => ⟨l, _, rfl, .inl (SqL.of upd_same), rfl, rfl, _, rfl, ?_⟩⟩
      have sl := same_upd (o := .lst [.int 1, .int 3, .int 4, .int 5, .int 6]) nl
      have F := (E16.2.trans E17.2).trans (.of sl)
      refine ite2 (fun _ => ?_) (fun _ => ⟨_, rfl, thK.keep B15 F, E17.1.keep sl, .of sl⟩)
      exact ⟨_, rfl, _, rfl, 2 * m + 1, by omega, b, g, va, _, 20, rfl, E17.1.keep sl, (T15.ta.keep (B15.kt F)).ad, nsK, nsK.top, by decide, fun v' H' t' B' F' => ⟨v', rfl, t'.thing, B', (Frm.of sl).trans F'⟩⟩
    subst e
    have F18 := (E16.2.trans E17.2).trans E18.2
    have t7 := t7.keep E16.1 (E17.2.trans E18.2)
    have t8 := t8.keep E17.1 E18.2
    have B18 := E18.1
    have hs18 := hs15.frm B15 F18
    have T18 := T15.keep (B15.kt F18)
    have e18 := B15.kt (K := K) F18 _ _ e3
    clear E16 E17 E18 F18 hs15 T15 e3 B15 thP thG thK nsP nsG nsK topG k0 k1
    -- the list
    refine ⟨_, rfl, _, rfl, _, rfl, by show 3 ≤ sizeLine; decide, fun p4 n4 => ⟨by show 1 ≤ sizeLine; decide, fun l1 nl1 => ?_⟩⟩
    have s4 := same_upd (o := .tup [x7, x8, x9]) n4
    have s5 := same_upd (o := .lst [.ref p4]) nl1
    have tri0 : TriT K b g (upd (upd H18 p4 (.tup [x7, x8, x9])) l1 (.lst [.ref p4])) (.ref p4) := ⟨p4, x7, x8, x9, rfl, Same.kt s5 _ _ (.inl (.inl upd_same)), t7.keep B18 (.of (s4.trans s5)), t8.keep B18 (.of (s4.trans s5)), t9.keep B18 (.of (s4.trans s5))⟩
    have hl1 : (upd (upd H18 p4 (.tup [x7, x8, x9])) l1 (.lst [.ref p4])) l1 = some (.lst [.ref p4]) := upd_same
    have hs19 := hs18.keep (s4.trans s5)
    have T19 := T18.keep (Same.kt (s4.trans s5))
    have e19 := Same.kt (K := K) (s4.trans s5) _ _ e18
    have B19 := B18.keep (s4.trans s5)
    obtain ⟨lb, lg⟩ := (B18.keep s4).neNew nl1
    generalize upd (upd H18 p4 (.tup [x7, x8, x9])) l1 (.lst [.ref p4]) = H19 at tri0 hl1 hs19 T19 e19 B19 ⊢
    clear hs18 T18 e18 B18 s4 s5 n4 nl1 t7 t8 t9
    refine ⟨3, rfl, by decide, by decide, fun T hT => ?_⟩
    obtain ⟨Tb, Tg⟩ := B19.neNew hT
    refine lc_range (lo := 0) (n := 3) (fun k H3 => ∃ us : List V, us.length = k ∧ H3 T = some (.lst us) ∧ (∀ u ∈ us, TriT K b g H3 u) ∧ Bag H3 b g ∧ Frm b g H19 H3) ⟨[], rfl, upd_same, fun u h => absurd h List.not_mem_nil, B19.updN Tb Tg, (Frm.refl b g H19).updN hT⟩ ?_ ?_
    · rintro k H3 hk ⟨us, lu, h3, tu, B3, F3⟩
      refine ⟨rfl, ?_⟩
      refine iteT (B := ∃ us : List V, us.length = k + 1 ∧ H3 T = some (.lst us) ∧ (∀ u ∈ us, TriT K b g H3 u) ∧ Bag H3 b g ∧ Frm b g H19 H3) ?_
      refine ⟨_, rfl, _, rfl, _, rfl, _, rfl, m, by omega, b, g, p3, W, v6, .ref pp, .ref ga, va, t, rs, gs, ak, rfl, B3, B19.kt F3 _ _ e19, T19.keep (B19.kt F3), fun p' y7 y8 y9 H5 hp' ty7 ty8 ty9 B5 F5 => ?_⟩
      have h5 := F5 _ _ h3 Tb Tg
      refine ⟨us, h5, small1000 (by omega), us ++ [.ref p'], by rw [List.length_append, lu]; rfl, upd_same, fun u hu => ?_, B5.updN Tb Tg, (F3.trans F5).updN hT⟩
      rcases List.mem_append.mp hu with hu | hu
      · exact ((tu u hu).keep B3 F5).updL h5 Tb Tg
      · rw [List.mem_singleton.mp hu]
        exact TriT.updL h5 Tb Tg ⟨p', y7, y8, y9, rfl, hp', ty7, ty8, ty9⟩
    rintro H20 ⟨us, lu, h20, tu, B20, F20⟩
    have hl20 := F20 _ _ hl1 lb lg
    refine ⟨l1, T, [.ref p4], us, rfl, rfl, hl20, h20, by show 1 + us.length ≤ sizeLine; rw [lu]; decide, fun L nL => ?_⟩
    have sL := same_upd (o := .lst ([.ref p4] ++ us)) nL
    obtain ⟨Lb, Lg⟩ := B20.neNew nL
    have tall : ∀ u ∈ [V.ref p4] ++ us, TriT K b g (upd H20 L (.lst ([.ref p4] ++ us))) u := fun u hu => by
      rcases List.mem_append.mp hu with hu | hu
      · rw [List.mem_singleton.mp hu]
        exact tri0.keep B19 (F20.trans (.of sL))
      · exact (tu u hu).keep B20 (.of sL)
    have hL : (upd H20 L (.lst ([.ref p4] ++ us))) L = some (.lst ([.ref p4] ++ us)) := upd_same
    have hs21 := (hs19.frm B19 F20).keep sL
    have B21 := B20.keep sL
    generalize upd H20 L (.lst ([.ref p4] ++ us)) = H21 at tall hL hs21 B21 ⊢
    generalize [V.ref p4] ++ us = all at tall hL ⊢
    clear sL nL hl20 h20 tu B20 F20 lu us hT hl1 tri0 hs19 T19 e19 B19 Tb Tg lb lg
    have hok := hs21.ok
    refine ⟨L, rfl, ⟨_, SqL.of hL⟩, for_it (walk_list (K := K) (a := L) (xs := all)) (fun k σ H' => ∃ o12 o13 o14 o15 o16 : Option V, σ = [some (.ref a), some (.ref b), some (.int (0 + (i : Int))), some (.int (W : Int)), some v6, some (.ref x), some (.int (0 + (j : Int))), some x7, some x8, some x9, some (.int kd), some (.ref p3), o12, o13, o14, o15, o16] ∧ EnvAt b g H21 H') ⟨_, _, _, _, _, rfl, .now B21⟩ (fun k σ H' _ h => by obtain ⟨_, _, _, _, _, _, e⟩ := h; exact SqL.of (e.2 _ _ hL Lb Lg)) ?_ ?_⟩
    · rintro k y σ H0 H22 hk ⟨o12, o13, o14, o15, o16, rfl, E22⟩ ⟨rfl, e1⟩
      obtain ⟨p, gx, gy, gz, rfl, hp, ⟨dp, ap, bp⟩, ⟨dg, ag, bg, lg⟩, ⟨da, ad, bda⟩⟩ := (tall _ (List.mem_of_getElem? e1)).keep B21 E22.2
      have hs22 := hs21.frm B21 E22.2
      have B22 := E22.1
      have F22 := E22.2
      have GV : Giv K b g H22 gx gy dp dg := ⟨ap, bp, ag, bg, by
        cases dg with
        | tup ds => exact lg ds rfl
        | int _ => exact Nat.zero_le _
        | oth _ => exact Nat.zero_le _⟩
      clear hs21 tall hL B21 E22 e1 ap bp ag bg lg
      have i0 : atI [gx, gy, gz] 0 = some gx := at_of (j := 0) rfl rfl
      have i1 : atI [gx, gy, gz] 1 = some gy := at_of (j := 1) rfl rfl
      have i2 : atI [gx, gy, gz] 2 = some gz := at_of (j := 2) rfl rfl
      refine ⟨4, rfl, by decide, by decide, for_range (lo := 0) (n := 4) (fun l σ H' => ∃ o14 o15 : Option V, σ = [some (.ref a), some (.ref b), some (.int (0 + (i : Int))), some (.int (W : Int)), some v6, some (.ref x), some (.int (0 + (j : Int))), some x7, some x8, some x9, some (.int kd), some (.ref p3), some (.ref p), o13, o14, o15, o16] ∧ Same H22 H') ⟨_, _, rfl, Same.refl _⟩ ?_ ?_⟩
      · rintro l σ H23 hl ⟨o14', o15', rfl, s23⟩
        have hp3 := Same.kt (K := K) s23 _ _ hp
        have G3 := GV.keep s23
        have a3 := ad.same s23
        have h3 := hs22.keep s23
        refine ⟨_, rfl, _, rfl, _, rfl, _, rfl, p, _, 0, gx, rfl, rfl, hp3, i0, _, rfl, p, _, 1, gy, rfl, rfl, hp3, i1, _, rfl, p, _, 2, gz, rfl, rfl, hp3, i2, m, by omega, b, g, l, W, v6, gx, gy, gz, ones W, t, dp, dg, da, by rw [Int.zero_add]; rfl, by omega, w1, by omega, G3, a3, bda, h3.td, hok, fun H24 s24 => ?_⟩
        have hp4 := Same.kt (K := K) s24 _ _ hp3
        have G4 := G3.keep s24
        have a4 := a3.same s24
        have h4 := h3.keep s24
        refine ⟨_, rfl, _, rfl, _, rfl, p, _, 0, gx, rfl, rfl, hp4, i0, _, rfl, p, _, 1, gy, rfl, rfl, hp4, i1, _, rfl, p, _, 2, gz, rfl, rfl, hp4, i2, ?_⟩
        by_cases l3 : l = 3
        · subst l3
          refine .inr ⟨b, g, .ref x, gx, gy, gz, dp, dg, rfl, G4, fun H25 s25 => ?_⟩
          refine ⟨_, rfl, rfl, _, rfl, ?_⟩
          rw [decide_eq_true (show V.str (wd3 (wdA dp && prA dp (lenA dp)) (gnA (lenA dp) dg) true) = V.str (dueA 3 W m t dp dg da) by unfold dueA; rw [if_pos rfl])]
          refine iteF ?_
          exact ⟨_, _, rfl, s23.trans (s24.trans s25)⟩
        · refine .inl ⟨m, by omega, b, g, x, l, W, v6, gx, gy, gz, t, dp, dg, da, by rw [Int.zero_add]; rfl, by omega, h4, by omega, G4, a4, bda, fun H25 s25 => ?_⟩
          refine ⟨_, rfl, rfl, _, rfl, ?_⟩
          rw [decide_eq_true (show V.str (wd3 (prA dp W) (gnA W dg) (!decide (l = 0) || akA (lenA dg) m t da)) = V.str (dueA l W m t dp dg da) by unfold dueA; rw [if_neg l3])]
          refine iteF ?_
          exact ⟨_, _, rfl, s23.trans (s24.trans s25)⟩
      · rintro σ H23 ⟨o14', o15', rfl, s23⟩
        exact ⟨_, _, _, _, _, rfl, B22.keep s23, F22.trans (.of s23)⟩
    · rintro σ H22 ⟨o12, o13, o14, o15, o16, rfl, E22⟩
      exact ⟨E22.1, hs21.frm B21 E22.2, _, _, _, _, _, _, _, _, _, _, _, rfl⟩
  · rintro σ H2 ⟨B2, o2, o3, o4, o5, o6, o7, o8, o9, o10, o11, o12, o13, o14, o15, o16, rfl⟩
    -- long
    refine ⟨by show 2 ≤ sizeLine; decide, fun p1 n1 => ⟨by show 1 ≤ sizeLine; decide, fun p2 n2 => ?_⟩⟩
    have z1 := same_upd (o := .tup [.int 1, .int 1]) n1
    have z2 := same_upd (o := .tup [.ref p1]) n2
    have t1 : Td K (upd (upd H2 p1 (.tup [.int 1, .int 1])) p2 (.tup [.ref p1])) (.ref p2) (.tuple [oneP]) := .tup (.inl (.inl upd_same)) (.cons ((Td.tup (.inl (.inl upd_same)) (.cons (.int 1) (.cons (.int 1) .nil))).keep (Same.kt z2)) .nil)
    have B3 := B2.keep (z1.trans z2)
    generalize upd (upd H2 p1 (.tup [.int 1, .int 1])) p2 (.tup [.ref p1]) = H3 at t1 B3 ⊢
    refine ⟨by show 2 ≤ sizeLine; decide, fun p4 n4 => ⟨by show 1 ≤ sizeLine; decide, fun p5 n5 => ?_⟩⟩
    have z4 := same_upd (o := .tup [.int 0, .int 1]) n4
    have z5 := same_upd (o := .tup [.ref p4]) n5
    have e5 : SqT K (upd (upd H3 p4 (.tup [.int 0, .int 1])) p5 (.tup [.ref p4])) p5 [.ref p4] := .inl (.inl upd_same)
    have t4 : Td K (upd (upd H3 p4 (.tup [.int 0, .int 1])) p5 (.tup [.ref p4])) (.ref p4) noP := (Td.tup (.inl (.inl upd_same)) (.cons (.int _) (.cons (.int _) .nil))).keep (Same.kt z5)
    have t1 := t1.keep (Same.kt (z4.trans z5))
    have B5 := B3.keep (z4.trans z5)
    generalize upd (upd H3 p4 (.tup [.int 0, .int 1])) p5 (.tup [.ref p4]) = H5 at t1 B5 e5 t4 ⊢
    refine ⟨p5, 5, _, rfl, rfl, e5, by simp, by decide, by decide, by show 1 ≤ 1000; decide, fun p6 H6 s6 h6 => ?_⟩
    obtain ⟨p2', xs2, e2, h2, tx2⟩ := (t1.keep (Same.kt s6)).tupE
    cases e2
    obtain ⟨u1, rfl, tu1⟩ : ∃ u1, xs2 = [u1] ∧ Td K H6 u1 oneP := by
      cases tx2 with
      | cons h t =>
        cases t
        exact ⟨_, rfl, h⟩
    refine ⟨p2, p6, _, _, rfl, rfl, h2, h6, by show 1 + 5 ≤ sizeLine; decide, fun p7 H7 s7 h7 => ?_⟩
    have t4 := t4.keep (Same.kt (s6.trans s7))
    have tu1 := tu1.keep (Same.kt s7)
    have B7 := B5.keep (s6.trans s7)
    have h7 : SqT K H7 p7 [u1, .ref p4, .ref p4, .ref p4, .ref p4, .ref p4] := h7
    have long5 : Td K H7 (.ref p7) (longD 5) := .tup h7 (.cons tu1 (.cons t4 (.cons t4 (.cons t4 (.cons t4 (.cons t4 .nil))))))
    refine ⟨_, rfl, _, rfl, by show 1 ≤ sizeLine; decide, fun p8 n8 => ?_⟩
    have s8 := same_upd (o := .tup [.ref p7]) n8
    have t8 : Td K (upd H7 p8 (.tup [.ref p7])) (.ref p8) (.tuple [longD 5]) := .tup (.inl (.inl upd_same)) (.cons (long5.keep (Same.kt s8)) .nil)
    have l8 := long5.keep (Same.kt s8)
    have h8 := Same.kt (K := K) s8 _ _ h7
    have t4 := t4.keep (Same.kt s8)
    have tu1 := tu1.keep (Same.kt s8)
    have B8 := B7.keep s8
    generalize upd H7 p8 (.tup [.ref p7]) = H8 at t8 l8 h8 t4 tu1 B8 ⊢
    refine .inr ⟨b, g, .non, .ref p7, .ref p8, .non, _, _, rfl, ⟨l8.ad, (long_ns (by decide)).bd, t8.ad, (long_ns2 (by decide)).bd, by show 1 ≤ 20; decide⟩, fun H9 s9 => ?_⟩
    refine ⟨rfl, _, rfl, ?_⟩
    rw [word5, decide_eq_true (show V.str "prior" = V.str "prior" from rfl)]
    refine iteT ?_
    have h9 := Same.kt (K := K) s9 _ _ h8
    have t4 := t4.keep (Same.kt s9)
    have tu1 := tu1.keep (Same.kt s9)
    have B9 := B8.keep s9
    refine ⟨_, rfl, 5, rfl, p7, _, rfl, h9, fun q1 H10 s10 k10 => ⟨_, rfl, 5, rfl, p7, _, rfl, Same.kt s10 _ _ h9, fun q2 H11 s11 k11 => ⟨by show 1 ≤ sizeLine; decide, fun q3 n3 => ?_⟩⟩⟩
    have e10 := cut_to [u1, .ref p4, .ref p4, .ref p4, .ref p4, .ref p4] 5
    have k10 : SqT K H10 q1 [u1, .ref p4, .ref p4, .ref p4, .ref p4] := by
      have z := k10
      rw [show (some (5 : Int)) = some ((5 : Nat) : Int) from rfl, e10] at z
      exact z
    have k11 : SqT K H11 q2 [u1, .ref p4, .ref p4, .ref p4, .ref p4] := by
      have z := k11
      rw [show (some (5 : Int)) = some ((5 : Nat) : Int) from rfl, e10] at z
      exact z
    have s3 := same_upd (o := .tup [.ref q2]) n3
    have S := s10.trans (s11.trans s3)
    have t4 := t4.keep (Same.kt S)
    have tu1 := tu1.keep (Same.kt S)
    have l1 : Td K (upd H11 q3 (.tup [.ref q2])) (.ref q1) (longD 4) := .tup (Same.kt (s11.trans s3) _ _ k10) (.cons tu1 (.cons t4 (.cons t4 (.cons t4 (.cons t4 .nil)))))
    have l2 : Td K (upd H11 q3 (.tup [.ref q2])) (.ref q3) (.tuple [longD 4]) := .tup (.inl (.inl upd_same)) (.cons (.tup (Same.kt s3 _ _ k11) (.cons tu1 (.cons t4 (.cons t4 (.cons t4 (.cons t4 .nil)))))) .nil)
    have B10 := B9.keep S
    generalize upd H11 q3 (.tup [.ref q2]) = H12 at l1 l2 B10 ⊢
    refine .inr ⟨b, g, .non, .ref q1, .ref q3, .non, _, _, rfl, ⟨l1.ad, (long_ns (by decide)).bd, l2.ad, (long_ns2 (by decide)).bd, by show 1 ≤ 20; decide⟩, fun H13 s13 => ?_⟩
    refine ⟨rfl, ?_⟩
    rw [word4, decide_eq_true (show V.str "told" = V.str "told" from rfl)]
    exact q _
end
end Tl
namespace Tl
open PySem PySem.Spec PyProof.Rows L2 RZ
theorem all_mk {l : PySem.W.OpenLaw} {w : World} {K : PySem.W.Frag} {h : Heap} {mg : Str → Option Value} {fa Cc C_HouseError C_NoPrior C_NoGains C_NoAsker aO f_is_integral f_is_number f_is_fraction f_is_chance f_are_fractions f_are_chances f_is_prior f_reduced f_multiplied f_is_less f_greatest_of f_common_bottom f_times_whole f_total f_total_weights f_paid_for f_are_gains f_is_asker f_check_prior f_check_gains f_gets_at f_asker_gets f_best_stop f_best_at f_best_way f_worth f_best_asker f_worth_unasked f_is_word f_is_answer f_is_ascending f_check_tree f_check_node f_check_question f_answers_in f_House_init f_House_eq f_law_bag f_law_pick f_law_some f_law_common f_law_low f_law_plus f_law_times f_law_total f_law_shares f_law_question f_law_node f_law_tree f_law_deep f_law_int f_law_gains f_law_asker f_law_is_asker f_law_is_fraction f_law_is_prior f_law_are_gains f_law_odd f_law_bent f_law_word f_law_due f_law_asker_edge f_law_edged f_law : Addr} (X : K.In h) (G : h.Ns mainGlobals mg) (hfa : mg "law" = some (.ref fa))
    {nm_HouseError nm_NoPrior nm_NoGains nm_NoAsker qn_HouseError qn_NoPrior qn_NoGains qn_NoAsker : Str} {N_HouseError N_NoPrior N_NoGains N_NoAsker : Addr} {bs_HouseError bs_NoPrior bs_NoGains bs_NoAsker sub_HouseError sub_NoPrior sub_NoGains sub_NoAsker : List Value} {sn_HouseError sn_NoPrior sn_NoGains sn_NoAsker : List Str} {ab_HouseError ab_NoPrior ab_NoGains ab_NoAsker : Bool} {col_HouseError col_NoPrior col_NoGains col_NoAsker : Option Bool} {k0_HouseError k0_NoPrior k0_NoGains k0_NoAsker k1_HouseError k1_NoPrior k1_NoGains k1_NoAsker k2_HouseError k2_NoPrior k2_NoGains k2_NoAsker k3_HouseError k3_NoPrior k3_NoGains k3_NoAsker k5_HouseError k5_NoPrior k5_NoGains k5_NoAsker : Option Value} {dd_HouseError dd_NoPrior dd_NoGains dd_NoAsker : Option Addr} {odO od_is_integral an_is_integral od_is_number an_is_number od_is_fraction an_is_fraction od_is_chance an_is_chance od_are_fractions an_are_fractions od_are_chances an_are_chances od_is_prior an_is_prior od_reduced an_reduced od_multiplied an_multiplied od_is_less an_is_less od_greatest_of an_greatest_of od_common_bottom an_common_bottom od_times_whole an_times_whole od_total an_total od_total_weights an_total_weights od_paid_for an_paid_for od_are_gains an_are_gains od_is_asker an_is_asker od_check_prior an_check_prior od_check_gains an_check_gains od_gets_at an_gets_at od_asker_gets an_asker_gets od_best_stop an_best_stop od_best_at an_best_at od_best_way an_best_way od_worth an_worth od_best_asker an_best_asker od_worth_unasked an_worth_unasked od_is_word an_is_word od_is_answer an_is_answer od_is_ascending an_is_ascending od_check_tree an_check_tree od_check_node an_check_node od_check_question an_check_question od_answers_in an_answers_in od_House_init an_House_init od_House_eq an_House_eq od_law_bag an_law_bag od_law_pick an_law_pick od_law_some an_law_some od_law_common an_law_common od_law_low an_law_low od_law_plus an_law_plus od_law_times an_law_times od_law_total an_law_total od_law_shares an_law_shares od_law_question an_law_question od_law_node an_law_node od_law_tree an_law_tree od_law_deep an_law_deep od_law_int an_law_int od_law_gains an_law_gains od_law_asker an_law_asker od_law_is_asker an_law_is_asker od_law_is_fraction an_law_is_fraction od_law_is_prior an_law_is_prior od_law_are_gains an_law_are_gains od_law_odd an_law_odd od_law_bent an_law_bent od_law_word an_law_word od_law_due an_law_due od_law_asker_edge an_law_asker_edge od_law_edged an_law_edged od_law an_law : Option Addr} {slO sl_is_integral sl_is_number sl_is_fraction sl_is_chance sl_are_fractions sl_are_chances sl_is_prior sl_reduced sl_multiplied sl_is_less sl_greatest_of sl_common_bottom sl_times_whole sl_total sl_total_weights sl_paid_for sl_are_gains sl_is_asker sl_check_prior sl_check_gains sl_gets_at sl_asker_gets sl_best_stop sl_best_at sl_best_way sl_worth sl_best_asker sl_worth_unasked sl_is_word sl_is_answer sl_is_ascending sl_check_tree sl_check_node sl_check_question sl_answers_in sl_House_init sl_House_eq sl_law_bag sl_law_pick sl_law_some sl_law_common sl_law_low sl_law_plus sl_law_times sl_law_total sl_law_shares sl_law_question sl_law_node sl_law_tree sl_law_deep sl_law_int sl_law_gains sl_law_asker sl_law_is_asker sl_law_is_fraction sl_law_is_prior sl_law_are_gains sl_law_odd sl_law_bent sl_law_word sl_law_due sl_law_asker_edge sl_law_edged sl_law : Array (Option Value)} {oc_is_integral kV_is_integral dc_is_integral pm_is_integral cd_is_integral ct_is_integral oc_is_number kV_is_number dc_is_number pm_is_number cd_is_number ct_is_number oc_is_fraction kV_is_fraction dc_is_fraction pm_is_fraction cd_is_fraction ct_is_fraction oc_is_chance kV_is_chance dc_is_chance pm_is_chance cd_is_chance ct_is_chance oc_are_fractions kV_are_fractions dc_are_fractions pm_are_fractions cd_are_fractions ct_are_fractions oc_are_chances kV_are_chances dc_are_chances pm_are_chances cd_are_chances ct_are_chances oc_is_prior kV_is_prior dc_is_prior pm_is_prior cd_is_prior ct_is_prior oc_reduced kV_reduced dc_reduced pm_reduced cd_reduced ct_reduced oc_multiplied kV_multiplied dc_multiplied pm_multiplied cd_multiplied ct_multiplied oc_is_less kV_is_less dc_is_less pm_is_less cd_is_less ct_is_less oc_greatest_of kV_greatest_of dc_greatest_of pm_greatest_of cd_greatest_of ct_greatest_of oc_common_bottom kV_common_bottom dc_common_bottom pm_common_bottom cd_common_bottom ct_common_bottom oc_times_whole kV_times_whole dc_times_whole pm_times_whole cd_times_whole ct_times_whole oc_total kV_total dc_total pm_total cd_total ct_total oc_total_weights kV_total_weights dc_total_weights pm_total_weights cd_total_weights ct_total_weights oc_paid_for kV_paid_for dc_paid_for pm_paid_for cd_paid_for ct_paid_for oc_are_gains kV_are_gains dc_are_gains pm_are_gains cd_are_gains ct_are_gains oc_is_asker kV_is_asker dc_is_asker pm_is_asker cd_is_asker ct_is_asker oc_check_prior kV_check_prior dc_check_prior pm_check_prior cd_check_prior ct_check_prior oc_check_gains kV_check_gains dc_check_gains pm_check_gains cd_check_gains ct_check_gains oc_gets_at kV_gets_at dc_gets_at pm_gets_at cd_gets_at ct_gets_at oc_asker_gets kV_asker_gets dc_asker_gets pm_asker_gets cd_asker_gets ct_asker_gets oc_best_stop kV_best_stop dc_best_stop pm_best_stop cd_best_stop ct_best_stop oc_best_at kV_best_at dc_best_at pm_best_at cd_best_at ct_best_at oc_best_way kV_best_way dc_best_way pm_best_way cd_best_way ct_best_way oc_worth kV_worth dc_worth pm_worth cd_worth ct_worth oc_best_asker kV_best_asker dc_best_asker pm_best_asker cd_best_asker ct_best_asker oc_worth_unasked kV_worth_unasked dc_worth_unasked pm_worth_unasked cd_worth_unasked ct_worth_unasked oc_is_word kV_is_word dc_is_word pm_is_word cd_is_word ct_is_word oc_is_answer kV_is_answer dc_is_answer pm_is_answer cd_is_answer ct_is_answer oc_is_ascending kV_is_ascending dc_is_ascending pm_is_ascending cd_is_ascending ct_is_ascending oc_check_tree kV_check_tree dc_check_tree pm_check_tree cd_check_tree ct_check_tree oc_check_node kV_check_node dc_check_node pm_check_node cd_check_node ct_check_node oc_check_question kV_check_question dc_check_question pm_check_question cd_check_question ct_check_question oc_answers_in kV_answers_in dc_answers_in pm_answers_in cd_answers_in ct_answers_in oc_House_init kV_House_init dc_House_init pm_House_init cd_House_init ct_House_init oc_House_eq kV_House_eq dc_House_eq pm_House_eq cd_House_eq ct_House_eq oc_law_bag kV_law_bag dc_law_bag pm_law_bag cd_law_bag ct_law_bag oc_law_pick kV_law_pick dc_law_pick pm_law_pick cd_law_pick ct_law_pick oc_law_some kV_law_some dc_law_some pm_law_some cd_law_some ct_law_some oc_law_common kV_law_common dc_law_common pm_law_common cd_law_common ct_law_common oc_law_low kV_law_low dc_law_low pm_law_low cd_law_low ct_law_low oc_law_plus kV_law_plus dc_law_plus pm_law_plus cd_law_plus ct_law_plus oc_law_times kV_law_times dc_law_times pm_law_times cd_law_times ct_law_times oc_law_total kV_law_total dc_law_total pm_law_total cd_law_total ct_law_total oc_law_shares kV_law_shares dc_law_shares pm_law_shares cd_law_shares ct_law_shares oc_law_question kV_law_question dc_law_question pm_law_question cd_law_question ct_law_question oc_law_node kV_law_node dc_law_node pm_law_node cd_law_node ct_law_node oc_law_tree kV_law_tree dc_law_tree pm_law_tree cd_law_tree ct_law_tree oc_law_deep kV_law_deep dc_law_deep pm_law_deep cd_law_deep ct_law_deep oc_law_int kV_law_int dc_law_int pm_law_int cd_law_int ct_law_int oc_law_gains kV_law_gains dc_law_gains pm_law_gains cd_law_gains ct_law_gains oc_law_asker kV_law_asker dc_law_asker pm_law_asker cd_law_asker ct_law_asker oc_law_is_asker kV_law_is_asker dc_law_is_asker pm_law_is_asker cd_law_is_asker ct_law_is_asker oc_law_is_fraction kV_law_is_fraction dc_law_is_fraction pm_law_is_fraction cd_law_is_fraction ct_law_is_fraction oc_law_is_prior kV_law_is_prior dc_law_is_prior pm_law_is_prior cd_law_is_prior ct_law_is_prior oc_law_are_gains kV_law_are_gains dc_law_are_gains pm_law_are_gains cd_law_are_gains ct_law_are_gains oc_law_odd kV_law_odd dc_law_odd pm_law_odd cd_law_odd ct_law_odd oc_law_bent kV_law_bent dc_law_bent pm_law_bent cd_law_bent ct_law_bent oc_law_word kV_law_word dc_law_word pm_law_word cd_law_word ct_law_word oc_law_due kV_law_due dc_law_due pm_law_due cd_law_due ct_law_due oc_law_asker_edge kV_law_asker_edge dc_law_asker_edge pm_law_asker_edge cd_law_asker_edge ct_law_asker_edge oc_law_edged kV_law_edged dc_law_edged pm_law_edged cd_law_edged ct_law_edged oc_law kV_law dc_law pm_law cd_law ct_law : Value} {tO1 tO2 t1 t2 t3 t4 t5 t_MOST_WORLDS : Tok} {nO : Nat}
    (aC : PySem.W.nsIn K mainGlobals "House" = some (some (.ref Cc)))
    (a_is_integral : PySem.W.nsIn K mainGlobals "is_integral" = some (some (.ref f_is_integral)))
    (l_is_integral : K.lookup f_is_integral = some ⟨oc_is_integral, od_is_integral, .func (PySem.W.fnOf "is_integral" "is_integral" (defArgs s_is_integral) (defBody s_is_integral) (defScope s_is_integral) .none kV_is_integral dc_is_integral pm_is_integral an_is_integral cd_is_integral ct_is_integral), sl_is_integral⟩)
    (c_is_integral : PySem.W.codeIn K cd_is_integral "is_integral" = true)
    (k_is_integral : PySem.W.keepIn K (.ref f_is_integral) = true)
    (a_is_number : PySem.W.nsIn K mainGlobals "is_number" = some (some (.ref f_is_number)))
    (l_is_number : K.lookup f_is_number = some ⟨oc_is_number, od_is_number, .func (PySem.W.fnOf "is_number" "is_number" (defArgs s_is_number) (defBody s_is_number) (defScope s_is_number) .none kV_is_number dc_is_number pm_is_number an_is_number cd_is_number ct_is_number), sl_is_number⟩)
    (c_is_number : PySem.W.codeIn K cd_is_number "is_number" = true)
    (k_is_number : PySem.W.keepIn K (.ref f_is_number) = true)
    (a_is_fraction : PySem.W.nsIn K mainGlobals "is_fraction" = some (some (.ref f_is_fraction)))
    (l_is_fraction : K.lookup f_is_fraction = some ⟨oc_is_fraction, od_is_fraction, .func (PySem.W.fnOf "is_fraction" "is_fraction" (defArgs s_is_fraction) (defBody s_is_fraction) (defScope s_is_fraction) .none kV_is_fraction dc_is_fraction pm_is_fraction an_is_fraction cd_is_fraction ct_is_fraction), sl_is_fraction⟩)
    (c_is_fraction : PySem.W.codeIn K cd_is_fraction "is_fraction" = true)
    (k_is_fraction : PySem.W.keepIn K (.ref f_is_fraction) = true)
    (a_is_chance : PySem.W.nsIn K mainGlobals "is_chance" = some (some (.ref f_is_chance)))
    (l_is_chance : K.lookup f_is_chance = some ⟨oc_is_chance, od_is_chance, .func (PySem.W.fnOf "is_chance" "is_chance" (defArgs s_is_chance) (defBody s_is_chance) (defScope s_is_chance) .none kV_is_chance dc_is_chance pm_is_chance an_is_chance cd_is_chance ct_is_chance), sl_is_chance⟩)
    (c_is_chance : PySem.W.codeIn K cd_is_chance "is_chance" = true)
    (k_is_chance : PySem.W.keepIn K (.ref f_is_chance) = true)
    (a_are_fractions : PySem.W.nsIn K mainGlobals "are_fractions" = some (some (.ref f_are_fractions)))
    (l_are_fractions : K.lookup f_are_fractions = some ⟨oc_are_fractions, od_are_fractions, .func (PySem.W.fnOf "are_fractions" "are_fractions" (defArgs s_are_fractions) (defBody s_are_fractions) (defScope s_are_fractions) .none kV_are_fractions dc_are_fractions pm_are_fractions an_are_fractions cd_are_fractions ct_are_fractions), sl_are_fractions⟩)
    (c_are_fractions : PySem.W.codeIn K cd_are_fractions "are_fractions" = true)
    (k_are_fractions : PySem.W.keepIn K (.ref f_are_fractions) = true)
    (a_are_chances : PySem.W.nsIn K mainGlobals "are_chances" = some (some (.ref f_are_chances)))
    (l_are_chances : K.lookup f_are_chances = some ⟨oc_are_chances, od_are_chances, .func (PySem.W.fnOf "are_chances" "are_chances" (defArgs s_are_chances) (defBody s_are_chances) (defScope s_are_chances) .none kV_are_chances dc_are_chances pm_are_chances an_are_chances cd_are_chances ct_are_chances), sl_are_chances⟩)
    (c_are_chances : PySem.W.codeIn K cd_are_chances "are_chances" = true)
    (k_are_chances : PySem.W.keepIn K (.ref f_are_chances) = true)
    (a_is_prior : PySem.W.nsIn K mainGlobals "is_prior" = some (some (.ref f_is_prior)))
    (l_is_prior : K.lookup f_is_prior = some ⟨oc_is_prior, od_is_prior, .func (PySem.W.fnOf "is_prior" "is_prior" (defArgs s_is_prior) (defBody s_is_prior) (defScope s_is_prior) .none kV_is_prior dc_is_prior pm_is_prior an_is_prior cd_is_prior ct_is_prior), sl_is_prior⟩)
    (c_is_prior : PySem.W.codeIn K cd_is_prior "is_prior" = true)
    (k_is_prior : PySem.W.keepIn K (.ref f_is_prior) = true)
    (a_reduced : PySem.W.nsIn K mainGlobals "reduced" = some (some (.ref f_reduced)))
    (l_reduced : K.lookup f_reduced = some ⟨oc_reduced, od_reduced, .func (PySem.W.fnOf "reduced" "reduced" (defArgs s_reduced) (defBody s_reduced) (defScope s_reduced) .none kV_reduced dc_reduced pm_reduced an_reduced cd_reduced ct_reduced), sl_reduced⟩)
    (c_reduced : PySem.W.codeIn K cd_reduced "reduced" = true)
    (k_reduced : PySem.W.keepIn K (.ref f_reduced) = true)
    (a_multiplied : PySem.W.nsIn K mainGlobals "multiplied" = some (some (.ref f_multiplied)))
    (l_multiplied : K.lookup f_multiplied = some ⟨oc_multiplied, od_multiplied, .func (PySem.W.fnOf "multiplied" "multiplied" (defArgs s_multiplied) (defBody s_multiplied) (defScope s_multiplied) .none kV_multiplied dc_multiplied pm_multiplied an_multiplied cd_multiplied ct_multiplied), sl_multiplied⟩)
    (c_multiplied : PySem.W.codeIn K cd_multiplied "multiplied" = true)
    (k_multiplied : PySem.W.keepIn K (.ref f_multiplied) = true)
    (a_is_less : PySem.W.nsIn K mainGlobals "is_less" = some (some (.ref f_is_less)))
    (l_is_less : K.lookup f_is_less = some ⟨oc_is_less, od_is_less, .func (PySem.W.fnOf "is_less" "is_less" (defArgs s_is_less) (defBody s_is_less) (defScope s_is_less) .none kV_is_less dc_is_less pm_is_less an_is_less cd_is_less ct_is_less), sl_is_less⟩)
    (c_is_less : PySem.W.codeIn K cd_is_less "is_less" = true)
    (k_is_less : PySem.W.keepIn K (.ref f_is_less) = true)
    (a_greatest_of : PySem.W.nsIn K mainGlobals "greatest_of" = some (some (.ref f_greatest_of)))
    (l_greatest_of : K.lookup f_greatest_of = some ⟨oc_greatest_of, od_greatest_of, .func (PySem.W.fnOf "greatest_of" "greatest_of" (defArgs s_greatest_of) (defBody s_greatest_of) (defScope s_greatest_of) .none kV_greatest_of dc_greatest_of pm_greatest_of an_greatest_of cd_greatest_of ct_greatest_of), sl_greatest_of⟩)
    (c_greatest_of : PySem.W.codeIn K cd_greatest_of "greatest_of" = true)
    (k_greatest_of : PySem.W.keepIn K (.ref f_greatest_of) = true)
    (a_common_bottom : PySem.W.nsIn K mainGlobals "common_bottom" = some (some (.ref f_common_bottom)))
    (l_common_bottom : K.lookup f_common_bottom = some ⟨oc_common_bottom, od_common_bottom, .func (PySem.W.fnOf "common_bottom" "common_bottom" (defArgs s_common_bottom) (defBody s_common_bottom) (defScope s_common_bottom) .none kV_common_bottom dc_common_bottom pm_common_bottom an_common_bottom cd_common_bottom ct_common_bottom), sl_common_bottom⟩)
    (c_common_bottom : PySem.W.codeIn K cd_common_bottom "common_bottom" = true)
    (k_common_bottom : PySem.W.keepIn K (.ref f_common_bottom) = true)
    (a_times_whole : PySem.W.nsIn K mainGlobals "times_whole" = some (some (.ref f_times_whole)))
    (l_times_whole : K.lookup f_times_whole = some ⟨oc_times_whole, od_times_whole, .func (PySem.W.fnOf "times_whole" "times_whole" (defArgs s_times_whole) (defBody s_times_whole) (defScope s_times_whole) .none kV_times_whole dc_times_whole pm_times_whole an_times_whole cd_times_whole ct_times_whole), sl_times_whole⟩)
    (c_times_whole : PySem.W.codeIn K cd_times_whole "times_whole" = true)
    (k_times_whole : PySem.W.keepIn K (.ref f_times_whole) = true)
    (a_total : PySem.W.nsIn K mainGlobals "total" = some (some (.ref f_total)))
    (l_total : K.lookup f_total = some ⟨oc_total, od_total, .func (PySem.W.fnOf "total" "total" (defArgs s_total) (defBody s_total) (defScope s_total) .none kV_total dc_total pm_total an_total cd_total ct_total), sl_total⟩)
    (c_total : PySem.W.codeIn K cd_total "total" = true)
    (k_total : PySem.W.keepIn K (.ref f_total) = true)
    (a_total_weights : PySem.W.nsIn K mainGlobals "total_weights" = some (some (.ref f_total_weights)))
    (l_total_weights : K.lookup f_total_weights = some ⟨oc_total_weights, od_total_weights, .func (PySem.W.fnOf "total_weights" "total_weights" (defArgs s_total_weights) (defBody s_total_weights) (defScope s_total_weights) .none kV_total_weights dc_total_weights pm_total_weights an_total_weights cd_total_weights ct_total_weights), sl_total_weights⟩)
    (c_total_weights : PySem.W.codeIn K cd_total_weights "total_weights" = true)
    (k_total_weights : PySem.W.keepIn K (.ref f_total_weights) = true)
    (a_paid_for : PySem.W.nsIn K mainGlobals "paid_for" = some (some (.ref f_paid_for)))
    (l_paid_for : K.lookup f_paid_for = some ⟨oc_paid_for, od_paid_for, .func (PySem.W.fnOf "paid_for" "paid_for" (defArgs s_paid_for) (defBody s_paid_for) (defScope s_paid_for) .none kV_paid_for dc_paid_for pm_paid_for an_paid_for cd_paid_for ct_paid_for), sl_paid_for⟩)
    (c_paid_for : PySem.W.codeIn K cd_paid_for "paid_for" = true)
    (k_paid_for : PySem.W.keepIn K (.ref f_paid_for) = true)
    (a_are_gains : PySem.W.nsIn K mainGlobals "are_gains" = some (some (.ref f_are_gains)))
    (l_are_gains : K.lookup f_are_gains = some ⟨oc_are_gains, od_are_gains, .func (PySem.W.fnOf "are_gains" "are_gains" (defArgs s_are_gains) (defBody s_are_gains) (defScope s_are_gains) .none kV_are_gains dc_are_gains pm_are_gains an_are_gains cd_are_gains ct_are_gains), sl_are_gains⟩)
    (c_are_gains : PySem.W.codeIn K cd_are_gains "are_gains" = true)
    (k_are_gains : PySem.W.keepIn K (.ref f_are_gains) = true)
    (a_is_asker : PySem.W.nsIn K mainGlobals "is_asker" = some (some (.ref f_is_asker)))
    (l_is_asker : K.lookup f_is_asker = some ⟨oc_is_asker, od_is_asker, .func (PySem.W.fnOf "is_asker" "is_asker" (defArgs s_is_asker) (defBody s_is_asker) (defScope s_is_asker) .none kV_is_asker dc_is_asker pm_is_asker an_is_asker cd_is_asker ct_is_asker), sl_is_asker⟩)
    (c_is_asker : PySem.W.codeIn K cd_is_asker "is_asker" = true)
    (k_is_asker : PySem.W.keepIn K (.ref f_is_asker) = true)
    (a_check_prior : PySem.W.nsIn K mainGlobals "check_prior" = some (some (.ref f_check_prior)))
    (l_check_prior : K.lookup f_check_prior = some ⟨oc_check_prior, od_check_prior, .func (PySem.W.fnOf "check_prior" "check_prior" (defArgs s_check_prior) (defBody s_check_prior) (defScope s_check_prior) .none kV_check_prior dc_check_prior pm_check_prior an_check_prior cd_check_prior ct_check_prior), sl_check_prior⟩)
    (c_check_prior : PySem.W.codeIn K cd_check_prior "check_prior" = true)
    (k_check_prior : PySem.W.keepIn K (.ref f_check_prior) = true)
    (a_check_gains : PySem.W.nsIn K mainGlobals "check_gains" = some (some (.ref f_check_gains)))
    (l_check_gains : K.lookup f_check_gains = some ⟨oc_check_gains, od_check_gains, .func (PySem.W.fnOf "check_gains" "check_gains" (defArgs s_check_gains) (defBody s_check_gains) (defScope s_check_gains) .none kV_check_gains dc_check_gains pm_check_gains an_check_gains cd_check_gains ct_check_gains), sl_check_gains⟩)
    (c_check_gains : PySem.W.codeIn K cd_check_gains "check_gains" = true)
    (k_check_gains : PySem.W.keepIn K (.ref f_check_gains) = true)
    (a_gets_at : PySem.W.nsIn K mainGlobals "gets_at" = some (some (.ref f_gets_at)))
    (l_gets_at : K.lookup f_gets_at = some ⟨oc_gets_at, od_gets_at, .func (PySem.W.fnOf "gets_at" "gets_at" (defArgs s_gets_at) (defBody s_gets_at) (defScope s_gets_at) .none kV_gets_at dc_gets_at pm_gets_at an_gets_at cd_gets_at ct_gets_at), sl_gets_at⟩)
    (c_gets_at : PySem.W.codeIn K cd_gets_at "gets_at" = true)
    (k_gets_at : PySem.W.keepIn K (.ref f_gets_at) = true)
    (a_asker_gets : PySem.W.nsIn K mainGlobals "asker_gets" = some (some (.ref f_asker_gets)))
    (l_asker_gets : K.lookup f_asker_gets = some ⟨oc_asker_gets, od_asker_gets, .func (PySem.W.fnOf "asker_gets" "asker_gets" (defArgs s_asker_gets) (defBody s_asker_gets) (defScope s_asker_gets) .none kV_asker_gets dc_asker_gets pm_asker_gets an_asker_gets cd_asker_gets ct_asker_gets), sl_asker_gets⟩)
    (c_asker_gets : PySem.W.codeIn K cd_asker_gets "asker_gets" = true)
    (k_asker_gets : PySem.W.keepIn K (.ref f_asker_gets) = true)
    (a_best_stop : PySem.W.nsIn K mainGlobals "best_stop" = some (some (.ref f_best_stop)))
    (l_best_stop : K.lookup f_best_stop = some ⟨oc_best_stop, od_best_stop, .func (PySem.W.fnOf "best_stop" "best_stop" (defArgs s_best_stop) (defBody s_best_stop) (defScope s_best_stop) .none kV_best_stop dc_best_stop pm_best_stop an_best_stop cd_best_stop ct_best_stop), sl_best_stop⟩)
    (c_best_stop : PySem.W.codeIn K cd_best_stop "best_stop" = true)
    (k_best_stop : PySem.W.keepIn K (.ref f_best_stop) = true)
    (a_best_at : PySem.W.nsIn K mainGlobals "best_at" = some (some (.ref f_best_at)))
    (l_best_at : K.lookup f_best_at = some ⟨oc_best_at, od_best_at, .func (PySem.W.fnOf "best_at" "best_at" (defArgs s_best_at) (defBody s_best_at) (defScope s_best_at) .none kV_best_at dc_best_at pm_best_at an_best_at cd_best_at ct_best_at), sl_best_at⟩)
    (c_best_at : PySem.W.codeIn K cd_best_at "best_at" = true)
    (k_best_at : PySem.W.keepIn K (.ref f_best_at) = true)
    (a_best_way : PySem.W.nsIn K mainGlobals "best_way" = some (some (.ref f_best_way)))
    (l_best_way : K.lookup f_best_way = some ⟨oc_best_way, od_best_way, .func (PySem.W.fnOf "best_way" "best_way" (defArgs s_best_way) (defBody s_best_way) (defScope s_best_way) .none kV_best_way dc_best_way pm_best_way an_best_way cd_best_way ct_best_way), sl_best_way⟩)
    (c_best_way : PySem.W.codeIn K cd_best_way "best_way" = true)
    (k_best_way : PySem.W.keepIn K (.ref f_best_way) = true)
    (a_worth : PySem.W.nsIn K mainGlobals "worth" = some (some (.ref f_worth)))
    (l_worth : K.lookup f_worth = some ⟨oc_worth, od_worth, .func (PySem.W.fnOf "worth" "worth" (defArgs s_worth) (defBody s_worth) (defScope s_worth) .none kV_worth dc_worth pm_worth an_worth cd_worth ct_worth), sl_worth⟩)
    (c_worth : PySem.W.codeIn K cd_worth "worth" = true)
    (k_worth : PySem.W.keepIn K (.ref f_worth) = true)
    (a_best_asker : PySem.W.nsIn K mainGlobals "best_asker" = some (some (.ref f_best_asker)))
    (l_best_asker : K.lookup f_best_asker = some ⟨oc_best_asker, od_best_asker, .func (PySem.W.fnOf "best_asker" "best_asker" (defArgs s_best_asker) (defBody s_best_asker) (defScope s_best_asker) .none kV_best_asker dc_best_asker pm_best_asker an_best_asker cd_best_asker ct_best_asker), sl_best_asker⟩)
    (c_best_asker : PySem.W.codeIn K cd_best_asker "best_asker" = true)
    (k_best_asker : PySem.W.keepIn K (.ref f_best_asker) = true)
    (a_worth_unasked : PySem.W.nsIn K mainGlobals "worth_unasked" = some (some (.ref f_worth_unasked)))
    (l_worth_unasked : K.lookup f_worth_unasked = some ⟨oc_worth_unasked, od_worth_unasked, .func (PySem.W.fnOf "worth_unasked" "worth_unasked" (defArgs s_worth_unasked) (defBody s_worth_unasked) (defScope s_worth_unasked) .none kV_worth_unasked dc_worth_unasked pm_worth_unasked an_worth_unasked cd_worth_unasked ct_worth_unasked), sl_worth_unasked⟩)
    (c_worth_unasked : PySem.W.codeIn K cd_worth_unasked "worth_unasked" = true)
    (k_worth_unasked : PySem.W.keepIn K (.ref f_worth_unasked) = true)
    (a_is_word : PySem.W.nsIn K mainGlobals "is_word" = some (some (.ref f_is_word)))
    (l_is_word : K.lookup f_is_word = some ⟨oc_is_word, od_is_word, .func (PySem.W.fnOf "is_word" "is_word" (defArgs s_is_word) (defBody s_is_word) (defScope s_is_word) .none kV_is_word dc_is_word pm_is_word an_is_word cd_is_word ct_is_word), sl_is_word⟩)
    (c_is_word : PySem.W.codeIn K cd_is_word "is_word" = true)
    (k_is_word : PySem.W.keepIn K (.ref f_is_word) = true)
    (a_is_answer : PySem.W.nsIn K mainGlobals "is_answer" = some (some (.ref f_is_answer)))
    (l_is_answer : K.lookup f_is_answer = some ⟨oc_is_answer, od_is_answer, .func (PySem.W.fnOf "is_answer" "is_answer" (defArgs s_is_answer) (defBody s_is_answer) (defScope s_is_answer) .none kV_is_answer dc_is_answer pm_is_answer an_is_answer cd_is_answer ct_is_answer), sl_is_answer⟩)
    (c_is_answer : PySem.W.codeIn K cd_is_answer "is_answer" = true)
    (k_is_answer : PySem.W.keepIn K (.ref f_is_answer) = true)
    (a_is_ascending : PySem.W.nsIn K mainGlobals "is_ascending" = some (some (.ref f_is_ascending)))
    (l_is_ascending : K.lookup f_is_ascending = some ⟨oc_is_ascending, od_is_ascending, .func (PySem.W.fnOf "is_ascending" "is_ascending" (defArgs s_is_ascending) (defBody s_is_ascending) (defScope s_is_ascending) .none kV_is_ascending dc_is_ascending pm_is_ascending an_is_ascending cd_is_ascending ct_is_ascending), sl_is_ascending⟩)
    (c_is_ascending : PySem.W.codeIn K cd_is_ascending "is_ascending" = true)
    (k_is_ascending : PySem.W.keepIn K (.ref f_is_ascending) = true)
    (a_check_tree : PySem.W.nsIn K mainGlobals "check_tree" = some (some (.ref f_check_tree)))
    (l_check_tree : K.lookup f_check_tree = some ⟨oc_check_tree, od_check_tree, .func (PySem.W.fnOf "check_tree" "check_tree" (defArgs s_check_tree) (defBody s_check_tree) (defScope s_check_tree) .none kV_check_tree dc_check_tree pm_check_tree an_check_tree cd_check_tree ct_check_tree), sl_check_tree⟩)
    (c_check_tree : PySem.W.codeIn K cd_check_tree "check_tree" = true)
    (k_check_tree : PySem.W.keepIn K (.ref f_check_tree) = true)
    (a_check_node : PySem.W.nsIn K mainGlobals "check_node" = some (some (.ref f_check_node)))
    (l_check_node : K.lookup f_check_node = some ⟨oc_check_node, od_check_node, .func (PySem.W.fnOf "check_node" "check_node" (defArgs s_check_node) (defBody s_check_node) (defScope s_check_node) .none kV_check_node dc_check_node pm_check_node an_check_node cd_check_node ct_check_node), sl_check_node⟩)
    (c_check_node : PySem.W.codeIn K cd_check_node "check_node" = true)
    (k_check_node : PySem.W.keepIn K (.ref f_check_node) = true)
    (a_check_question : PySem.W.nsIn K mainGlobals "check_question" = some (some (.ref f_check_question)))
    (l_check_question : K.lookup f_check_question = some ⟨oc_check_question, od_check_question, .func (PySem.W.fnOf "check_question" "check_question" (defArgs s_check_question) (defBody s_check_question) (defScope s_check_question) .none kV_check_question dc_check_question pm_check_question an_check_question cd_check_question ct_check_question), sl_check_question⟩)
    (c_check_question : PySem.W.codeIn K cd_check_question "check_question" = true)
    (k_check_question : PySem.W.keepIn K (.ref f_check_question) = true)
    (a_answers_in : PySem.W.nsIn K mainGlobals "answers_in" = some (some (.ref f_answers_in)))
    (l_answers_in : K.lookup f_answers_in = some ⟨oc_answers_in, od_answers_in, .func (PySem.W.fnOf "answers_in" "answers_in" (defArgs s_answers_in) (defBody s_answers_in) (defScope s_answers_in) .none kV_answers_in dc_answers_in pm_answers_in an_answers_in cd_answers_in ct_answers_in), sl_answers_in⟩)
    (c_answers_in : PySem.W.codeIn K cd_answers_in "answers_in" = true)
    (k_answers_in : PySem.W.keepIn K (.ref f_answers_in) = true)
    (a_House_init : PySem.W.findIn K (.ref Cc) "__init__" = some (some (.ref f_House_init)))
    (i_House_init : PySem.W.isFn K (.ref f_House_init) = true)
    (l_House_init : K.lookup f_House_init = some ⟨oc_House_init, od_House_init, .func (PySem.W.fnOf "__init__" "House.__init__" (defArgs s_House_init) (defBody s_House_init) (defScope s_House_init) .none kV_House_init dc_House_init pm_House_init an_House_init cd_House_init ct_House_init), sl_House_init⟩)
    (c_House_init : PySem.W.codeIn K cd_House_init "House.__init__" = true)
    (k_House_init : PySem.W.keepIn K (.ref f_House_init) = true)
    (a_House_eq : PySem.W.findIn K (.ref Cc) "__eq__" = some (some (.ref f_House_eq)))
    (i_House_eq : PySem.W.isFn K (.ref f_House_eq) = true)
    (l_House_eq : K.lookup f_House_eq = some ⟨oc_House_eq, od_House_eq, .func (PySem.W.fnOf "__eq__" "House.__eq__" (defArgs s_House_eq) (defBody s_House_eq) (defScope s_House_eq) .none kV_House_eq dc_House_eq pm_House_eq an_House_eq cd_House_eq ct_House_eq), sl_House_eq⟩)
    (c_House_eq : PySem.W.codeIn K cd_House_eq "House.__eq__" = true)
    (k_House_eq : PySem.W.keepIn K (.ref f_House_eq) = true)
    (a_law_bag : PySem.W.nsIn K mainGlobals "_law_bag" = some (some (.ref f_law_bag)))
    (l_law_bag : K.lookup f_law_bag = some ⟨oc_law_bag, od_law_bag, .func (PySem.W.fnOf "_law_bag" "_law_bag" (defArgs s_law_bag) (defBody s_law_bag) (defScope s_law_bag) .none kV_law_bag dc_law_bag pm_law_bag an_law_bag cd_law_bag ct_law_bag), sl_law_bag⟩)
    (c_law_bag : PySem.W.codeIn K cd_law_bag "_law_bag" = true)
    (k_law_bag : PySem.W.keepIn K (.ref f_law_bag) = true)
    (a_law_pick : PySem.W.nsIn K mainGlobals "_law_pick" = some (some (.ref f_law_pick)))
    (l_law_pick : K.lookup f_law_pick = some ⟨oc_law_pick, od_law_pick, .func (PySem.W.fnOf "_law_pick" "_law_pick" (defArgs s_law_pick) (defBody s_law_pick) (defScope s_law_pick) .none kV_law_pick dc_law_pick pm_law_pick an_law_pick cd_law_pick ct_law_pick), sl_law_pick⟩)
    (c_law_pick : PySem.W.codeIn K cd_law_pick "_law_pick" = true)
    (k_law_pick : PySem.W.keepIn K (.ref f_law_pick) = true)
    (a_law_some : PySem.W.nsIn K mainGlobals "_law_some" = some (some (.ref f_law_some)))
    (l_law_some : K.lookup f_law_some = some ⟨oc_law_some, od_law_some, .func (PySem.W.fnOf "_law_some" "_law_some" (defArgs s_law_some) (defBody s_law_some) (defScope s_law_some) .none kV_law_some dc_law_some pm_law_some an_law_some cd_law_some ct_law_some), sl_law_some⟩)
    (c_law_some : PySem.W.codeIn K cd_law_some "_law_some" = true)
    (k_law_some : PySem.W.keepIn K (.ref f_law_some) = true)
    (a_law_common : PySem.W.nsIn K mainGlobals "_law_common" = some (some (.ref f_law_common)))
    (l_law_common : K.lookup f_law_common = some ⟨oc_law_common, od_law_common, .func (PySem.W.fnOf "_law_common" "_law_common" (defArgs s_law_common) (defBody s_law_common) (defScope s_law_common) .none kV_law_common dc_law_common pm_law_common an_law_common cd_law_common ct_law_common), sl_law_common⟩)
    (c_law_common : PySem.W.codeIn K cd_law_common "_law_common" = true)
    (k_law_common : PySem.W.keepIn K (.ref f_law_common) = true)
    (a_law_low : PySem.W.nsIn K mainGlobals "_law_low" = some (some (.ref f_law_low)))
    (l_law_low : K.lookup f_law_low = some ⟨oc_law_low, od_law_low, .func (PySem.W.fnOf "_law_low" "_law_low" (defArgs s_law_low) (defBody s_law_low) (defScope s_law_low) .none kV_law_low dc_law_low pm_law_low an_law_low cd_law_low ct_law_low), sl_law_low⟩)
    (c_law_low : PySem.W.codeIn K cd_law_low "_law_low" = true)
    (k_law_low : PySem.W.keepIn K (.ref f_law_low) = true)
    (a_law_plus : PySem.W.nsIn K mainGlobals "_law_plus" = some (some (.ref f_law_plus)))
    (l_law_plus : K.lookup f_law_plus = some ⟨oc_law_plus, od_law_plus, .func (PySem.W.fnOf "_law_plus" "_law_plus" (defArgs s_law_plus) (defBody s_law_plus) (defScope s_law_plus) .none kV_law_plus dc_law_plus pm_law_plus an_law_plus cd_law_plus ct_law_plus), sl_law_plus⟩)
    (c_law_plus : PySem.W.codeIn K cd_law_plus "_law_plus" = true)
    (k_law_plus : PySem.W.keepIn K (.ref f_law_plus) = true)
    (a_law_times : PySem.W.nsIn K mainGlobals "_law_times" = some (some (.ref f_law_times)))
    (l_law_times : K.lookup f_law_times = some ⟨oc_law_times, od_law_times, .func (PySem.W.fnOf "_law_times" "_law_times" (defArgs s_law_times) (defBody s_law_times) (defScope s_law_times) .none kV_law_times dc_law_times pm_law_times an_law_times cd_law_times ct_law_times), sl_law_times⟩)
    (c_law_times : PySem.W.codeIn K cd_law_times "_law_times" = true)
    (k_law_times : PySem.W.keepIn K (.ref f_law_times) = true)
    (a_law_total : PySem.W.nsIn K mainGlobals "_law_total" = some (some (.ref f_law_total)))
    (l_law_total : K.lookup f_law_total = some ⟨oc_law_total, od_law_total, .func (PySem.W.fnOf "_law_total" "_law_total" (defArgs s_law_total) (defBody s_law_total) (defScope s_law_total) .none kV_law_total dc_law_total pm_law_total an_law_total cd_law_total ct_law_total), sl_law_total⟩)
    (c_law_total : PySem.W.codeIn K cd_law_total "_law_total" = true)
    (k_law_total : PySem.W.keepIn K (.ref f_law_total) = true)
    (a_law_shares : PySem.W.nsIn K mainGlobals "_law_shares" = some (some (.ref f_law_shares)))
    (l_law_shares : K.lookup f_law_shares = some ⟨oc_law_shares, od_law_shares, .func (PySem.W.fnOf "_law_shares" "_law_shares" (defArgs s_law_shares) (defBody s_law_shares) (defScope s_law_shares) .none kV_law_shares dc_law_shares pm_law_shares an_law_shares cd_law_shares ct_law_shares), sl_law_shares⟩)
    (c_law_shares : PySem.W.codeIn K cd_law_shares "_law_shares" = true)
    (k_law_shares : PySem.W.keepIn K (.ref f_law_shares) = true)
    (a_law_question : PySem.W.nsIn K mainGlobals "_law_question" = some (some (.ref f_law_question)))
    (l_law_question : K.lookup f_law_question = some ⟨oc_law_question, od_law_question, .func (PySem.W.fnOf "_law_question" "_law_question" (defArgs s_law_question) (defBody s_law_question) (defScope s_law_question) .none kV_law_question dc_law_question pm_law_question an_law_question cd_law_question ct_law_question), sl_law_question⟩)
    (c_law_question : PySem.W.codeIn K cd_law_question "_law_question" = true)
    (k_law_question : PySem.W.keepIn K (.ref f_law_question) = true)
    (a_law_node : PySem.W.nsIn K mainGlobals "_law_node" = some (some (.ref f_law_node)))
    (l_law_node : K.lookup f_law_node = some ⟨oc_law_node, od_law_node, .func (PySem.W.fnOf "_law_node" "_law_node" (defArgs s_law_node) (defBody s_law_node) (defScope s_law_node) .none kV_law_node dc_law_node pm_law_node an_law_node cd_law_node ct_law_node), sl_law_node⟩)
    (c_law_node : PySem.W.codeIn K cd_law_node "_law_node" = true)
    (k_law_node : PySem.W.keepIn K (.ref f_law_node) = true)
    (a_law_tree : PySem.W.nsIn K mainGlobals "_law_tree" = some (some (.ref f_law_tree)))
    (l_law_tree : K.lookup f_law_tree = some ⟨oc_law_tree, od_law_tree, .func (PySem.W.fnOf "_law_tree" "_law_tree" (defArgs s_law_tree) (defBody s_law_tree) (defScope s_law_tree) .none kV_law_tree dc_law_tree pm_law_tree an_law_tree cd_law_tree ct_law_tree), sl_law_tree⟩)
    (c_law_tree : PySem.W.codeIn K cd_law_tree "_law_tree" = true)
    (k_law_tree : PySem.W.keepIn K (.ref f_law_tree) = true)
    (a_law_deep : PySem.W.nsIn K mainGlobals "_law_deep" = some (some (.ref f_law_deep)))
    (l_law_deep : K.lookup f_law_deep = some ⟨oc_law_deep, od_law_deep, .func (PySem.W.fnOf "_law_deep" "_law_deep" (defArgs s_law_deep) (defBody s_law_deep) (defScope s_law_deep) .none kV_law_deep dc_law_deep pm_law_deep an_law_deep cd_law_deep ct_law_deep), sl_law_deep⟩)
    (c_law_deep : PySem.W.codeIn K cd_law_deep "_law_deep" = true)
    (k_law_deep : PySem.W.keepIn K (.ref f_law_deep) = true)
    (a_law_int : PySem.W.nsIn K mainGlobals "_law_int" = some (some (.ref f_law_int)))
    (l_law_int : K.lookup f_law_int = some ⟨oc_law_int, od_law_int, .func (PySem.W.fnOf "_law_int" "_law_int" (defArgs s_law_int) (defBody s_law_int) (defScope s_law_int) .none kV_law_int dc_law_int pm_law_int an_law_int cd_law_int ct_law_int), sl_law_int⟩)
    (c_law_int : PySem.W.codeIn K cd_law_int "_law_int" = true)
    (k_law_int : PySem.W.keepIn K (.ref f_law_int) = true)
    (a_law_gains : PySem.W.nsIn K mainGlobals "_law_gains" = some (some (.ref f_law_gains)))
    (l_law_gains : K.lookup f_law_gains = some ⟨oc_law_gains, od_law_gains, .func (PySem.W.fnOf "_law_gains" "_law_gains" (defArgs s_law_gains) (defBody s_law_gains) (defScope s_law_gains) .none kV_law_gains dc_law_gains pm_law_gains an_law_gains cd_law_gains ct_law_gains), sl_law_gains⟩)
    (c_law_gains : PySem.W.codeIn K cd_law_gains "_law_gains" = true)
    (k_law_gains : PySem.W.keepIn K (.ref f_law_gains) = true)
    (a_law_asker : PySem.W.nsIn K mainGlobals "_law_asker" = some (some (.ref f_law_asker)))
    (l_law_asker : K.lookup f_law_asker = some ⟨oc_law_asker, od_law_asker, .func (PySem.W.fnOf "_law_asker" "_law_asker" (defArgs s_law_asker) (defBody s_law_asker) (defScope s_law_asker) .none kV_law_asker dc_law_asker pm_law_asker an_law_asker cd_law_asker ct_law_asker), sl_law_asker⟩)
    (c_law_asker : PySem.W.codeIn K cd_law_asker "_law_asker" = true)
    (k_law_asker : PySem.W.keepIn K (.ref f_law_asker) = true)
    (a_law_is_asker : PySem.W.nsIn K mainGlobals "_law_is_asker" = some (some (.ref f_law_is_asker)))
    (l_law_is_asker : K.lookup f_law_is_asker = some ⟨oc_law_is_asker, od_law_is_asker, .func (PySem.W.fnOf "_law_is_asker" "_law_is_asker" (defArgs s_law_is_asker) (defBody s_law_is_asker) (defScope s_law_is_asker) .none kV_law_is_asker dc_law_is_asker pm_law_is_asker an_law_is_asker cd_law_is_asker ct_law_is_asker), sl_law_is_asker⟩)
    (c_law_is_asker : PySem.W.codeIn K cd_law_is_asker "_law_is_asker" = true)
    (k_law_is_asker : PySem.W.keepIn K (.ref f_law_is_asker) = true)
    (a_law_is_fraction : PySem.W.nsIn K mainGlobals "_law_is_fraction" = some (some (.ref f_law_is_fraction)))
    (l_law_is_fraction : K.lookup f_law_is_fraction = some ⟨oc_law_is_fraction, od_law_is_fraction, .func (PySem.W.fnOf "_law_is_fraction" "_law_is_fraction" (defArgs s_law_is_fraction) (defBody s_law_is_fraction) (defScope s_law_is_fraction) .none kV_law_is_fraction dc_law_is_fraction pm_law_is_fraction an_law_is_fraction cd_law_is_fraction ct_law_is_fraction), sl_law_is_fraction⟩)
    (c_law_is_fraction : PySem.W.codeIn K cd_law_is_fraction "_law_is_fraction" = true)
    (k_law_is_fraction : PySem.W.keepIn K (.ref f_law_is_fraction) = true)
    (a_law_is_prior : PySem.W.nsIn K mainGlobals "_law_is_prior" = some (some (.ref f_law_is_prior)))
    (l_law_is_prior : K.lookup f_law_is_prior = some ⟨oc_law_is_prior, od_law_is_prior, .func (PySem.W.fnOf "_law_is_prior" "_law_is_prior" (defArgs s_law_is_prior) (defBody s_law_is_prior) (defScope s_law_is_prior) .none kV_law_is_prior dc_law_is_prior pm_law_is_prior an_law_is_prior cd_law_is_prior ct_law_is_prior), sl_law_is_prior⟩)
    (c_law_is_prior : PySem.W.codeIn K cd_law_is_prior "_law_is_prior" = true)
    (k_law_is_prior : PySem.W.keepIn K (.ref f_law_is_prior) = true)
    (a_law_are_gains : PySem.W.nsIn K mainGlobals "_law_are_gains" = some (some (.ref f_law_are_gains)))
    (l_law_are_gains : K.lookup f_law_are_gains = some ⟨oc_law_are_gains, od_law_are_gains, .func (PySem.W.fnOf "_law_are_gains" "_law_are_gains" (defArgs s_law_are_gains) (defBody s_law_are_gains) (defScope s_law_are_gains) .none kV_law_are_gains dc_law_are_gains pm_law_are_gains an_law_are_gains cd_law_are_gains ct_law_are_gains), sl_law_are_gains⟩)
    (c_law_are_gains : PySem.W.codeIn K cd_law_are_gains "_law_are_gains" = true)
    (k_law_are_gains : PySem.W.keepIn K (.ref f_law_are_gains) = true)
    (a_law_odd : PySem.W.nsIn K mainGlobals "_law_odd" = some (some (.ref f_law_odd)))
    (l_law_odd : K.lookup f_law_odd = some ⟨oc_law_odd, od_law_odd, .func (PySem.W.fnOf "_law_odd" "_law_odd" (defArgs s_law_odd) (defBody s_law_odd) (defScope s_law_odd) .none kV_law_odd dc_law_odd pm_law_odd an_law_odd cd_law_odd ct_law_odd), sl_law_odd⟩)
    (c_law_odd : PySem.W.codeIn K cd_law_odd "_law_odd" = true)
    (k_law_odd : PySem.W.keepIn K (.ref f_law_odd) = true)
    (a_law_bent : PySem.W.nsIn K mainGlobals "_law_bent" = some (some (.ref f_law_bent)))
    (l_law_bent : K.lookup f_law_bent = some ⟨oc_law_bent, od_law_bent, .func (PySem.W.fnOf "_law_bent" "_law_bent" (defArgs s_law_bent) (defBody s_law_bent) (defScope s_law_bent) .none kV_law_bent dc_law_bent pm_law_bent an_law_bent cd_law_bent ct_law_bent), sl_law_bent⟩)
    (c_law_bent : PySem.W.codeIn K cd_law_bent "_law_bent" = true)
    (k_law_bent : PySem.W.keepIn K (.ref f_law_bent) = true)
    (a_law_word : PySem.W.nsIn K mainGlobals "_law_word" = some (some (.ref f_law_word)))
    (l_law_word : K.lookup f_law_word = some ⟨oc_law_word, od_law_word, .func (PySem.W.fnOf "_law_word" "_law_word" (defArgs s_law_word) (defBody s_law_word) (defScope s_law_word) .none kV_law_word dc_law_word pm_law_word an_law_word cd_law_word ct_law_word), sl_law_word⟩)
    (c_law_word : PySem.W.codeIn K cd_law_word "_law_word" = true)
    (k_law_word : PySem.W.keepIn K (.ref f_law_word) = true)
    (a_law_due : PySem.W.nsIn K mainGlobals "_law_due" = some (some (.ref f_law_due)))
    (l_law_due : K.lookup f_law_due = some ⟨oc_law_due, od_law_due, .func (PySem.W.fnOf "_law_due" "_law_due" (defArgs s_law_due) (defBody s_law_due) (defScope s_law_due) .none kV_law_due dc_law_due pm_law_due an_law_due cd_law_due ct_law_due), sl_law_due⟩)
    (c_law_due : PySem.W.codeIn K cd_law_due "_law_due" = true)
    (k_law_due : PySem.W.keepIn K (.ref f_law_due) = true)
    (a_law_asker_edge : PySem.W.nsIn K mainGlobals "_law_asker_edge" = some (some (.ref f_law_asker_edge)))
    (l_law_asker_edge : K.lookup f_law_asker_edge = some ⟨oc_law_asker_edge, od_law_asker_edge, .func (PySem.W.fnOf "_law_asker_edge" "_law_asker_edge" (defArgs s_law_asker_edge) (defBody s_law_asker_edge) (defScope s_law_asker_edge) .none kV_law_asker_edge dc_law_asker_edge pm_law_asker_edge an_law_asker_edge cd_law_asker_edge ct_law_asker_edge), sl_law_asker_edge⟩)
    (c_law_asker_edge : PySem.W.codeIn K cd_law_asker_edge "_law_asker_edge" = true)
    (k_law_asker_edge : PySem.W.keepIn K (.ref f_law_asker_edge) = true)
    (a_law_edged : PySem.W.nsIn K mainGlobals "_law_edged" = some (some (.ref f_law_edged)))
    (l_law_edged : K.lookup f_law_edged = some ⟨oc_law_edged, od_law_edged, .func (PySem.W.fnOf "_law_edged" "_law_edged" (defArgs s_law_edged) (defBody s_law_edged) (defScope s_law_edged) .none kV_law_edged dc_law_edged pm_law_edged an_law_edged cd_law_edged ct_law_edged), sl_law_edged⟩)
    (c_law_edged : PySem.W.codeIn K cd_law_edged "_law_edged" = true)
    (k_law_edged : PySem.W.keepIn K (.ref f_law_edged) = true)
    (a_law : PySem.W.nsIn K mainGlobals "law" = some (some (.ref f_law)))
    (l_law : K.lookup f_law = some ⟨oc_law, od_law, .func (PySem.W.fnOf "law" "law" (defArgs s_law) (defBody s_law) (defScope s_law) .none kV_law dc_law pm_law an_law cd_law ct_law), sl_law⟩)
    (c_law : PySem.W.codeIn K cd_law "law" = true)
    (k_law : PySem.W.keepIn K (.ref f_law) = true)
    (pgC : PySem.W.plainGet K Cc Str.empty = true)
    (hdC : PySem.W.hasDictIn K Cc = true)
    (poC : PySem.W.plainOver K Cc = true)
    (saC : PySem.W.findIn K (.ref Cc) "__setattr__" = some (some (.builtin "object.__setattr__")))
    (mkC : PySem.W.makesIn K Cc = true)
    (kcC : PySem.W.keepIn K (.ref Cc) = true)
    (nwC : PySem.W.findIn K (.ref Cc) "worlds" = some none)
    (ntC : PySem.W.findIn K (.ref Cc) "tree" = some none)
    (haC : PySem.W.findIn K (.ref Cc) "__class__" = some (some (.builtin "object.__class__")))
    (hnC : PySem.W.specialIn K (.builtin "object.__class__") "__get__" = some (some (.builtin "getset_descriptor.__get__")))
    (htC : PySem.W.takesIn K (.builtin "object.__class__") = some true)
    (hmC : PySem.W.mroIn K Cc (.type "object") = some true)
    (gcd : PySem.W.nsIn K mainGlobals "gcd" = some (some (.builtin "math.gcd")))
    (lcm : PySem.W.nsIn K mainGlobals "lcm" = some (some (.builtin "math.lcm")))
    (aO0 : PySem.W.nsIn K mainGlobals "ONE" = some (some (.ref aO)))
    (lO : K.lookup aO = some ⟨.type "tuple", odO, .seq #[.int 1 tO1, .int 1 tO2] nO, slO⟩)
    (m_MOST_QUESTIONS : PySem.W.nsIn K mainGlobals "MOST_QUESTIONS" = some (some (.int 5 t1)))
    (m_MOST_WORDS : PySem.W.nsIn K mainGlobals "MOST_WORDS" = some (some (.int 12 t2)))
    (m_MOST_NUMBERS : PySem.W.nsIn K mainGlobals "MOST_NUMBERS" = some (some (.int 8 t3)))
    (m_MOST_ON_A_WAY : PySem.W.nsIn K mainGlobals "MOST_ON_A_WAY" = some (some (.int 8 t4)))
    (m_MOST_PASSED : PySem.W.nsIn K mainGlobals "MOST_PASSED" = some (some (.int 1500 t5)))
    (m_MOST_WORLDS : PySem.W.nsIn K mainGlobals "MOST_WORLDS" = some (some (.int 5 t_MOST_WORLDS)))
    (mT : PySem.W.mroIn K Cc (.type "tuple") = some false)
    (mI : PySem.W.mroIn K Cc (.type "int") = some false)
    (mS : PySem.W.mroIn K Cc (.type "str") = some false)
    (z_str : PySem.W.nsIn K mainGlobals "str" = some none)
    (a_HouseError : PySem.W.nsIn K mainGlobals "HouseError" = some (some (.ref C_HouseError)))
    (x_HouseError : K.lookup C_HouseError = some (excClassObj nm_HouseError qn_HouseError C_HouseError N_HouseError bs_HouseError veMro true sn_HouseError sub_HouseError ab_HouseError col_HouseError dd_HouseError k0_HouseError k1_HouseError k2_HouseError k3_HouseError k5_HouseError "ValueError.__new__"))
    (sa_HouseError : PySem.W.findIn K (.ref C_HouseError) "__setattr__" = some (some (.builtin "object.__setattr__")))
    (kp_HouseError : PySem.W.keepIn K (.ref C_HouseError) = true)
    (hg_HouseError : PySem.W.findIn K (.ref C_HouseError) "__getattribute__" = some (some (.builtin "BaseException.__getattribute__")))
    (hk_HouseError : PySem.W.findIn K (.ref C_HouseError) "__getattr__" = some none)
    (hc_HouseError : PySem.W.findIn K (.ref C_HouseError) "__class__" = some (some (.builtin "object.__class__")))
    (a_NoPrior : PySem.W.nsIn K mainGlobals "NoPrior" = some (some (.ref C_NoPrior)))
    (x_NoPrior : K.lookup C_NoPrior = some (excClassObj nm_NoPrior qn_NoPrior C_NoPrior N_NoPrior bs_NoPrior (.ref C_HouseError :: veMro) true sn_NoPrior sub_NoPrior ab_NoPrior col_NoPrior dd_NoPrior k0_NoPrior k1_NoPrior k2_NoPrior k3_NoPrior k5_NoPrior "ValueError.__new__"))
    (sa_NoPrior : PySem.W.findIn K (.ref C_NoPrior) "__setattr__" = some (some (.builtin "object.__setattr__")))
    (kp_NoPrior : PySem.W.keepIn K (.ref C_NoPrior) = true)
    (hg_NoPrior : PySem.W.findIn K (.ref C_NoPrior) "__getattribute__" = some (some (.builtin "BaseException.__getattribute__")))
    (hk_NoPrior : PySem.W.findIn K (.ref C_NoPrior) "__getattr__" = some none)
    (hc_NoPrior : PySem.W.findIn K (.ref C_NoPrior) "__class__" = some (some (.builtin "object.__class__")))
    (q_NoPrior : PySem.W.excIn K C_NoPrior veMro "ValueError.__new__" = true)
    (a_NoGains : PySem.W.nsIn K mainGlobals "NoGains" = some (some (.ref C_NoGains)))
    (x_NoGains : K.lookup C_NoGains = some (excClassObj nm_NoGains qn_NoGains C_NoGains N_NoGains bs_NoGains (.ref C_HouseError :: veMro) true sn_NoGains sub_NoGains ab_NoGains col_NoGains dd_NoGains k0_NoGains k1_NoGains k2_NoGains k3_NoGains k5_NoGains "ValueError.__new__"))
    (sa_NoGains : PySem.W.findIn K (.ref C_NoGains) "__setattr__" = some (some (.builtin "object.__setattr__")))
    (kp_NoGains : PySem.W.keepIn K (.ref C_NoGains) = true)
    (hg_NoGains : PySem.W.findIn K (.ref C_NoGains) "__getattribute__" = some (some (.builtin "BaseException.__getattribute__")))
    (hk_NoGains : PySem.W.findIn K (.ref C_NoGains) "__getattr__" = some none)
    (hc_NoGains : PySem.W.findIn K (.ref C_NoGains) "__class__" = some (some (.builtin "object.__class__")))
    (q_NoGains : PySem.W.excIn K C_NoGains veMro "ValueError.__new__" = true)
    (a_NoAsker : PySem.W.nsIn K mainGlobals "NoAsker" = some (some (.ref C_NoAsker)))
    (x_NoAsker : K.lookup C_NoAsker = some (excClassObj nm_NoAsker qn_NoAsker C_NoAsker N_NoAsker bs_NoAsker (.ref C_HouseError :: veMro) true sn_NoAsker sub_NoAsker ab_NoAsker col_NoAsker dd_NoAsker k0_NoAsker k1_NoAsker k2_NoAsker k3_NoAsker k5_NoAsker "ValueError.__new__"))
    (sa_NoAsker : PySem.W.findIn K (.ref C_NoAsker) "__setattr__" = some (some (.builtin "object.__setattr__")))
    (kp_NoAsker : PySem.W.keepIn K (.ref C_NoAsker) = true)
    (hg_NoAsker : PySem.W.findIn K (.ref C_NoAsker) "__getattribute__" = some (some (.builtin "BaseException.__getattribute__")))
    (hk_NoAsker : PySem.W.findIn K (.ref C_NoAsker) "__getattr__" = some none)
    (hc_NoAsker : PySem.W.findIn K (.ref C_NoAsker) "__class__" = some (some (.builtin "object.__class__")))
    (q_NoAsker : PySem.W.excIn K C_NoAsker veMro "ValueError.__new__" = true)
    (xnodup : [C_HouseError, C_NoPrior, C_NoGains, C_NoAsker].Nodup)
    (z_len : PySem.W.nsIn K mainGlobals "len" = some none)
    (z_int : PySem.W.nsIn K mainGlobals "int" = some none)
    (z_abs : PySem.W.nsIn K mainGlobals "abs" = some none)
    (z_sum : PySem.W.nsIn K mainGlobals "sum" = some none)
    (z_range : PySem.W.nsIn K mainGlobals "range" = some none)
    (z_repr : PySem.W.nsIn K mainGlobals "repr" = some none)
    (z_isinstance : PySem.W.nsIn K mainGlobals "isinstance" = some none)
    (z_any : PySem.W.nsIn K mainGlobals "any" = some none)
    (z_all : PySem.W.nsIn K mainGlobals "all" = some none)
    (z_tuple : PySem.W.nsIn K mainGlobals "tuple" = some none)
    (z_list : PySem.W.nsIn K mainGlobals "list" = some none)
    (z_zip : PySem.W.nsIn K mainGlobals "zip" = some none)
    (z_enumerate : PySem.W.nsIn K mainGlobals "enumerate" = some none)
    (z_max : PySem.W.nsIn K mainGlobals "max" = some none)
    (z_bool : PySem.W.nsIn K mainGlobals "bool" = some none) :
    ∃ fd : FuncData, (∀ (s : Shared) (v : Value), BindsTo s fd ⟨[v], []⟩ [("script", v)]) ∧ ∀ base : Heap, K.In base → base.Ns mainGlobals mg → FnG l.prog w K mg base CX0 52 fa fd ["script"] (spTrue K) := by
  have e := hfa.symm.trans (PySem.W.mg_of X G a_law)
  cases e
  have B : Blt mg := ⟨PySem.W.mg_none_of X G z_len, PySem.W.mg_none_of X G z_int, PySem.W.mg_none_of X G z_abs, PySem.W.mg_none_of X G z_sum, PySem.W.mg_none_of X G z_range, PySem.W.mg_none_of X G z_repr, PySem.W.mg_none_of X G z_isinstance, PySem.W.mg_none_of X G z_any, PySem.W.mg_none_of X G z_all, PySem.W.mg_none_of X G z_tuple, PySem.W.mg_none_of X G z_list, PySem.W.mg_none_of X G z_zip, PySem.W.mg_none_of X G z_enumerate, PySem.W.mg_none_of X G z_max, PySem.W.mg_none_of X G z_bool⟩
  have tO : ∀ H : Hp, SqT K H aO [.int 1, .int 1] := fun H => .inr ⟨_, #[.int 1 tO1, .int 1 tO2], nO, lO, rfl, rfl, by show 2 ≤ sizeLine; decide, .cons ⟨tO1, rfl⟩ (.cons ⟨tO2, rfl⟩ .nil)⟩
  have C : Cst K mg aO aO t1 t2 t3 t4 t5 tO1 tO1 := ⟨PySem.W.mg_of X G gcd, PySem.W.mg_of X G lcm, PySem.W.mg_of X G aO0, tO, PySem.W.mg_of X G m_MOST_QUESTIONS, PySem.W.mg_of X G m_MOST_WORDS, PySem.W.mg_of X G m_MOST_NUMBERS, PySem.W.mg_of X G m_MOST_ON_A_WAY, PySem.W.mg_of X G m_MOST_PASSED⟩
  have C_MOST_WORLDS : mg "MOST_WORLDS" = some (.int 5 t_MOST_WORLDS) := PySem.W.mg_of X G m_MOST_WORLDS
  have U : Hcl K mg Cc f_House_init f_House_eq := ⟨⟨pgC, hdC, poC, saC⟩, nwC, ntC, ⟨mkC, a_House_init, i_House_init, kcC⟩, a_House_eq, i_House_eq, PySem.W.mg_of X G aC, haC, hnC, htC, hmC⟩
  have XF_HouseError : XFact K mg "HouseError" C_HouseError veMro := exc_cls (PySem.W.mg_of X G a_HouseError) x_HouseError rfl (by decide +kernel) (by decide +kernel) sa_HouseError kp_HouseError hg_HouseError hk_HouseError hc_HouseError hnC htC
  have XF_NoPrior : XFact K mg "NoPrior" C_NoPrior (.ref C_HouseError :: veMro) := exc_cls (PySem.W.mg_of X G a_NoPrior) x_NoPrior rfl ve_in.1 ve_in.2 sa_NoPrior kp_NoPrior hg_NoPrior hk_NoPrior hc_NoPrior hnC htC
  have X_NoPrior : XRs K mg C_HouseError "NoPrior" C_NoPrior := ⟨XF_NoPrior, q_NoPrior, fun z => by simp [z] at xnodup⟩
  have XF_NoGains : XFact K mg "NoGains" C_NoGains (.ref C_HouseError :: veMro) := exc_cls (PySem.W.mg_of X G a_NoGains) x_NoGains rfl ve_in.1 ve_in.2 sa_NoGains kp_NoGains hg_NoGains hk_NoGains hc_NoGains hnC htC
  have X_NoGains : XRs K mg C_HouseError "NoGains" C_NoGains := ⟨XF_NoGains, q_NoGains, fun z => by simp [z] at xnodup⟩
  have XF_NoAsker : XFact K mg "NoAsker" C_NoAsker (.ref C_HouseError :: veMro) := exc_cls (PySem.W.mg_of X G a_NoAsker) x_NoAsker rfl ve_in.1 ve_in.2 sa_NoAsker kp_NoAsker hg_NoAsker hk_NoAsker hc_NoAsker hnC htC
  have X_NoAsker : XRs K mg C_HouseError "NoAsker" C_NoAsker := ⟨XF_NoAsker, q_NoAsker, fun z => by simp [z] at xnodup⟩
  have X_HouseError := XF_HouseError
  have BS : mg "str" = none := PySem.W.mg_none_of X G z_str
  have F_is_integral := fun_mk (st := s_is_integral) l_is_integral c_is_integral k_is_integral
  have D_is_integral : Dn K mg "is_integral" s_is_integral ["thing"] f_is_integral _ := ⟨F_is_integral, F_is_integral.binds (ps := ["thing"]) fun _ _ _ _ _ _ us hl => match us, hl with | [_], _ => rfl, PySem.W.mg_of X G a_is_integral⟩
  have F_is_number := fun_mk (st := s_is_number) l_is_number c_is_number k_is_number
  have D_is_number : Dn K mg "is_number" s_is_number ["thing", "least", "most"] f_is_number _ := ⟨F_is_number, F_is_number.binds (ps := ["thing", "least", "most"]) fun _ _ _ _ _ _ us hl => match us, hl with | [_, _, _], _ => rfl, PySem.W.mg_of X G a_is_number⟩
  have F_is_fraction := fun_mk (st := s_is_fraction) l_is_fraction c_is_fraction k_is_fraction
  have D_is_fraction : Dn K mg "is_fraction" s_is_fraction ["thing"] f_is_fraction _ := ⟨F_is_fraction, F_is_fraction.binds (ps := ["thing"]) fun _ _ _ _ _ _ us hl => match us, hl with | [_], _ => rfl, PySem.W.mg_of X G a_is_fraction⟩
  have F_is_chance := fun_mk (st := s_is_chance) l_is_chance c_is_chance k_is_chance
  have D_is_chance : Dn K mg "is_chance" s_is_chance ["thing"] f_is_chance _ := ⟨F_is_chance, F_is_chance.binds (ps := ["thing"]) fun _ _ _ _ _ _ us hl => match us, hl with | [_], _ => rfl, PySem.W.mg_of X G a_is_chance⟩
  have F_are_fractions := fun_mk (st := s_are_fractions) l_are_fractions c_are_fractions k_are_fractions
  have D_are_fractions : Dn K mg "are_fractions" s_are_fractions ["thing", "many"] f_are_fractions _ := ⟨F_are_fractions, F_are_fractions.binds (ps := ["thing", "many"]) fun _ _ _ _ _ _ us hl => match us, hl with | [_, _], _ => rfl, PySem.W.mg_of X G a_are_fractions⟩
  have F_are_chances := fun_mk (st := s_are_chances) l_are_chances c_are_chances k_are_chances
  have D_are_chances : Dn K mg "are_chances" s_are_chances ["thing", "many"] f_are_chances _ := ⟨F_are_chances, F_are_chances.binds (ps := ["thing", "many"]) fun _ _ _ _ _ _ us hl => match us, hl with | [_, _], _ => rfl, PySem.W.mg_of X G a_are_chances⟩
  have F_is_prior := fun_mk (st := s_is_prior) l_is_prior c_is_prior k_is_prior
  have D_is_prior : Dn K mg "is_prior" s_is_prior ["thing", "worlds"] f_is_prior _ := ⟨F_is_prior, F_is_prior.binds (ps := ["thing", "worlds"]) fun _ _ _ _ _ _ us hl => match us, hl with | [_, _], _ => rfl, PySem.W.mg_of X G a_is_prior⟩
  have F_reduced := fun_mk (st := s_reduced) l_reduced c_reduced k_reduced
  have D_reduced : Dn K mg "reduced" s_reduced ["top", "bottom"] f_reduced _ := ⟨F_reduced, F_reduced.binds (ps := ["top", "bottom"]) fun _ _ _ _ _ _ us hl => match us, hl with | [_, _], _ => rfl, PySem.W.mg_of X G a_reduced⟩
  have F_multiplied := fun_mk (st := s_multiplied) l_multiplied c_multiplied k_multiplied
  have D_multiplied : Dn K mg "multiplied" s_multiplied ["first", "second"] f_multiplied _ := ⟨F_multiplied, F_multiplied.binds (ps := ["first", "second"]) fun _ _ _ _ _ _ us hl => match us, hl with | [_, _], _ => rfl, PySem.W.mg_of X G a_multiplied⟩
  have F_is_less := fun_mk (st := s_is_less) l_is_less c_is_less k_is_less
  have D_is_less : Dn K mg "is_less" s_is_less ["first", "second"] f_is_less _ := ⟨F_is_less, F_is_less.binds (ps := ["first", "second"]) fun _ _ _ _ _ _ us hl => match us, hl with | [_, _], _ => rfl, PySem.W.mg_of X G a_is_less⟩
  have F_greatest_of := fun_mk (st := s_greatest_of) l_greatest_of c_greatest_of k_greatest_of
  have D_greatest_of : Dn K mg "greatest_of" s_greatest_of ["fractions"] f_greatest_of _ := ⟨F_greatest_of, F_greatest_of.binds (ps := ["fractions"]) fun _ _ _ _ _ _ us hl => match us, hl with | [_], _ => rfl, PySem.W.mg_of X G a_greatest_of⟩
  have F_common_bottom := fun_mk (st := s_common_bottom) l_common_bottom c_common_bottom k_common_bottom
  have D_common_bottom : Dn K mg "common_bottom" s_common_bottom ["fractions"] f_common_bottom _ := ⟨F_common_bottom, F_common_bottom.binds (ps := ["fractions"]) fun _ _ _ _ _ _ us hl => match us, hl with | [_], _ => rfl, PySem.W.mg_of X G a_common_bottom⟩
  have F_times_whole := fun_mk (st := s_times_whole) l_times_whole c_times_whole k_times_whole
  have D_times_whole : Dn K mg "times_whole" s_times_whole ["fraction", "whole"] f_times_whole _ := ⟨F_times_whole, F_times_whole.binds (ps := ["fraction", "whole"]) fun _ _ _ _ _ _ us hl => match us, hl with | [_, _], _ => rfl, PySem.W.mg_of X G a_times_whole⟩
  have F_total := fun_mk (st := s_total) l_total c_total k_total
  have D_total : Dn K mg "total" s_total ["fractions"] f_total _ := ⟨F_total, F_total.binds (ps := ["fractions"]) fun _ _ _ _ _ _ us hl => match us, hl with | [_], _ => rfl, PySem.W.mg_of X G a_total⟩
  have F_total_weights := fun_mk (st := s_total_weights) l_total_weights c_total_weights k_total_weights
  have D_total_weights : Dn K mg "total_weights" s_total_weights ["rows", "worlds"] f_total_weights _ := ⟨F_total_weights, F_total_weights.binds (ps := ["rows", "worlds"]) fun _ _ _ _ _ _ us hl => match us, hl with | [_, _], _ => rfl, PySem.W.mg_of X G a_total_weights⟩
  have F_paid_for := fun_mk (st := s_paid_for) l_paid_for c_paid_for k_paid_for
  have D_paid_for : Dn K mg "paid_for" s_paid_for ["prior", "weights", "pays"] f_paid_for _ := ⟨F_paid_for, F_paid_for.binds (ps := ["prior", "weights", "pays"]) fun _ _ _ _ _ _ us hl => match us, hl with | [_, _, _], _ => rfl, PySem.W.mg_of X G a_paid_for⟩
  have F_are_gains := fun_mk (st := s_are_gains) l_are_gains c_are_gains k_are_gains
  have D_are_gains : Dn K mg "are_gains" s_are_gains ["thing", "worlds"] f_are_gains _ := ⟨F_are_gains, F_are_gains.binds (ps := ["thing", "worlds"]) fun _ _ _ _ _ _ us hl => match us, hl with | [_, _], _ => rfl, PySem.W.mg_of X G a_are_gains⟩
  have F_is_asker := fun_mk (st := s_is_asker) l_is_asker c_is_asker k_is_asker
  have D_is_asker : Dn K mg "is_asker" s_is_asker ["thing", "node", "deeds"] f_is_asker _ := ⟨F_is_asker, F_is_asker.binds (ps := ["thing", "node", "deeds"]) fun _ _ _ _ _ _ us hl => match us, hl with | [_, _, _], _ => rfl, PySem.W.mg_of X G a_is_asker⟩
  have F_check_prior := fun_mk (st := s_check_prior) l_check_prior c_check_prior k_check_prior
  have D_check_prior : Dn K mg "check_prior" s_check_prior ["prior", "worlds"] f_check_prior _ := ⟨F_check_prior, F_check_prior.binds (ps := ["prior", "worlds"]) fun _ _ _ _ _ _ us hl => match us, hl with | [_, _], _ => rfl, PySem.W.mg_of X G a_check_prior⟩
  have F_check_gains := fun_mk (st := s_check_gains) l_check_gains c_check_gains k_check_gains
  have D_check_gains : Dn K mg "check_gains" s_check_gains ["gains", "worlds"] f_check_gains _ := ⟨F_check_gains, F_check_gains.binds (ps := ["gains", "worlds"]) fun _ _ _ _ _ _ us hl => match us, hl with | [_, _], _ => rfl, PySem.W.mg_of X G a_check_gains⟩
  have F_gets_at := fun_mk (st := s_gets_at) l_gets_at c_gets_at k_gets_at
  have D_gets_at : Dn K mg "gets_at" s_gets_at ["node", "weights", "prior", "gains", "asker"] f_gets_at _ := ⟨F_gets_at, F_gets_at.binds (ps := ["node", "weights", "prior", "gains", "asker"]) fun _ _ _ _ _ _ us hl => match us, hl with | [_, _, _, _, _], _ => rfl, PySem.W.mg_of X G a_gets_at⟩
  have F_asker_gets := fun_mk (st := s_asker_gets) l_asker_gets c_asker_gets k_asker_gets
  have D_asker_gets : Dn K mg "asker_gets" s_asker_gets ["house", "prior", "gains", "asker"] f_asker_gets _ := ⟨F_asker_gets, F_asker_gets.binds (ps := ["house", "prior", "gains", "asker"]) fun _ _ _ _ _ _ us hl => match us, hl with | [_, _, _, _], _ => rfl, PySem.W.mg_of X G a_asker_gets⟩
  have F_best_stop := fun_mk (st := s_best_stop) l_best_stop c_best_stop k_best_stop
  have D_best_stop : Dn K mg "best_stop" s_best_stop ["weights", "prior", "gains"] f_best_stop _ := ⟨F_best_stop, F_best_stop.binds (ps := ["weights", "prior", "gains"]) fun _ _ _ _ _ _ us hl => match us, hl with | [_, _, _], _ => rfl, PySem.W.mg_of X G a_best_stop⟩
  have F_best_at := fun_mk (st := s_best_at) l_best_at c_best_at k_best_at
  have D_best_at : Dn K mg "best_at" s_best_at ["node", "weights", "prior", "gains"] f_best_at _ := ⟨F_best_at, F_best_at.binds (ps := ["node", "weights", "prior", "gains"]) fun _ _ _ _ _ _ us hl => match us, hl with | [_, _, _, _], _ => rfl, PySem.W.mg_of X G a_best_at⟩
  have F_best_way := fun_mk (st := s_best_way) l_best_way c_best_way k_best_way
  have D_best_way : Dn K mg "best_way" s_best_way ["house", "prior", "gains"] f_best_way _ := ⟨F_best_way, F_best_way.binds (ps := ["house", "prior", "gains"]) fun _ _ _ _ _ _ us hl => match us, hl with | [_, _, _], _ => rfl, PySem.W.mg_of X G a_best_way⟩
  have F_worth := fun_mk (st := s_worth) l_worth c_worth k_worth
  have D_worth : Dn K mg "worth" s_worth ["house", "prior", "gains"] f_worth _ := ⟨F_worth, F_worth.binds (ps := ["house", "prior", "gains"]) fun _ _ _ _ _ _ us hl => match us, hl with | [_, _, _], _ => rfl, PySem.W.mg_of X G a_worth⟩
  have F_best_asker := fun_mk (st := s_best_asker) l_best_asker c_best_asker k_best_asker
  have D_best_asker : Dn K mg "best_asker" s_best_asker ["house", "prior", "gains"] f_best_asker _ := ⟨F_best_asker, F_best_asker.binds (ps := ["house", "prior", "gains"]) fun _ _ _ _ _ _ us hl => match us, hl with | [_, _, _], _ => rfl, PySem.W.mg_of X G a_best_asker⟩
  have F_worth_unasked := fun_mk (st := s_worth_unasked) l_worth_unasked c_worth_unasked k_worth_unasked
  have D_worth_unasked : Dn K mg "worth_unasked" s_worth_unasked ["prior", "gains"] f_worth_unasked _ := ⟨F_worth_unasked, F_worth_unasked.binds (ps := ["prior", "gains"]) fun _ _ _ _ _ _ us hl => match us, hl with | [_, _], _ => rfl, PySem.W.mg_of X G a_worth_unasked⟩
  have F_is_word := fun_mk (st := s_is_word) l_is_word c_is_word k_is_word
  have D_is_word : Dn K mg "is_word" s_is_word ["thing"] f_is_word _ := ⟨F_is_word, F_is_word.binds (ps := ["thing"]) fun _ _ _ _ _ _ us hl => match us, hl with | [_], _ => rfl, PySem.W.mg_of X G a_is_word⟩
  have F_is_answer := fun_mk (st := s_is_answer) l_is_answer c_is_answer k_is_answer
  have D_is_answer : Dn K mg "is_answer" s_is_answer ["thing", "worlds"] f_is_answer _ := ⟨F_is_answer, F_is_answer.binds (ps := ["thing", "worlds"]) fun _ _ _ _ _ _ us hl => match us, hl with | [_, _], _ => rfl, PySem.W.mg_of X G a_is_answer⟩
  have F_is_ascending := fun_mk (st := s_is_ascending) l_is_ascending c_is_ascending k_is_ascending
  have D_is_ascending : Dn K mg "is_ascending" s_is_ascending ["rows"] f_is_ascending _ := ⟨F_is_ascending, F_is_ascending.binds (ps := ["rows"]) fun _ _ _ _ _ _ us hl => match us, hl with | [_], _ => rfl, PySem.W.mg_of X G a_is_ascending⟩
  have F_check_tree := fun_mk (st := s_check_tree) l_check_tree c_check_tree k_check_tree
  have D_check_tree : Dn K mg "check_tree" s_check_tree ["worlds", "tree"] f_check_tree _ := ⟨F_check_tree, F_check_tree.binds (ps := ["worlds", "tree"]) fun _ _ _ _ _ _ us hl => match us, hl with | [_, _], _ => rfl, PySem.W.mg_of X G a_check_tree⟩
  have F_check_node := fun_mk (st := s_check_node) l_check_node c_check_node k_check_node
  have D_check_node : Dn K mg "check_node" s_check_node ["node", "place", "ahead"] f_check_node _ := ⟨F_check_node, F_check_node.binds (ps := ["node", "place", "ahead"]) fun _ _ _ _ _ _ us hl => match us, hl with | [_, _, _], _ => rfl, PySem.W.mg_of X G a_check_node⟩
  have F_check_question := fun_mk (st := s_check_question) l_check_question c_check_question k_check_question
  have D_check_question : Dn K mg "check_question" s_check_question ["question", "place", "ahead"] f_check_question _ := ⟨F_check_question, F_check_question.binds (ps := ["question", "place", "ahead"]) fun _ _ _ _ _ _ us hl => match us, hl with | [_, _, _], _ => rfl, PySem.W.mg_of X G a_check_question⟩
  have F_answers_in := fun_mk (st := s_answers_in) l_answers_in c_answers_in k_answers_in
  have D_answers_in : Dn K mg "answers_in" s_answers_in ["node"] f_answers_in _ := ⟨F_answers_in, F_answers_in.binds (ps := ["node"]) fun _ _ _ _ _ _ us hl => match us, hl with | [_], _ => rfl, PySem.W.mg_of X G a_answers_in⟩
  have F_House_init := fun_mk (st := s_House_init) l_House_init c_House_init k_House_init
  have D_House_init : Dm K "__init__" "House.__init__" s_House_init ["self", "worlds", "tree"] f_House_init _ := ⟨F_House_init, F_House_init.binds (ps := ["self", "worlds", "tree"]) fun _ _ _ _ _ _ us hl => match us, hl with | [_, _, _], _ => rfl⟩
  have F_House_eq := fun_mk (st := s_House_eq) l_House_eq c_House_eq k_House_eq
  have D_House_eq : Dm K "__eq__" "House.__eq__" s_House_eq ["self", "other"] f_House_eq _ := ⟨F_House_eq, F_House_eq.binds (ps := ["self", "other"]) fun _ _ _ _ _ _ us hl => match us, hl with | [_, _], _ => rfl⟩
  have F_law_bag := fun_mk (st := s_law_bag) l_law_bag c_law_bag k_law_bag
  have D_law_bag : Dn K mg "_law_bag" s_law_bag ["script"] f_law_bag _ := ⟨F_law_bag, F_law_bag.binds (ps := ["script"]) fun _ _ _ _ _ _ us hl => match us, hl with | [_], _ => rfl, PySem.W.mg_of X G a_law_bag⟩
  have F_law_pick := fun_mk (st := s_law_pick) l_law_pick c_law_pick k_law_pick
  have D_law_pick : Dn K mg "_law_pick" s_law_pick ["bag", "many"] f_law_pick _ := ⟨F_law_pick, F_law_pick.binds (ps := ["bag", "many"]) fun _ _ _ _ _ _ us hl => match us, hl with | [_, _], _ => rfl, PySem.W.mg_of X G a_law_pick⟩
  have F_law_some := fun_mk (st := s_law_some) l_law_some c_law_some k_law_some
  have D_law_some : Dn K mg "_law_some" s_law_some ["bag", "things"] f_law_some _ := ⟨F_law_some, F_law_some.binds (ps := ["bag", "things"]) fun _ _ _ _ _ _ us hl => match us, hl with | [_, _], _ => rfl, PySem.W.mg_of X G a_law_some⟩
  have F_law_common := fun_mk (st := s_law_common) l_law_common c_law_common k_law_common
  have D_law_common : Dn K mg "_law_common" s_law_common ["one", "other"] f_law_common _ := ⟨F_law_common, F_law_common.binds (ps := ["one", "other"]) fun _ _ _ _ _ _ us hl => match us, hl with | [_, _], _ => rfl, PySem.W.mg_of X G a_law_common⟩
  have F_law_low := fun_mk (st := s_law_low) l_law_low c_law_low k_law_low
  have D_law_low : Dn K mg "_law_low" s_law_low ["top", "bottom"] f_law_low _ := ⟨F_law_low, F_law_low.binds (ps := ["top", "bottom"]) fun _ _ _ _ _ _ us hl => match us, hl with | [_, _], _ => rfl, PySem.W.mg_of X G a_law_low⟩
  have F_law_plus := fun_mk (st := s_law_plus) l_law_plus c_law_plus k_law_plus
  have D_law_plus : Dn K mg "_law_plus" s_law_plus ["one", "other"] f_law_plus _ := ⟨F_law_plus, F_law_plus.binds (ps := ["one", "other"]) fun _ _ _ _ _ _ us hl => match us, hl with | [_, _], _ => rfl, PySem.W.mg_of X G a_law_plus⟩
  have F_law_times := fun_mk (st := s_law_times) l_law_times c_law_times k_law_times
  have D_law_times : Dn K mg "_law_times" s_law_times ["one", "other"] f_law_times _ := ⟨F_law_times, F_law_times.binds (ps := ["one", "other"]) fun _ _ _ _ _ _ us hl => match us, hl with | [_, _], _ => rfl, PySem.W.mg_of X G a_law_times⟩
  have F_law_total := fun_mk (st := s_law_total) l_law_total c_law_total k_law_total
  have D_law_total : Dn K mg "_law_total" s_law_total ["parts"] f_law_total _ := ⟨F_law_total, F_law_total.binds (ps := ["parts"]) fun _ _ _ _ _ _ us hl => match us, hl with | [_], _ => rfl, PySem.W.mg_of X G a_law_total⟩
  have F_law_shares := fun_mk (st := s_law_shares) l_law_shares c_law_shares k_law_shares
  have D_law_shares : Dn K mg "_law_shares" s_law_shares ["bag", "many", "least"] f_law_shares _ := ⟨F_law_shares, F_law_shares.binds (ps := ["bag", "many", "least"]) fun _ _ _ _ _ _ us hl => match us, hl with | [_, _, _], _ => rfl, PySem.W.mg_of X G a_law_shares⟩
  have F_law_question := fun_mk (st := s_law_question) l_law_question c_law_question k_law_question
  have D_law_question : Dn K mg "_law_question" s_law_question ["bag", "worlds", "ahead", "rounds", "left"] f_law_question _ := ⟨F_law_question, F_law_question.binds (ps := ["bag", "worlds", "ahead", "rounds", "left"]) fun _ _ _ _ _ _ us hl => match us, hl with | [_, _, _, _, _], _ => rfl, PySem.W.mg_of X G a_law_question⟩
  have F_law_node := fun_mk (st := s_law_node) l_law_node c_law_node k_law_node
  have D_law_node : Dn K mg "_law_node" s_law_node ["bag", "worlds", "ahead", "rounds", "left"] f_law_node _ := ⟨F_law_node, F_law_node.binds (ps := ["bag", "worlds", "ahead", "rounds", "left"]) fun _ _ _ _ _ _ us hl => match us, hl with | [_, _, _, _, _], _ => rfl, PySem.W.mg_of X G a_law_node⟩
  have F_law_tree := fun_mk (st := s_law_tree) l_law_tree c_law_tree k_law_tree
  have D_law_tree : Dn K mg "_law_tree" s_law_tree ["bag", "worlds", "rounds", "answers"] f_law_tree _ := ⟨F_law_tree, F_law_tree.binds (ps := ["bag", "worlds", "rounds", "answers"]) fun _ _ _ _ _ _ us hl => match us, hl with | [_, _, _, _], _ => rfl, PySem.W.mg_of X G a_law_tree⟩
  have F_law_deep := fun_mk (st := s_law_deep) l_law_deep c_law_deep k_law_deep
  have D_law_deep : Dn K mg "_law_deep" s_law_deep ["bag"] f_law_deep _ := ⟨F_law_deep, F_law_deep.binds (ps := ["bag"]) fun _ _ _ _ _ _ us hl => match us, hl with | [_], _ => rfl, PySem.W.mg_of X G a_law_deep⟩
  have F_law_int := fun_mk (st := s_law_int) l_law_int c_law_int k_law_int
  have D_law_int : Dn K mg "_law_int" s_law_int ["thing", "least", "most"] f_law_int _ := ⟨F_law_int, F_law_int.binds (ps := ["thing", "least", "most"]) fun _ _ _ _ _ _ us hl => match us, hl with | [_, _, _], _ => rfl, PySem.W.mg_of X G a_law_int⟩
  have F_law_gains := fun_mk (st := s_law_gains) l_law_gains c_law_gains k_law_gains
  have D_law_gains : Dn K mg "_law_gains" s_law_gains ["bag", "worlds", "least"] f_law_gains _ := ⟨F_law_gains, F_law_gains.binds (ps := ["bag", "worlds", "least"]) fun _ _ _ _ _ _ us hl => match us, hl with | [_, _, _], _ => rfl, PySem.W.mg_of X G a_law_gains⟩
  have F_law_asker := fun_mk (st := s_law_asker) l_law_asker c_law_asker k_law_asker
  have D_law_asker : Dn K mg "_law_asker" s_law_asker ["bag", "node", "deeds"] f_law_asker _ := ⟨F_law_asker, F_law_asker.binds (ps := ["bag", "node", "deeds"]) fun _ _ _ _ _ _ us hl => match us, hl with | [_, _, _], _ => rfl, PySem.W.mg_of X G a_law_asker⟩
  have F_law_is_asker := fun_mk (st := s_law_is_asker) l_law_is_asker c_law_is_asker k_law_is_asker
  have D_law_is_asker : Dn K mg "_law_is_asker" s_law_is_asker ["node", "deeds", "thing"] f_law_is_asker _ := ⟨F_law_is_asker, F_law_is_asker.binds (ps := ["node", "deeds", "thing"]) fun _ _ _ _ _ _ us hl => match us, hl with | [_, _, _], _ => rfl, PySem.W.mg_of X G a_law_is_asker⟩
  have F_law_is_fraction := fun_mk (st := s_law_is_fraction) l_law_is_fraction c_law_is_fraction k_law_is_fraction
  have D_law_is_fraction : Dn K mg "_law_is_fraction" s_law_is_fraction ["thing"] f_law_is_fraction _ := ⟨F_law_is_fraction, F_law_is_fraction.binds (ps := ["thing"]) fun _ _ _ _ _ _ us hl => match us, hl with | [_], _ => rfl, PySem.W.mg_of X G a_law_is_fraction⟩
  have F_law_is_prior := fun_mk (st := s_law_is_prior) l_law_is_prior c_law_is_prior k_law_is_prior
  have D_law_is_prior : Dn K mg "_law_is_prior" s_law_is_prior ["worlds", "thing"] f_law_is_prior _ := ⟨F_law_is_prior, F_law_is_prior.binds (ps := ["worlds", "thing"]) fun _ _ _ _ _ _ us hl => match us, hl with | [_, _], _ => rfl, PySem.W.mg_of X G a_law_is_prior⟩
  have F_law_are_gains := fun_mk (st := s_law_are_gains) l_law_are_gains c_law_are_gains k_law_are_gains
  have D_law_are_gains : Dn K mg "_law_are_gains" s_law_are_gains ["worlds", "thing"] f_law_are_gains _ := ⟨F_law_are_gains, F_law_are_gains.binds (ps := ["worlds", "thing"]) fun _ _ _ _ _ _ us hl => match us, hl with | [_, _], _ => rfl, PySem.W.mg_of X G a_law_are_gains⟩
  have F_law_odd := fun_mk (st := s_law_odd) l_law_odd c_law_odd k_law_odd
  have D_law_odd : Dn K mg "_law_odd" s_law_odd ["bag"] f_law_odd _ := ⟨F_law_odd, F_law_odd.binds (ps := ["bag"]) fun _ _ _ _ _ _ us hl => match us, hl with | [_], _ => rfl, PySem.W.mg_of X G a_law_odd⟩
  have F_law_bent := fun_mk (st := s_law_bent) l_law_bent c_law_bent k_law_bent
  have D_law_bent : Dn K mg "_law_bent" s_law_bent ["bag", "thing"] f_law_bent _ := ⟨F_law_bent, F_law_bent.binds (ps := ["bag", "thing"]) fun _ _ _ _ _ _ us hl => match us, hl with | [_, _], _ => rfl, PySem.W.mg_of X G a_law_bent⟩
  have F_law_word := fun_mk (st := s_law_word) l_law_word c_law_word k_law_word
  have D_law_word : Dn K mg "_law_word" s_law_word ["which", "house", "prior", "gains", "asker"] f_law_word _ := ⟨F_law_word, F_law_word.binds (ps := ["which", "house", "prior", "gains", "asker"]) fun _ _ _ _ _ _ us hl => match us, hl with | [_, _, _, _, _], _ => rfl, PySem.W.mg_of X G a_law_word⟩
  have F_law_due := fun_mk (st := s_law_due) l_law_due c_law_due k_law_due
  have D_law_due : Dn K mg "_law_due" s_law_due ["which", "worlds", "tree", "prior", "gains", "asker"] f_law_due _ := ⟨F_law_due, F_law_due.binds (ps := ["which", "worlds", "tree", "prior", "gains", "asker"]) fun _ _ _ _ _ _ us hl => match us, hl with | [_, _, _, _, _, _], _ => rfl, PySem.W.mg_of X G a_law_due⟩
  have F_law_asker_edge := fun_mk (st := s_law_asker_edge) l_law_asker_edge c_law_asker_edge k_law_asker_edge
  have D_law_asker_edge : Dn K mg "_law_asker_edge" s_law_asker_edge ["bag", "node", "deeds", "thing"] f_law_asker_edge _ := ⟨F_law_asker_edge, F_law_asker_edge.binds (ps := ["bag", "node", "deeds", "thing"]) fun _ _ _ _ _ _ us hl => match us, hl with | [_, _, _, _], _ => rfl, PySem.W.mg_of X G a_law_asker_edge⟩
  have F_law_edged := fun_mk (st := s_law_edged) l_law_edged c_law_edged k_law_edged
  have D_law_edged : Dn K mg "_law_edged" s_law_edged ["bag", "worlds", "tree", "parts"] f_law_edged _ := ⟨F_law_edged, F_law_edged.binds (ps := ["bag", "worlds", "tree", "parts"]) fun _ _ _ _ _ _ us hl => match us, hl with | [_, _, _, _], _ => rfl, PySem.W.mg_of X G a_law_edged⟩
  have F_law := fun_mk (st := s_law) l_law c_law k_law
  have D_law : Dn K mg "law" s_law ["script"] fa _ := ⟨F_law, F_law.binds (ps := ["script"]) fun _ _ _ _ _ _ us hl => match us, hl with | [_], _ => rfl, PySem.W.mg_of X G a_law⟩
  have D_sum : DTot K mg f_common_bottom _ := ⟨D_common_bottom, _, _, D_times_whole⟩
  refine ⟨PySem.W.fnOf "law" "law" (defArgs s_law) (defBody s_law) (defScope s_law) .none kV_law dc_law pm_law an_law cd_law ct_law, fun s v => .of_eq rfl, fun base _ _ => ?_⟩
  have qn := ok_law_qn (P := l.prog) (w := w) (base := base) D_law_question B D_law_low D_law_common D_law_pick D_law_shares D_law_some D_law_times D_law_node
  have tree := fun n => ok_law_tree D_law_tree B D_law_pick D_law_question (qn (n + 1)).1
  have ck := ok_checks (P := l.prog) (w := w) (base := base) B C D_check_node D_check_question D_is_answer D_is_ascending D_total_weights D_is_number D_is_integral D_is_word D_is_fraction D_is_chance D_reduced D_sum D_total D_are_chances
  have ini := fun n => ok_House_init D_House_init B C U D_check_tree (ok_check_tree D_check_tree B C D_check_node (ck n).2 D_answers_in) D_is_number D_is_integral
  have G_is_integral := ok_is_integral_a (P := l.prog) (w := w) (K := K) (base := base) D_is_integral B C
  have G_is_number := ok_is_number_a (P := l.prog) (w := w) (base := base) D_is_number B C D_is_integral G_is_integral
  have G_is_fraction := ok_is_fraction_a (P := l.prog) (w := w) (base := base) D_is_fraction B C D_is_integral G_is_integral
  have G_is_chance := ok_is_chance_a (P := l.prog) (w := w) (base := base) D_is_chance B C D_is_fraction G_is_fraction
  have G_are_fractions := ok_are_fractions_a (P := l.prog) (w := w) (base := base) D_are_fractions B C D_is_fraction G_is_fraction
  have G_are_chances := ok_are_chances_a (P := l.prog) (w := w) (base := base) D_are_chances B C D_is_chance G_is_chance
  have G_total := ok_total (P := l.prog) (w := w) (base := base) D_total B C D_reduced D_sum
  have G_multiplied := ok_multiplied (P := l.prog) (w := w) (base := base) D_multiplied B C D_reduced
  have G_is_prior := ok_is_prior_a (P := l.prog) (w := w) (base := base) D_is_prior B C D_are_chances G_are_chances D_total G_total
  have G_are_gains := ok_are_gains_a (P := l.prog) (w := w) (base := base) D_are_gains B C D_are_fractions G_are_fractions
  have G_check_prior := ok_check_prior_r (HE := C_HouseError) (P := l.prog) (w := w) (base := base) D_check_prior B C D_is_prior G_is_prior X_NoPrior
  have G_check_gains := ok_check_gains_r (HE := C_HouseError) (P := l.prog) (w := w) (base := base) D_check_gains B C D_are_gains G_are_gains X_NoGains
  have G_paid_for := ok_paid_forM (P := l.prog) (w := w) (base := base) D_paid_for B C D_total G_total D_multiplied G_multiplied
  have G_is_less := ok_is_less (P := l.prog) (w := w) (base := base) D_is_less B C
  have G_greatest_of := ok_greatest_of (P := l.prog) (w := w) (base := base) D_greatest_of B C D_is_less G_is_less
  have G_best_stop := ok_best_stop (P := l.prog) (w := w) (base := base) D_best_stop B C D_paid_for G_paid_for D_greatest_of G_greatest_of
  have G_best_at := ok_best_at (P := l.prog) (w := w) (base := base) D_best_at B C D_best_stop G_best_stop D_total G_total D_greatest_of G_greatest_of
  have G_is_asker := ok_is_asker_a (P := l.prog) (w := w) (base := base) D_is_asker B C D_is_number G_is_number BS
  have G_gets_at := ok_gets_at (P := l.prog) (w := w) (base := base) D_gets_at B C D_paid_for G_paid_for D_total G_total
  have G_asker_gets := fun n => ok_asker_gets_r (HE := C_HouseError) (n := n) (P := l.prog) (w := w) (base := base) D_asker_gets B C U D_check_prior G_check_prior D_check_gains G_check_gains D_is_asker (G_is_asker n) D_gets_at (G_gets_at n) X_NoAsker
  have G_best_way := fun n => ok_best_way_r (HE := C_HouseError) (n := n) (P := l.prog) (w := w) (base := base) D_best_way B C U D_check_prior G_check_prior D_check_gains G_check_gains D_best_at (G_best_at n)
  have G_worth := fun n => ok_worth_r (HE := C_HouseError) (n := n) (P := l.prog) (w := w) (base := base) D_worth B C U D_best_way (G_best_way n)
  have G_best_asker := fun n => ok_best_asker_r (HE := C_HouseError) (n := n) (P := l.prog) (w := w) (base := base) D_best_asker B C U D_best_way (G_best_way n)
  have G_worth_unasked := ok_worth_unasked_r (HE := C_HouseError) (P := l.prog) (w := w) (base := base) D_worth_unasked B C D_check_prior G_check_prior D_check_gains G_check_gains D_best_stop G_best_stop X_NoPrior C_MOST_WORLDS
  have G_law_pick := ok_law_pick (P := l.prog) (w := w) (base := base) D_law_pick B
  have G_law_some := ok_law_some (P := l.prog) (w := w) (K := K) (base := base) D_law_some B D_law_pick
  have G_law_common := ok_law_common (P := l.prog) (w := w) (K := K) (base := base) D_law_common B
  have G_law_low := ok_law_low (P := l.prog) (w := w) (base := base) D_law_low B D_law_common
  have G_law_plus := ok_law_plus (P := l.prog) (w := w) (base := base) D_law_plus B D_law_low D_law_common
  have G_law_shares := ok_law_shares (P := l.prog) (w := w) (base := base) D_law_shares B D_law_low D_law_common D_law_pick
  have G_law_total := ok_law_total_a (P := l.prog) (w := w) (base := base) D_law_total B C D_law_plus G_law_plus
  have G_law_int := ok_law_int_a (P := l.prog) (w := w) (K := K) (base := base) D_law_int B C
  have G_law_is_fraction := ok_law_is_fraction_b (P := l.prog) (w := w) (base := base) D_law_is_fraction B C D_law_common G_law_common D_law_int G_law_int
  have G_law_is_prior := ok_law_is_prior (P := l.prog) (w := w) (base := base) D_law_is_prior B C D_law_is_fraction G_law_is_fraction D_law_total G_law_total
  have G_law_are_gains := ok_law_are_gains (P := l.prog) (w := w) (base := base) D_law_are_gains B C D_law_is_fraction G_law_is_fraction
  have G_law_is_asker := ok_law_is_asker_a (P := l.prog) (w := w) (base := base) D_law_is_asker B C D_law_int G_law_int BS
  have hkT := kit_no (T := "tuple") (by decide +kernel) mT
  have hkI := kit_no (T := "int") (by decide +kernel) mI
  have hkS := kit_no (T := "str") (by decide +kernel) mS
  have G_ini : FnOk l.prog w K mg base CX0 30 f_House_init _ ["self", "worlds", "tree"] (anyS 5 (spInit K Cc)) := FnOk.anyS (lv := fun n => 8 + 2 * n) ini fun n hn => by show 8 + 2 * n ≤ 30; omega
  have G_law_deep := ok_law_deep_b (P := l.prog) (w := w) (K := K) (base := base) D_law_deep B C D_law_pick G_law_pick
  have G_law_odd := ok_law_odd (P := l.prog) (w := w) (K := K) (base := base) D_law_odd B C U D_law_deep G_law_deep D_law_some G_law_some D_House_init G_ini hkT hkI hkS
  have G_law_bent := ok_law_bent (P := l.prog) (w := w) (K := K) (base := base) D_law_bent B C D_law_pick G_law_pick D_law_odd G_law_odd
  have G_law_gains := ok_law_gains_s (P := l.prog) (w := w) (base := base) D_law_gains B C D_law_pick G_law_pick D_law_some G_law_some D_law_low G_law_low
  have G_law_asker := ok_law_asker (P := l.prog) (w := w) (base := base) D_law_asker B C D_law_pick G_law_pick
  have G_law_asker_edge := ok_law_asker_edge (P := l.prog) (w := w) (K := K) (base := base) D_law_asker_edge B C D_law_pick G_law_pick D_law_some G_law_some
  have G_law_edged := fun n => ok_law_edged (n := n) (P := l.prog) (w := w) (K := K) (base := base) D_law_edged B C D_law_pick G_law_pick D_law_some G_law_some D_law_asker_edge (G_law_asker_edge n)
  have G_law_due := fun n => ok_law_due (n := n) (P := l.prog) (w := w) (K := K) (base := base) D_law_due B C D_law_is_prior G_law_is_prior D_law_are_gains G_law_are_gains D_law_is_asker (G_law_is_asker n)
  have nPG : C_NoPrior ≠ C_NoGains := fun z => by simp [z] at xnodup
  have nPN : C_NoPrior ≠ C_NoAsker := fun z => by simp [z] at xnodup
  have nGN : C_NoGains ≠ C_NoAsker := fun z => by simp [z] at xnodup
  have word_h := fun n => ok_law_word_h (n := n) (P := l.prog) (w := w) (base := base) D_law_word B C U D_asker_gets (G_asker_gets n) D_worth (G_worth n) D_best_asker (G_best_asker n) D_worth_unasked G_worth_unasked X_HouseError X_NoPrior X_NoGains X_NoAsker nPG nPN nGN
  have word_u := ok_law_word_u (n := 0) (P := l.prog) (w := w) (base := base) D_law_word B C U D_asker_gets (G_asker_gets 0) D_worth (G_worth 0) D_best_asker (G_best_asker 0) D_worth_unasked G_worth_unasked X_HouseError X_NoPrior X_NoGains X_NoAsker nPG nPN nGN
  exact ok_law D_law B U D_law_bag (ok_law_bag D_law_bag B) D_law_pick G_law_pick
    D_law_tree (FnOk.anyS (lv := fun n => 6 + 2 * (n + 1)) tree fun n hn => by show 6 + 2 * (n + 1) ≤ 30; omega)
    D_law_shares G_law_shares D_law_gains G_law_gains
    D_law_asker (FnOk.anyS (lv := fun n => 2 + n) G_law_asker fun n hn => by show 2 + n ≤ 30; omega)
    D_law_bent (FnOk.anyS (lv := fun n => 33 + n) G_law_bent fun n hn => by show 33 + n ≤ 50; omega)
    D_law_edged (FnOk.anyS (lv := fun n => 4 + n) G_law_edged fun n hn => by show 4 + n ≤ 30; omega)
    D_law_due (FnOk.anyS (lv := fun n => 6 + n) G_law_due fun n hn => by show 6 + n ≤ 30; omega)
    D_law_word (FnOk.or (FnOk.anyS (lv := fun n => 9 + n) word_h fun n hn => by show 9 + n ≤ 30; omega) (word_u.mono (by omega)))
    D_House_init G_ini
end Tl
open PySem PySem.W PyProof.Rows
set_option maxRecDepth 100000 in
set_option maxHeartbeats 0 in
theorem PySem.Challenge.cw_tellsless_k31_askers_priors_gains_refuse_holds : PySem.Challenge.rw_tellsless_k31_askers_priors_gains_refuse.Holds := by
  w_on; o_law; k_head; (case hw => w_witness2)
  k_fill
  refine Tl.walkG (l := PySem.Challenge.rw_tellsless_k31_askers_priors_gains_refuse) (k := 52) (x := "script") rfl rfl ⟨rfl, by decide, by decide⟩ (fun w h Y => PySem.W.kIn_of Y) ?F
  case F =>
    intro w mg fa h KX G hmg
    refine' Tl.all_mk KX G hmg ?aC ?a_is_integral ?l_is_integral ?c_is_integral ?k_is_integral ?a_is_number ?l_is_number ?c_is_number ?k_is_number ?a_is_fraction ?l_is_fraction ?c_is_fraction ?k_is_fraction ?a_is_chance ?l_is_chance ?c_is_chance ?k_is_chance ?a_are_fractions ?l_are_fractions ?c_are_fractions ?k_are_fractions ?a_are_chances ?l_are_chances ?c_are_chances ?k_are_chances ?a_is_prior ?l_is_prior ?c_is_prior ?k_is_prior ?a_reduced ?l_reduced ?c_reduced ?k_reduced ?a_multiplied ?l_multiplied ?c_multiplied ?k_multiplied ?a_is_less ?l_is_less ?c_is_less ?k_is_less ?a_greatest_of ?l_greatest_of ?c_greatest_of ?k_greatest_of ?a_common_bottom ?l_common_bottom ?c_common_bottom ?k_common_bottom ?a_times_whole ?l_times_whole ?c_times_whole ?k_times_whole ?a_total ?l_total ?c_total ?k_total ?a_total_weights ?l_total_weights ?c_total_weights ?k_total_weights ?a_paid_for ?l_paid_for ?c_paid_for ?k_paid_for ?a_are_gains ?l_are_gains ?c_are_gains ?k_are_gains ?a_is_asker ?l_is_asker ?c_is_asker ?k_is_asker ?a_check_prior ?l_check_prior ?c_check_prior ?k_check_prior ?a_check_gains ?l_check_gains ?c_check_gains ?k_check_gains ?a_gets_at ?l_gets_at ?c_gets_at ?k_gets_at ?a_asker_gets ?l_asker_gets ?c_asker_gets ?k_asker_gets ?a_best_stop ?l_best_stop ?c_best_stop ?k_best_stop ?a_best_at ?l_best_at ?c_best_at ?k_best_at ?a_best_way ?l_best_way ?c_best_way ?k_best_way ?a_worth ?l_worth ?c_worth ?k_worth ?a_best_asker ?l_best_asker ?c_best_asker ?k_best_asker ?a_worth_unasked ?l_worth_unasked ?c_worth_unasked ?k_worth_unasked ?a_is_word ?l_is_word ?c_is_word ?k_is_word ?a_is_answer ?l_is_answer ?c_is_answer ?k_is_answer ?a_is_ascending ?l_is_ascending ?c_is_ascending ?k_is_ascending ?a_check_tree ?l_check_tree ?c_check_tree ?k_check_tree ?a_check_node ?l_check_node ?c_check_node ?k_check_node ?a_check_question ?l_check_question ?c_check_question ?k_check_question ?a_answers_in ?l_answers_in ?c_answers_in ?k_answers_in ?a_House_init ?i_House_init ?l_House_init ?c_House_init ?k_House_init ?a_House_eq ?i_House_eq ?l_House_eq ?c_House_eq ?k_House_eq ?a_law_bag ?l_law_bag ?c_law_bag ?k_law_bag ?a_law_pick ?l_law_pick ?c_law_pick ?k_law_pick ?a_law_some ?l_law_some ?c_law_some ?k_law_some ?a_law_common ?l_law_common ?c_law_common ?k_law_common ?a_law_low ?l_law_low ?c_law_low ?k_law_low ?a_law_plus ?l_law_plus ?c_law_plus ?k_law_plus ?a_law_times ?l_law_times ?c_law_times ?k_law_times ?a_law_total ?l_law_total ?c_law_total ?k_law_total ?a_law_shares ?l_law_shares ?c_law_shares ?k_law_shares ?a_law_question ?l_law_question ?c_law_question ?k_law_question ?a_law_node ?l_law_node ?c_law_node ?k_law_node ?a_law_tree ?l_law_tree ?c_law_tree ?k_law_tree ?a_law_deep ?l_law_deep ?c_law_deep ?k_law_deep ?a_law_int ?l_law_int ?c_law_int ?k_law_int ?a_law_gains ?l_law_gains ?c_law_gains ?k_law_gains ?a_law_asker ?l_law_asker ?c_law_asker ?k_law_asker ?a_law_is_asker ?l_law_is_asker ?c_law_is_asker ?k_law_is_asker ?a_law_is_fraction ?l_law_is_fraction ?c_law_is_fraction ?k_law_is_fraction ?a_law_is_prior ?l_law_is_prior ?c_law_is_prior ?k_law_is_prior ?a_law_are_gains ?l_law_are_gains ?c_law_are_gains ?k_law_are_gains ?a_law_odd ?l_law_odd ?c_law_odd ?k_law_odd ?a_law_bent ?l_law_bent ?c_law_bent ?k_law_bent ?a_law_word ?l_law_word ?c_law_word ?k_law_word ?a_law_due ?l_law_due ?c_law_due ?k_law_due ?a_law_asker_edge ?l_law_asker_edge ?c_law_asker_edge ?k_law_asker_edge ?a_law_edged ?l_law_edged ?c_law_edged ?k_law_edged ?a_law ?l_law ?c_law ?k_law ?pgC ?hdC ?poC ?saC ?mkC ?kcC ?nwC ?ntC ?haC ?hnC ?htC ?hmC ?gcd ?lcm ?aO0 ?lO ?m_MOST_QUESTIONS ?m_MOST_WORDS ?m_MOST_NUMBERS ?m_MOST_ON_A_WAY ?m_MOST_PASSED ?m_MOST_WORLDS ?mT ?mI ?mS ?z_str ?a_HouseError ?x_HouseError ?sa_HouseError ?kp_HouseError ?hg_HouseError ?hk_HouseError ?hc_HouseError ?a_NoPrior ?x_NoPrior ?sa_NoPrior ?kp_NoPrior ?hg_NoPrior ?hk_NoPrior ?hc_NoPrior ?q_NoPrior ?a_NoGains ?x_NoGains ?sa_NoGains ?kp_NoGains ?hg_NoGains ?hk_NoGains ?hc_NoGains ?q_NoGains ?a_NoAsker ?x_NoAsker ?sa_NoAsker ?kp_NoAsker ?hg_NoAsker ?hk_NoAsker ?hc_NoAsker ?q_NoAsker ?xnodup ?z_len ?z_int ?z_abs ?z_sum ?z_range ?z_repr ?z_isinstance ?z_any ?z_all ?z_tuple ?z_list ?z_zip ?z_enumerate ?z_max ?z_bool
    (case aC => k_is)
    (case a_is_integral => k_is)
    (case l_is_integral => k_is)
    (case c_is_integral => k_is)
    (case k_is_integral => k_is)
    (case a_is_number => k_is)
    (case l_is_number => k_is)
    (case c_is_number => k_is)
    (case k_is_number => k_is)
    (case a_is_fraction => k_is)
    (case l_is_fraction => k_is)
    (case c_is_fraction => k_is)
    (case k_is_fraction => k_is)
    (case a_is_chance => k_is)
    (case l_is_chance => k_is)
    (case c_is_chance => k_is)
    (case k_is_chance => k_is)
    (case a_are_fractions => k_is)
    (case l_are_fractions => k_is)
    (case c_are_fractions => k_is)
    (case k_are_fractions => k_is)
    (case a_are_chances => k_is)
    (case l_are_chances => k_is)
    (case c_are_chances => k_is)
    (case k_are_chances => k_is)
    (case a_is_prior => k_is)
    (case l_is_prior => k_is)
    (case c_is_prior => k_is)
    (case k_is_prior => k_is)
    (case a_reduced => k_is)
    (case l_reduced => k_is)
    (case c_reduced => k_is)
    (case k_reduced => k_is)
    (case a_multiplied => k_is)
    (case l_multiplied => k_is)
    (case c_multiplied => k_is)
    (case k_multiplied => k_is)
    (case a_is_less => k_is)
    (case l_is_less => k_is)
    (case c_is_less => k_is)
    (case k_is_less => k_is)
    (case a_greatest_of => k_is)
    (case l_greatest_of => k_is)
    (case c_greatest_of => k_is)
    (case k_greatest_of => k_is)
    (case a_common_bottom => k_is)
    (case l_common_bottom => k_is)
    (case c_common_bottom => k_is)
    (case k_common_bottom => k_is)
    (case a_times_whole => k_is)
    (case l_times_whole => k_is)
    (case c_times_whole => k_is)
    (case k_times_whole => k_is)
    (case a_total => k_is)
    (case l_total => k_is)
    (case c_total => k_is)
    (case k_total => k_is)
    (case a_total_weights => k_is)
    (case l_total_weights => k_is)
    (case c_total_weights => k_is)
    (case k_total_weights => k_is)
    (case a_paid_for => k_is)
    (case l_paid_for => k_is)
    (case c_paid_for => k_is)
    (case k_paid_for => k_is)
    (case a_are_gains => k_is)
    (case l_are_gains => k_is)
    (case c_are_gains => k_is)
    (case k_are_gains => k_is)
    (case a_is_asker => k_is)
    (case l_is_asker => k_is)
    (case c_is_asker => k_is)
    (case k_is_asker => k_is)
    (case a_check_prior => k_is)
    (case l_check_prior => k_is)
    (case c_check_prior => k_is)
    (case k_check_prior => k_is)
    (case a_check_gains => k_is)
    (case l_check_gains => k_is)
    (case c_check_gains => k_is)
    (case k_check_gains => k_is)
    (case a_gets_at => k_is)
    (case l_gets_at => k_is)
    (case c_gets_at => k_is)
    (case k_gets_at => k_is)
    (case a_asker_gets => k_is)
    (case l_asker_gets => k_is)
    (case c_asker_gets => k_is)
    (case k_asker_gets => k_is)
    (case a_best_stop => k_is)
    (case l_best_stop => k_is)
    (case c_best_stop => k_is)
    (case k_best_stop => k_is)
    (case a_best_at => k_is)
    (case l_best_at => k_is)
    (case c_best_at => k_is)
    (case k_best_at => k_is)
    (case a_best_way => k_is)
    (case l_best_way => k_is)
    (case c_best_way => k_is)
    (case k_best_way => k_is)
    (case a_worth => k_is)
    (case l_worth => k_is)
    (case c_worth => k_is)
    (case k_worth => k_is)
    (case a_best_asker => k_is)
    (case l_best_asker => k_is)
    (case c_best_asker => k_is)
    (case k_best_asker => k_is)
    (case a_worth_unasked => k_is)
    (case l_worth_unasked => k_is)
    (case c_worth_unasked => k_is)
    (case k_worth_unasked => k_is)
    (case a_is_word => k_is)
    (case l_is_word => k_is)
    (case c_is_word => k_is)
    (case k_is_word => k_is)
    (case a_is_answer => k_is)
    (case l_is_answer => k_is)
    (case c_is_answer => k_is)
    (case k_is_answer => k_is)
    (case a_is_ascending => k_is)
    (case l_is_ascending => k_is)
    (case c_is_ascending => k_is)
    (case k_is_ascending => k_is)
    (case a_check_tree => k_is)
    (case l_check_tree => k_is)
    (case c_check_tree => k_is)
    (case k_check_tree => k_is)
    (case a_check_node => k_is)
    (case l_check_node => k_is)
    (case c_check_node => k_is)
    (case k_check_node => k_is)
    (case a_check_question => k_is)
    (case l_check_question => k_is)
    (case c_check_question => k_is)
    (case k_check_question => k_is)
    (case a_answers_in => k_is)
    (case l_answers_in => k_is)
    (case c_answers_in => k_is)
    (case k_answers_in => k_is)
    (case a_House_init => k_is)
    (case i_House_init => k_is)
    (case l_House_init => k_is)
    (case c_House_init => k_is)
    (case k_House_init => k_is)
    (case a_House_eq => k_is)
    (case i_House_eq => k_is)
    (case l_House_eq => k_is)
    (case c_House_eq => k_is)
    (case k_House_eq => k_is)
    (case a_law_bag => k_is)
    (case l_law_bag => k_is)
    (case c_law_bag => k_is)
    (case k_law_bag => k_is)
    (case a_law_pick => k_is)
    (case l_law_pick => k_is)
    (case c_law_pick => k_is)
    (case k_law_pick => k_is)
    (case a_law_some => k_is)
    (case l_law_some => k_is)
    (case c_law_some => k_is)
    (case k_law_some => k_is)
    (case a_law_common => k_is)
    (case l_law_common => k_is)
    (case c_law_common => k_is)
    (case k_law_common => k_is)
    (case a_law_low => k_is)
    (case l_law_low => k_is)
    (case c_law_low => k_is)
    (case k_law_low => k_is)
    (case a_law_plus => k_is)
    (case l_law_plus => k_is)
    (case c_law_plus => k_is)
    (case k_law_plus => k_is)
    (case a_law_times => k_is)
    (case l_law_times => k_is)
    (case c_law_times => k_is)
    (case k_law_times => k_is)
    (case a_law_total => k_is)
    (case l_law_total => k_is)
    (case c_law_total => k_is)
    (case k_law_total => k_is)
    (case a_law_shares => k_is)
    (case l_law_shares => k_is)
    (case c_law_shares => k_is)
    (case k_law_shares => k_is)
    (case a_law_question => k_is)
    (case l_law_question => k_is)
    (case c_law_question => k_is)
    (case k_law_question => k_is)
    (case a_law_node => k_is)
    (case l_law_node => k_is)
    (case c_law_node => k_is)
    (case k_law_node => k_is)
    (case a_law_tree => k_is)
    (case l_law_tree => k_is)
    (case c_law_tree => k_is)
    (case k_law_tree => k_is)
    (case a_law_deep => k_is)
    (case l_law_deep => k_is)
    (case c_law_deep => k_is)
    (case k_law_deep => k_is)
    (case a_law_int => k_is)
    (case l_law_int => k_is)
    (case c_law_int => k_is)
    (case k_law_int => k_is)
    (case a_law_gains => k_is)
    (case l_law_gains => k_is)
    (case c_law_gains => k_is)
    (case k_law_gains => k_is)
    (case a_law_asker => k_is)
    (case l_law_asker => k_is)
    (case c_law_asker => k_is)
    (case k_law_asker => k_is)
    (case a_law_is_asker => k_is)
    (case l_law_is_asker => k_is)
    (case c_law_is_asker => k_is)
    (case k_law_is_asker => k_is)
    (case a_law_is_fraction => k_is)
    (case l_law_is_fraction => k_is)
    (case c_law_is_fraction => k_is)
    (case k_law_is_fraction => k_is)
    (case a_law_is_prior => k_is)
    (case l_law_is_prior => k_is)
    (case c_law_is_prior => k_is)
    (case k_law_is_prior => k_is)
    (case a_law_are_gains => k_is)
    (case l_law_are_gains => k_is)
    (case c_law_are_gains => k_is)
    (case k_law_are_gains => k_is)
    (case a_law_odd => k_is)
    (case l_law_odd => k_is)
    (case c_law_odd => k_is)
    (case k_law_odd => k_is)
    (case a_law_bent => k_is)
    (case l_law_bent => k_is)
    (case c_law_bent => k_is)
    (case k_law_bent => k_is)
    (case a_law_word => k_is)
    (case l_law_word => k_is)
    (case c_law_word => k_is)
    (case k_law_word => k_is)
    (case a_law_due => k_is)
    (case l_law_due => k_is)
    (case c_law_due => k_is)
    (case k_law_due => k_is)
    (case a_law_asker_edge => k_is)
    (case l_law_asker_edge => k_is)
    (case c_law_asker_edge => k_is)
    (case k_law_asker_edge => k_is)
    (case a_law_edged => k_is)
    (case l_law_edged => k_is)
    (case c_law_edged => k_is)
    (case k_law_edged => k_is)
    (case a_law => k_is)
    (case l_law => k_is)
    (case c_law => k_is)
    (case k_law => k_is)
    (case pgC => k_is)
    (case hdC => k_is)
    (case poC => k_is)
    (case saC => k_is)
    (case mkC => k_is)
    (case kcC => k_is)
    (case nwC => k_is)
    (case ntC => k_is)
    (case haC => k_is)
    (case hnC => k_is)
    (case htC => k_is)
    (case hmC => k_is)
    (case gcd => k_is)
    (case lcm => k_is)
    (case aO0 => k_is)
    (case lO => k_is)
    (case m_MOST_QUESTIONS => k_is)
    (case m_MOST_WORDS => k_is)
    (case m_MOST_NUMBERS => k_is)
    (case m_MOST_ON_A_WAY => k_is)
    (case m_MOST_PASSED => k_is)
    (case m_MOST_WORLDS => k_is)
    (case mT => k_is)
    (case mI => k_is)
    (case mS => k_is)
    (case z_str => k_is)
    (case a_HouseError => k_is)
    (case x_HouseError => k_is)
    (case sa_HouseError => k_is)
    (case kp_HouseError => k_is)
    (case hg_HouseError => k_is)
    (case hk_HouseError => k_is)
    (case hc_HouseError => k_is)
    (case a_NoPrior => k_is)
    (case x_NoPrior => k_is)
    (case sa_NoPrior => k_is)
    (case kp_NoPrior => k_is)
    (case hg_NoPrior => k_is)
    (case hk_NoPrior => k_is)
    (case hc_NoPrior => k_is)
    (case q_NoPrior => k_exc)
    (case a_NoGains => k_is)
    (case x_NoGains => k_is)
    (case sa_NoGains => k_is)
    (case kp_NoGains => k_is)
    (case hg_NoGains => k_is)
    (case hk_NoGains => k_is)
    (case hc_NoGains => k_is)
    (case q_NoGains => k_exc)
    (case a_NoAsker => k_is)
    (case x_NoAsker => k_is)
    (case sa_NoAsker => k_is)
    (case kp_NoAsker => k_is)
    (case hg_NoAsker => k_is)
    (case hk_NoAsker => k_is)
    (case hc_NoAsker => k_is)
    (case q_NoAsker => k_exc)
    (case xnodup => decide +kernel)
    (case z_len => k_is)
    (case z_int => k_is)
    (case z_abs => k_is)
    (case z_sum => k_is)
    (case z_range => k_is)
    (case z_repr => k_is)
    (case z_isinstance => k_is)
    (case z_any => k_is)
    (case z_all => k_is)
    (case z_tuple => k_is)
    (case z_list => k_is)
    (case z_zip => k_is)
    (case z_enumerate => k_is)
    (case z_max => k_is)
    (case z_bool => k_is)
