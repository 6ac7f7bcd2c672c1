import PyProof.Rows.All
import Wide.All
import OpenK.AllK
import Wide.FinOn
import HandS.ForMost
import HandS.Gcd
import HandS.Zip
import HandS.Walk
import HandS.SortKw
import HandS.TupMul
import HandS.TupAny
import HandS.IsInst
import HandS.OwnEq
import HandS.Wide
import KE.DataMinMax
import KE.GoesMore
import KE.GoesEnum
import HandS.ExcInit
import HandS.ExcField
import HandS.ExcValue
import HandS.ExcIs
import KE.KExcIs
import HandS.Dict
import HandS.DeepEq
import PyProof.DictFindH
import KE.KDictDisplayH
import PySem.Challenge.RW_tellsless_k00_errors_keep_what_is_passed
set_option Elab.async false
set_option linter.all false
set_option maxRecDepth 100000
set_option maxHeartbeats 16000000
/-! rules that the layer lacks -/
namespace Tl
open PySem PySem.Spec PyProof.Rows L2 RZ
section
variable {X : Cx}
/-- repr of nested data -/
def rReprD (K : PySem.W.Frag) : List V → Hp → VK → Prop := fun xs H Q =>
  ∃ (a : Addr) (d : PyData), xs = [.ref a] ∧ Dp K H (.ref a) d ∧ d.showable = true ∧ d.hasDict = false ∧ d.depth ≤ 60 ∧ d.shown.length ≤ sizeLine ∧ Q (.str d.shown) H
theorem cr_reprD (hu : X.A.units + 64 < cLine) (hg : X.A.guards = some []) : CallR X (.builtin "repr") (rReprD X.K) := by
  intro pins s σ H xs us Q I r h
  obtain ⟨a, d, rfl, hd, h1, h2, h3, h4, q⟩ := h
  rw [Vals.ref1 r]
  obtain ⟨as, rd⟩ := Dp.reads I d _ _ hd rfl
  refine repr_of_reads' rd h1 (PyData.noDict_hsm h2) hg (by omega) (fun _ _ e => e) (fun h' u tk hk => ?_) h4
  exact ⟨.str d.shown, H, I.kept (t' := tk) hk, ⟨_, rfl⟩, q⟩
/-- xs[i], i from 0 on, read for a store by an operator -/
def gAtL (K : PySem.W.Frag) : V → V → Hp → VK → Prop := fun x y H Q => ∃ p xs j v, x = .ref p ∧ y = .int ((j : Nat) : Int) ∧ SqL K H p xs ∧ xs[j]? = some v ∧ Q v H
theorem get_listP : PGet X (gAtL X.K) := by
  intro pins s σ H o i ov iv Q I ro ri h
  obtain ⟨p, xs, j, z, rfl, rfl, hq, he, q⟩ := h
  cases ro
  obtain ⟨t, rfl⟩ := ri
  obtain ⟨its, r, pl, hz⟩ := I.list hq
  obtain ⟨w, ew, rw'⟩ := r.get he
  have hn := line63
  have hj : j < xs.length := (List.getElem?_eq_some_iff.mp he).1
  exact wpAny_getItem_list pl.isList (by omega) (by omega) (by simpa using ew) ⟨z, H, I, rw', q⟩
end

section
variable {X : Cx}
def topOf (d : Int) : List Int → Int
  | [] => d
  | n :: r => r.foldl max n
def rMaxDf (K : PySem.W.Frag) : List V → List V → Hp → VK → Prop := fun vs zs H Q => ∃ (a : Addr) (ns : List Int) (d : Int), vs = [V.ref a] ∧ zs = [.int d] ∧ SqL K H a (ns.map V.int) ∧ Q (.int (topOf d ns)) H
theorem reads_ints {h : Heap} : ∀ {us : List Value} {ns : List Int}, IntsAre us ns → ∃ as, ReadsAll h us (ns.map PyData.int) as
  | _, _, .nil => ⟨_, .nil⟩
  | _, _, .cons n t r => by
    obtain ⟨as, q⟩ := reads_ints (h := h) r
    exact ⟨_, .cons (.int n t) q⟩
theorem depth_ints : ∀ ns : List Int, PyData.depthAll (ns.map PyData.int) = 0
  | [] => rfl
  | n :: r => by
    show max (PyData.depth (.int n)) (PyData.depthAll (r.map PyData.int)) = 0
    rw [depth_ints r]
    rfl
theorem alike_ints (ns : List Int) : PySem.W.AlikeAll (ns.map PyData.int) := by
  constructor
  · intro x hx y hy
    obtain ⟨i, _, rfl⟩ := List.mem_map.mp hx
    obtain ⟨j, _, rfl⟩ := List.mem_map.mp hy
    rfl
  · intro x hx
    obtain ⟨i, _, rfl⟩ := List.mem_map.mp hx
    exact fun h => by cases h
theorem cr_maxDf (hc : X.calm = true) (hu : X.A.units + 64 < cLine) : CallRK X (.builtin "max") [Str.ofString "default"] (rMaxDf X.K) := by
  intro pins s σ H vs zs us ws Q I r rz h
  obtain ⟨a, ns, d, rfl, rfl, hs, q⟩ := h
  obtain ⟨its, rv, pl, hz⟩ := I.list hs
  rw [Vals.ref1 r]
  obtain ⟨w1, rfl, t, rfl⟩ := vals1 rz
  have hi := rv.ints
  obtain ⟨as, hr⟩ := reads_ints (h := s.heap) hi
  refine PySem.W.max_list_default (vs := its.toArray) (xs := ns.map PyData.int) (as := as) (I.ok.hd hc) pl.isList (by simpa using hr) (alike_ints ns) (by rw [depth_ints]; omega) (fun hn h' tk hk => ?_) fun y ys i v h' tk bs e ev hv hk => ?_
  · have e : ns = [] := List.map_eq_nil_iff.mp hn
    subst e
    exact ⟨.int d, H, I.kept (t' := tk) hk, ⟨t, rfl⟩, q⟩
  · cases ns with
    | nil => cases e
    | cons n r =>
      cases e
      rw [PySem.W.maxD_ints] at hv
      cases hv
      exact ⟨.int _, H, I.kept (t' := tk) hk, ⟨_, rfl⟩, q⟩
end

/-! enumerate(a tuple) -/
def IteT (K : PySem.W.Frag) (a : Addr) : It :=
  ⟨fun i H => ∃ (xs : List V) (x : V), SqT K H a xs ∧ xs[i]? = some x,
   fun i H v H' => ∃ T x, v = .ref T ∧ H T = none ∧ H' = upd H T (.tup [.int (i : Nat), x]) ∧ ∀ xs, SqT K H a xs → xs[i]? = some x,
   fun i H => ∃ xs : List V, SqT K H a xs ∧ xs.length = i⟩
set_option maxHeartbeats 1000000 in
theorem enum_new_tup (l : Addr) (items : Array Value) : Meets (Builtin.«enumerate.__new__» ⟨[.type "enumerate", .ref l], []⟩) (fun _ R s => s.heap.IsTuple l items ∧
      R (.ok (.ret (.ref (s.heap.objs.size + 1)))) { s with heap := (s.heap.push { cls := .type "tuple_iterator", data := .fields #[.ref l, .int 0 0] }).push { cls := .type "enumerate", data := .fields #[.none, .bool false, .ref s.heap.objs.size, rawInt 0, .none, .none] } }) :=
  .of_wp fun prog w A R s ⟨ht, h⟩ => by
    obtain ⟨hp, g, d, tk, os⟩ := s
    have hsz : ∀ o : Obj, (hp.push o).objs.size = hp.objs.size + 1 := fun o => Heap.size_push ..
    have hsub := sub_enumerate
    have q1 : ∀ {A' : Around} {E' : Value → Shared → Prop} {Q' : Value → Shared → Prop}, Q' (.ref hp.objs.size) ⟨hp.push { cls := .type "tuple_iterator", data := .fields #[.ref l, .int 0 0] }, g, d, tk, os⟩ → wpAny (model prog w) A' (pyIter (.ref l)) Q' E' ⟨hp, g, d, tk, os⟩ :=
      fun q => wpAny_pyIter_tuple (s := ⟨hp, g, d, tk, os⟩) ht q
    rw [← hsz { cls := .type "tuple_iterator", data := .fields #[.ref l, .int 0 0] }] at h
    wp_walk using q1
    refine wpAny_stack_any fun st => wpAny_pure ?_
    split
    · rename_i c _ _ _ _ _
      rcases (c == Value.type "enumerate") with _ | _ <;> (wp_walk using q1; exact ⟨_, rfl, h⟩)
    · wp_walk using q1
      exact ⟨_, rfl, h⟩
theorem enum_tup {prog : Program} {w : World} {A : Around} {E : Value → Shared → Prop} {s : Shared} {l : Addr} {items : Array Value} {Q : Value → Shared → Prop} (ht : s.heap.IsTuple l items)
    (h : ∀ h', IsEnum h' (s.heap.objs.size + 1) s.heap.objs.size 0 .none → h'.IsTupleIter s.heap.objs.size l 0 →
      (∀ b o, s.heap.get? b = some o → h'.get? b = some o) → Q (.ref (s.heap.objs.size + 1)) { s with heap := h' }) :
    wpAny (model prog w) A (call (.type "enumerate") [.ref l]) Q E s := by
  refine callType_new F.called_enumerate (by decide) (F.typeCall_enumerate_1 _) (F.newCall_enumerate_1 _) (fun ob => F.args_object_init_2 ob _) F.entry_enumerate_new (enum_new_tup l items) ⟨ht, ?_⟩
  have e2 : IsEnum ((s.heap.push { cls := .type "tuple_iterator", data := .fields #[.ref l, .int 0 0] }).push { cls := .type "enumerate", data := .fields #[.none, .bool false, .ref s.heap.objs.size, rawInt 0, .none, .none] }) (s.heap.objs.size + 1) s.heap.objs.size 0 .none := by
    have e3 := Heap.get?_push_size (s.heap.push { cls := .type "tuple_iterator", data := .fields #[.ref l, .int 0 0] }) (o := { cls := .type "enumerate", data := .fields #[.none, .bool false, .ref s.heap.objs.size, rawInt 0, .none, .none] }) rfl
    rw [Heap.size_push] at e3
    exact e3
  exact ⟨⟨_, e2, rfl⟩, h _ e2 ⟨_, Heap.get?_push_of_some _ (Heap.get?_push_size _ rfl), rfl, rfl⟩ fun b o x => Heap.get?_push_of_some _ (Heap.get?_push_of_some _ x)⟩
theorem turn_enumT {P : Program} {w : World} {K : PySem.W.Frag} {elts : List Expr} {kk : Nat} {tpos : Pos} (a e it : Addr) :
    Turn P w K (.Tuple elts kk tpos) (IteT K a) [e, it] e (fun i h => (∃ old, IsEnum h e it ((i : Nat) : Int) old) ∧ h.IsTupleIter it a i ∧ e ≠ it ∧ e ≠ a ∧ a ≠ it) where
  mem := List.mem_cons_self
  obj := by
    rintro i h ⟨⟨old, he⟩, ⟨o, ho, hc, hd⟩, _⟩ b hb
    rcases (show b = e ∨ b = it by simpa using hb) with rfl | rfl
    · exact ⟨_, he, fun v q => by cases q⟩
    · exact ⟨o, ho, fun v q => by rw [hd] at q; cases q⟩
  keep := by
    rintro i h h' ⟨⟨old, he⟩, hi, hne⟩ k
    exact ⟨⟨old, k e (by simp) _ he⟩, hi.at fun o q => k it (by simp) o q, hne⟩
  item := by
    intro X hP hw hK hc i pins s σ H E I hf st hg
    subst hP hw hK
    obtain ⟨⟨old, he⟩, hit, hne, hea, hai⟩ := st
    obtain ⟨xs, x, hq, hx⟩ := hg
    obtain ⟨its, rv, pt, hz⟩ := I.tuple hq
    obtain ⟨u, hu, ru⟩ := rv.get hx
    have hlt : i < its.toArray.size := by
      rw [List.size_toArray]
      exact (List.getElem?_eq_some_iff.mp hu).1
    have lte : e < s.heap.objs.size := Heap.lt_size he
    have lti : it < s.heap.objs.size := by
      obtain ⟨_, q, _⟩ := hit
      exact Heap.lt_size q
    have D := Draws.tuple (prog := X.prog) (w := X.w) (A := X.A.in1) (I.ok.hd hc) it a hai its.toArray
    refine wpAny_pyNext_enum_itemD D he ⟨hit, pt⟩ hlt hne (by simp [hne, hea]) fun v h' tk hP ho hit' hT hsz hk => ?_
    have ev : v = u := by
      have q1 : its[i]? = some v := by simpa using hP
      rw [hu] at q1
      exact (Option.some.inj q1).symm
    subst ev
    refine ⟨_, rfl, wpAny_letOwnedTupleGo_enum (s := { s with heap := h', toks := tk + 1 }) ho fun h2 he2 sb => ?_⟩
    have hT2 : h2.get? s.heap.objs.size = some { cls := .type "tuple", data := .seq #[.int i tk, v] } := (sb.2 _ (Nat.ne_of_gt lte)).trans hT
    have mk : ObjOk X.prog X.w (upd H s.heap.objs.size (.tup [.int (i : Nat), x])) h2 s.heap.objs.size (.tup [.int (i : Nat), x]) :=
      ⟨by show 2 ≤ sizeLine; decide, [.int i tk, v], .cons ⟨_, rfl⟩ (.cons ru .nil), ⟨_, hT2, rfl, _, rfl⟩⟩
    have I1 : Inv X pins σ (upd H s.heap.objs.size (.tup [.int (i : Nat), x])) { s with heap := h2, toks := tk + 1 } :=
      I.turnedNew (ch := [e, it]) (fun b ob hb q => by
        have z1 : b ≠ e := fun z => hb (by simp [z])
        have z2 : b ≠ it := fun z => hb (by simp [z])
        exact (sb.2 b z1).trans (hk b ob z1 z2 q)) hf (Nat.le_refl _) mk
    refine ⟨.ref s.heap.objs.size, _, I1, rfl, ⟨_, x, rfl, I.hok.fresh (Nat.le_refl _), rfl, fun ys hy => by rw [I.tuple_inj hy hq]; exact hx⟩, ⟨⟨v, ?_⟩, hit'.1.at fun o q => (sb.2 it (Ne.symm hne)).trans q, hne, hea, hai⟩, fun b hb => ?_⟩
    · rw [show ((i + 1 : Nat) : Int) = (i : Int) + 1 by omega]
      exact he2
    · have lb : b < s.heap.objs.size := by
        rcases (show b = e ∨ b = it by simpa using hb) with z | z
        · rw [z]; exact lte
        · rw [z]; exact lti
      rw [upd_ne (Nat.ne_of_lt lb)]
      exact (hf b hb).1
  done := by
    intro X hP hw hK hc i pins s σ H E I hf st hg
    subst hP hw hK
    obtain ⟨⟨old, he⟩, hit, hne, hea, hai⟩ := st
    obtain ⟨xs, hq, hx⟩ := hg
    obtain ⟨its, rv, pt, hz⟩ := I.tuple hq
    obtain ⟨f0, f1, f2, f3, f4, f5⟩ := hf it (by simp)
    have hl : its.toArray.size = i := by
      rw [List.size_toArray, ← rv.length]
      exact hx
    have D := Draws.tuple (prog := X.prog) (w := X.w) (A := X.A.in1) (I.ok.hd hc) it a hai its.toArray
    exact wpAny_pyNext_enum_endD D he ⟨by rw [hl]; exact hit, pt⟩ fun h' eb => ⟨rfl, I.turned (t' := s.toks) (fun b o hb q => eb b o hb q) f0 f1 f3 f4 f5⟩
  self := fun A i s Q E st h => by
    obtain ⟨⟨_, he⟩, _⟩ := st
    exact wpAny_pyIter_enum he h
def iEnumT (K : PySem.W.Frag) (ta : TA) : TI := fun σ H R => ta σ H fun vs H1 => ∃ a xs, vs = [.ref a] ∧ SqT K H1 a xs ∧ R (IteT K a) H1
theorem pi_enumT {X : Cx} {e : Expr} {ta : TA} {p pos tpos : Pos} {elts : List Expr} {kk : Nat} (hg : Gl X "enumerate") (hm : X.mg "enumerate" = none) (ha : PA X [e] ta) (hs : starEach [e] X.env = [(false, eval e X.env)] := by rfl) :
    PI X (.Tuple elts kk tpos) (.Call (.Name "enumerate" p) [e] [] pos) (iEnumT X.K ta) := by
  refine ⟨fun pins s σ H R I h => Call_ (ld_blt I hg hm boot_enumerate (PyProof.Rows.callWith_type1 (thn (ha.run pos pins s σ H _ I h) fun us s1 hq => ?_) hs rfl))⟩
  obtain ⟨vs, H1, I1, r1, a, xs, rfl, hT, q⟩ := hq
  rw [Vals.ref1 r1]
  obtain ⟨its, rv, pt, hz⟩ := I1.tuple hT
  have hat : a < s1.heap.objs.size := by
    obtain ⟨o, ho, _⟩ := id pt
    exact Heap.lt_size ho
  refine enum_tup (show s1.heap.IsTuple a its.toArray from pt) fun h' he hit hk => wpAny_pyIter_enum he ?_
  have I2 : Inv X pins σ H1 { s1 with heap := h' } := I1.kept (t' := s1.toks) hk
  refine ⟨_, [s1.heap.objs.size + 1, s1.heap.objs.size], _, _, H1, rfl, I2, turn_enumT a (s1.heap.objs.size + 1) s1.heap.objs.size, ⟨⟨.none, he⟩, hit, Nat.succ_ne_self _, Nat.ne_of_gt (Nat.lt_succ_of_lt hat), Nat.ne_of_lt hat⟩, fun b hb => ?_, q⟩
  have hle : s1.heap.objs.size ≤ b := by
    rcases (show b = s1.heap.objs.size + 1 ∨ b = s1.heap.objs.size by simpa using hb) with z | z
    · rw [z]; exact Nat.le_succ _
    · rw [z]; exact Nat.le_refl _
  exact I1.fpOk hle (I1.hok.fresh hle)
theorem walk_enumT {K : PySem.W.Frag} {a : Addr} {xs : List V} : Walk (IteT K a) xs.length (fun H => SqT K H a xs) (YPair (fun i => some (.int (i : Nat))) (fun i => xs[i]?)) := by
  refine ⟨fun i _ hi q => ⟨xs, xs[i], q, by simp [hi]⟩, fun _ q => ⟨xs, q, rfl⟩, fun i H v H' _ q y => ?_⟩
  obtain ⟨T, x, h1, h2, h3, h4⟩ := y
  exact ⟨T, .int (i : Nat), x, h1, h2, h3, rfl, h4 xs q⟩
theorem walk_zipT {K : PySem.W.Frag} {a b : Addr} {xs ys : List V} {n : Nat} (hn : n = min xs.length ys.length) : Walk (ItzT K a b) n (fun H => SqT K H a xs ∧ SqT K H b ys) (YPair (fun i => xs[i]?) (fun i => ys[i]?)) := by
  subst hn
  refine ⟨fun i _ hi q => ⟨xs, ys, xs[i]'(by omega), ys[i]'(by omega), q.1, q.2, List.getElem?_eq_getElem _, List.getElem?_eq_getElem _⟩, fun _ q => ⟨xs, ys, q.1, q.2, by omega⟩, fun i H v H' _ q y => ?_⟩
  obtain ⟨T, x, z, h1, h2, h3, h4, h5⟩ := y
  exact ⟨T, x, z, h1, h2, h3, h4 xs q.1, h5 ys q.2⟩

/-! a tuple times an int, also 1 -/
theorem mul_one_tup (l : Addr) (items : Array Value) (n : Nat) (dd : Option Addr) (sl : Array (Option Value)) (u : Tok) (hne : items.isEmpty = false) : Meets (Builtin.«tuple.__mul__» ⟨[.ref l, .int 1 u], []⟩) (fun _ R s => s.heap.get? l = some { cls := .type "tuple", dict := dd, data := .seq items n, slots := sl } ∧ R (.ok (.ret (.ref l))) s) :=
  .of_wp fun prog w A R s h => by
    obtain ⟨hp, g, d, tk, os⟩ := s
    obtain ⟨hl, h⟩ := h
    have f1 := AutoSeq1.idx_int
    wp_walk using wpAny_loadPart' hl
    exact ⟨_, rfl, h⟩
def rRepP (K : PySem.W.Frag) : R2 := fun x y H Q => ∃ l k xs, x = .ref l ∧ y = .int k ∧ SqT K H l xs ∧ xs ≠ [] ∧ 1 ≤ k ∧ k ≤ 1000 ∧ xs.length ≤ 1000 ∧ ∀ p H', Same H H' → SqT K H' p (List.replicate k.toNat xs).flatten → Q (.ref p) H'
theorem same_upd {H : Hp} {p : Addr} {o : HO} (h : H p = none) : Same H (upd H p o) := fun b x e => by
  rw [upd_ne (ne_of_none e h)]
  exact e
theorem op_repP {X : Cx} : OpR X (binaryOp .Mult) (rRepP X.K) := by
  intro pins s σ H x y v u Q I rx ry h
  obtain ⟨l, k, xs, rfl, rfl, hT, hne, h1, h2, hz, q⟩ := h
  by_cases hk : 2 ≤ k
  · exact op_repT pins s σ H _ _ v u Q I rx ry ⟨l, k, xs, rfl, rfl, hT, hne, hk, h2, hz, fun p hp => q p _ (same_upd hp) (.inl (.inl upd_same))⟩
  · obtain rfl : k = 1 := by omega
    cases rx
    obtain ⟨t, rfl⟩ := ry
    obtain ⟨its, r, ⟨⟨cls, dd, data, sl⟩, ho, hc, n, hd⟩, hs⟩ := I.tuple hT
    simp only at hc hd
    subst hc hd
    have hn : its.toArray.isEmpty = false := by
      cases its with
      | nil =>
        cases r
        exact absurd rfl hne
      | cons a b => rfl
    refine wpAny_binaryOp_repeat_ref (T := "tuple") (U := "int") (by decide) ⟨_, ho, rfl⟩ (fun s' => typeIs_int s' 1 t) noFill_tuple_mul F.fills_int_mul F.slot_int_rmul repeat_tuple F.slot_int_index.lookup
      (call_meets F.slot_int_rmul (typeIs_int s 1 t) F.entry_int_rmul (F.args_int_rmul_2 _ _) (int_rmul_tuple 1 t l its.toArray n dd sl)
        ⟨ho, rfl, ⟨_, ho, rfl⟩, call_meets F.slot_tuple_mul ⟨_, ho, rfl⟩ F.entry_tuple_mul (F.args_tuple_mul_2 _ _) (mul_one_tup l its.toArray n dd sl t hn) ⟨ho, ?_⟩⟩)
    exact ⟨.ref l, H, I, rfl, q l H (Same.refl H) (by rw [show (List.replicate (Int.toNat 1) xs).flatten = xs by simp]; exact hT)⟩

/-! ### defs that want no repr to run around them -/
structure FnG (P : Program) (w : World) (K : PySem.W.Frag) (mg : Str → Option Value) (base : Heap) (CX : CXT) (k : Nat) (f : Addr) (fd : FuncData) (ps : List Str) (sp : Sp) : Prop where
  many : ∀ vs H Q E, sp vs H Q E → vs.length = ps.length
  goes : ∀ (A : Around) (outer : List Env) (s : Shared) (H : Hp) (args : Args) (us : List Value) (vs : List V) (Q : VK) (E : XK), Room k A → A.guards = some [] → Env0 P w K mg base A outer s H → BindsTo s fd args (ps.zip us) → Vals vs us → sp vs H Q E →
    codeAny (model P w) A (.call (.ref f) args) (CR CX outer P w H s Q E) s
section
variable {P : Program} {w : World} {K : PySem.W.Frag} {mg : Str → Option Value} {base : Heap}
theorem okG {x qual : Str} {st : Stmt} {f : Addr} {fd : FuncData} {N ps : List Str} {k : Nat} {sp : Sp} (F : Fun K x qual st f fd) (S : FnScope N ps (defScope st)) (len : ∀ vs H Q E, sp vs H Q E → vs.length = ps.length)
    (bd : ∀ (cdv : Value) (A : Around) (outer : List Env) (s : Shared) (H : Hp) (vs : List V) (Q : VK) (E : XK), Room k (A.deeper (envOfC qual (defScope st) s.heap.objs.size f cdv)) → A.guards = some [] → sp vs H Q E →
      ∃ t, PSs (cxOf CX0 P w K mg base N qual (defScope st) f cdv A outer s H E).nox (defBody st) t ∧ t { nx := fun _ H' => Q .non H', rt := Q } (start N vs) H) : FnG P w K mg base CX0 (k + 1) f fd ps sp := by
  obtain ⟨oc, od, kV, doc, pm, an, cdv, ct, osl, rfl, lk, hcd⟩ := F.ex
  refine ⟨len, fun A outer s H args us vs Q E hr hgu e0 hb rv hsp => ?_⟩
  have hl := len _ _ _ _ hsp
  have kin : K.In s.heap := e0.mod.kin.keeps fun b o e => (e0.bs b o e).1
  have nol : s.heap.NoLimit := e0.mod.nolimit.keeps fun b o e => (e0.bs b o e).1
  have kinds : ∀ y ∈ ps.zip us, (defScope st).names.lookup y.1 = some .local ∨ ((defScope st).names.lookup y.1 = some .cell ∧ ((cellsFrom (s.heap.objs.size + 1) (defScope st).names []).lookup y.1).isSome = true) := by
    rintro ⟨n, v⟩ hy
    have hn := (List.of_mem_zip hy).1
    rcases S.par n hn with q | q
    · exact Or.inl q
    · exact Or.inr ⟨q, PySem.W.cellsFrom_some _ _ _ (Or.inl q)⟩
  refine codeAny_call_function hr.depth (kin _ _ lk) rfl S.co S.gen rfl (PySem.W.codeRec_of kin hcd) (hb _ _ _ _ (wpAny_newFunctionEnv_cells S.kind kinds fun env ee s1 x => ?_))
  subst ee
  refine ⟨nol.keeps x.toInCall.keep, codeAny_func ?_⟩
  obtain ⟨t, ht, hq⟩ := bd cdv A outer s H vs Q E (hr.deeper _) hgu hsp
  have J : Inv (cxOf CX0 P w K mg base N qual (defScope st) f cdv A outer s H E) [] (start N vs) H s1 := inv_start S hr.hd e0 hl rv x
  refine wpAny_mono (ht.nox.run [] s1 (start N vs) H _ J hq) (fun fl s2 hs => ?_) fun e s2 hs => hs
  have done : ∀ {σ' : L2.St} {H' : Hp} {v : V} {u : Value}, Inv (cxOf CX0 P w K mg base N qual (defScope st) f cdv A outer s H E) [] σ' H' s2 → RelV v u → Q v H' → CE outer P w H s Q u s2 :=
    fun {σ' H' v u} L r q => ⟨v, H', L.os, L.bare, L.base, L.hok, r, q⟩
  cases fl with
  | ret u =>
    obtain ⟨v, σ', H', L, r, q⟩ := hs
    exact done L r q
  | next =>
    obtain ⟨σ', H', L, q⟩ := hs
    exact done (v := V.non) (u := Value.none) L rfl q
  | brk =>
    obtain ⟨_, _, _, q⟩ := hs
    exact q.elim
  | cont =>
    obtain ⟨_, _, _, q⟩ := hs
    exact q.elim
end
section
variable {X : Cx} {CX : CXT} {k : Nat} {f : Addr} {fd : FuncData} {ps : List Str} {sp : Sp} {dvs : List V} {ds : List Value} {E : XK} {x : Str} {p pos : Pos} {e : Expr} {es : List Expr} {t : TA}
theorem pe_callG (F : FnG X.prog X.w X.K X.mg X.base CX k f fd ps sp) (hr : Room k X.A) (hgu : X.A.guards = some []) (hg : Gl X x) (hm : X.mg x = some (.ref f)) (hk : PySem.W.keepIn X.K (.ref f) = true) (hb : Binds X.K fd ps ds) (hd : Vals dvs ds) (hx : Passes CX X E)
    (ha : PA X (e :: es) t) (hdb : (x == ("__debug__" : Str)) = false := by decide) (he : starEach (e :: es) X.env = (false, eval e X.env) :: starEach es X.env := by rfl) (hpl : (backTo pos (starEach es X.env)).any (·.1) = false := by rfl) :
    PE X (.Call (.Name x p) (e :: es) [] pos) (tCall sp dvs E t) := by
  refine ⟨fun pins s σ H Q I h => wpAny_Call_Name_kw (ld_glob I hg hm ?_ hdb)⟩
  refine PySem.W.callWith_K (h₀ := X.base) I.ok.mod.kin hk (thn (ha.run pos pins s σ H _ I h) ?_) he hpl
  rintro us s1 ⟨vs, H1, I1, r, q⟩
  refine ⟨I1.kIn, ?_⟩
  have r2 : Vals (vs ++ dvs) (us ++ ds) := r.append hd
  have hl : (us ++ ds).length = ps.length := by
    rw [← r2.length]
    exact F.many _ _ _ _ q
  refine wpAny_call (codeAny_mono (F.goes X.A X.stack s1 H1 ⟨us, []⟩ (us ++ ds) (vs ++ dvs) Q E hr hgu I1.env0 (hb s1 us I1.kIn hl) r2 q) ?_)
  intro res s2 hq
  match res, hq with
  | .error e, hq => exact hx pins σ H1 s1 e s2 I1 hq
  | .ok (.ret u), hq => exact I1.after hq
end
/-- a law's own promise -/
def spTrue (K : PySem.W.Frag) : Sp := fun vs H Q _ => ∃ (a : Addr) (ns : List Int), vs = [.ref a] ∧ SqL K H a (ns.map V.int) ∧ ns.length ≤ 63 ∧ ∀ H', Q (.bl true) H'
theorem callG {P : Program} {w : World} {K : PySem.W.Frag} {mg mb : Str → Option Value} {k : Nat} {fa a : Addr} {fd : FuncData} {x : Str} {s₁ : Shared} {vs : List Value} {ns : List Int}
    (kin : K.In s₁.heap) (hns : s₁.heap.Ns mainGlobals mg) (hbl : s₁.heap.Ns builtinsNs mb) (hbb : ∀ x : Str, x ≠ "__name__" → mb x = bootBuiltins x) (nol : s₁.heap.NoLimit) (hgens : s₁.gens = #[])
    (ha : s₁.heap.get? a = some { cls := .type "list", data := .seq vs.toArray }) (hi : IntsAre vs ns) (h63 : ns.length ≤ 63) (hr : Room k callerA)
    (F : ∀ base : Heap, K.In base → base.Ns mainGlobals mg → FnG P w K mg base CX0 k fa fd [x] (spTrue K)) (hbind : ∀ (s : Shared) (u : Value), BindsTo s fd ⟨[u], []⟩ [(x, u)]) :
    codeAny (model P w) callerA (.call (.ref fa) ⟨[.ref a], []⟩) (fun r s' => r = .ok (.ret (.bool true)) ∧ OldK s₁.heap s'.heap ∧ s'.os = s₁.os ∧ AllBare s'.gens) s₁ := by
  have hl : ns.length ≤ sizeLine := Nat.le_trans h63 (by decide)
  have rv := vals_ints hi
  have lv := hi.length
  have main : ∀ T : Hp, Only T → SqL K T a (ns.map V.int) → HOk P w T s₁.heap → (∀ b, T b ≠ none → b = a) → (T a ≠ none → K.lookup a = none) →
      codeAny (model P w) callerA (.call (.ref fa) ⟨[.ref a], []⟩) (fun r s' => r = .ok (.ret (.bool true)) ∧ OldK s₁.heap s'.heap ∧ s'.os = s₁.os ∧ AllBare s'.gens) s₁ := by
    intro T only hS hok only_a notK
    have put : ∀ {b : Addr} {o : Obj}, s₁.heap.get? b = some o → T b = none → (hidT s₁.heap T).get? b = some o := fun e n => hidT_get e n
    have dict_free : ∀ {b : Addr} {o : Obj} {es : Array DictEntry} {ep : Nat}, s₁.heap.get? b = some o → o.data = .dict es ep → T b = none := by
      intro b o es ep e d
      match q : T b with
      | none => rfl
      | some u =>
        obtain rfl := only_a b (by rw [q]; exact fun z => by cases z)
        rw [ha] at e
        cases e
        exact absurd (show Data.seq vs.toArray _ = Data.dict es ep from d) (fun z => by cases z)
    have nsB : ∀ {b : Addr} {m : Str → Option Value}, s₁.heap.Ns b m → (hidT s₁.heap T).Ns b m := by
      rintro b m ⟨o, es, ep, e, d, r⟩
      exact ⟨o, es, ep, put e (dict_free e d), d, r⟩
    have kinB : K.In (hidT s₁.heap T) := by
      intro b o e
      refine put (kin b o e) ?_
      match q : T b with
      | none => rfl
      | some u =>
        have q' : T b ≠ none := by rw [q]; exact fun z => by cases z
        obtain rfl := only_a b q'
        rw [notK q'] at e
        cases e
    obtain ⟨mc, l1, l2⟩ := nol
    have md : Mod K mg (hidT s₁.heap T) := ⟨kinB, nsB hns, ⟨mb, nsB hbl, hbb⟩, ⟨mc, nsB l1, l2⟩⟩
    have e0 : Env0 P w K mg (hidT s₁.heap T) callerA [] s₁ T :=
      { frames := rfl, mod := md, bs := fun b o e => of_hidT e, bsz := Nat.le_of_eq (hidT_size _ _), funs := trivial, frf := fun b hb => (List.not_mem_nil (show b ∈ ([] : List Addr) from hb)).elim, hok := hok, bare := .of_eq hgens }
    have sp0 : spTrue K [.ref a] T (fun v _ => v = .bl true) (fun _ _ _ => False) := ⟨a, ns, rfl, hS, h63, fun _ => rfl⟩
    refine codeAny_mono ((F _ kinB (nsB hns)).goes callerA [] s₁ T ⟨[.ref a], []⟩ [.ref a] [.ref a] _ _ hr rfl e0 (hbind s₁ (.ref a)) (.cons rfl .nil) sp0) ?_
    intro r s2 h
    match r, h with
    | .error e, h => exact h.elim
    | .ok (.ret u), h =>
      obtain ⟨v, T', os, bare, un, hok2, r2, q⟩ := h
      obtain rfl : v = .bl true := q
      obtain rfl : u = Value.bool true := r2
      refine ⟨rfl, OldK.of_keep fun b o e => ?_, os, bare⟩
      match q : T b with
      | none => exact un.keep b o e q (fun z => (List.not_mem_nil (show b ∈ ([] : List Addr) from z)).elim) List.not_mem_nil
      | some u =>
        rcases only b with z | ⟨ob, xs, z⟩
        · rw [q] at z
          cases z
        · obtain ⟨e1, _⟩ := hok b _ z
          obtain ⟨e2, _⟩ := hok2 b _ (un.frzs b ob _ z)
          rw [e] at e1
          cases e1
          exact e2
  match hk : K.lookup a with
  | some o =>
    have e := kin a o hk
    rw [ha] at e
    cases e
    exact main (fun _ => none) (fun _ => Or.inl rfl) (Or.inr ⟨_, vs.toArray, _, hk, rfl, rfl, rfl, by rw [List.size_toArray, lv]; exact hl, by simpa using rv⟩) (fun b u z => by cases (show (none : Option HO) = some u from z)) (fun b z => (z rfl).elim) fun z => (z rfl).elim
  | none =>
    refine main (fun b => if b = a then some (.frz { cls := .type "list", data := .seq vs.toArray } (.lst (ns.map V.int))) else none) (fun b => ?_) (Or.inl (Or.inr ⟨{ cls := .type "list", data := .seq vs.toArray }, if_pos rfl⟩)) (fun b u z => ?_) (fun b z => ?_) fun _ => hk
    · by_cases hb : b = a
      · exact Or.inr ⟨_, _, if_pos hb⟩
      · exact Or.inl (if_neg hb)
    · by_cases hb : b = a
      · cases (if_pos hb).symm.trans z
        subst hb
        exact ⟨ha, by rw [List.length_map]; exact hl, vs, _, rv, ha⟩
      · cases (if_neg hb).symm.trans z
    · exact Decidable.byContradiction fun hb => z (if_neg hb)
theorem walkG {l : PySem.W.OpenLaw} {k : Nat} {q : Program} {loose : List Str} {XP : (Str → Option Value) → Heap → Prop} {YP : World → Heap → Prop} {d : DefRec} {K : Params → PySem.W.Frag} {x : Str}
    (hn : l.most = some 63) (hdf : d.params.defaults = []) (hr : Room k callerA) (hY : ∀ (w : World) (h : Heap), YP w h → (K w.params).In h)
    (F : ∀ (w : World) (mg : Str → Option Value) (fa : Addr) (h : Heap), (K w.params).In h → h.Ns mainGlobals mg → mg d.name = some (.ref fa) →
      ∃ fd : FuncData, (∀ (s : Shared) (u : Value), BindsTo s fd ⟨[u], []⟩ [(x, u)]) ∧ ∀ base : Heap, (K w.params).In base → base.Ns mainGlobals mg → FnG l.prog w (K w.params) mg base CX0 k fa fd [x] (spTrue (K w.params))) :
    PySem.W.WalkO q loose XP YP l.row.toRowW d [] (fun f vs => PySem.call f vs) := by
  refine Att.attach_call hn hdf ?_
  intro w s₀ s₁ mg mb fa o pm cd doc a vs ns G Y ho hd hcd hmg hob hints hlen hg
  have kin := hY w _ Y
  obtain ⟨fd, hb, hF⟩ := F w mg fa _ kin G.T.g hmg
  exact callG kin G.T.g G.T.b G.T.builtins G.T.nolimit hg hob hints hlen hr hF hb
end Tl
/-! data without lists, frames, the bag -/
namespace Tl
open PySem PySem.Spec PyProof.Rows L2 RZ
/-! ### heaps -/
/-- all tuples stay -/
def KT (K : PySem.W.Frag) (H H' : Hp) : Prop := ∀ a xs, SqT K H a xs → SqT K H' a xs
theorem KT.refl {K : PySem.W.Frag} (H : Hp) : KT K H H := fun _ _ h => h
theorem KT.trans {K : PySem.W.Frag} {H1 H2 H3 : Hp} (a : KT K H1 H2) (b : KT K H2 H3) : KT K H1 H3 := fun x xs h => b x xs (a x xs h)
theorem Same.kt {K : PySem.W.Frag} {H H' : Hp} (h : Same H H') : KT K H H' := fun a xs q => by
  rcases q with (q | ⟨o, q⟩) | q
  · exact .inl (.inl (h _ _ q))
  · exact .inl (.inr ⟨o, h _ _ q⟩)
  · exact .inr q
/-- all but the lists at b and g stays as it was -/
def Frm (b g : Addr) (H H' : Hp) : Prop := ∀ a o, H a = some o → a ≠ b → a ≠ g → H' a = some o
theorem Frm.refl (b g : Addr) (H : Hp) : Frm b g H H := fun _ _ h _ _ => h
theorem Frm.trans {b g : Addr} {H1 H2 H3 : Hp} (x : Frm b g H1 H2) (y : Frm b g H2 H3) : Frm b g H1 H3 := fun a o h h1 h2 => y a o (x a o h h1 h2) h1 h2
theorem Frm.of {b g : Addr} {H H' : Hp} (h : Same H H') : Frm b g H H' := fun a o q _ _ => h a o q
theorem Frm.updB {b g : Addr} {H : Hp} {o : HO} : Frm b g H (upd H b o) := fun a x h h1 _ => by rw [upd_ne h1]; exact h
theorem Frm.updG {b g : Addr} {H : Hp} {o : HO} : Frm b g H (upd H g o) := fun a x h _ h2 => by rw [upd_ne h2]; exact h
/-! ### data of tuples -/
mutual
inductive Td (K : PySem.W.Frag) (H : Hp) : V → PyData → Prop
  | non : Td K H .non .none
  | bl (b : Bool) : Td K H (.bl b) (.bool b)
  | int (i : Int) : Td K H (.int i) (.int i)
  | str (x : Str) : Td K H (.str x) (.str x)
  | tup {a : Addr} {xs : List V} {ds : List PyData} : SqT K H a xs → TdAll K H xs ds → Td K H (.ref a) (.tuple ds)
inductive TdAll (K : PySem.W.Frag) (H : Hp) : List V → List PyData → Prop
  | nil : TdAll K H [] []
  | cons {v : V} {vs : List V} {d : PyData} {ds : List PyData} : Td K H v d → TdAll K H vs ds → TdAll K H (v :: vs) (d :: ds)
end
variable {K : PySem.W.Frag} {H H' : Hp}
mutual
theorem Td.dp : ∀ {v : V} {d : PyData}, Td K H v d → Dp K H v d
  | _, _, .non => .non
  | _, _, .bl b => .bl b
  | _, _, .int i => .int i
  | _, _, .str x => .str x
  | _, _, .tup h a => .tup h (TdAll.dp a)
theorem TdAll.dp : ∀ {v : List V} {d : List PyData}, TdAll K H v d → DpAll K H v d
  | _, _, .nil => .nil
  | _, _, .cons h t => .cons (Td.dp h) (TdAll.dp t)
end
mutual
theorem Td.keep (k : KT K H H') : ∀ {v : V} {d : PyData}, Td K H v d → Td K H' v d
  | _, _, .non => .non
  | _, _, .bl b => .bl b
  | _, _, .int i => .int i
  | _, _, .str x => .str x
  | _, _, .tup h a => .tup (k _ _ h) (TdAll.keep k a)
theorem TdAll.keep (k : KT K H H') : ∀ {v : List V} {d : List PyData}, TdAll K H v d → TdAll K H' v d
  | _, _, .nil => .nil
  | _, _, .cons h t => .cons (Td.keep k h) (TdAll.keep k t)
end
theorem TdAll.len : ∀ {v : List V} {d : List PyData}, TdAll K H v d → v.length = d.length
  | _, _, .nil => rfl
  | _, _, .cons _ t => congrArg (· + 1) (TdAll.len t)
theorem TdAll.get : ∀ {vs : List V} {ds : List PyData} {i : Nat} {d : PyData}, TdAll K H vs ds → ds[i]? = some d → ∃ v, vs[i]? = some v ∧ Td K H v d
  | _, _, _, _, .nil, e => by simp at e
  | _, _, 0, _, .cons h _, e => by
    simp at e
    subst e
    exact ⟨_, rfl, h⟩
  | _, _, i + 1, d, .cons _ t, e => by
    obtain ⟨v, h1, h2⟩ := TdAll.get (i := i) (d := d) t (by simpa using e)
    exact ⟨v, by simpa using h1, h2⟩
theorem TdAll.getV : ∀ {vs : List V} {ds : List PyData} {i : Nat} {v : V}, TdAll K H vs ds → vs[i]? = some v → ∃ d, ds[i]? = some d ∧ Td K H v d
  | _, _, _, _, .nil, e => by simp at e
  | _, _, 0, _, .cons h _, e => by
    simp at e
    subst e
    exact ⟨_, rfl, h⟩
  | _, _, i + 1, v, .cons _ t, e => by
    obtain ⟨d, h1, h2⟩ := TdAll.getV (i := i) (v := v) t (by simpa using e)
    exact ⟨d, by simpa using h1, h2⟩
theorem TdAll.app : ∀ {vs ws : List V} {ds es : List PyData}, TdAll K H vs ds → TdAll K H ws es → TdAll K H (vs ++ ws) (ds ++ es)
  | _, _, _, _, .nil, h => h
  | _, _, _, _, .cons h t, q => .cons h (TdAll.app t q)
theorem Td.tupE {v : V} {ds : List PyData} (h : Td K H v (.tuple ds)) : ∃ a xs, v = .ref a ∧ SqT K H a xs ∧ TdAll K H xs ds := by
  cases h with
  | tup h a => exact ⟨_, _, rfl, h, a⟩
theorem Td.intE {v : V} {i : Int} (h : Td K H v (.int i)) : v = .int i := by
  cases h
  rfl
theorem tdAll_ints : ∀ ns : List Int, TdAll K H (ns.map V.int) (ns.map PyData.int)
  | [] => .nil
  | n :: r => .cons (.int n) (tdAll_ints r)
theorem tdAll_intsE : ∀ {ns : List Int} {vs : List V}, TdAll K H vs (ns.map PyData.int) → vs = ns.map V.int
  | [], _, h => by
    cases h
    rfl
  | n :: r, _, h => by
    cases h with
    | cons h t =>
      cases h
      rw [tdAll_intsE t]
      rfl
/-- a list of values, each at its datum -/
theorem tdAll_iff {vs : List V} {ds : List PyData} (hl : vs.length = ds.length) (h : ∀ (i : Nat) (v : V) (d : PyData), vs[i]? = some v → ds[i]? = some d → Td K H v d) : TdAll K H vs ds := by
  induction vs generalizing ds with
  | nil =>
    cases ds with
    | nil => exact .nil
    | cons d r => simp at hl
  | cons v vs ih =>
    cases ds with
    | nil => simp at hl
    | cons d r =>
      refine .cons (h 0 v d rfl rfl) (ih (by simpa using hl) fun i v d h1 h2 => h (i + 1) v d (by simpa using h1) (by simpa using h2))
/-! ### the bag -/
structure Bag (H : Hp) (b g : Addr) : Prop where
  ne : b ≠ g
  hb : ∃ s c al, H b = some (.lst [.int s, .int c, .ref g, al]) ∧ (al = .non ∨ ∃ n, al = .int n)
  hg : ∃ gs : List Int, H g = some (.lst (gs.map V.int)) ∧ gs.length ≤ 63
theorem Bag.kt {b g : Addr} (B : Bag H b g) (f : Frm b g H H') : KT K H H' := fun a xs q => by
  obtain ⟨s, c, al, hb, _⟩ := B.hb
  obtain ⟨gs, hg, _⟩ := B.hg
  rcases q with (q | ⟨o, q⟩) | q
  · refine .inl (.inl (f _ _ q ?_ ?_))
    · intro e
      rw [e, hb] at q
      cases q
    · intro e
      rw [e, hg] at q
      cases q
  · refine .inl (.inr ⟨o, f _ _ q ?_ ?_⟩)
    · intro e
      rw [e, hb] at q
      cases q
    · intro e
      rw [e, hg] at q
      cases q
  · exact .inr q
theorem Bag.keep {b g : Addr} (B : Bag H b g) (s : Same H H') : Bag H' b g :=
  ⟨B.ne, let ⟨x, c, al, h, r⟩ := B.hb; ⟨x, c, al, s _ _ h, r⟩, let ⟨gs, h, r⟩ := B.hg; ⟨gs, s _ _ h, r⟩⟩
/-- another list stands -/
theorem Bag.other {b g a : Addr} {o : HO} (B : Bag H b g) (h : H a = some o) (h2 : ∀ xs, o ≠ .lst xs) : a ≠ b ∧ a ≠ g := by
  obtain ⟨s, c, al, hb, _⟩ := B.hb
  obtain ⟨gs, hg, _⟩ := B.hg
  constructor
  · intro e
    rw [e, hb] at h
    exact h2 _ (Option.some.inj h).symm
  · intro e
    rw [e, hg] at h
    exact h2 _ (Option.some.inj h).symm
theorem Bag.neNew {b g a : Addr} (B : Bag H b g) (h : H a = none) : a ≠ b ∧ a ≠ g := by
  obtain ⟨s, c, al, hb, _⟩ := B.hb
  obtain ⟨gs, hg, _⟩ := B.hg
  refine ⟨fun e => ?_, fun e => ?_⟩
  · rw [e, hb] at h
    cases h
  · rw [e, hg] at h
    cases h
end Tl
/-! the rules with the written part named (for blocks) -/
namespace Tl
open PySem PySem.Spec PyProof.Rows L2 RZ
section
variable {X : Cx} {K : PySem.W.Frag} (h : X.K = K)
include h
theorem k_ixL : IxR X (rIxL K) := by subst h; exact ix_list
theorem k_ixT : IxR X (rIxT K) := by subst h; exact ix_tup
def rLen (K : PySem.W.Frag) : List V → Hp → VK → Prop := fun xs H Q => ∃ p ys, xs = [.ref p] ∧ (SqL K H p ys ∨ SqT K H p ys) ∧ Q (.int ys.length) H
theorem k_len : CallR X (.builtin "len") (rLen K) := by subst h; exact call_len_seq
theorem k_sum (hc : X.calm = true) : CallR X (.builtin "sum") (rSum K) := by subst h; exact cr_sum hc
theorem k_any (hc : X.calm = true) : CallR X (.builtin "any") (rAny K) := by subst h; exact cr_any hc
theorem k_all (hc : X.calm = true) : CallR X (.builtin "all") (rAll K) := by subst h; exact cr_all hc
theorem k_eqD (hu : X.A.units + 64 < cLine) : OpR X (compareOp .Eq) (rEqD K) := by subst h; exact op_eqD hu
theorem k_neD (hu : X.A.units + 64 < cLine) : OpR X (compareOp .NotEq) (rNeD K) := by subst h; exact op_neD hu
theorem k_ltT (hu : X.A.units < cLine) : OpR X (compareOp .Lt) (rLtT K) := by subst h; exact op_ltT hu
theorem k_rep : OpR X (binaryOp .Mult) (rRepP K) := by subst h; exact op_repP
def rCatP (K : PySem.W.Frag) : R2 := fun x y H Q => ∃ a b xs ys, x = .ref a ∧ y = .ref b ∧ SqT K H a xs ∧ SqT K H b ys ∧ xs.length + ys.length ≤ sizeLine ∧ ∀ p H', Same H H' → SqT K H' p (xs ++ ys) → Q (.ref p) H'
theorem k_cat : OpR X (binaryOp .Add) (rCatP K) := by
  subst h
  intro pins s σ H x y v u Q I rx ry ⟨a, b, xs, ys, e1, e2, ha, hb, hz, q⟩
  refine op_catA pins s σ H x y v u Q I rx ry ⟨a, b, xs, ys, e1, e2, ha, hb, hz, fun z => ?_, fun _ z => ?_, fun _ _ p hp => q p _ (same_upd hp) (.inl (.inl upd_same))⟩
  · subst z
    exact q b H (Same.refl H) hb
  · subst z
    exact q a H (Same.refl H) (by rw [List.append_nil]; exact ha)
def rTupOf (K : PySem.W.Frag) : List V → Hp → VK → Prop := fun xs H Q => ∃ p ys, xs = [.ref p] ∧ SqL K H p ys ∧ ∀ l H', Same H H' → SqT K H' l ys → Q (.ref l) H'
theorem k_tupOf : CallR X (.type "tuple") (rTupOf K) := by
  subst h
  intro pins s σ H xs us Q I r ⟨p, ys, e, hs, q⟩
  exact call_tuple_of pins s σ H xs us Q I r ⟨p, ys, e, .inl ⟨hs, fun l hl => q l _ (same_upd hl) (.inl (.inl upd_same))⟩⟩
theorem k_isi : CallR X (.builtin "isinstance") (rIsi K) := by subst h; exact call_isi
theorem k_repr (hu : X.A.units + 64 < cLine) (hg : X.A.guards = some []) : CallR X (.builtin "repr") (rReprD K) := by subst h; exact cr_reprD hu hg
theorem k_maxDf (hc : X.calm = true) (hu : X.A.units + 64 < cLine) : CallRK X (.builtin "max") [Str.ofString "default"] (rMaxDf K) := by subst h; exact cr_maxDf hc hu
theorem k_slL : SlR X (rSlL K) := by subst h; exact sl_list
theorem k_getL : PGet X (gAtL K) := by subst h; exact get_listP
theorem k_tup {pos : Pos} {es : List Expr} {k : Nat} {t : TGs} {n : Nat} (hc : X.calm = true) (hp : PGs X es t) (hn : (assignEach es X.env).length = n := by rfl) (hst : (assignEach es X.env).findIdx? (·.1) = none := by rfl) : PG X (.Tuple es k pos) (gTup K n t) := by
  subst h
  exact pg_tup hc hp hn hst
theorem k_iL {tg l : Expr} {tl : TE} (hl : PE X l tl) : PI X tg l (iList K tl) := by subst h; exact pi_list hl
theorem k_iT {tg l : Expr} {tl : TE} (hl : PE X l tl) : PI X tg l (iTup K tl) := by subst h; exact pi_tup hl
theorem k_enum {e : Expr} {ta : TA} {p pos tpos : Pos} {elts : List Expr} {kk : Nat} (hg : Gl X "enumerate") (hm : X.mg "enumerate" = none) (ha : PA X [e] ta) (hs : starEach [e] X.env = [(false, eval e X.env)] := by rfl) :
    PI X (.Tuple elts kk tpos) (.Call (.Name "enumerate" p) [e] [] pos) (iEnumT K ta) := by subst h; exact pi_enumT hg hm ha hs
theorem k_zip {e e2 : Expr} {ta : TA} {p pos tpos : Pos} {elts : List Expr} {kk : Nat} (hg : Gl X "zip") (hm : X.mg "zip" = none) (ha : PA X [e, e2] ta)
    (hs : starEach [e, e2] X.env = (false, eval e X.env) :: starEach [e2] X.env := by rfl) (hpl : (backTo pos (starEach [e2] X.env)).any (·.1) = false := by rfl) :
    PI X (.Tuple elts kk tpos) (.Call (.Name "zip" p) [e, e2] [] pos) (iZipA K ta) := by subst h; exact pi_zipA hg hm ha hs hpl
theorem k_fld {e : Expr} {ta : TE} {f : Str} {pos : Pos} (he : PE X e ta) (hb : attributeBase e f X.env (eval e X.env) = eval e X.env) : PE X (.Attribute e f pos) (tFld K ta f) := by subst h; exact pe_fld he hb
end
end Tl
/-! exceptions that are made as values and kept -/
namespace Tl
open PySem PySem.Spec PyProof.Rows L2 RZ
section
variable {X : Cx} {C : Addr} {e : Expr} {es : List Expr} {ta : TA} {te : TE} {p pos : Pos}
/-- X(), a class without own __init__ -/
def tEx0 (C : Addr) : TE := fun _ H Q => ∀ a, H a = none → Q (.ref a) (upd H a (exo a C none))
theorem pe_ex0 {bmB : List Value} {B newId initId : String} {x : Str} (F : ExcBaseFacts B newId initId bmB) (q : PySem.W.excIn X.K C bmB newId = true) (gC : X.mg x = some (.ref C)) (kC : PySem.W.keepIn X.K (.ref C) = true) (hg : Gl X x)
    (hdb : (x == ("__debug__" : Str)) = false := by decide) : PE X (.Call (.Name x p) [] [] pos) (tEx0 C) := by
  refine ⟨fun pins s σ H Q I h => ?_⟩
  refine wpAny_Call_Name_kw (ld_glob I hg gC ?_ hdb)
  refine PySem.W.callWith_K0 I.kIn kC ?_
  show wpAny _ _ (call (.ref C) []) _ _ _
  obtain ⟨bm, N, nm, qn, bs, hdct, sn, sub, ab, col, dd, k0, k1, k2, k3, k5, mN, hC, hN, hni, T⟩ := exc_obj I.kIn q
  refine wpAny_call_exc_subT F T hC hN hni (fun h' a hm => ?_) (by show 0 ≤ sizeLine; omega)
  have hn : H a = none := I.hok.gone hm.new
  obtain ⟨t, ht, _, _⟩ := hm.there
  exact ⟨.ref a, upd H a (exo a C none), I.laidN hm.keeps hm.new hn (exo_ok ht), rfl, h a hn⟩
/-- X(e, ..), the class's own __init__ keeping sp -/
def tEx1 (C : Addr) (sp : Sp) (dvs : List V) (ta : TA) : TE := fun σ H Q => ta σ H fun vs H1 => vs.length ≤ 1000 ∧ ∀ a, H1 a = none → sp (.ref a :: (vs ++ dvs)) (upd H1 a (exo a C none)) (fun v H2 => v = .non ∧ Q (.ref a) H2) (fun _ _ _ => False)
theorem pe_ex1 {CX : CXT} {x : Str} {fI : Addr} {k : Nat} {fd : FuncData} {ps : List Str} {sp : Sp} {ds : List Value} {dvs : List V} (T : OexC X.K C) (iC : PySem.W.findIn X.K (.ref C) "__init__" = some (some (.ref fI))) (tI : PySem.W.typeIn X.K (.ref fI) = some (.type "function"))
    (F1 : FnOk X.prog X.w X.K X.mg X.base CX k fI fd ps sp) (hr : Room (k + 1) X.A) (hb : Binds X.K fd ps ds) (hd : Vals dvs ds) (hx : Passes CX X (fun _ _ _ => False)) (hg : Gl X x) (hm : X.mg x = some (.ref C)) (ha : PA X (e :: es) ta)
    (hdb : (x == ("__debug__" : Str)) = false := by decide) (he : starEach (e :: es) X.env = (false, eval e X.env) :: starEach es X.env := by rfl) (hpl : (backTo pos (starEach es X.env)).any (·.1) = false := by rfl) :
    PE X (.Call (.Name x p) (e :: es) [] pos) (tEx1 C sp dvs ta) := by
  refine ⟨fun pins s σ H Q I h => ?_⟩
  obtain ⟨nm, q, N, bs, bm, sn, sub, ab, col, dd, k0, k1, k2, k3, k5, hC, hbm⟩ := T.cls
  refine wpAny_Call_Name_kw (ld_glob I hg hm ?_ hdb)
  refine PySem.W.callWith_K (h₀ := X.base) I.ok.mod.kin T.kC (thn (ha.run pos pins s σ H _ I h) fun us s1 hh => ?_) he hpl
  obtain ⟨vs, H1, I1, r1, hz, q1⟩ := hh
  refine ⟨I1.kIn, ?_⟩
  show wpAny _ _ (call (.ref C) us) _ _ _
  obtain ⟨hp, g, dr, tk, os⟩ := s1
  have big : hp.objs.size ≤ hp.objs.size + 1 := Nat.le_succ _
  have hq := q1 (hp.objs.size + 1) (I1.hok.fresh big)
  have kk : ∀ b o, hp.get? b = some o → ((hp.push (PySem.W.kdv_tup us)).push (PySem.HandSPX.excO C hp.objs.size)).get? b = some o := fun b o y => Heap.get?_push_of_some _ (Heap.get?_push_of_some _ y)
  have there : ((hp.push (PySem.W.kdv_tup us)).push (PySem.HandSPX.excO C hp.objs.size)).get? (hp.objs.size + 1) = some (PySem.HandSPX.excO C hp.objs.size) := by heap_get
  have I2 := I1.laid (t' := tk) (a := hp.objs.size + 1) (o := exo (hp.objs.size + 1) C none) (h' := (hp.push (PySem.W.kdv_tup us)).push (PySem.HandSPX.excO C hp.objs.size)) kk big (exo_ok there)
  have r2 : Vals (V.ref (hp.objs.size + 1) :: (vs ++ dvs)) (Value.ref (hp.objs.size + 1) :: (us ++ ds)) := .cons rfl (r1.append hd)
  have many : (Value.ref (hp.objs.size + 1) :: us ++ ds).length = ps.length := by
    have y := r2.length
    rw [F1.len _ _ _ _ hq] at y
    exact y.symm
  have few : us.length ≤ sizeLine := by
    rw [← Paired.length r1, sizeLine_eq]
    omega
  refine wpAny_call (PySem.HandSPX.call_own F.excBase_ValueError (fun Y => PySem.HandSPX.refsVE_contains Y bm hbm) (I1.kIn _ _ hC) (PySem.W.looks_findIn I1.kIn iC) (fun self => PySem.W.bind_fn I1.kIn self tI) few (codeAny_mono (F1.run _ X.stack _ _ ⟨Value.ref (hp.objs.size + 1) :: us, []⟩ (Value.ref (hp.objs.size + 1) :: (us ++ ds)) _ _ (fun _ _ _ => False) (hr.make C us []) (I2.env0.make C us []) (hb _ (Value.ref (hp.objs.size + 1) :: us) I2.kIn many) r2 hq) fun r s' hq' => ?_))
  cases r with
  | error er => exact hx pins σ _ _ er s' I2 hq'
  | ok fl =>
    cases fl with
    | ret u =>
      obtain ⟨v, H', I3, rv, ev, q3⟩ := I2.after hq'
      subst ev
      exact ⟨rv, ⟨V.ref (hp.objs.size + 1), H', I3, rfl, q3⟩⟩
    | next => exact hq'.elim
    | brk => exact hq'.elim
    | cont => exact hq'.elim
end
section
variable {X : Cx} {K : PySem.W.Frag} (h : X.K = K)
include h
/-- e.f of a kept exception -/
def tFldX (K : PySem.W.Frag) (te : TE) (f : Str) : TE := fun σ H Q => te σ H fun x H1 => ∃ (a C dx : Addr) (fs : List (Str × V)) (v : V), x = .ref a ∧ H1 a = some (exo a C (some dx)) ∧ H1 dx = some (exd dx fs) ∧ XfC K C ∧ PySem.W.findIn K (.ref C) f = some none ∧ fs.lookup f = some v ∧ Q v H1
theorem k_fldX {e : Expr} {te : TE} {f : Str} {pos : Pos} (he : PE X e te) (hb : attributeBase e f X.env (eval e X.env) = eval e X.env) : PE X (.Attribute e f pos) (tFldX K te f) := by
  subst h
  refine ⟨fun pins s σ H Q I h => ?_⟩
  refine attr_of hb (thn (he.run pins s σ H _ I h) fun u s1 hh => ?_)
  obtain ⟨x, H1, I1, rx, a, C, dx, fs, v, ex, ea, ed, T, hno, l, q⟩ := hh
  subst ex
  obtain rfl : u = Value.ref a := rx
  obtain ⟨t1, ho⟩ := exo_at I1.hok ea
  obtain ⟨mA, hns, hr⟩ := exd_at I1.hok ed
  obtain ⟨od, hod, hl⟩ := lookIn_ns hns
  obtain ⟨u, hu, ru⟩ := RelO.some_of (v := v) (o := mA f) (by rw [← l]; exact hr f)
  have J : PySem.W.InstAt s1.heap a { cls := .ref C, dict := some dx, data := .fields #[.ref t1, .none, .none, .none, .bool false, .none] } C (some od) := ⟨ho, rfl, rfl, hod⟩
  exact HandSPX.exc_get I1.kIn J T.ga T.gg T.exC (PySem.W.findObj_own T.hdC hno rfl (by rw [hl, hu])) (handed_of ru) ⟨v, H1, I1.tok _, ru, q⟩
/-- isinstance(e, c), e a kept exception -/
def rIsX (K : PySem.W.Frag) : List V → Hp → VK → Prop := fun xs H Q => ∃ (a D : Addr) (d : Option Addr) (c : V) (cv : Value) (b : Bool), xs = [.ref a, c] ∧ H a = some (exo a D d) ∧ (∀ dx, d = some dx → ∃ fs, H dx = some (exd dx fs)) ∧ ExcC K D ∧ (∀ u, RelV c u → u = cv) ∧ PySem.W.kitOne K (.ref D) cv = some b ∧ Q (.bl b) H
theorem k_isX : CallR X (.builtin "isinstance") (rIsX K) := by
  subst h
  intro pins s σ H xs us Q I r h
  obtain ⟨a, D, d, c, cv, b, rfl, ea, hd, T, hcv, e, q⟩ := h
  obtain ⟨u1, u2, rfl, r1, r2⟩ := vals2 r
  cases r1
  have ec := hcv _ r2
  subst ec
  obtain ⟨t1, ho⟩ := exo_at I.hok ea
  have hcl : (PySem.W.clsIn X.K D).isSome = true := by
    obtain ⟨cd, hc, _⟩ := PySem.W.any_some T.hd
    rw [hc]
    rfl
  obtain ⟨od, J⟩ : ∃ od, PySem.W.InstAt s.heap a { cls := .ref D, dict := d, data := .fields #[.ref t1, .none, .none, .none, .bool false, .none] } D od := by
    cases d with
    | none => exact ⟨none, ho, rfl, rfl, trivial⟩
    | some dx =>
      obtain ⟨fs, ed⟩ := hd dx rfl
      obtain ⟨mA, hns, _⟩ := exd_at I.hok ed
      obtain ⟨od, hod, _⟩ := lookIn_ns hns
      exact ⟨some od, ho, rfl, rfl, hod⟩
  exact PySem.W.kia_one (PySem.W.kitx_exc hcl T.hg T.hk T.hs T.ha T.hn T.ht T.hm) I.kIn J e (fun z => nomatch z) fun tk => ⟨.bl b, H, I.kept (t' := tk) fun _ _ z => z, rfl, q⟩
end
end Tl
/-! odd things: also dicts -/
namespace Tl
open PySem PySem.Spec PyProof.Rows L2 RZ
section
variable {prog : Program} {w : World} {A : Around} {E : Value → Shared → Prop} {s : Shared} {T : Type} [DecidableEq T] {knd : HeapKind prog w T}
/-- a dict with tuples for keys has the same pairs as itself -/
theorem pairs_self {nm : String} {a : Addr} {xs : List (T × Addr × Value)} {Q : Bool → Shared → Prop} (hu0 : knd.room A) (ha : (a == sysModules) = false) (da : s.heap.DictOfH knd a xs) (hv : ∀ x ∈ xs, ∃ b, x.2.2 = .ref b) (h : Q true s) :
    wpAny (model prog w) A (Builtin.Dict.samePairs nm a a) Q E s := by
  obtain ⟨oa, es, ep, hoa, _, hda, he, his, hn⟩ := da
  have hl : es.size = xs.length := size_of_entries he
  unfold Builtin.Dict.samePairs Builtin.Dict.showsAll
  rw [if_neg (show ¬ (a == sysModules) = true by rw [ha]; exact Bool.false_ne_true)]
  refine wpAny_bind (wpAny_pure (wpAny_bind (wpAny_pure ?_)))
  refine wpAny_bind (wpAny_dictEntries hoa hda ?_)
  dsimp only
  refine wpAny_bind (wpAny_dictEntries hoa hda ?_)
  rw [if_neg (by simp)]
  refine wpAny_bind (wpAny_dictEpoch hoa hda ?_)
  refine wpAny_bind ?_
  rw [Std.Legacy.Range.forIn_eq_forIn_range']
  simp only [Std.Legacy.Range.size, Nat.sub_zero, Nat.add_sub_cancel, Nat.div_one]
  refine wpAny_forIn_list _ (fun rest q s' => s' = s ∧ q = (none, ()) ∧ ∃ i, rest = List.range' i (es.size - i) ∧ i ≤ es.size) _ ?_ ?_ _ _ ⟨rfl, rfl, 0, by simp, Nat.zero_le _⟩
  · rintro x rest q s' ⟨rfl, rfl, i, hr, hi⟩
    have hlt : i < es.size := by
      rcases Nat.lt_or_ge i es.size with h | h
      · exact h
      · rw [Nat.sub_eq_zero_of_le h] at hr
        simp at hr
    obtain ⟨rfl, hrest⟩ : x = i ∧ rest = List.range' (i + 1) (es.size - (i + 1)) := by
      have e : es.size - i = (es.size - (i + 1)) + 1 := by omega
      rw [e, List.range'_succ] at hr
      injection hr with h1 h2
      exact ⟨h1, h2⟩
    refine wpAny_bind (wpAny_dictEntries hoa hda ?_)
    have hx : xs[x]? = some (xs[x]'(by omega)) := List.getElem?_eq_getElem _
    generalize xs[x]'(by omega) = p at hx
    obtain ⟨k, ka, v⟩ := p
    have mx := List.mem_of_getElem? hx
    obtain ⟨b, eb⟩ := hv _ mx
    have eb2 : v = .ref b := eb
    subst eb2
    have ent : es[x]? = some ⟨knd.hash k, .ref ka, .ref b⟩ := by
      rw [entry_at he x, hx]
      rfl
    rw [ent]
    show wpAny _ _ (holding [Value.ref ka, Value.ref b] _ >>= _) _ _ _
    refine wpAny_bind (wpAny_holding (wpAny_bind (wpAny_dictFind_heap hu0 (his _ mx) hoa hda he his hn (fun no => absurd hx (no x _)) fun j p hj => ?_)))
    have ej : j = x := idxH_unique hn hj hx
    subst ej
    refine wpAny_bind (wpAny_dictEntries hoa hda ?_)
    rw [ent]
    show wpAny _ _ (holding [Value.ref b] (eqBool (Value.ref b) (Value.ref b))) _ _ _
    refine wpAny_holding ((SeqAt.EqAt.same _).eqP _ _ ?_)
    show wpAny _ _ (if (!true) = true then _ else _) _ _ _
    rw [if_neg (by decide)]
    refine wpAny_bind (wpAny_dictEpoch hoa hda ?_)
    rw [if_neg (by simp)]
    exact wpAny_pure ⟨rfl, rfl, j + 1, hrest, hlt⟩
  · rintro q s' ⟨rfl, rfl, i, hr, hi⟩
    exact wpAny_pure h
theorem rc_self {a : Addr} {xs : List (T × Addr × Value)} {Q : Value → Shared → Prop} (hr : knd.room A.in1) (ha : (a == sysModules) = false) (da : s.heap.DictOfH knd a xs) (hu : A.units < cLine) (hv : ∀ x ∈ xs, ∃ b, x.2.2 = .ref b) (h : Q (.bool true) s) :
    wpAny (model prog w) A (richCompare .Eq (.ref a) (.ref a)) Q E s := by
  refine wpAny_richCompare_same_room (op := .Eq) da.typeIs da.typeIs PySem.F.slot_dict_eq (wpAny_call_entry PySem.F.slot_dict_eq da.typeIs PySem.F.entry_dict_eq ?_ (PySem.F.args_dict_eq_2 _ _)) hu
  show wpAny _ _ (Builtin.Dict.dictSlotArgs "__eq__" ⟨[.ref a, .ref a], []⟩ >>= _) _ _ s
  refine wpAny_bind ?_
  unfold Builtin.Dict.dictSlotArgs
  refine wpAny_bind (wpAny_notOrdered_dict da.typeIs ?_)
  show wpAny _ _ (pure (Value.ref a, Value.ref a)) _ _ s
  refine wpAny_pure ?_
  refine wpAny_bind (wpAny_isInstance (T := "dict") da.typeIs PySem.F.sub_dict_dict ?_)
  simp only [Bool.not_true, Bool.false_eq_true, if_false]
  refine wpAny_bind (wpAny_pure (wpAny_bind (wpAny_pure ?_)))
  refine wpAny_bind (pairs_self hr ha da hv ?_)
  refine wpAny_pure ⟨_, rfl, ?_, ?_⟩
  · exact fun x => nomatch x
  · exact h
end
/-- a thing of any kind that the laws draw, by its datum -/
inductive Od (K : PySem.W.Frag) (H : Hp) : V → PyData → Prop
  | data {v : V} {d : PyData} : Dp K H v d → d.hasDict = false → Od K H v d
  | d0 {a : Addr} : H a = some (.dK []) → Od K H (.ref a) (.dict [])
  | d1 {a b : Addr} : H a = some (.dT [([], .ref b)]) → SqT K H b [] → Od K H (.ref a) (.dict [(.tuple [], .tuple [])])
section
variable {X : Cx} {pins : List (Addr × Obj)} {σ : L2.St} {H : Hp} {s : Shared}
theorem rd_unit (I : Inv X pins σ H s) {b : Addr} (hb : SqT X.K H b []) : Reads s.heap (.ref b) (.tuple []) [] := by
  obtain ⟨its, rv, ⟨o, h1, h2, n, h3⟩, _⟩ := I.tuple hb
  cases rv
  exact .tuple h1 h2 h3 .nil
theorem Od.reads (I : Inv X pins σ H s) {v : V} {d : PyData} {u : Value} (h : Od X.K H v d) (ru : RelV v u) : ∃ as, Reads s.heap u d as ∧ (d.hasDict = true → sysModules ∉ as) := by
  cases h with
  | data hd hn =>
    obtain ⟨as, r⟩ := Dp.reads I d v u hd ru
    exact ⟨as, r, fun z => by rw [hn] at z; cases z⟩
  | d0 ha =>
    rename_i a
    cases (show u = Value.ref a from ru)
    obtain ⟨_, ne, vs, kv, o, es, ep, h1, h2, h3, _, h5, _⟩ := dk_of I.hok ha
    cases kv
    have e : es.toList = [] := by
      cases q : es.toList with
      | nil => rfl
      | cons y ys =>
        rw [q] at h5
        cases h5
    refine ⟨[a], Reads.dict (kvs := []) (as := []) (bs := []) h1 h2.1 h3 (by rw [e]; exact .nil) (by rw [e]; exact .nil), fun _ z => ?_⟩
    have z2 := List.mem_singleton.mp z
    rw [← z2, beq_self_eq_true] at ne
    cases ne
  | d1 ha hb =>
    rename_i a b
    cases (show u = Value.ref a from ru)
    obtain ⟨_, ne, xs, kt, o, es, ep, h1, h2, h3, h4, his, _⟩ := dt_of I.hok ha
    cases kt with
    | @cons _ x _ _ r t =>
      cases t
      obtain ⟨k, ka, v⟩ := x
      obtain ⟨e1, e2, e3⟩ := r
      cases (show v = Value.ref b from e3)
      have rk := rd_unit I (b := ka) (.inl (.inl e2))
      have rb := rd_unit I hb
      refine ⟨[a], Reads.dict (kvs := [(.tuple [], .tuple [])]) (as := []) (bs := []) h1 h2.1 h3 (by rw [h4]; exact .cons rk .nil) (by rw [h4]; exact .cons rb .nil), fun _ z => ?_⟩
      have z2 := List.mem_singleton.mp z
      rw [← z2, beq_self_eq_true] at ne
      cases ne
theorem repr_none : PyData.shown .none = ("None" : Str) := rfl
/-- repr of such a thing -/
def rReprO (K : PySem.W.Frag) : List V → Hp → VK → Prop := fun xs H Q => ∃ (v : V) (d : PyData), xs = [v] ∧ Od K H v d ∧ d.showable = true ∧ d.depth ≤ 60 ∧ d.shown.length ≤ sizeLine ∧ Q (.str d.shown) H
theorem cr_reprO (hu : X.A.units + 64 < cLine) (hg : X.A.guards = some []) : CallR X (.builtin "repr") (rReprO X.K) := by
  intro pins s σ H xs us Q I r h
  obtain ⟨v, d, rfl, hd, h1, h3, h4, q⟩ := h
  obtain ⟨u, rfl, ru⟩ := vals1 r
  obtain ⟨as, rd, hs⟩ := hd.reads I ru
  cases rd with
  | none => exact PySem.P.repr_of_none ⟨.str _, H, I.tok _, ⟨_, rfl⟩, q⟩
  | bool b => exact PySem.P.repr_of_bool ⟨.str _, H, I.tok _, ⟨_, rfl⟩, q⟩
  | int i t => exact PySem.P.repr_of_int (of_decide_eq_true h1) ⟨.str _, H, I.tok _, ⟨_, rfl⟩, q⟩
  | str x t => exact PySem.P.repr_of_str ⟨.str _, H, I.tok _, ⟨_, rfl⟩, q⟩ h4
  | list e1 e2 e3 e4 => exact repr_of_reads' (.list e1 e2 e3 e4) h1 hs hg (by omega) (fun _ _ e => e) (fun h' u tk hk => ⟨.str _, H, I.kept (t' := tk) hk, ⟨_, rfl⟩, q⟩) h4
  | tuple e1 e2 e3 e4 => exact repr_of_reads' (.tuple e1 e2 e3 e4) h1 hs hg (by omega) (fun _ _ e => e) (fun h' u tk hk => ⟨.str _, H, I.kept (t' := tk) hk, ⟨_, rfl⟩, q⟩) h4
  | dict e1 e2 e3 e4 e5 => exact repr_of_reads' (.dict e1 e2 e3 e4 e5) h1 hs hg (by omega) (fun _ _ e => e) (fun h' u tk hk => ⟨.str _, H, I.kept (t' := tk) hk, ⟨_, rfl⟩, q⟩) h4
/-- == of such a thing with itself -/
def rEqO (K : PySem.W.Frag) : R2 := fun x y H Q => ∃ d, x = y ∧ Od K H x d ∧ (d.hasDict = false → d.canLay0 = true ∧ d.depth ≤ 64) ∧ Q (.bl true) H
theorem op_eqO (hu : X.A.units + 64 < cLine) : OpR X (compareOp .Eq) (rEqO X.K) := by
  intro pins s σ H x y v u Q I rx ry h
  obtain ⟨d, rfl, hd, hl, q⟩ := h
  cases hd with
  | data hd hn =>
    obtain ⟨l1, l2⟩ := hl hn
    refine op_eqD hu pins s σ H x x v u Q I rx ry ⟨d, d, hd, hd, ?_, ?_, ?_⟩
    · show (d.canLay0 && decide (d.depth ≤ 64)) = true
      rw [l1, decide_eq_true l2]
      rfl
    · show (d.canLay0 && decide (d.depth ≤ 64)) = true
      rw [l1, decide_eq_true l2]
      rfl
    · rw [SeqAt.eqv_refl d l1]
      exact q
  | d0 ha =>
    rename_i a
    cases (show v = Value.ref a from rx)
    cases (show u = Value.ref a from ry)
    show wpAny (model X.prog X.w) X.A (richCompare .Eq (.ref a) (.ref a)) (EP X pins σ Q) X.xe s
    obtain ⟨_, ne, vs, kv, da⟩ := dk_of I.hok ha
    cases kv
    exact PySem.W.rcP_dicts (knd := mixKind X.prog X.w) (r := true) ne ne da da (by omega) (fun _ => .nil) _ _ ⟨.bl true, H, I, rfl, q⟩
  | d1 ha hb =>
    rename_i a b
    cases (show v = Value.ref a from rx)
    cases (show u = Value.ref a from ry)
    show wpAny (model X.prog X.w) X.A (richCompare .Eq (.ref a) (.ref a)) (EP X pins σ Q) X.xe s
    obtain ⟨_, ne, xs, kt, da⟩ := dt_of I.hok ha
    refine rc_self (knd := tupleKind (mixKind X.prog X.w)) ?_ ne da (by omega) (fun x hx => ?_) ⟨.bl true, H, I, rfl, q⟩
    · show X.A.units + 1 < cLine
      omega
    · cases kt with
      | cons r t =>
        cases t
        rw [List.mem_singleton.mp hx]
        exact ⟨b, r.2.2⟩
/-- {k: v}, k the tuple of nothing -/
def tDisp1 (tk tv : TE) : TE := fun σ H Q => ∀ p, H p = none → tk σ (upd H p (.dT [])) fun x H1 => tv σ H1 fun y H2 => ∃ a b : Addr, x = .ref a ∧ y = .ref b ∧ H2 p = some (.dT []) ∧ H2 a = some (.tup []) ∧ Q (.ref p) (upd H2 p (.dT [([], .ref b)]))
theorem pe_disp1 {k v : Expr} {tk tv : TE} {pos : Pos} (hu : X.A.units < cLine) (hk : PE X k tk) (hv : PE X v tv) : PE X (.Dict [some k] [v] pos) (tDisp1 tk tv) := by
  refine ⟨fun pins s σ H Q I q => ?_⟩
  have q1 := q _ (I.hok.fresh (Nat.le_refl s.heap.objs.size))
  have I1 := I.laid (a := s.heap.objs.size) (o := .dT []) (h' := s.heap.push { cls := .type "dict", data := .dict #[] }) (t' := s.toks) (fun _ _ q => Heap.get?_push_of_some _ q) (Nat.le_refl _) (dt_empty s.heap I.big)
  have sh := zip_pairTrees [some k] [v] X.env pos (by rfl) (by rfl)
  have ln := pairTrees_length [some k] [v] X.env pos (by rfl) (by rfl)
  have ne : pairTrees [some k] [v] X.env pos ≠ [] := fun z => by
    rw [z] at ln
    cases ln
  rw [arm_eval_Dict, sh, dictDisplay_pairs _ ne (by rw [ln]; show 1 < 17; decide)]
  refine wpAny_bind (wpAny_standAt (wpAny_bind ?_))
  refine wpAny_subDictH (knd := tupleKind (mixKind X.prog X.w)) (show X.A.units < cLine from hu) (by rw [ln]; show 1 ≤ 15; decide) ?_
  refine pairTrees_cons_walk (thn (hk.run pins _ σ _ _ I1 q1) fun u s1 z1 => ?_)
  obtain ⟨x, H1, J1, rx, q2⟩ := z1
  refine thn (hv.run pins s1 σ H1 _ J1 q2) fun u2 s2 z2 => ?_
  obtain ⟨y, H2, J2, ry, a, b, rfl, rfl, ep, ea, q3⟩ := z2
  cases (show u = Value.ref a from rx)
  cases (show u2 = Value.ref b from ry)
  refine pairTrees_nil_walk ?_
  obtain ⟨_, hd, xs0, kt0, dd⟩ := dt_of J2.hok ep
  cases kt0
  refine ⟨[([], a, .ref b)], ⟨rfl, rfl, key_of (ks := []) J2.hok ea, trivial⟩, dd, fun h' tk dd' hs => wpAny_pure ?_⟩
  have tp : ∃ q, h'.get? s.heap.objs.size = some q := let ⟨q, _, _, hq, _⟩ := dd'; ⟨q, hq⟩
  obtain ⟨o, es, ep2, h1, h2, h3, h4, h5, h6⟩ := dd'
  have na : a ≠ s.heap.objs.size := fun z => by
    rw [z, ep] at ea
    cases ea
  have new : ObjOk X.prog X.w (upd H2 s.heap.objs.size (.dT [([], .ref b)])) h' s.heap.objs.size (.dT [([], .ref b)]) :=
    ⟨(by show 1 ≤ sizeLine; decide), hd, [([], a, .ref b)], .cons ⟨rfl, by rw [upd_ne na]; exact ea, rfl⟩ .nil, o, es, ep2, h1, h2, h3, h4, h6⟩
  exact ⟨.ref s.heap.objs.size, _, d_write (t' := tk) J2 (by rw [ep]; exact True.intro) hs tp new, rfl, q3⟩
end
section
variable {X : Cx} {K : PySem.W.Frag} (h : X.K = K)
include h
theorem k_eqO (hu : X.A.units + 64 < cLine) : OpR X (compareOp .Eq) (rEqO K) := by
  subst h
  exact op_eqO hu
theorem k_reprO (hu : X.A.units + 64 < cLine) (hg : X.A.guards = some []) : CallR X (.builtin "repr") (rReprO K) := by
  subst h
  exact cr_reprO hu hg
end
end Tl
namespace Tl
open PySem PySem.Spec PyProof.Rows L2 RZ
def topS (i : Nat) : Stmt := PySem.Challenge.pw_tellsless_k00_errors_keep_what_is_passed.main.body.getD i (.Pass ⟨0, 0, 0, 0⟩)
abbrev s_BadHouse_init : Stmt := inClass (topS 2) 0
theorem sc_BadHouse_init : FnScope ["self", "place"] ["self", "place"] (defScope s_BadHouse_init) := ⟨rfl, rfl, rfl, by decide +kernel, rfl, by decide +kernel, by decide +kernel⟩
abbrev s_BadProgram_init : Stmt := inClass (topS 4) 0
theorem sc_BadProgram_init : FnScope ["self", "part"] ["self", "part"] (defScope s_BadProgram_init) := ⟨rfl, rfl, rfl, by decide +kernel, rfl, by decide +kernel, by decide +kernel⟩
abbrev s_NoAnswer_init : Stmt := inClass (topS 28) 0
theorem sc_NoAnswer_init : FnScope ["self", "talk"] ["self", "talk"] (defScope s_NoAnswer_init) := ⟨rfl, rfl, rfl, by decide +kernel, rfl, by decide +kernel, by decide +kernel⟩
abbrev s_BadMachine_init : Stmt := inClass (topS 29) 0
theorem sc_BadMachine_init : FnScope ["self", "part"] ["self", "part"] (defScope s_BadMachine_init) := ⟨rfl, rfl, rfl, by decide +kernel, rfl, by decide +kernel, by decide +kernel⟩
abbrev s_BadText_init : Stmt := inClass (topS 31) 0
theorem sc_BadText_init : FnScope ["self", "line"] ["self", "line"] (defScope s_BadText_init) := ⟨rfl, rfl, rfl, by decide +kernel, rfl, by decide +kernel, by decide +kernel⟩
abbrev s_NoName_init : Stmt := inClass (topS 33) 0
theorem sc_NoName_init : FnScope ["self", "name"] ["self", "name"] (defScope s_NoName_init) := ⟨rfl, rfl, rfl, by decide +kernel, rfl, by decide +kernel, by decide +kernel⟩
abbrev s_law_bag : Stmt := topS 36
theorem sc_law_bag : FnScope ["script", "seed", "cell", "great", "always"] ["script"] (defScope s_law_bag) := ⟨rfl, rfl, rfl, by decide +kernel, rfl, by decide +kernel, by decide +kernel⟩
abbrev s_law_pick : Stmt := topS 37
theorem sc_law_pick : FnScope ["bag", "many", "great", "digit", "number"] ["bag", "many"] (defScope s_law_pick) := ⟨rfl, rfl, rfl, by decide +kernel, rfl, by decide +kernel, by decide +kernel⟩
abbrev s_law_some : Stmt := topS 38
theorem sc_law_some : FnScope ["bag", "things"] ["bag", "things"] (defScope s_law_some) := ⟨rfl, rfl, rfl, by decide +kernel, rfl, by decide +kernel, by decide +kernel⟩
abbrev s_law_is : Stmt := topS 39
theorem sc_law_is : FnScope ["found", "due"] ["found", "due"] (defScope s_law_is) := ⟨rfl, rfl, rfl, by decide +kernel, rfl, by decide +kernel, by decide +kernel⟩
abbrev s_law_deep : Stmt := topS 40
theorem sc_law_deep : FnScope ["thing", "turn"] [] (defScope s_law_deep) := ⟨rfl, rfl, rfl, by decide +kernel, rfl, by decide +kernel, by decide +kernel⟩
abbrev s_law_odd : Stmt := topS 41
theorem sc_law_odd : FnScope ["bag", "some"] ["bag"] (defScope s_law_odd) := ⟨rfl, rfl, rfl, by decide +kernel, rfl, by decide +kernel, by decide +kernel⟩
abbrev s_law_classes : Stmt := topS 42
theorem sc_law_classes : FnScope ["e", "found", "at", "flag"] ["e"] (defScope s_law_classes) := ⟨rfl, rfl, rfl, by decide +kernel, rfl, by decide +kernel, by decide +kernel⟩
abbrev s_law_errors : Stmt := topS 43
theorem sc_law_errors : FnScope ["thing", "made", "kept"] ["thing"] (defScope s_law_errors) := ⟨rfl, rfl, rfl, by decide +kernel, rfl, by decide +kernel, by decide +kernel⟩
abbrev s_law : Stmt := topS 44
theorem sc_law : FnScope ["script", "bag", "thing", "made", "kept", "one", "at", "error"] ["script"] (defScope s_law) := ⟨rfl, rfl, rfl, by decide +kernel, rfl, by decide +kernel, by decide +kernel⟩
end Tl
namespace Tl
open PySem PySem.Spec PyProof.Rows L2 RZ
/-- a def of the text as it stands behind the top -/
structure Dn (K : PySem.W.Frag) (mg : Str → Option Value) (x : Str) (st : Stmt) (ps : List Str) (f : Addr) (fd : FuncData) : Prop where
  F : Fun K x x st f fd
  b : Binds K fd ps []
  m : mg x = some (.ref f)
/-- the built-in names that the text uses -/
structure Blt (mg : Str → Option Value) : Prop where
  len : mg "len" = none
  int : mg "int" = none
  abs : mg "abs" = none
  sum : mg "sum" = none
  range : mg "range" = none
  repr : mg "repr" = none
  isinstance : mg "isinstance" = none
  any : mg "any" = none
  all : mg "all" = none
  tuple : mg "tuple" = none
  zip : mg "zip" = none
  enumerate : mg "enumerate" = none
  max : mg "max" = none
  bool : mg "bool" = none
def spPick : Sp := fun vs H Q _ => ∃ (b g : Addr) (m : Int), vs = [.ref b, .int m] ∧ Bag H b g ∧ 0 < m ∧ m < 1000000 ∧
  ∀ (r : Int) (H' : Hp), 0 ≤ r → r < m → Bag H' b g → Frm b g H H' → Q (.int r) H'
theorem Bag.mk2 {H : Hp} {b g : Addr} {s c : Int} {al : V} {gs : List Int} (ne : b ≠ g) (hal : al = .non ∨ ∃ n, al = .int n) (h1 : H b = some (.lst [.int s, .int c, .ref g, al])) (h2 : H g = some (.lst (gs.map V.int))) (h3 : gs.length ≤ 63) : Bag H b g :=
  ⟨ne, ⟨s, c, al, h1, hal⟩, ⟨gs, h2, h3⟩⟩
section
variable {P : Program} {w : World} {K : PySem.W.Frag} {mg : Str → Option Value} {base : Heap}
theorem ok_law_pick {f : Addr} {fd : FuncData} (D : Dn K mg "_law_pick" s_law_pick ["bag", "many"] f fd) (B : Blt mg) : FnOk P w K mg base CX0 1 f fd ["bag", "many"] spPick := by
  refine D.F.ok sc_law_pick (fun vs H Q E h => ?_) (fun cdv A outer s H vs Q E hr h => ?_)
  · obtain ⟨b, g, m, rfl, _⟩ := h
    rfl
  obtain ⟨b, g, m, rfl, hB, hm0, hm1, q⟩ := h
  have nd := sc_law_pick.nd
  refine ⟨_, (pss_cons (ps_if (pt_cmpR op_notN (pe_ix (k_ixL (K := K) rfl) (pv 0) pe_int (fun _ _ => rfl)) pe_non (nomark _)) (pss_one (ps_ret (pe_op op_mod (pe_callTy call_int1 (by rfl) B.int (by decide +kernel) (pa_cons (pe_ix (k_ixL (K := K) rfl) (pv 0) pe_int (fun _ _ => rfl)) pa_nil)) (pv 1)))) pss_nil)
      (pss_cons (ps_asg (pe_op op_add (pe_ix (k_ixL (K := K) rfl) (pv 0) pe_int (fun _ _ => rfl)) pe_int) (pg_sub (pv 0) pe_int set_list))
      (pss_cons (ps_set (i := 2) nd rfl (.inl rfl) (pe_ix (k_ixL (K := K) rfl) (pv 0) pe_int (fun _ _ => rfl)))
      (pss_cons (ps_if (pt_cmpR op_gt (pe_callB (k_len (K := K) rfl) (by rfl) B.len PySem.boot_len (pa_cons (pv 2) pa_nil)) pe_int (nomark _)) (pss_cons (ps_set (i := 3) nd rfl (.inl rfl) (pe_op op_mod (pe_callTy call_int1 (by rfl) B.int (by decide +kernel) (pa_cons (pe_ix (k_ixL (K := K) rfl) (pv 2) pe_int (fun _ _ => rfl)) pa_nil)) (pv 1)))
      (pss_cons (ps_asg (pe_op op_fdivW (pe_callTy call_int1 (by rfl) B.int (by decide +kernel) (pa_cons (pe_ix (k_ixL (K := K) rfl) (pv 2) pe_int (fun _ _ => rfl)) pa_nil)) (pv 1)) (pg_sub (pv 2) pe_int set_list))
      (pss_cons (ps_if (pt_cmpR op_eq (pe_ix (k_ixL (K := K) rfl) (pv 2) pe_int (fun _ _ => rfl)) pe_int (nomark _)) (pss_one (ps_expr (pe_bm PySem.F.plainAttrs_list PySem.F.slot_list_pop PySem.F.type_list_pop mt_popAt (pv 2) (pa_cons pe_int pa_nil)))) pss_nil)
      (pss_one (ps_ret (pv 3)))))) pss_nil)
      (pss_cons (ps_set (i := 4) nd rfl (.inl rfl) (pe_op op_mod (pe_callTy call_int1 (by rfl) B.int (by decide +kernel) (pa_cons (pe_op op_mul (pe_op op_add (pe_ix (k_ixL (K := K) rfl) (pv 0) pe_int (fun _ _ => rfl)) (pe_op op_mul pe_int (pe_ix (k_ixL (K := K) rfl) (pv 0) pe_int (fun _ _ => rfl)))) pe_int) pa_nil)) pe_int))
      (pss_cons (ps_set (i := 4) nd rfl (.inl rfl) (pe_op op_mod (pe_callTy call_int1 (by rfl) B.int (by decide +kernel) (pa_cons (pe_op op_mul (pv 4) (pe_op op_add (pe_op op_fdivW (pv 4) pe_int) pe_int)) pa_nil)) pe_int))
      (pss_cons (ps_set (i := 4) nd rfl (.inl rfl) (pe_op op_mod (pe_callTy call_int1 (by rfl) B.int (by decide +kernel) (pa_cons (pe_op op_mul (pv 4) (pe_op op_add (pe_op op_fdivW (pv 4) pe_int) pe_int)) pa_nil)) pe_int))
      (pss_one (ps_ret (pe_op op_mod (pe_callTy call_int1 (by rfl) B.int (by decide +kernel) (pa_cons (pe_op op_fdivW (pv 4) pe_int) pa_nil)) (pv 1))))))))))), ?_⟩
  obtain ⟨s0, c0, al, hb, hal⟩ := hB.hb
  obtain ⟨gs, hg, hgl⟩ := hB.hg
  have hne := hB.ne
  refine ⟨_, rfl, b, _, 3, _, rfl, rfl, SqL.of hb, at_of (j := 3) rfl rfl, rfl, _, rfl, ?_⟩
  refine ite2 (fun c => ?_) (fun c => ?_)
  · -- always
    have c' : al ≠ .non := by simpa using c
    obtain ⟨n, rfl⟩ : ∃ n, al = .int n := by
      rcases hal with h | h
      · exact absurd h c'
      · exact h
    refine ⟨_, rfl, b, _, 3, _, rfl, rfl, SqL.of hb, at_of (j := 3) rfl rfl, .inl ⟨_, rfl, _, rfl, _, _, rfl, rfl, hm0, ?_⟩⟩
    exact q _ H (Int.emod_nonneg _ (by omega)) (Int.emod_lt_of_pos _ hm0) hB (Frm.refl _ _ _)
  -- bag[1] = bag[1] + 1
  refine ⟨_, rfl, b, _, 1, _, rfl, rfl, SqL.of hb, at_of (j := 1) rfl rfl, _, _, rfl, rfl, _, rfl, b, _, 1, 1, rfl, rfl, hb, rfl, ?_⟩
  have hb1 : (upd H b (.lst ([V.int s0, V.int c0, V.ref g, al].set 1 (V.int (c0 + 1))))) b = some (.lst [V.int s0, V.int (c0 + 1), V.ref g, al]) := upd_same
  have hg1 : (upd H b (.lst ([V.int s0, V.int c0, V.ref g, al].set 1 (V.int (c0 + 1))))) g = some (.lst (gs.map V.int)) := by
    rw [upd_ne hne.symm]
    exact hg
  generalize hH1 : upd H b (.lst ([V.int s0, V.int c0, V.ref g, al].set 1 (V.int (c0 + 1)))) = H1 at hb1 hg1
  have f1 : Frm b g H H1 := by
    rw [← hH1]
    exact Frm.updB
  clear hH1
  -- great = bag[2]
  refine ⟨_, rfl, b, _, 2, _, rfl, rfl, SqL.of hb1, at_of (j := 2) rfl rfl, ?_⟩
  refine ⟨_, rfl, g, _, rfl, .inl (SqL.of hg1), _, _, rfl, rfl, _, rfl, ?_⟩
  refine ite2 (fun c => ?_) (fun c => ?_)
  · -- a great one
    cases gs with
    | nil => simp at c
    | cons z zs =>
      have e0 : atI ((z :: zs).map V.int) 0 = some (V.int z) := at_of (j := 0) rfl rfl
      refine ⟨_, rfl, g, _, 0, _, rfl, rfl, SqL.of hg1, e0, .inl ⟨_, rfl, _, rfl, _, _, rfl, rfl, hm0, ?_⟩⟩
      have hm2 : m.natAbs < 2 ^ 20 := by omega
      refine ⟨_, rfl, g, _, 0, _, rfl, rfl, SqL.of hg1, e0, .inl ⟨_, rfl, _, rfl, _, _, rfl, rfl, wide_div hm0 hm2 (by decide) (by decide), _, rfl, g, _, 0, 0, rfl, rfl, hg1, by simp [ixN], ?_⟩⟩
      have hg2 : (upd H1 g (.lst (((z :: zs).map V.int).set 0 (V.int (z / m))))) g = some (.lst (((z / m) :: zs).map V.int)) := upd_same
      have hb2 : (upd H1 g (.lst (((z :: zs).map V.int).set 0 (V.int (z / m))))) b = some (.lst [V.int s0, V.int (c0 + 1), V.ref g, al]) := by
        rw [upd_ne hne]
        exact hb1
      generalize hH2 : upd H1 g (.lst (((z :: zs).map V.int).set 0 (V.int (z / m)))) = H2 at hg2 hb2
      have f2 : Frm b g H H2 := by
        rw [← hH2]
        exact f1.trans Frm.updG
      clear hH2
      have e1 : atI (((z / m) :: zs).map V.int) 0 = some (V.int (z / m)) := at_of (j := 0) rfl rfl
      refine ⟨_, rfl, g, _, 0, _, rfl, rfl, SqL.of hg2, e1, rfl, _, rfl, ?_⟩
      refine ite2 (fun c => ?_) (fun c => ?_)
      · refine ⟨_, rfl, .inl ⟨rfl, _, SqL.of hg2⟩, g, _, 0, 0, _, rfl, rfl, hg2, by decide, by decide, by simp [seqIndex?], rfl, ?_⟩
        have hg3 : (upd H2 g (.lst ((((z / m) :: zs).map V.int).eraseIdx 0))) g = some (.lst (zs.map V.int)) := upd_same
        refine ⟨_, rfl, q _ _ (Int.emod_nonneg _ (by omega)) (Int.emod_lt_of_pos _ hm0) (.mk2 hne hal ((upd_ne hne).trans hb2) hg3 (by simp at hgl; omega)) (f2.trans Frm.updG)⟩
      · exact ⟨_, rfl, q _ H2 (Int.emod_nonneg _ (by omega)) (Int.emod_lt_of_pos _ hm0) (.mk2 hne hal hb2 hg2 (by simpa using hgl)) f2⟩
  · have mod0 : ∀ i j : Int, 0 < j → 0 ≤ i % j ∧ i % j < j := fun i j h => ⟨Int.emod_nonneg _ (by omega), Int.emod_lt_of_pos _ h⟩
    refine ⟨_, rfl, b, _, 0, _, rfl, rfl, SqL.of hb1, at_of (j := 0) rfl rfl, _, rfl, b, _, 1, _, rfl, rfl, SqL.of hb1, at_of (j := 1) rfl rfl, _, _, rfl, rfl, .inl ⟨by decide, by decide⟩, _, _, rfl, rfl, _, _, rfl, rfl, .inr ⟨by decide, by decide⟩, .inl ⟨_, rfl, _, _, rfl, rfl, (by show (0 : Int) < 2147483647; decide), ?_⟩⟩
    obtain ⟨l1, u1⟩ := mod0 ((s0 + 7919 * (c0 + 1)) * 48271) 2147483647 (by decide)
    generalize (s0 + 7919 * (c0 + 1)) * 48271 % 2147483647 = n1 at l1 u1 ⊢
    refine ⟨_, rfl, _, rfl, _, _, rfl, rfl, wide_div (b := 40) (by decide) (by decide) (by decide) (by decide), _, _, rfl, rfl, _, _, rfl, rfl, .inl ⟨by omega, by omega⟩, .inl ⟨_, rfl, _, _, rfl, rfl, (by show (0 : Int) < 2147483647; decide), ?_⟩⟩
    obtain ⟨l2, u2⟩ := mod0 (n1 * (n1 / 1009 + 69621)) 2147483647 (by decide)
    generalize n1 * (n1 / 1009 + 69621) % 2147483647 = n2 at l2 u2 ⊢
    refine ⟨_, rfl, _, rfl, _, _, rfl, rfl, wide_div (b := 40) (by decide) (by decide) (by decide) (by decide), _, _, rfl, rfl, _, _, rfl, rfl, .inl ⟨by omega, by omega⟩, .inl ⟨_, rfl, _, _, rfl, rfl, (by show (0 : Int) < 2147483399; decide), ?_⟩⟩
    generalize n2 * (n2 / 2003 + 40692) % 2147483399 = n3
    refine ⟨_, rfl, _, _, rfl, rfl, wide_div (b := 40) (by decide) (by decide) (by decide) (by decide), .inl ⟨_, rfl, _, rfl, _, _, rfl, rfl, hm0, ?_⟩⟩
    exact q _ H1 (mod0 _ _ hm0).1 (mod0 _ _ hm0).2 (.mk2 hne hal hb1 hg1 hgl) f1
end
end Tl
namespace Tl
open PySem PySem.Spec PyProof.Rows L2 RZ
theorem int_at {ns : List Int} {i : Nat} {y : V} (h : (ns.map V.int)[i]? = some y) : ∃ z, ns[i]? = some z ∧ y = .int z := by
  rw [List.getElem?_map] at h
  cases e : ns[i]? with
  | none =>
    rw [e] at h
    cases h
  | some z =>
    rw [e] at h
    exact ⟨z, rfl, (Option.some.inj h).symm⟩
theorem cut_ints (ns : List Int) (lo hi : Option Int) : ∃ ms : List Int, cutV (ns.map V.int) lo hi = ms.map V.int ∧ ms.length ≤ ns.length := by
  unfold cutV
  refine ⟨(ns.drop (HT.sIx (ns.map V.int).length 0 lo)).take (HT.sIx (ns.map V.int).length (ns.map V.int).length hi - HT.sIx (ns.map V.int).length 0 lo), by rw [List.map_take, List.map_drop], ?_⟩
  rw [List.length_take, List.length_drop]
  omega
def spBag (K : PySem.W.Frag) : Sp := fun vs H Q _ => ∃ (a : Addr) (ns : List Int), vs = [.ref a] ∧ SqL K H a (ns.map V.int) ∧ ns.length ≤ 63 ∧
  ∀ (b g : Addr) (H' : Hp), Same H H' → Bag H' b g → H b = none → H g = none → Q (.ref b) H'
theorem small63 {n : Nat} (h : n ≤ 63) : n < sizeLine := small1000 (by omega)
section
variable {P : Program} {w : World} {K : PySem.W.Frag} {mg : Str → Option Value} {base : Heap}
theorem ok_law_bag {f : Addr} {fd : FuncData} (D : Dn K mg "_law_bag" s_law_bag ["script"] f fd) (B : Blt mg) : FnOk P w K mg base CX0 1 f fd ["script"] (spBag K) := by
  refine D.F.ok sc_law_bag (fun vs H Q E h => ?_) (fun cdv A outer s H vs Q E hr h => ?_)
  · obtain ⟨a, ns, rfl, _⟩ := h
    rfl
  obtain ⟨a, ns, rfl, hS, hn, q⟩ := h
  have nd := sc_law_bag.nd
  refine ⟨_, (pss_cons (ps_set (i := 1) nd rfl (.inl rfl) (pe_op op_add pe_int (pe_callB (k_len (K := K) rfl) (by rfl) B.len PySem.boot_len (pa_cons (pv 0) pa_nil))))
      (pss_cons (ps_for PassesOwn.never rfl (k_iL (K := K) rfl (pe_slice (k_slL (K := K) rfl) (pv 0) po_none (po_some pe_int))) (pg_name (i := 2) nd rfl (.inl rfl)) (pss_one (ps_set (i := 1) nd rfl (.inl rfl) (pe_op op_mod (pe_callTy call_int1 (by rfl) B.int (by decide +kernel) (pa_cons (pe_op op_add (pe_op op_add (pe_op op_mul (pv 1) pe_int) (pe_op op_mod (pe_callTy call_int1 (by rfl) B.int (by decide +kernel) (pa_cons (pv 2) pa_nil)) pe_int)) pe_int) pa_nil)) pe_int))))
      (pss_cons (ps_setLc (i := 3) (own := [("cell", 2)]) rfl nd rfl rfl (sw_true rfl rfl rfl (by decide +kernel)) (k_iL (K := K) rfl (pe_slice (k_slL (K := K) rfl) (pv 0) po_none (po_some pe_int))) (blkOk_by (own := [("cell", 2)]) (by kernel_rfl)) (fun _ _ _ _ _ => (pg_name (i := 2) nd rfl (.inl rfl))) (fun _ _ _ _ _ => pts_one (pt_cmpR op_ge (pe_callB call_abs (by rfl) B.abs (by decide +kernel) (pa_cons (pe_callTy call_int1 (by rfl) B.int (by decide +kernel) (pa_cons (pv 2) pa_nil)) pa_nil)) (pe_op op_pow pe_int pe_int) (nomark _))) (fun _ _ _ _ _ => (pe_callB call_abs (by rfl) B.abs (by decide +kernel) (pa_cons (pe_callTy call_int1 (by rfl) B.int (by decide +kernel) (pa_cons (pv 2) pa_nil)) pa_nil))))
      (pss_cons (ps_set (i := 4) nd rfl (.inl rfl) pe_non)
      (pss_cons (ps_if (PW.pt (pw_and (pt_cmpR op_lt (pe_callB (k_len (K := K) rfl) (by rfl) B.len PySem.boot_len (pa_cons (pv 0) pa_nil)) pe_int (nomark _)) (pw_and1 (pt_cmpR op_eq (pe_callB (k_len (K := K) rfl) (by rfl) B.len PySem.boot_len (pa_cons (pv 3) pa_nil)) pe_int (nomark _))))) (pss_one (ps_set (i := 4) nd rfl (.inl rfl) (pe_callB call_abs (by rfl) B.abs (by decide +kernel) (pa_cons (pe_callB (k_sum (K := K) rfl rfl) (by rfl) B.sum (by decide +kernel) (pa_cons (pe_lc (own := [("cell", 2)]) rfl nd (k_iL (K := K) rfl (pv 0)) (blkOk_by (own := [("cell", 2)]) (by kernel_rfl)) (fun _ _ _ _ _ => (pg_name (i := 2) nd rfl (.inl rfl))) (fun _ _ _ _ _ => pts_nil) (fun _ _ _ _ _ => (pe_callTy call_int1 (by rfl) B.int (by decide +kernel) (pa_cons (pv 2) pa_nil)))) pa_nil)) pa_nil)))) pss_nil)
      (pss_one (ps_ret (pe_lst (pa_cons (pv 1) (pa_cons pe_int (pa_cons (pv 3) (pa_cons (pv 4) pa_nil)))))))))))), ?_⟩
  obtain ⟨ms, em, hm⟩ := cut_ints ns none (some 63)
  -- seed = 29 + len(script)
  refine ⟨_, rfl, a, _, rfl, .inl hS, _, _, rfl, rfl, ?_⟩
  -- for cell in script[:63]
  refine ⟨_, rfl, _, rfl, a, _, rfl, hS, fun p hp => ?_⟩
  rw [em]
  have s1 : Same H (upd H p (.lst (ms.map V.int))) := same_upd hp
  refine ⟨p, rfl, ⟨_, SqL.of upd_same⟩, for_list (K := K) (a := p) (xs := ms.map V.int) (fun i σ H2 => ∃ (z : Int) (v : Option V), σ = [some (.ref a), some (.int z), v, none, none] ∧ H2 = upd H p (.lst (ms.map V.int))) ⟨_, none, rfl, rfl⟩ (fun i σ H2 _ h => ?_) ?_ ?_⟩
  · obtain ⟨_, _, _, rfl⟩ := h
    exact SqL.of upd_same
  · rintro i y σ H2 hi ⟨z, v, rfl, rfl⟩
    obtain ⟨n, _, rfl⟩ := int_at hi
    refine ⟨_, rfl, _, _, rfl, rfl, .inr ⟨by decide, by decide⟩, _, rfl, .inl ⟨_, rfl, _, _, rfl, rfl, (by show (0 : Int) < 1000003; decide), _, _, rfl, rfl, _, _, rfl, rfl, .inl ⟨_, rfl, _, _, rfl, rfl, (by show (0 : Int) < 2147483647; decide), ?_⟩⟩⟩
    exact ⟨_, _, rfl, rfl⟩
  rintro σ H2 ⟨z, v, rfl, rfl⟩
  -- great = [..]
  refine ⟨_, rfl, _, rfl, a, _, rfl, s1.seq hS, fun p2 hp2 => ?_⟩
  rw [em]
  have s2 : Same (upd H p (.lst (ms.map V.int))) (upd (upd H p (.lst (ms.map V.int))) p2 (.lst (ms.map V.int))) := same_upd hp2
  generalize hH2 : upd (upd H p (.lst (ms.map V.int))) p2 (.lst (ms.map V.int)) = H2 at s2
  have hp2' : H2 p2 = some (.lst (ms.map V.int)) := by
    rw [← hH2]
    exact upd_same
  have s12 : Same H H2 := s1.trans s2
  clear hH2 s2 s1 hp
  refine ⟨p2, rfl, ⟨_, SqL.of hp2'⟩, fun g hg => ?_⟩
  have sg : Same H2 (upd H2 g (.lst [])) := same_upd hg
  refine lc_list (K := K) (a := p2) (xs := ms.map V.int) (fun i H3 => ∃ gs : List Int, gs.length ≤ i ∧ H3 g = some (.lst (gs.map V.int)) ∧ Same H2 H3) ⟨[], Nat.le_refl _, upd_same, sg⟩ (fun i H3 _ h => ?_) ?_ ?_
  · obtain ⟨_, _, _, h⟩ := h
    exact h.seq (SqL.of hp2')
  · rintro i y H3 hi ⟨gs, hl, h3, s3⟩
    obtain ⟨n, hn', rfl⟩ := int_at hi
    have hi2 : i < ms.length := (List.getElem?_eq_some_iff.mp hn').1
    refine ⟨rfl, ?_⟩
    refine ⟨_, rfl, .inl ⟨_, rfl, _, rfl, _, _, rfl, rfl, ⟨by decide, by decide, by decide⟩, _, _, rfl, rfl, _, rfl, ?_⟩⟩
    refine ite2 (fun c => ?_) (fun c => ?_)
    · refine ⟨_, rfl, .inl ⟨_, rfl, _, rfl, _, h3, by rw [List.length_map]; exact small63 (by omega), ?_⟩⟩
      refine ⟨gs ++ [_], by rw [List.length_append]; exact Nat.add_le_add_right hl 1, by rw [List.map_append]; exact upd_same, fun c o e => ?_⟩
      rw [upd_ne (ne_of_none e hg)]
      exact s3 _ _ e
    · exact ⟨gs, Nat.le_succ_of_le hl, h3, s3⟩
  rintro H3 ⟨gs, hl, h3, s3⟩
  rw [List.length_map] at hl
  have s13 := s12.trans s3
  -- always
  have fin : ∀ (H4 : Hp) (al : V), Same H3 H4 → (al = .non ∨ ∃ n, al = .int n) → (∀ b, H4 b = none → Q (.ref b) (upd H4 b (.lst [.int z, .int 1, .ref g, al]))) := by
    intro H4 al s4 hal b hb
    have e4 := s4 _ _ h3
    have hbg : b ≠ g := fun e => by
      rw [e, e4] at hb
      cases hb
    have hn1 : H b = none := (s13.trans s4).free hb
    exact q b g _ ((s13.trans s4).trans (same_upd hb)) (.mk2 hbg hal upd_same ((upd_ne hbg.symm).trans e4) (by omega)) hn1 (s12.free hg)
  refine ⟨_, rfl, a, _, rfl, .inl (s13.seq hS), _, _, rfl, rfl, _, rfl, ?_⟩
  refine ite2 (fun c => ?_) (fun c => ?_)
  · refine ⟨_, rfl, g, _, rfl, .inl (SqL.of h3), rfl, _, rfl, ?_⟩
    refine ite2 (fun c => ?_) (fun c => ?_)
    · -- sum([int(cell) for cell in script])
      refine ⟨_, rfl, a, rfl, ⟨_, s13.seq hS⟩, fun l hl2 => ?_⟩
      refine lc_list (K := K) (a := a) (xs := ns.map V.int) (fun i H4 => H4 l = some (.lst ((ns.take i).map V.int)) ∧ Same H3 H4) ⟨upd_same, same_upd hl2⟩ (fun i H4 _ h => h.2.seq (s13.seq hS)) ?_ ?_
      · rintro i y H4 hi ⟨h4, s4⟩
        obtain ⟨n, hn', rfl⟩ := int_at hi
        have hi2 : i < ns.length := (List.getElem?_eq_some_iff.mp hn').1
        refine ⟨rfl, ?_⟩
        refine iteT (B := H4 l = some (.lst ((ns.take (i + 1)).map V.int)) ∧ Same H3 H4) ?_
        refine ⟨_, rfl, .inl ⟨_, rfl, _, h4, ?_, ?_, fun c o e => ?_⟩⟩
        · rw [List.length_map, List.length_take]
          exact small63 (by omega)
        · rw [upd_same, List.take_add_one, hn', List.map_append]
          rfl
        · rw [upd_ne (ne_of_none e hl2)]
          exact s4 _ _ e
      · rintro H4 ⟨h4, s4⟩
        refine ⟨l, _, rfl, SqL.of h4, _, rfl, ?_⟩
        refine ⟨_, rfl, _, rfl, _, rfl, (by show 4 ≤ sizeLine; decide), fun b hb => ?_⟩
        exact fin H4 _ s4 (.inr ⟨_, rfl⟩) b hb
    · exact ⟨_, rfl, _, rfl, _, rfl, (by show 4 ≤ sizeLine; decide), fun b hb => fin H3 _ (Same.refl _) (.inl rfl) b hb⟩
  · exact iteF ⟨_, rfl, _, rfl, _, rfl, (by show 4 ≤ sizeLine; decide), fun b hb => fin H3 _ (Same.refl _) (.inl rfl) b hb⟩
end
end Tl
namespace Tl
open PySem PySem.Spec PyProof.Rows L2 RZ
/-- a choice of two values: what is known of it either way -/
def tIfE (t : TT) (ta tb : TE) : TE := fun σ H Q => ∃ R : VK, (∀ v H', R v H' → Q v H') ∧ tIf t ta tb σ H R
theorem pe_ifExpE {X : Cx} {c a b : Expr} {pos : Pos} {tA : TT} {ta tb : TE} (hc : PT X c tA) (ha : PE X a ta) (hb : PE X b tb) : PE X (.IfExp c a b pos) (tIfE tA ta tb) := by
  refine ⟨fun pins s σ H Q I h => ?_⟩
  obtain ⟨R, hm, h'⟩ := h
  refine wpAny_mono ((pe_ifExp hc ha hb).run pins s σ H R I h') (fun u s' z => ?_) fun _ _ x => x
  obtain ⟨v, H', I', r, q⟩ := z
  exact ⟨v, H', I', r, hm v H' q⟩
/-- an odd thing, fit to be compared and shown -/
def Odd (K : PySem.W.Frag) (H : Hp) (v : V) : Prop := ∃ d, Od K H v d ∧ (d.hasDict = false → d.canLay0 = true ∧ d.depth ≤ 64) ∧ d.showable = true ∧ d.depth ≤ 60 ∧ d.shown.length ≤ sizeLine
/-- data of lists and tuples of small depth -/
structure Fit (n : Nat) (d : PyData) : Prop where
  dict : d.hasDict = false
  lay : d.canLay0 = true
  deep : d.depth ≤ n
  sh : d.showable = true
  lv : d.leavesShort 8 = true
  bk : d.bulk ≤ n
theorem Fit.odd {K : PySem.W.Frag} {H : Hp} {v : V} {n : Nat} {d : PyData} (f : Fit n d) (hn : n ≤ 60) (h : Dp K H v d) : Odd K H v := by
  refine ⟨d, .data h f.dict, fun _ => ⟨f.lay, Nat.le_trans f.deep (by omega)⟩, f.sh, Nat.le_trans f.deep hn, ?_⟩
  have := PyData.shown_le_bulk 8 (by decide) d f.lv
  have := f.bk
  rw [sizeLine_eq]
  omega
theorem Fit.lst1 {n : Nat} {d : PyData} (f : Fit n d) : Fit (n + 1) (.list [d]) := by
  refine ⟨?_, ?_, ?_, ?_, ?_, ?_⟩
  · show (d.hasDict || false) = false
    rw [f.dict]
    rfl
  · show (d.canLay0 && true) = true
    rw [f.lay]
    rfl
  · show max d.depth 0 + 1 ≤ n + 1
    have := f.deep
    omega
  · show (d.showable && true) = true
    rw [f.sh]
    rfl
  · show (d.leavesShort 8 && true) = true
    rw [f.lv]
    rfl
  · show d.bulk + 1 + 0 ≤ n + 1
    have := f.bk
    omega
theorem Fit.tup1 {n : Nat} {d : PyData} (f : Fit n d) : Fit (n + 1) (.tuple [d]) := by
  obtain ⟨h1, h2, h3, h4, h5, h6⟩ := f.lst1
  exact ⟨h1, h2, h3, h4, h5, h6⟩
theorem same_sql {K : PySem.W.Frag} {H H' : Hp} {a : Addr} {xs : List V} (h : SqL K H a xs) (s : Same H H') : SqL K H' a xs := by
  rcases h with (h | ⟨o, h⟩) | h
  · exact .inl (.inl (s _ _ h))
  · exact .inl (.inr ⟨o, s _ _ h⟩)
  · exact .inr h
mutual
theorem dp_same {K : PySem.W.Frag} {H H' : Hp} (s : Same H H') : ∀ {v : V} {d : PyData}, Dp K H v d → Dp K H' v d
  | _, _, .non => .non
  | _, _, .bl b => .bl b
  | _, _, .int i => .int i
  | _, _, .str x => .str x
  | _, _, .lst h a => .lst (same_sql h s) (dps_same s a)
  | _, _, .tup h a => .tup (Same.kt s _ _ h) (dps_same s a)
theorem dps_same {K : PySem.W.Frag} {H H' : Hp} (s : Same H H') : ∀ {v : List V} {d : List PyData}, DpAll K H v d → DpAll K H' v d
  | _, _, .nil => .nil
  | _, _, .cons h t => .cons (dp_same s h) (dps_same s t)
end
theorem od_same {K : PySem.W.Frag} {H H' : Hp} {v : V} {d : PyData} (h : Od K H v d) (s : Same H H') : Od K H' v d := by
  cases h with
  | data a b => exact .data (dp_same s a) b
  | d0 a => exact .d0 (s _ _ a)
  | d1 a b => exact .d1 (s _ _ a) (Same.kt s _ _ b)
theorem Odd.keep {K : PySem.W.Frag} {H H' : Hp} {v : V} (h : Odd K H v) (s : Same H H') : Odd K H' v := let ⟨d, o, r⟩ := h; ⟨d, od_same o s, r⟩
/-- the heap without the bag -/
def mns (b g : Addr) (H : Hp) : Hp := fun a => if a = b ∨ a = g then none else H a
theorem mns_of {b g a : Addr} {H : Hp} {o : HO} (n1 : a ≠ b) (n2 : a ≠ g) (h : H a = some o) : mns b g H a = some o := by
  unfold mns
  rw [if_neg (fun z => z.elim n1 n2)]
  exact h
theorem mns_to {b g a : Addr} {H : Hp} {o : HO} (h : mns b g H a = some o) : (a ≠ b ∧ a ≠ g) ∧ H a = some o := by
  unfold mns at h
  by_cases z : a = b ∨ a = g
  · rw [if_pos z] at h
    cases h
  · rw [if_neg z] at h
    exact ⟨⟨fun e => z (.inl e), fun e => z (.inr e)⟩, h⟩
theorem mns_same {b g : Addr} {H H' : Hp} (s : Same H H') : Same (mns b g H) (mns b g H') := fun a o h => by
  obtain ⟨⟨n1, n2⟩, h⟩ := mns_to h
  exact mns_of n1 n2 (s _ _ h)
theorem mns_frm {b g : Addr} {H H' : Hp} (f : Frm b g H H') : Same (mns b g H) (mns b g H') := fun a o h => by
  obtain ⟨⟨n1, n2⟩, h⟩ := mns_to h
  exact mns_of n1 n2 (f _ _ h n1 n2)
theorem mns_sub {b g : Addr} {H : Hp} : Same (mns b g H) H := fun a o h => (mns_to h).2
theorem mns_at {b g p : Addr} {H : Hp} {o : HO} (B : Bag H b g) (n : H p = none) : mns b g (upd H p o) p = some o := mns_of (B.neNew n).1 (B.neNew n).2 upd_same
def spDeep (K : PySem.W.Frag) : Sp := fun vs H Q _ => vs = [] ∧ ∃ b g : Addr, Bag H b g ∧ ∀ (v : V) (d : PyData) (H' : Hp), Same H H' → Dp K (mns b g H') v d → Fit 40 d → Q v H'
section
variable {P : Program} {w : World} {K : PySem.W.Frag} {mg : Str → Option Value} {base : Heap}
theorem ok_law_is {f : Addr} {fd : FuncData} (D : Dn K mg "_law_is" s_law_is ["found", "due"] f fd) (B : Blt mg) : FnG P w K mg base CX0 1 f fd ["found", "due"] (fun vs H Q _ => ∃ v, vs = [v, v] ∧ Odd K H v ∧ Q (.bl true) H) := by
  refine okG D.F sc_law_is (fun vs H Q E h => ?_) (fun cdv A outer s H vs Q E hr hgu h => ?_)
  · obtain ⟨v, rfl, _⟩ := h
    rfl
  obtain ⟨v, rfl, ⟨d, o1, o2, o3, o4, o5⟩, q⟩ := h
  have nd := sc_law_is.nd
  refine ⟨_, (pss_one (ps_ret (pe_and (pe_cmpR (k_eqO (K := K) rfl hr.units) (pv 0) (pv 1) (nomark _)) (pe_one (pe_cmpR op_eq (pe_callB (k_reprO (K := K) rfl hr.units hgu) (by rfl) B.repr (by decide +kernel) (pa_cons (pv 0) pa_nil)) (pe_callB (k_reprO (K := K) rfl hr.units hgu) (by rfl) B.repr (by decide +kernel) (pa_cons (pv 1) pa_nil)) (nomark _)))))), ?_⟩
  refine ⟨_, rfl, _, rfl, d, rfl, o1, o2, _, rfl, iteT ?_⟩
  refine ⟨_, rfl, v, d, rfl, o1, o3, o4, o5, _, rfl, v, d, rfl, o1, o3, o4, o5, rfl, ?_⟩
  rw [decide_eq_true rfl]
  exact q
theorem ok_law_deep {f : Addr} {fd : FuncData} (D : Dn K mg "_law_deep" s_law_deep [] f fd) (B : Blt mg) : FnOk P w K mg base CX0 1 f fd [] (spDeep K) := by
  refine D.F.ok sc_law_deep (fun vs H Q E h => ?_) (fun cdv A outer s H vs Q E hr h => ?_)
  · obtain ⟨rfl, _⟩ := h
    rfl
  obtain ⟨rfl, b, g, hB, q⟩ := h
  have nd := sc_law_deep.nd
  refine ⟨_, (pss_cons (ps_set (i := 0) nd rfl (.inl rfl) (pe_lst (pa_cons pe_non pa_nil)))
      (pss_cons (ps_for PassesOwn.never rfl (pi_range1 (by rfl) B.range (pa_cons pe_int pa_nil)) (pg_name (i := 1) nd rfl (.inl rfl)) (pss_one (ps_set (i := 0) nd rfl (.inl rfl) (pe_ifExpE (pt_cmpR op_eq (pe_op op_mod (pv 1) pe_int) pe_int (nomark _)) (pe_lst (pa_cons (pv 0) pa_nil)) (pe_tup (pa_cons (pv 0) pa_nil))))))
      (pss_one (ps_ret (pv 0))))), ?_⟩
  refine ⟨by show 1 ≤ sizeLine; decide, fun p0 n0 => ?_⟩
  refine ⟨35, rfl, by decide, by decide, for_range (lo := 0) (n := 35) (fun i σ H2 => Same H H2 ∧ ∃ (v : V) (d : PyData) (o1 : Option V), σ = [some v, o1] ∧ Dp K (mns b g H2) v d ∧ Fit (i + 1) d) ⟨same_upd n0, .ref p0, .list [.none], none, rfl, .lst (SqL.of (mns_at hB n0)) (.cons .non .nil), rfl, rfl, by decide, rfl, rfl, by decide⟩ ?_ ?_⟩
  · rintro i σ H2 hi ⟨s2, v, d, o1, rfl, hd, hf⟩
    refine ⟨fun v2 H3 => Same H H3 ∧ ∃ d2, Dp K (mns b g H3) v2 d2 ∧ Fit (i + 2) d2, fun v2 H3 h => ?_, ?_⟩
    · obtain ⟨s3, d2, h1, h2⟩ := h
      exact ⟨s3, v2, d2, _, rfl, h1, h2⟩
    · refine ⟨_, rfl, _, _, rfl, rfl, (by show (0 : Int) < 2; decide), rfl, _, rfl, ite2 (fun _ => ?_) (fun _ => ?_)⟩
      · refine ⟨_, rfl, by show 1 ≤ sizeLine; decide, fun p np => ?_⟩
        have s3 := same_upd (o := .lst [v]) np
        exact ⟨s2.trans s3, .list [d], .lst (SqL.of (mns_at (hB.keep s2) np)) (.cons (dp_same (mns_same s3) hd) .nil), hf.lst1⟩
      · refine ⟨_, rfl, by show 1 ≤ sizeLine; decide, fun p np => ?_⟩
        have s3 := same_upd (o := .tup [v]) np
        exact ⟨s2.trans s3, .tuple [d], .tup (.inl (.inl (mns_at (hB.keep s2) np))) (.cons (dp_same (mns_same s3) hd) .nil), hf.tup1⟩
  · rintro σ H2 ⟨s2, v, d, o1, rfl, hd, hf⟩
    exact ⟨_, rfl, q v d H2 s2 hd ⟨hf.dict, hf.lay, Nat.le_trans hf.deep (by decide), hf.sh, hf.lv, Nat.le_trans hf.bk (by decide)⟩⟩
end
end Tl
namespace Tl
open PySem PySem.Spec PyProof.Rows L2 RZ
def spSome : Sp := fun vs H Q _ => ∃ (b g t : Addr) (xs : List V), vs = [.ref b, .ref t] ∧ Bag H b g ∧ H t = some (.lst xs) ∧ t ≠ b ∧ t ≠ g ∧ 0 < xs.length ∧ xs.length ≤ 1000 ∧
  ∀ (i : Nat) (x : V) (H' : Hp), xs[i]? = some x → Bag H' b g → Frm b g H H' → Q x H'
theorem odd_more {K : PySem.W.Frag} {H H' : Hp} {l : List V} {v : V} (A : ∀ x ∈ l, Odd K H x) (s : Same H H') (o : Odd K H' v) : ∀ x ∈ v :: l, Odd K H' x := fun x hx => by
  rcases List.mem_cons.mp hx with rfl | hx
  · exact o
  · exact (A x hx).keep s
theorem odd_keep {K : PySem.W.Frag} {H H' : Hp} {l : List V} (A : ∀ x ∈ l, Odd K H x) (s : Same H H') : ∀ x ∈ l, Odd K H' x := fun x hx => (A x hx).keep s
theorem same_frm {K : PySem.W.Frag} {b g : Addr} {H H' : Hp} (B : Bag H b g) (f : Frm b g H H') {a : Addr} {xs : List V} (h : SqL K H a xs) (n1 : a ≠ b) (n2 : a ≠ g) : SqL K H' a xs := by
  rcases h with (h | ⟨o, h⟩) | h
  · exact .inl (.inl (f _ _ h n1 n2))
  · exact .inl (.inr ⟨o, f _ _ h n1 n2⟩)
  · exact .inr h
section
variable {P : Program} {w : World} {K : PySem.W.Frag} {mg : Str → Option Value} {base : Heap}
theorem ok_law_some {f f3 : Addr} {fd fd3 : FuncData} (D : Dn K mg "_law_some" s_law_some ["bag", "things"] f fd) (B : Blt mg) (D_law_pick : Dn K mg "_law_pick" s_law_pick ["bag", "many"] f3 fd3) : FnOk P w K mg base CX0 2 f fd ["bag", "things"] spSome := by
  have G_law_pick : FnOk P w K mg base CX0 1 f3 fd3 ["bag", "many"] spPick := ok_law_pick D_law_pick B
  refine D.F.ok sc_law_some (fun vs H Q E h => ?_) (fun cdv A outer s H vs Q E hr h => ?_)
  · obtain ⟨b, g, t, xs, rfl, _⟩ := h
    rfl
  obtain ⟨b, g, t, xs, rfl, hB, ht, tb, tg, h1, h2, q⟩ := h
  have nd := sc_law_some.nd
  refine ⟨_, (pss_one (ps_ret (pe_ix (k_ixL (K := K) rfl) (pv 1) (pe_call G_law_pick (hr.mono (by omega)) (by rfl) D_law_pick.m D_law_pick.F.kp D_law_pick.b .nil pass0 (pa_cons (pv 0) (pa_cons (pe_callB (k_len (K := K) rfl) (by rfl) B.len PySem.boot_len (pa_cons (pv 1) pa_nil)) pa_nil))) (fun _ _ => rfl)))), ?_⟩
  refine ⟨_, rfl, _, rfl, _, rfl, t, _, rfl, .inl (SqL.of ht), b, g, _, rfl, hB, by omega, by omega, fun r H' r0 r1 B' F' => ?_⟩
  obtain ⟨j, ej⟩ : ∃ j : Nat, r = (j : Int) := ⟨r.toNat, by omega⟩
  have hj : j < xs.length := by omega
  have gj : xs[j]? = some xs[j] := List.getElem?_eq_getElem hj
  exact ⟨t, xs, r, xs[j], rfl, rfl, SqL.of (F' _ _ ht tb tg), at_of (j := j) ej gj, q j _ H' gj B' F'⟩
def spOdd (K : PySem.W.Frag) : Sp := fun vs H Q _ => ∃ (b g : Addr), vs = [.ref b] ∧ Bag H b g ∧ ∀ (v : V) (H' : Hp), Odd K H' v → Bag H' b g → Frm b g H H' → Q v H'
theorem ok_law_odd {f f1 f2 f3 : Addr} {fd fd1 fd2 fd3 : FuncData} (D : Dn K mg "_law_odd" s_law_odd ["bag"] f fd) (B : Blt mg) (D_law_pick : Dn K mg "_law_pick" s_law_pick ["bag", "many"] f1 fd1) (D_law_some : Dn K mg "_law_some" s_law_some ["bag", "things"] f2 fd2) (D_law_deep : Dn K mg "_law_deep" s_law_deep [] f3 fd3) : FnOk P w K mg base CX0 3 f fd ["bag"] (spOdd K) := by
  have G_law_some : FnOk P w K mg base CX0 2 f2 fd2 ["bag", "things"] spSome := ok_law_some D_law_some B D_law_pick
  have G_law_deep : FnOk P w K mg base CX0 1 f3 fd3 [] (spDeep K) := ok_law_deep D_law_deep B
  refine D.F.ok sc_law_odd (fun vs H Q E h => ?_) (fun cdv A outer s H vs Q E hr h => ?_)
  · obtain ⟨b, g, rfl, _⟩ := h
    rfl
  obtain ⟨b, g, rfl, hB, q⟩ := h
  have nd := sc_law_odd.nd
  refine ⟨_, (pss_cons (ps_set (i := 1) nd rfl (.inl rfl) (pe_lst (pa_cons pe_non (pa_cons pe_bl (pa_cons pe_bl (pa_cons pe_int (pa_cons pe_int (pa_cons (pe_un un_neg pe_int) (pa_cons pe_int (pa_cons (pe_op op_pow pe_int pe_int) (pa_cons pe_str (pa_cons pe_str (pa_cons pe_str (pa_cons (pe_tup pa_nil) (pa_cons (pe_lst pa_nil) (pa_cons pe_dnewK (pa_cons (pe_tup (pa_cons (pe_tup pa_nil) pa_nil)) (pa_cons (pe_tup (pa_cons pe_int pa_nil)) (pa_cons (pe_tup (pa_cons pe_int (pa_cons pe_int pa_nil))) (pa_cons (pe_tup (pa_cons pe_int (pa_cons pe_int pa_nil))) pa_nil))))))))))))))))))))
      (pss_cons (ps_set (i := 1) nd rfl (.inl rfl) (pe_op op_cat (pv 1) (pe_lst (pa_cons (pe_tup (pa_cons pe_int (pa_cons pe_int pa_nil))) (pa_cons (pe_lst (pa_cons pe_int (pa_cons pe_int pa_nil))) (pa_cons (pe_tup (pa_cons pe_int (pa_cons pe_int pa_nil))) (pa_cons (pe_tup (pa_cons (pe_un un_neg pe_int) (pa_cons pe_int pa_nil))) (pa_cons (pe_tup (pa_cons pe_int (pa_cons pe_int pa_nil))) (pa_cons (pe_tup (pa_cons pe_bl (pa_cons pe_int pa_nil))) (pa_cons (pe_tup (pa_cons (pe_tup (pa_cons pe_int (pa_cons pe_int pa_nil))) pa_nil)) (pa_cons (pe_disp1 (Nat.lt_of_le_of_lt (Nat.le_add_right _ 64) hr.units) (pe_tup pa_nil) (pe_tup pa_nil)) (pa_cons (pe_tup (pa_cons pe_non (pa_cons pe_non pa_nil))) (pa_cons (pe_call0 G_law_deep (hr.mono (by omega)) (by rfl) D_law_deep.m D_law_deep.F.kp D_law_deep.b .nil pass0) pa_nil)))))))))))))
      (pss_one (ps_ret (pe_call G_law_some (hr.mono (by omega)) (by rfl) D_law_some.m D_law_some.F.kp D_law_some.b .nil pass0 (pa_cons (pv 0) (pa_cons (pv 1) pa_nil))))))), ?_⟩
  -- the first ones
  have A0 : ∀ x ∈ ([] : List V), Odd K (mns b g H) x := fun x hx => absurd hx List.not_mem_nil
  have B0 := hB
  have S0 : Same H H := Same.refl H
  refine ⟨1, rfl, 10, 29, rfl, rfl, ⟨by decide, by decide, by decide⟩, by show 0 ≤ sizeLine; decide, fun p1 n1 => ?_⟩
  have s1 := same_upd (o := .tup []) n1
  have A1 := odd_more A0 (mns_same (b := b) (g := g) s1) (v := .ref p1) (Fit.odd (n := 10) (d := .tuple []) ⟨rfl, rfl, by decide, by decide, by decide +kernel, by decide⟩ (by decide) (.tup (.inl (.inl (mns_at B0 n1))) .nil))
  have B1 := B0.keep s1
  have S1 := S0.trans s1
  generalize upd H p1 (.tup []) = H1 at s1 A1 B1 S1 ⊢
  clear s1 n1
  refine ⟨by show 0 ≤ sizeLine; decide, fun p2 n2 => ?_⟩
  have s2 := same_upd (o := .lst []) n2
  have A2 := odd_more A1 (mns_same (b := b) (g := g) s2) (v := .ref p2) (Fit.odd (n := 10) (d := .list []) ⟨rfl, rfl, by decide, by decide, by decide +kernel, by decide⟩ (by decide) (.lst (SqL.of (mns_at B1 n2)) .nil))
  have B2 := B1.keep s2
  have S2 := S1.trans s2
  generalize upd H1 p2 (.lst []) = H2 at s2 A2 B2 S2 ⊢
  clear s2 A1 B1 S1 n2
  refine fun p3 n3 => ?_
  have s3 := same_upd (o := .dK []) n3
  have A3 := odd_more A2 (mns_same (b := b) (g := g) s3) (v := .ref p3) ⟨.dict [], .d0 (mns_at B2 n3), fun z => Bool.noConfusion z, rfl, by decide, by decide +kernel⟩
  have B3 := B2.keep s3
  have S3 := S2.trans s3
  generalize upd H2 p3 (.dK []) = H3 at s3 A3 B3 S3 ⊢
  clear s3 A2 B2 S2 n3
  refine ⟨by show 0 ≤ sizeLine; decide, fun p4 n4 => ?_⟩
  have s4 := same_upd (o := .tup []) n4
  have A4 := odd_more A3 (mns_same (b := b) (g := g) s4) (v := .ref p4) (Fit.odd (n := 10) (d := .tuple []) ⟨rfl, rfl, by decide, by decide, by decide +kernel, by decide⟩ (by decide) (.tup (.inl (.inl (mns_at B3 n4))) .nil))
  have B4 := B3.keep s4
  have S4 := S3.trans s4
  have t4 : SqT K (mns b g (upd H3 p4 (.tup []))) p4 [] := .inl (.inl (mns_at B3 n4))
  generalize upd H3 p4 (.tup []) = H4 at s4 A4 B4 S4 t4 ⊢
  clear s4 A3 B3 S3 n4
  refine ⟨by show 1 ≤ sizeLine; decide, fun p5 n5 => ?_⟩
  have s5 := same_upd (o := .tup [.ref p4]) n5
  have A5 := odd_more A4 (mns_same (b := b) (g := g) s5) (v := .ref p5) (Fit.odd (n := 10) (d := .tuple [.tuple []]) ⟨rfl, rfl, by decide, by decide, by decide +kernel, by decide⟩ (by decide) (.tup (.inl (.inl (mns_at B4 n5))) (.cons (.tup (Same.kt (mns_same (b := b) (g := g) s5) _ _ t4) .nil) .nil)))
  have B5 := B4.keep s5
  have S5 := S4.trans s5
  have t4 := Same.kt (mns_same (b := b) (g := g) s5) _ _ t4
  generalize upd H4 p5 (.tup [.ref p4]) = H5 at s5 A5 B5 S5 t4 ⊢
  clear s5 A4 B4 S4 n5
  clear t4
  refine ⟨by show 1 ≤ sizeLine; decide, fun p6 n6 => ?_⟩
  have s6 := same_upd (o := .tup [.int (0)]) n6
  have A6 := odd_more A5 (mns_same (b := b) (g := g) s6) (v := .ref p6) (Fit.odd (n := 10) (d := .tuple [.int (0)]) ⟨rfl, rfl, by decide, by decide, by decide +kernel, by decide⟩ (by decide) (.tup (.inl (.inl (mns_at B5 n6))) (.cons (.int _) .nil)))
  have B6 := B5.keep s6
  have S6 := S5.trans s6
  generalize upd H5 p6 (.tup [.int (0)]) = H6 at s6 A6 B6 S6 ⊢
  clear s6 A5 B5 S5 n6
  refine ⟨by show 2 ≤ sizeLine; decide, fun p7 n7 => ?_⟩
  have s7 := same_upd (o := .tup [.int (0), .int (1)]) n7
  have A7 := odd_more A6 (mns_same (b := b) (g := g) s7) (v := .ref p7) (Fit.odd (n := 10) (d := .tuple [.int (0), .int (1)]) ⟨rfl, rfl, by decide, by decide, by decide +kernel, by decide⟩ (by decide) (.tup (.inl (.inl (mns_at B6 n7))) (.cons (.int _) (.cons (.int _) .nil))))
  have B7 := B6.keep s7
  have S7 := S6.trans s7
  generalize upd H6 p7 (.tup [.int (0), .int (1)]) = H7 at s7 A7 B7 S7 ⊢
  clear s7 A6 B6 S6 n7
  refine ⟨by show 2 ≤ sizeLine; decide, fun p8 n8 => ?_⟩
  have s8 := same_upd (o := .tup [.int (1), .int (1)]) n8
  have A8 := odd_more A7 (mns_same (b := b) (g := g) s8) (v := .ref p8) (Fit.odd (n := 10) (d := .tuple [.int (1), .int (1)]) ⟨rfl, rfl, by decide, by decide, by decide +kernel, by decide⟩ (by decide) (.tup (.inl (.inl (mns_at B7 n8))) (.cons (.int _) (.cons (.int _) .nil))))
  have B8 := B7.keep s8
  have S8 := S7.trans s8
  generalize upd H7 p8 (.tup [.int (1), .int (1)]) = H8 at s8 A8 B8 S8 ⊢
  clear s8 A7 B7 S7 n8
  refine ⟨by show 18 ≤ sizeLine; decide, fun p9 n9 => ?_⟩
  have s9 := same_upd (o := .lst [.non, .bl true, .bl false, .int 0, .int 1, .int (-1), .int 12, .int (10 ^ (29 : Int).toNat), .str "", .str "tell", .str "ask", .ref p1, .ref p2, .ref p3, .ref p5, .ref p6, .ref p7, .ref p8]) n9
  have A9 := odd_keep A8 (mns_same (b := b) (g := g) s9)
  have B9 := B8.keep s9
  have S9 := S8.trans s9
  have e9 : (upd H8 p9 (.lst [.non, .bl true, .bl false, .int 0, .int 1, .int (-1), .int 12, .int (10 ^ (29 : Int).toNat), .str "", .str "tell", .str "ask", .ref p1, .ref p2, .ref p3, .ref p5, .ref p6, .ref p7, .ref p8])) p9 = some (.lst [.non, .bl true, .bl false, .int 0, .int 1, .int (-1), .int 12, .int (10 ^ (29 : Int).toNat), .str "", .str "tell", .str "ask", .ref p1, .ref p2, .ref p3, .ref p5, .ref p6, .ref p7, .ref p8]) := upd_same
  generalize upd H8 p9 (.lst [.non, .bl true, .bl false, .int 0, .int 1, .int (-1), .int 12, .int (10 ^ (29 : Int).toNat), .str "", .str "tell", .str "ask", .ref p1, .ref p2, .ref p3, .ref p5, .ref p6, .ref p7, .ref p8]) = H9 at s9 A9 B9 S9 e9 ⊢
  clear s9 A8 B8 S8 n9
  refine ⟨_, rfl, ?_⟩
  refine ⟨by show 2 ≤ sizeLine; decide, fun p10 n10 => ?_⟩
  have s10 := same_upd (o := .tup [.int (2), .int (2)]) n10
  have A10 := odd_more A9 (mns_same (b := b) (g := g) s10) (v := .ref p10) (Fit.odd (n := 10) (d := .tuple [.int (2), .int (2)]) ⟨rfl, rfl, by decide, by decide, by decide +kernel, by decide⟩ (by decide) (.tup (.inl (.inl (mns_at B9 n10))) (.cons (.int _) (.cons (.int _) .nil))))
  have B10 := B9.keep s10
  have S10 := S9.trans s10
  have e9 := s10 _ _ e9
  generalize upd H9 p10 (.tup [.int (2), .int (2)]) = H10 at s10 A10 B10 S10 e9 ⊢
  clear s10 A9 B9 S9 n10
  refine ⟨by show 2 ≤ sizeLine; decide, fun p11 n11 => ?_⟩
  have s11 := same_upd (o := .lst [.int (1), .int (1)]) n11
  have A11 := odd_more A10 (mns_same (b := b) (g := g) s11) (v := .ref p11) (Fit.odd (n := 10) (d := .list [.int (1), .int (1)]) ⟨rfl, rfl, by decide, by decide, by decide +kernel, by decide⟩ (by decide) (.lst (SqL.of (mns_at B10 n11)) (.cons (.int _) (.cons (.int _) .nil))))
  have B11 := B10.keep s11
  have S11 := S10.trans s11
  have e9 := s11 _ _ e9
  generalize upd H10 p11 (.lst [.int (1), .int (1)]) = H11 at s11 A11 B11 S11 e9 ⊢
  clear s11 A10 B10 S10 n11
  refine ⟨by show 2 ≤ sizeLine; decide, fun p12 n12 => ?_⟩
  have s12 := same_upd (o := .tup [.int (1), .int (2)]) n12
  have A12 := odd_more A11 (mns_same (b := b) (g := g) s12) (v := .ref p12) (Fit.odd (n := 10) (d := .tuple [.int (1), .int (2)]) ⟨rfl, rfl, by decide, by decide, by decide +kernel, by decide⟩ (by decide) (.tup (.inl (.inl (mns_at B11 n12))) (.cons (.int _) (.cons (.int _) .nil))))
  have B12 := B11.keep s12
  have S12 := S11.trans s12
  have e9 := s12 _ _ e9
  generalize upd H11 p12 (.tup [.int (1), .int (2)]) = H12 at s12 A12 B12 S12 e9 ⊢
  clear s12 A11 B11 S11 n12
  refine ⟨1, rfl, by show 2 ≤ sizeLine; decide, fun p13 n13 => ?_⟩
  have s13 := same_upd (o := .tup [.int (-1), .int (2)]) n13
  have A13 := odd_more A12 (mns_same (b := b) (g := g) s13) (v := .ref p13) (Fit.odd (n := 10) (d := .tuple [.int (-1), .int (2)]) ⟨rfl, rfl, by decide, by decide, by decide +kernel, by decide⟩ (by decide) (.tup (.inl (.inl (mns_at B12 n13))) (.cons (.int _) (.cons (.int _) .nil))))
  have B13 := B12.keep s13
  have S13 := S12.trans s13
  have e9 := s13 _ _ e9
  generalize upd H12 p13 (.tup [.int (-1), .int (2)]) = H13 at s13 A13 B13 S13 e9 ⊢
  clear s13 A12 B12 S12 n13
  refine ⟨by show 2 ≤ sizeLine; decide, fun p14 n14 => ?_⟩
  have s14 := same_upd (o := .tup [.int (3), .int (2)]) n14
  have A14 := odd_more A13 (mns_same (b := b) (g := g) s14) (v := .ref p14) (Fit.odd (n := 10) (d := .tuple [.int (3), .int (2)]) ⟨rfl, rfl, by decide, by decide, by decide +kernel, by decide⟩ (by decide) (.tup (.inl (.inl (mns_at B13 n14))) (.cons (.int _) (.cons (.int _) .nil))))
  have B14 := B13.keep s14
  have S14 := S13.trans s14
  have e9 := s14 _ _ e9
  generalize upd H13 p14 (.tup [.int (3), .int (2)]) = H14 at s14 A14 B14 S14 e9 ⊢
  clear s14 A13 B13 S13 n14
  refine ⟨by show 2 ≤ sizeLine; decide, fun p15 n15 => ?_⟩
  have s15 := same_upd (o := .tup [.bl true, .int 1]) n15
  have A15 := odd_more A14 (mns_same (b := b) (g := g) s15) (v := .ref p15) (Fit.odd (n := 10) (d := .tuple [.bool true, .int 1]) ⟨rfl, rfl, by decide, by decide, by decide +kernel, by decide⟩ (by decide) (.tup (.inl (.inl (mns_at B14 n15))) (.cons (.bl _) (.cons (.int _) .nil))))
  have B15 := B14.keep s15
  have S15 := S14.trans s15
  have e9 := s15 _ _ e9
  generalize upd H14 p15 (.tup [.bl true, .int 1]) = H15 at s15 A15 B15 S15 e9 ⊢
  clear s15 A14 B14 S14 n15
  refine ⟨by show 2 ≤ sizeLine; decide, fun p16 n16 => ?_⟩
  have s16 := same_upd (o := .tup [.int (0), .int (1)]) n16
  have A16 := odd_more A15 (mns_same (b := b) (g := g) s16) (v := .ref p16) (Fit.odd (n := 10) (d := .tuple [.int (0), .int (1)]) ⟨rfl, rfl, by decide, by decide, by decide +kernel, by decide⟩ (by decide) (.tup (.inl (.inl (mns_at B15 n16))) (.cons (.int _) (.cons (.int _) .nil))))
  have B16 := B15.keep s16
  have S16 := S15.trans s16
  have e9 := s16 _ _ e9
  have t16 : SqT K (mns b g (upd H15 p16 (.tup [.int (0), .int (1)]))) p16 [.int (0), .int (1)] := .inl (.inl (mns_at B15 n16))
  generalize upd H15 p16 (.tup [.int (0), .int (1)]) = H16 at s16 A16 B16 S16 e9 t16 ⊢
  clear s16 A15 B15 S15 n16
  refine ⟨by show 1 ≤ sizeLine; decide, fun p17 n17 => ?_⟩
  have s17 := same_upd (o := .tup [.ref p16]) n17
  have A17 := odd_more A16 (mns_same (b := b) (g := g) s17) (v := .ref p17) (Fit.odd (n := 10) (d := .tuple [.tuple [.int (0), .int (1)]]) ⟨rfl, rfl, by decide, by decide, by decide +kernel, by decide⟩ (by decide) (.tup (.inl (.inl (mns_at B16 n17))) (.cons (.tup (Same.kt (mns_same (b := b) (g := g) s17) _ _ t16) (.cons (.int _) (.cons (.int _) .nil))) .nil)))
  have B17 := B16.keep s17
  have S17 := S16.trans s17
  have e9 := s17 _ _ e9
  have t16 := Same.kt (mns_same (b := b) (g := g) s17) _ _ t16
  generalize upd H16 p17 (.tup [.ref p16]) = H17 at s17 A17 B17 S17 e9 t16 ⊢
  clear s17 A16 B16 S16 n17
  clear t16
  refine fun p18 n18 => ⟨by show 0 ≤ sizeLine; decide, fun pa na => ⟨by show 0 ≤ sizeLine; decide, fun pb nb => ?_⟩⟩
  have y1 := same_upd (o := .dT []) n18
  have y2 := same_upd (o := .tup []) na
  have y3 := same_upd (o := .tup []) nb
  refine ⟨pa, pb, rfl, rfl, (y2.trans y3) _ _ upd_same, y3 _ _ upd_same, ?_⟩
  have y123 := (y1.trans y2).trans y3
  have s18 : Same H17 (upd (upd (upd (upd H17 p18 (.dT [])) pa (.tup [])) pb (.tup [])) p18 (.dT [([], .ref pb)])) := fun c o z => by
    rw [upd_ne (ne_of_none z n18)]
    exact y123 _ _ z
  have nb18 : pb ≠ p18 := (ne_of_none (y2 _ _ upd_same) nb).symm
  have A18 := odd_more A17 (mns_same (b := b) (g := g) s18) (v := .ref p18) ⟨.dict [(.tuple [], .tuple [])], .d1 (mns_of (B17.neNew n18).1 (B17.neNew n18).2 upd_same) (.inl (.inl (mns_of ((B17.keep (y1.trans y2)).neNew nb).1 ((B17.keep (y1.trans y2)).neNew nb).2 (by rw [upd_ne nb18]; exact upd_same)))), fun z => Bool.noConfusion z, rfl, by decide, by decide +kernel⟩
  have B18 := B17.keep s18
  have S18 := S17.trans s18
  have e9 := s18 _ _ e9
  generalize upd (upd (upd (upd H17 p18 (.dT [])) pa (.tup [])) pb (.tup [])) p18 (.dT [([], .ref pb)]) = H18 at s18 A18 B18 S18 e9 ⊢
  clear s18 A17 B17 S17 n18 y1 y2 y3 y123 na nb nb18
  refine ⟨by show 2 ≤ sizeLine; decide, fun p19 n19 => ?_⟩
  have s19 := same_upd (o := .tup [.non, .non]) n19
  have A19 := odd_more A18 (mns_same (b := b) (g := g) s19) (v := .ref p19) (Fit.odd (n := 10) (d := .tuple [.none, .none]) ⟨rfl, rfl, by decide, by decide, by decide +kernel, by decide⟩ (by decide) (.tup (.inl (.inl (mns_at B18 n19))) (.cons (.non) (.cons (.non) .nil))))
  have B19 := B18.keep s19
  have S19 := S18.trans s19
  have e9 := s19 _ _ e9
  generalize upd H18 p19 (.tup [.non, .non]) = H19 at s19 A19 B19 S19 e9 ⊢
  clear s19 A18 B18 S18 n19
  refine ⟨rfl, b, g, B19, fun v d H20 s20 hd hf => ?_⟩
  have A20 := odd_more A19 (mns_same (b := b) (g := g) s20) (hf.odd (by decide) hd)
  have B20 := B19.keep s20
  have S20 := S19.trans s20
  have e9 := s20 _ _ e9
  refine ⟨by show 10 ≤ sizeLine; decide, fun p21 n21 => ?_⟩
  have s21 := same_upd (o := .lst [.ref p10, .ref p11, .ref p12, .ref p13, .ref p14, .ref p15, .ref p17, .ref p18, .ref p19, v]) n21
  have e9 := s21 _ _ e9
  refine ⟨p9, p21, _, _, rfl, rfl, e9, upd_same, by show 28 ≤ sizeLine; decide, fun p22 n22 => ?_⟩
  have s22 := same_upd (o := .lst ([.non, .bl true, .bl false, .int 0, .int 1, .int (-1), .int 12, .int (10 ^ (29 : Int).toNat), .str "", .str "tell", .str "ask", .ref p1, .ref p2, .ref p3, .ref p5, .ref p6, .ref p7, .ref p8] ++ [.ref p10, .ref p11, .ref p12, .ref p13, .ref p14, .ref p15, .ref p17, .ref p18, .ref p19, v])) n22
  have B22 := (B20.keep s21).keep s22
  have S22 := (S20.trans s21).trans s22
  have A22 := odd_keep (odd_keep A20 (mns_same (b := b) (g := g) s21)) (mns_same (b := b) (g := g) s22)
  have nn := B20.keep s21 |>.neNew n22
  refine ⟨_, rfl, _, rfl, b, g, p22, _, rfl, B22, upd_same, nn.1, nn.2, by show 0 < 28; decide, by show 28 ≤ 1000; decide, fun i x H23 hx B23 F23 => ?_⟩
  refine q x H23 (Odd.keep (Odd.keep (H := mns b g _) ?_ (mns_frm F23)) mns_sub) B23 ((Frm.of S22).trans F23)
  have A := fun y hy => (A22 y hy)
  have m := List.mem_of_getElem? hx
  simp only [List.cons_append, List.nil_append, List.mem_cons, List.not_mem_nil, or_false] at m
  rcases m with rfl | rfl | rfl | rfl | rfl | rfl | rfl | rfl | rfl | rfl | rfl | rfl | rfl | rfl | rfl | rfl | rfl | rfl | rfl | rfl | rfl | rfl | rfl | rfl | rfl | rfl | rfl | rfl
  · exact Fit.odd (n := 10) (d := .none) ⟨rfl, rfl, by decide, by decide, by decide +kernel, by decide⟩ (by decide) .non
  · exact Fit.odd (n := 10) (d := .bool true) ⟨rfl, rfl, by decide, by decide, by decide +kernel, by decide⟩ (by decide) (.bl _)
  · exact Fit.odd (n := 10) (d := .bool false) ⟨rfl, rfl, by decide, by decide, by decide +kernel, by decide⟩ (by decide) (.bl _)
  · exact Fit.odd (n := 10) (d := .int 0) ⟨rfl, rfl, by decide, by decide, by decide +kernel, by decide⟩ (by decide) (.int _)
  · exact Fit.odd (n := 10) (d := .int 1) ⟨rfl, rfl, by decide, by decide, by decide +kernel, by decide⟩ (by decide) (.int _)
  · exact Fit.odd (n := 10) (d := .int (-1)) ⟨rfl, rfl, by decide, by decide, by decide +kernel, by decide⟩ (by decide) (.int _)
  · exact Fit.odd (n := 10) (d := .int 12) ⟨rfl, rfl, by decide, by decide, by decide +kernel, by decide⟩ (by decide) (.int _)
  · exact ⟨.int (10 ^ (29 : Int).toNat), .data (.int _) rfl, fun _ => ⟨rfl, by decide⟩, by decide +kernel, by decide, by decide +kernel⟩
  · exact Fit.odd (n := 10) (d := .str "") ⟨rfl, by decide +kernel, by decide, by decide, by decide +kernel, by decide +kernel⟩ (by decide) (.str _)
  · exact Fit.odd (n := 10) (d := .str "tell") ⟨rfl, by decide +kernel, by decide, by decide, by decide +kernel, by decide +kernel⟩ (by decide) (.str _)
  · exact Fit.odd (n := 10) (d := .str "ask") ⟨rfl, by decide +kernel, by decide, by decide, by decide +kernel, by decide +kernel⟩ (by decide) (.str _)
  · exact A _ (by simp)
  · exact A _ (by simp)
  · exact A _ (by simp)
  · exact A _ (by simp)
  · exact A _ (by simp)
  · exact A _ (by simp)
  · exact A _ (by simp)
  · exact A _ (by simp)
  · exact A _ (by simp)
  · exact A _ (by simp)
  · exact A _ (by simp)
  · exact A _ (by simp)
  · exact A _ (by simp)
  · exact A _ (by simp)
  · exact A _ (by simp)
  · exact A _ (by simp)
  · exact A _ (by simp)
end
end Tl
namespace Tl
open PySem PySem.Spec PyProof.Rows L2 RZ
def veMro : List Value := [.type "ValueError", .type "Exception", .type "BaseException", .type "object"]
/-- an error class of the program: x its name, C its place, bm what stands behind it -/
structure XFact (K : PySem.W.Frag) (mg : Str → Option Value) (x : Str) (C : Addr) (bm : List Value) : Prop where
  g : mg x = some (.ref C)
  cls : ∃ cd, PySem.W.clsIn K C = some cd ∧ cd.mro = .ref C :: bm
  T : OexC K C
  E : ExcC K C
theorem XFact.k {K : PySem.W.Frag} {mg : Str → Option Value} {x : Str} {C : Addr} {bm : List Value} (X : XFact K mg x C bm) : PySem.W.keepIn K (.ref C) = true := X.T.kC
theorem XFact.F {K : PySem.W.Frag} {mg : Str → Option Value} {x : Str} {C : Addr} {bm : List Value} (X : XFact K mg x C bm) : XfC K C := ⟨X.E.hg, X.E.hk, X.E.hs, X.E.hd⟩
theorem xfact_mk {K : PySem.W.Frag} {mg : Str → Option Value} {x : Str} {C : Addr} {bm : List Value} {nm q : Str} {N : Addr} {bs : List Value} {sn : List Str} {sub : List Value} {ab col : Bool} {dd : Option Addr} {k0 k1 k2 k3 k5 : Value} (g : mg x = some (.ref C)) (E : ExcC K C) (T : OexC K C)
    (m : ∃ cd, PySem.W.clsIn K C = some cd ∧ cd.mro = .ref C :: bm) : XFact K mg x C bm := ⟨g, m, T, E⟩
theorem sub_of {K : PySem.W.Frag} {mg : Str → Option Value} {x : Str} {C : Addr} {bm : List Value} (X : XFact K mg x C bm) (v : Value) : PySem.W.mroIn K C v = some ((Value.ref C :: bm).contains v) := by
  obtain ⟨cd, h1, h2⟩ := X.cls
  unfold PySem.W.mroIn
  rw [h1, Option.bind_some, h2]
  rfl
/-- isinstance by the classes' places -/
theorem kit_cc {K : PySem.W.Frag} {mg : Str → Option Value} {x y : Str} {C D HE : Addr} {bm : List Value} (X : XFact K mg x C (.ref HE :: veMro)) (Y : XFact K mg y D bm) (n : D ≠ HE) : PySem.W.kitOne K (.ref C) (.ref D) = some (decide (C = D)) := by
  unfold PySem.W.kitOne
  by_cases e : C = D
  · subst e
    rw [if_pos (beq_self_eq_true _), decide_eq_true rfl]
  · have nb : (Value.ref C == Value.ref D) = false := beq_eq_false_iff_ne.mpr fun z => e (Value.ref.inj z)
    rw [nb, if_neg (by decide), decide_eq_false e]
    obtain ⟨cd, h1, h2⟩ := Y.cls
    show (if ((PySem.W.clsIn K D).isSome && PySem.W.typeIn K (.ref D) == some (.type "type")) = true then PySem.W.mroIn K C (.ref D) else none) = some false
    rw [h1, Y.T.tyC, if_pos (by rfl), sub_of X]
    have nb2 : (Value.ref D == Value.ref C) = false := beq_eq_false_iff_ne.mpr fun z => e (Value.ref.inj z).symm
    have nb3 : (Value.ref D == Value.ref HE) = false := beq_eq_false_iff_ne.mpr fun z => n (Value.ref.inj z)
    unfold veMro
    rw [List.contains_cons, List.contains_cons, nb2, nb3]
    rfl
theorem kit_base {K : PySem.W.Frag} {mg : Str → Option Value} {x y : Str} {C HE : Addr} {bm : List Value} (X : XFact K mg x C (.ref HE :: veMro)) (Y : XFact K mg y HE bm) : PySem.W.kitOne K (.ref C) (.ref HE) = some true := by
  unfold PySem.W.kitOne
  by_cases e : C = HE
  · subst e
    rw [if_pos (beq_self_eq_true _)]
  · have nb : (Value.ref C == Value.ref HE) = false := beq_eq_false_iff_ne.mpr fun z => e (Value.ref.inj z)
    rw [nb, if_neg (by decide)]
    obtain ⟨cd, h1, h2⟩ := Y.cls
    show (if ((PySem.W.clsIn K HE).isSome && PySem.W.typeIn K (.ref HE) == some (.type "type")) = true then PySem.W.mroIn K C (.ref HE) else none) = some true
    rw [h1, Y.T.tyC, if_pos (by rfl), sub_of X, List.contains_cons, List.contains_cons, beq_self_eq_true, Bool.true_or, Bool.or_true]
/-- the base class is none of the others -/
theorem kit_he {K : PySem.W.Frag} {mg : Str → Option Value} {x y : Str} {D HE : Addr} {bm : List Value} (X : XFact K mg x HE veMro) (Y : XFact K mg y D bm) (n : D ≠ HE) : PySem.W.kitOne K (.ref HE) (.ref D) = some false := by
  unfold PySem.W.kitOne
  have nb : (Value.ref HE == Value.ref D) = false := beq_eq_false_iff_ne.mpr fun z => n (Value.ref.inj z).symm
  rw [nb, if_neg (by decide)]
  obtain ⟨cd, h1, h2⟩ := Y.cls
  show (if ((PySem.W.clsIn K D).isSome && PySem.W.typeIn K (.ref D) == some (.type "type")) = true then PySem.W.mroIn K HE (.ref D) else none) = some false
  rw [h1, Y.T.tyC, if_pos (by rfl), sub_of X]
  have nb2 : (Value.ref D == Value.ref HE) = false := beq_eq_false_iff_ne.mpr fun z => n (Value.ref.inj z)
  unfold veMro
  rw [List.contains_cons, nb2]
  rfl
theorem kit_ve {K : PySem.W.Frag} {mg : Str → Option Value} {x : Str} {C : Addr} {bm : List Value} (X : XFact K mg x C bm) (h : bm.contains (.type "ValueError") = true) : PySem.W.kitOne K (.ref C) (.type "ValueError") = some true := by
  unfold PySem.W.kitOne
  have nb : (Value.ref C == Value.type "ValueError") = false := beq_eq_false_iff_ne.mpr fun z => by cases z
  rw [nb, if_neg (by decide)]
  show (if PySem.W.kitMeta "ValueError" = true then PySem.W.mroIn K C (.type "ValueError") else none) = some true
  rw [if_pos (by decide +kernel), sub_of X, List.contains_cons, h, Bool.or_true]
end Tl
namespace Tl
open PySem PySem.Spec PyProof.Rows L2 RZ
/-- a method as it stands behind the top -/
structure Dm (K : PySem.W.Frag) (x q : Str) (st : Stmt) (ps : List Str) (f : Addr) (fd : FuncData) : Prop where
  F : Fun K x q st f fd
  b : Binds K fd ps []
/-- all error classes: HouseError at HE, the others at c 0 .. c 32 -/
structure Errs (K : PySem.W.Frag) (mg : Str → Option Value) (HE : Addr) (c fI : Nat → Addr) : Prop where
  X_HouseError : XFact K mg "HouseError" HE veMro
  q_HouseError : PySem.W.excIn K HE veMro "ValueError.__new__" = true
  inj : ∀ i j, i < 33 → j < 33 → c i = c j → i = j
  ne : ∀ i, i < 33 → c i ≠ HE
  X_BadHouse : XFact K mg "BadHouse" (c 0) (.ref HE :: veMro)
  i_BadHouse : PySem.W.findIn K (.ref (c 0)) "__init__" = some (some (.ref (fI 0)))
  t_BadHouse : PySem.W.typeIn K (.ref (fI 0)) = some (.type "function")
  n_BadHouse : PySem.W.findIn K (.ref (c 0)) "place" = some none
  X_BadProgram : XFact K mg "BadProgram" (c 1) (.ref HE :: veMro)
  i_BadProgram : PySem.W.findIn K (.ref (c 1)) "__init__" = some (some (.ref (fI 1)))
  t_BadProgram : PySem.W.typeIn K (.ref (fI 1)) = some (.type "function")
  n_BadProgram : PySem.W.findIn K (.ref (c 1)) "part" = some none
  X_NoAnswer : XFact K mg "NoAnswer" (c 2) (.ref HE :: veMro)
  i_NoAnswer : PySem.W.findIn K (.ref (c 2)) "__init__" = some (some (.ref (fI 2)))
  t_NoAnswer : PySem.W.typeIn K (.ref (fI 2)) = some (.type "function")
  n_NoAnswer : PySem.W.findIn K (.ref (c 2)) "talk" = some none
  X_BadMachine : XFact K mg "BadMachine" (c 3) (.ref HE :: veMro)
  i_BadMachine : PySem.W.findIn K (.ref (c 3)) "__init__" = some (some (.ref (fI 3)))
  t_BadMachine : PySem.W.typeIn K (.ref (fI 3)) = some (.type "function")
  n_BadMachine : PySem.W.findIn K (.ref (c 3)) "part" = some none
  X_BadText : XFact K mg "BadText" (c 4) (.ref HE :: veMro)
  i_BadText : PySem.W.findIn K (.ref (c 4)) "__init__" = some (some (.ref (fI 4)))
  t_BadText : PySem.W.typeIn K (.ref (fI 4)) = some (.type "function")
  n_BadText : PySem.W.findIn K (.ref (c 4)) "line" = some none
  X_NoName : XFact K mg "NoName" (c 5) (.ref HE :: veMro)
  i_NoName : PySem.W.findIn K (.ref (c 5)) "__init__" = some (some (.ref (fI 5)))
  t_NoName : PySem.W.typeIn K (.ref (fI 5)) = some (.type "function")
  n_NoName : PySem.W.findIn K (.ref (c 5)) "name" = some none
  X_NoPath : XFact K mg "NoPath" (c 6) (.ref HE :: veMro)
  q_NoPath : PySem.W.excIn K (c 6) veMro "ValueError.__new__" = true
  X_NoInside : XFact K mg "NoInside" (c 7) (.ref HE :: veMro)
  q_NoInside : PySem.W.excIn K (c 7) veMro "ValueError.__new__" = true
  X_TooLarge : XFact K mg "TooLarge" (c 8) (.ref HE :: veMro)
  q_TooLarge : PySem.W.excIn K (c 8) veMro "ValueError.__new__" = true
  X_NotAlike : XFact K mg "NotAlike" (c 9) (.ref HE :: veMro)
  q_NotAlike : PySem.W.excIn K (c 9) veMro "ValueError.__new__" = true
  X_NotBetween : XFact K mg "NotBetween" (c 10) (.ref HE :: veMro)
  q_NotBetween : PySem.W.excIn K (c 10) veMro "ValueError.__new__" = true
  X_NoTest : XFact K mg "NoTest" (c 11) (.ref HE :: veMro)
  q_NoTest : PySem.W.excIn K (c 11) veMro "ValueError.__new__" = true
  X_NoPrior : XFact K mg "NoPrior" (c 12) (.ref HE :: veMro)
  q_NoPrior : PySem.W.excIn K (c 12) veMro "ValueError.__new__" = true
  X_NoGains : XFact K mg "NoGains" (c 13) (.ref HE :: veMro)
  q_NoGains : PySem.W.excIn K (c 13) veMro "ValueError.__new__" = true
  X_NoAsker : XFact K mg "NoAsker" (c 14) (.ref HE :: veMro)
  q_NoAsker : PySem.W.excIn K (c 14) veMro "ValueError.__new__" = true
  X_NotLooks : XFact K mg "NotLooks" (c 15) (.ref HE :: veMro)
  q_NotLooks : PySem.W.excIn K (c 15) veMro "ValueError.__new__" = true
  X_NotLook : XFact K mg "NotLook" (c 16) (.ref HE :: veMro)
  q_NotLook : PySem.W.excIn K (c 16) veMro "ValueError.__new__" = true
  X_NotOneRound : XFact K mg "NotOneRound" (c 17) (.ref HE :: veMro)
  q_NotOneRound : PySem.W.excIn K (c 17) veMro "ValueError.__new__" = true
  X_NoShare : XFact K mg "NoShare" (c 18) (.ref HE :: veMro)
  q_NoShare : PySem.W.excIn K (c 18) veMro "ValueError.__new__" = true
  X_NotShaped : XFact K mg "NotShaped" (c 19) (.ref HE :: veMro)
  q_NotShaped : PySem.W.excIn K (c 19) veMro "ValueError.__new__" = true
  X_NoTable : XFact K mg "NoTable" (c 20) (.ref HE :: veMro)
  q_NoTable : PySem.W.excIn K (c 20) veMro "ValueError.__new__" = true
  X_NoNumber : XFact K mg "NoNumber" (c 21) (.ref HE :: veMro)
  q_NoNumber : PySem.W.excIn K (c 21) veMro "ValueError.__new__" = true
  X_NoMenu : XFact K mg "NoMenu" (c 22) (.ref HE :: veMro)
  q_NoMenu : PySem.W.excIn K (c 22) veMro "ValueError.__new__" = true
  X_NoBudget : XFact K mg "NoBudget" (c 23) (.ref HE :: veMro)
  q_NoBudget : PySem.W.excIn K (c 23) veMro "ValueError.__new__" = true
  X_NoItem : XFact K mg "NoItem" (c 24) (.ref HE :: veMro)
  q_NoItem : PySem.W.excIn K (c 24) veMro "ValueError.__new__" = true
  X_NotRefused : XFact K mg "NotRefused" (c 25) (.ref HE :: veMro)
  q_NotRefused : PySem.W.excIn K (c 25) veMro "ValueError.__new__" = true
  X_Stopped : XFact K mg "Stopped" (c 26) (.ref HE :: veMro)
  q_Stopped : PySem.W.excIn K (c 26) veMro "ValueError.__new__" = true
  X_NoWorld : XFact K mg "NoWorld" (c 27) (.ref HE :: veMro)
  q_NoWorld : PySem.W.excIn K (c 27) veMro "ValueError.__new__" = true
  X_NoDisk : XFact K mg "NoDisk" (c 28) (.ref HE :: veMro)
  q_NoDisk : PySem.W.excIn K (c 28) veMro "ValueError.__new__" = true
  X_NoThrow : XFact K mg "NoThrow" (c 29) (.ref HE :: veMro)
  q_NoThrow : PySem.W.excIn K (c 29) veMro "ValueError.__new__" = true
  X_NoMediator : XFact K mg "NoMediator" (c 30) (.ref HE :: veMro)
  q_NoMediator : PySem.W.excIn K (c 30) veMro "ValueError.__new__" = true
  X_NoLine : XFact K mg "NoLine" (c 31) (.ref HE :: veMro)
  q_NoLine : PySem.W.excIn K (c 31) veMro "ValueError.__new__" = true
  X_NothingDone : XFact K mg "NothingDone" (c 32) (.ref HE :: veMro)
  q_NothingDone : PySem.W.excIn K (c 32) veMro "ValueError.__new__" = true
def spExI (C : Addr) (x : Str) : Sp := fun vs H Q _ => ∃ (a : Addr) (v : V), vs = [.ref a, v] ∧ H a = some (exo a C none) ∧ ∀ dx, H dx = none → dx ≠ a → Q .non (upd (upd H dx (exd dx [(x, v)])) a (exo a C (some dx)))
section
variable {P : Program} {w : World} {K : PySem.W.Frag} {mg : Str → Option Value} {base : Heap} {HE : Addr} {c fI : Nat → Addr}
theorem ok_BadHouse_init {f : Addr} {fd : FuncData} (D : Dm K "__init__" "BadHouse.__init__" s_BadHouse_init ["self", "place"] f fd) (ER : Errs K mg HE c fI) : FnOk P w K mg base CX0 1 f fd ["self", "place"] (spExI (c 0) "place") := by
  refine D.F.ok sc_BadHouse_init (fun vs H Q E h => ?_) (fun cdv A outer s H vs Q E hr h => ?_)
  · obtain ⟨a, v, rfl, _⟩ := h
    rfl
  obtain ⟨a, v, rfl, ea, q⟩ := h
  have nd := sc_BadHouse_init.nd
  refine ⟨_, pss_one (ps_ost (pv 0) (pv 1)), ?_⟩
  exact ⟨_, rfl, _, rfl, a, c 0, rfl, ER.X_BadHouse.T, ER.n_BadHouse, .inl ⟨ea, fun dx n1 n2 => q dx n1 n2⟩⟩
theorem ok_BadProgram_init {f : Addr} {fd : FuncData} (D : Dm K "__init__" "BadProgram.__init__" s_BadProgram_init ["self", "part"] f fd) (ER : Errs K mg HE c fI) : FnOk P w K mg base CX0 1 f fd ["self", "part"] (spExI (c 1) "part") := by
  refine D.F.ok sc_BadProgram_init (fun vs H Q E h => ?_) (fun cdv A outer s H vs Q E hr h => ?_)
  · obtain ⟨a, v, rfl, _⟩ := h
    rfl
  obtain ⟨a, v, rfl, ea, q⟩ := h
  have nd := sc_BadProgram_init.nd
  refine ⟨_, pss_one (ps_ost (pv 0) (pv 1)), ?_⟩
  exact ⟨_, rfl, _, rfl, a, c 1, rfl, ER.X_BadProgram.T, ER.n_BadProgram, .inl ⟨ea, fun dx n1 n2 => q dx n1 n2⟩⟩
theorem ok_NoAnswer_init {f : Addr} {fd : FuncData} (D : Dm K "__init__" "NoAnswer.__init__" s_NoAnswer_init ["self", "talk"] f fd) (ER : Errs K mg HE c fI) : FnOk P w K mg base CX0 1 f fd ["self", "talk"] (spExI (c 2) "talk") := by
  refine D.F.ok sc_NoAnswer_init (fun vs H Q E h => ?_) (fun cdv A outer s H vs Q E hr h => ?_)
  · obtain ⟨a, v, rfl, _⟩ := h
    rfl
  obtain ⟨a, v, rfl, ea, q⟩ := h
  have nd := sc_NoAnswer_init.nd
  refine ⟨_, pss_one (ps_ost (pv 0) (pv 1)), ?_⟩
  exact ⟨_, rfl, _, rfl, a, c 2, rfl, ER.X_NoAnswer.T, ER.n_NoAnswer, .inl ⟨ea, fun dx n1 n2 => q dx n1 n2⟩⟩
theorem ok_BadMachine_init {f : Addr} {fd : FuncData} (D : Dm K "__init__" "BadMachine.__init__" s_BadMachine_init ["self", "part"] f fd) (ER : Errs K mg HE c fI) : FnOk P w K mg base CX0 1 f fd ["self", "part"] (spExI (c 3) "part") := by
  refine D.F.ok sc_BadMachine_init (fun vs H Q E h => ?_) (fun cdv A outer s H vs Q E hr h => ?_)
  · obtain ⟨a, v, rfl, _⟩ := h
    rfl
  obtain ⟨a, v, rfl, ea, q⟩ := h
  have nd := sc_BadMachine_init.nd
  refine ⟨_, pss_one (ps_ost (pv 0) (pv 1)), ?_⟩
  exact ⟨_, rfl, _, rfl, a, c 3, rfl, ER.X_BadMachine.T, ER.n_BadMachine, .inl ⟨ea, fun dx n1 n2 => q dx n1 n2⟩⟩
theorem ok_BadText_init {f : Addr} {fd : FuncData} (D : Dm K "__init__" "BadText.__init__" s_BadText_init ["self", "line"] f fd) (ER : Errs K mg HE c fI) : FnOk P w K mg base CX0 1 f fd ["self", "line"] (spExI (c 4) "line") := by
  refine D.F.ok sc_BadText_init (fun vs H Q E h => ?_) (fun cdv A outer s H vs Q E hr h => ?_)
  · obtain ⟨a, v, rfl, _⟩ := h
    rfl
  obtain ⟨a, v, rfl, ea, q⟩ := h
  have nd := sc_BadText_init.nd
  refine ⟨_, pss_one (ps_ost (pv 0) (pv 1)), ?_⟩
  exact ⟨_, rfl, _, rfl, a, c 4, rfl, ER.X_BadText.T, ER.n_BadText, .inl ⟨ea, fun dx n1 n2 => q dx n1 n2⟩⟩
theorem ok_NoName_init {f : Addr} {fd : FuncData} (D : Dm K "__init__" "NoName.__init__" s_NoName_init ["self", "name"] f fd) (ER : Errs K mg HE c fI) : FnOk P w K mg base CX0 1 f fd ["self", "name"] (spExI (c 5) "name") := by
  refine D.F.ok sc_NoName_init (fun vs H Q E h => ?_) (fun cdv A outer s H vs Q E hr h => ?_)
  · obtain ⟨a, v, rfl, _⟩ := h
    rfl
  obtain ⟨a, v, rfl, ea, q⟩ := h
  have nd := sc_NoName_init.nd
  refine ⟨_, pss_one (ps_ost (pv 0) (pv 1)), ?_⟩
  exact ⟨_, rfl, _, rfl, a, c 5, rfl, ER.X_NoName.T, ER.n_NoName, .inl ⟨ea, fun dx n1 n2 => q dx n1 n2⟩⟩
end
end Tl
namespace Tl
open PySem PySem.Spec PyProof.Rows L2 RZ
section
variable {X : Cx}
theorem PE.weak {e : Expr} {t t' : TE} (h : PE X e t) (m : ∀ σ H Q, t' σ H Q → t σ H Q) : PE X e t' := ⟨fun pins s σ H Q I q => h.run pins s σ H Q I (m _ _ _ q)⟩
theorem PA.weak {es : List Expr} {t t' : TA} (h : PA X es t) (m : ∀ σ H Q, t' σ H Q → t σ H Q) : PA X es t' := ⟨fun pos pins s σ H Q I q => h.run pos pins s σ H Q I (m _ _ _ q)⟩
theorem PS.weak {st : Stmt} {t t' : TS} (h : PS X st t) (m : ∀ D σ H, t' D σ H → t D σ H) : PS X st t' := ⟨fun pins s σ H D I q => h.run pins s σ H D I (m _ _ _ q)⟩
end
/-- the places at which bs holds, below n -/
def hits (bs : Nat → Bool) (n : Nat) : List Int := ((List.range n).filter bs).map fun (j : Nat) => (j : Int)
theorem hits_succ (bs : Nat → Bool) (n : Nat) : hits bs (n + 1) = hits bs n ++ (if bs n = true then [(n : Int)] else []) := by
  unfold hits
  rw [List.range_succ, List.filter_append, List.map_append]
  congr 1
  rw [List.filter_cons]
  cases bs n <;> rfl
theorem hits_len (bs : Nat → Bool) (n : Nat) : (hits bs n).length ≤ n := by
  unfold hits
  rw [List.length_map]
  have := List.length_filter_le bs (List.range n)
  rw [List.length_range] at this
  exact this
/-- what an exception is: at a, of the class C -/
structure IsX (K : PySem.W.Frag) (H : Hp) (a C : Addr) : Prop where
  E : ExcC K C
  h : ∃ d : Option Addr, H a = some (exo a C d) ∧ ∀ dx, d = some dx → ∃ fs, H dx = some (exd dx fs)
theorem IsX.keep {K : PySem.W.Frag} {H H' : Hp} {a C : Addr} (x : IsX K H a C) (s : Same H H') : IsX K H' a C :=
  ⟨x.E, let ⟨d, h1, h2⟩ := x.h; ⟨d, s _ _ h1, fun dx e => let ⟨fs, h⟩ := h2 dx e; ⟨fs, s _ _ h⟩⟩⟩
/-- isinstance(e, D) of an exception -/
def tIs (K : PySem.W.Frag) (D : V) (te : TE) : TE := fun σ H Q => te σ H fun v H1 => ∃ a C b, v = .ref a ∧ IsX K H1 a C ∧ (∃ dv, (∀ u, RelV D u → u = dv) ∧ PySem.W.kitOne K (.ref C) dv = some b) ∧ Q (.bl b) H1
theorem pe_is1 {X : Cx} {K : PySem.W.Frag} (h : X.K = K) {e ce : Expr} {i : Nat} {D : V} {p pos : Pos} (he : PE X e (tVar i)) (hc : PE X ce (tC D)) (hg : Gl X "isinstance") (hm : X.mg "isinstance" = none)
    (hs : starEach [e, ce] X.env = (false, eval e X.env) :: starEach [ce] X.env := by rfl) (hpl : (backTo pos (starEach [ce] X.env)).any (·.1) = false := by rfl) (hs2 : starEach [ce] X.env = (false, eval ce X.env) :: starEach [] X.env := by rfl) : PE X (.Call (.Name "isinstance" p) [e, ce] [] pos) (tIs K D (tVar i)) := by
  refine PE.weak (pe_callB (k_isX h) hg hm (by decide +kernel) (pa_cons he (pa_cons hc pa_nil hs2) hs) (by decide) (by decide) hs hpl) ?_
  rintro σ H Q ⟨v, e, a, C, b, rfl, x, ⟨dv, d1, d2⟩, q⟩
  obtain ⟨d, h1, h2⟩ := x.h
  exact ⟨_, e, a, C, d, D, dv, b, rfl, h1, h2, x.E, d1, d2, q⟩
/-- found = found + [isinstance(e, A), isinstance(e, B), isinstance(e, C)] -/
def tF3 (K : PySem.W.Frag) (A B C : Addr) : TS := fun D σ H => ∃ a E bA bB bC p xs o2 o3, σ = [some (.ref a), some (.ref p), o2, o3] ∧ IsX K H a E ∧ PySem.W.kitOne K (.ref E) (.ref A) = some bA ∧ PySem.W.kitOne K (.ref E) (.ref B) = some bB ∧ PySem.W.kitOne K (.ref E) (.ref C) = some bC ∧
  H p = some (.lst xs) ∧ xs.length ≤ 100 ∧ ∀ q H', Same H H' → H' q = some (.lst (xs ++ [.bl bA, .bl bB, .bl bC])) → D.nx [some (.ref a), some (.ref q), o2, o3] H'
theorem f3_ok {K : PySem.W.Frag} {A B C : Addr} : ∀ D σ H, tF3 K A B C D σ H → tAsg (tOp rCat (tVar 1) (tLst (tCons (tIs K (.ref A) (tVar 0)) (tCons (tIs K (.ref B) (tVar 0)) (tCons (tIs K (.ref C) (tVar 0)) tNil))))) (gName 1) D σ H := by
  rintro D σ H ⟨a, E, bA, bB, bC, p, xs, o2, o3, rfl, hx, kA, kB, kC, hp, hl, q⟩
  refine ⟨_, rfl, ?_⟩
  refine ⟨_, rfl, a, E, bA, rfl, hx, ⟨_, fun u r => r, kA⟩, _, rfl, a, E, bB, rfl, hx, ⟨_, fun u r => r, kB⟩, _, rfl, a, E, bC, rfl, hx, ⟨_, fun u r => r, kC⟩, (by show 3 ≤ sizeLine; decide), fun l hl' => ?_⟩
  have sA := same_upd (o := .lst [.bl bA, .bl bB, .bl bC]) hl'
  refine ⟨p, l, xs, _, rfl, rfl, sA _ _ hp, upd_same, ?_, fun r hr => q r _ (sA.trans (same_upd hr)) upd_same⟩
  show xs.length + 3 ≤ sizeLine
  rw [sizeLine_eq]
  omega
def spCls (K : PySem.W.Frag) (c : Nat → Addr) : Sp := fun vs H Q _ => ∃ (a C : Addr) (bs : Nat → Bool), vs = [.ref a] ∧ IsX K H a C ∧ (∀ j, j < 33 → PySem.W.kitOne K (.ref C) (.ref (c j)) = some (bs j)) ∧ ∀ p H', Same H H' → SqL K H' p ((hits bs 33).map V.int) → Q (.ref p) H'
section
variable {P : Program} {w : World} {K : PySem.W.Frag} {mg : Str → Option Value} {base : Heap} {HE : Addr} {c fI : Nat → Addr}
theorem ok_law_classes {f : Addr} {fd : FuncData} (D : Dn K mg "_law_classes" s_law_classes ["e"] f fd) (B : Blt mg) (ER : Errs K mg HE c fI) : FnOk P w K mg base CX0 1 f fd ["e"] (spCls K c) := by
  refine D.F.ok sc_law_classes (fun vs H Q E h => ?_) (fun cdv A outer s H vs Q E hr h => ?_)
  · obtain ⟨a, C, bs, rfl, _⟩ := h
    rfl
  obtain ⟨a, C, bs, rfl, hx, kits, q⟩ := h
  have nd := sc_law_classes.nd
  refine ⟨_, (pss_cons (ps_set (i := 1) nd rfl (.inl rfl) (pe_lst pa_nil))
      (pss_cons (PS.weak (ps_set (i := 1) nd rfl (.inl rfl) (pe_op op_cat (pv 1) (pe_lst (pa_cons (pe_is1 (K := K) rfl (pv 0) (pe_glob (v := .ref _) rfl ER.X_BadHouse.g rfl) (by rfl) B.isinstance) (pa_cons (pe_is1 (K := K) rfl (pv 0) (pe_glob (v := .ref _) rfl ER.X_BadProgram.g rfl) (by rfl) B.isinstance) (pa_cons (pe_is1 (K := K) rfl (pv 0) (pe_glob (v := .ref _) rfl ER.X_NoAnswer.g rfl) (by rfl) B.isinstance) pa_nil)))))) (f3_ok (K := K) (A := c 0) (B := c 1) (C := c 2)))
      (pss_cons (PS.weak (ps_set (i := 1) nd rfl (.inl rfl) (pe_op op_cat (pv 1) (pe_lst (pa_cons (pe_is1 (K := K) rfl (pv 0) (pe_glob (v := .ref _) rfl ER.X_BadMachine.g rfl) (by rfl) B.isinstance) (pa_cons (pe_is1 (K := K) rfl (pv 0) (pe_glob (v := .ref _) rfl ER.X_BadText.g rfl) (by rfl) B.isinstance) (pa_cons (pe_is1 (K := K) rfl (pv 0) (pe_glob (v := .ref _) rfl ER.X_NoName.g rfl) (by rfl) B.isinstance) pa_nil)))))) (f3_ok (K := K) (A := c 3) (B := c 4) (C := c 5)))
      (pss_cons (PS.weak (ps_set (i := 1) nd rfl (.inl rfl) (pe_op op_cat (pv 1) (pe_lst (pa_cons (pe_is1 (K := K) rfl (pv 0) (pe_glob (v := .ref _) rfl ER.X_NoPath.g rfl) (by rfl) B.isinstance) (pa_cons (pe_is1 (K := K) rfl (pv 0) (pe_glob (v := .ref _) rfl ER.X_NoInside.g rfl) (by rfl) B.isinstance) (pa_cons (pe_is1 (K := K) rfl (pv 0) (pe_glob (v := .ref _) rfl ER.X_TooLarge.g rfl) (by rfl) B.isinstance) pa_nil)))))) (f3_ok (K := K) (A := c 6) (B := c 7) (C := c 8)))
      (pss_cons (PS.weak (ps_set (i := 1) nd rfl (.inl rfl) (pe_op op_cat (pv 1) (pe_lst (pa_cons (pe_is1 (K := K) rfl (pv 0) (pe_glob (v := .ref _) rfl ER.X_NotAlike.g rfl) (by rfl) B.isinstance) (pa_cons (pe_is1 (K := K) rfl (pv 0) (pe_glob (v := .ref _) rfl ER.X_NotBetween.g rfl) (by rfl) B.isinstance) (pa_cons (pe_is1 (K := K) rfl (pv 0) (pe_glob (v := .ref _) rfl ER.X_NoTest.g rfl) (by rfl) B.isinstance) pa_nil)))))) (f3_ok (K := K) (A := c 9) (B := c 10) (C := c 11)))
      (pss_cons (PS.weak (ps_set (i := 1) nd rfl (.inl rfl) (pe_op op_cat (pv 1) (pe_lst (pa_cons (pe_is1 (K := K) rfl (pv 0) (pe_glob (v := .ref _) rfl ER.X_NoPrior.g rfl) (by rfl) B.isinstance) (pa_cons (pe_is1 (K := K) rfl (pv 0) (pe_glob (v := .ref _) rfl ER.X_NoGains.g rfl) (by rfl) B.isinstance) (pa_cons (pe_is1 (K := K) rfl (pv 0) (pe_glob (v := .ref _) rfl ER.X_NoAsker.g rfl) (by rfl) B.isinstance) pa_nil)))))) (f3_ok (K := K) (A := c 12) (B := c 13) (C := c 14)))
      (pss_cons (PS.weak (ps_set (i := 1) nd rfl (.inl rfl) (pe_op op_cat (pv 1) (pe_lst (pa_cons (pe_is1 (K := K) rfl (pv 0) (pe_glob (v := .ref _) rfl ER.X_NotLooks.g rfl) (by rfl) B.isinstance) (pa_cons (pe_is1 (K := K) rfl (pv 0) (pe_glob (v := .ref _) rfl ER.X_NotLook.g rfl) (by rfl) B.isinstance) (pa_cons (pe_is1 (K := K) rfl (pv 0) (pe_glob (v := .ref _) rfl ER.X_NotOneRound.g rfl) (by rfl) B.isinstance) pa_nil)))))) (f3_ok (K := K) (A := c 15) (B := c 16) (C := c 17)))
      (pss_cons (PS.weak (ps_set (i := 1) nd rfl (.inl rfl) (pe_op op_cat (pv 1) (pe_lst (pa_cons (pe_is1 (K := K) rfl (pv 0) (pe_glob (v := .ref _) rfl ER.X_NoShare.g rfl) (by rfl) B.isinstance) (pa_cons (pe_is1 (K := K) rfl (pv 0) (pe_glob (v := .ref _) rfl ER.X_NotShaped.g rfl) (by rfl) B.isinstance) (pa_cons (pe_is1 (K := K) rfl (pv 0) (pe_glob (v := .ref _) rfl ER.X_NoTable.g rfl) (by rfl) B.isinstance) pa_nil)))))) (f3_ok (K := K) (A := c 18) (B := c 19) (C := c 20)))
      (pss_cons (PS.weak (ps_set (i := 1) nd rfl (.inl rfl) (pe_op op_cat (pv 1) (pe_lst (pa_cons (pe_is1 (K := K) rfl (pv 0) (pe_glob (v := .ref _) rfl ER.X_NoNumber.g rfl) (by rfl) B.isinstance) (pa_cons (pe_is1 (K := K) rfl (pv 0) (pe_glob (v := .ref _) rfl ER.X_NoMenu.g rfl) (by rfl) B.isinstance) (pa_cons (pe_is1 (K := K) rfl (pv 0) (pe_glob (v := .ref _) rfl ER.X_NoBudget.g rfl) (by rfl) B.isinstance) pa_nil)))))) (f3_ok (K := K) (A := c 21) (B := c 22) (C := c 23)))
      (pss_cons (PS.weak (ps_set (i := 1) nd rfl (.inl rfl) (pe_op op_cat (pv 1) (pe_lst (pa_cons (pe_is1 (K := K) rfl (pv 0) (pe_glob (v := .ref _) rfl ER.X_NoItem.g rfl) (by rfl) B.isinstance) (pa_cons (pe_is1 (K := K) rfl (pv 0) (pe_glob (v := .ref _) rfl ER.X_NotRefused.g rfl) (by rfl) B.isinstance) (pa_cons (pe_is1 (K := K) rfl (pv 0) (pe_glob (v := .ref _) rfl ER.X_Stopped.g rfl) (by rfl) B.isinstance) pa_nil)))))) (f3_ok (K := K) (A := c 24) (B := c 25) (C := c 26)))
      (pss_cons (PS.weak (ps_set (i := 1) nd rfl (.inl rfl) (pe_op op_cat (pv 1) (pe_lst (pa_cons (pe_is1 (K := K) rfl (pv 0) (pe_glob (v := .ref _) rfl ER.X_NoWorld.g rfl) (by rfl) B.isinstance) (pa_cons (pe_is1 (K := K) rfl (pv 0) (pe_glob (v := .ref _) rfl ER.X_NoDisk.g rfl) (by rfl) B.isinstance) (pa_cons (pe_is1 (K := K) rfl (pv 0) (pe_glob (v := .ref _) rfl ER.X_NoThrow.g rfl) (by rfl) B.isinstance) pa_nil)))))) (f3_ok (K := K) (A := c 27) (B := c 28) (C := c 29)))
      (pss_cons (PS.weak (ps_set (i := 1) nd rfl (.inl rfl) (pe_op op_cat (pv 1) (pe_lst (pa_cons (pe_is1 (K := K) rfl (pv 0) (pe_glob (v := .ref _) rfl ER.X_NoMediator.g rfl) (by rfl) B.isinstance) (pa_cons (pe_is1 (K := K) rfl (pv 0) (pe_glob (v := .ref _) rfl ER.X_NoLine.g rfl) (by rfl) B.isinstance) (pa_cons (pe_is1 (K := K) rfl (pv 0) (pe_glob (v := .ref _) rfl ER.X_NothingDone.g rfl) (by rfl) B.isinstance) pa_nil)))))) (f3_ok (K := K) (A := c 30) (B := c 31) (C := c 32)))
      (pss_one (ps_ret (pe_lc (own := [("at", 2), ("flag", 3)]) rfl nd (pi_enum (by rfl) B.enumerate (pa_cons (pv 1) pa_nil)) (blkOk_by (own := [("at", 2), ("flag", 3)]) (by kernel_rfl)) (fun _ _ _ _ _ => (k_tup (K := K) (n := 2) rfl rfl (pgs_cons (pg_name (i := 2) nd rfl (.inl rfl)) (pgs_cons (pg_name (i := 3) nd rfl (.inl rfl)) pgs_nil)))) (fun _ _ _ _ _ => pts_one (pt_val (pv 3))) (fun _ _ _ _ _ => (pv 2))))))))))))))))), ?_⟩
  refine ⟨by show 0 ≤ sizeLine; decide, fun p0 n0 => ?_⟩
  have S0 := same_upd (o := .lst []) n0
  have e0 : upd H p0 (.lst []) p0 = some (.lst []) := upd_same
  generalize upd H p0 (.lst []) = H0 at S0 e0 ⊢
  have x0 := hx.keep S0
  refine ⟨a, C, bs 0, bs 1, bs 2, p0, [], _, _, rfl, x0, kits 0 (by decide), kits 1 (by decide), kits 2 (by decide), e0, (by show 0 ≤ 100; decide), fun p1 H1 s1 e1 => ?_⟩
  have e1 : H1 p1 = some (.lst [.bl (bs 0), .bl (bs 1), .bl (bs 2)]) := e1
  have S1 := S0.trans s1
  have x1 := x0.keep s1
  clear x0 e0 S0 s1
  refine ⟨a, C, bs 3, bs 4, bs 5, p1, [.bl (bs 0), .bl (bs 1), .bl (bs 2)], _, _, rfl, x1, kits 3 (by decide), kits 4 (by decide), kits 5 (by decide), e1, (by show 3 ≤ 100; decide), fun p2 H2 s2 e2 => ?_⟩
  have e2 : H2 p2 = some (.lst [.bl (bs 0), .bl (bs 1), .bl (bs 2), .bl (bs 3), .bl (bs 4), .bl (bs 5)]) := e2
  have S2 := S1.trans s2
  have x2 := x1.keep s2
  clear x1 e1 S1 s2
  refine ⟨a, C, bs 6, bs 7, bs 8, p2, [.bl (bs 0), .bl (bs 1), .bl (bs 2), .bl (bs 3), .bl (bs 4), .bl (bs 5)], _, _, rfl, x2, kits 6 (by decide), kits 7 (by decide), kits 8 (by decide), e2, (by show 6 ≤ 100; decide), fun p3 H3 s3 e3 => ?_⟩
  have e3 : H3 p3 = some (.lst [.bl (bs 0), .bl (bs 1), .bl (bs 2), .bl (bs 3), .bl (bs 4), .bl (bs 5), .bl (bs 6), .bl (bs 7), .bl (bs 8)]) := e3
  have S3 := S2.trans s3
  have x3 := x2.keep s3
  clear x2 e2 S2 s3
  refine ⟨a, C, bs 9, bs 10, bs 11, p3, [.bl (bs 0), .bl (bs 1), .bl (bs 2), .bl (bs 3), .bl (bs 4), .bl (bs 5), .bl (bs 6), .bl (bs 7), .bl (bs 8)], _, _, rfl, x3, kits 9 (by decide), kits 10 (by decide), kits 11 (by decide), e3, (by show 9 ≤ 100; decide), fun p4 H4 s4 e4 => ?_⟩
  have e4 : H4 p4 = some (.lst [.bl (bs 0), .bl (bs 1), .bl (bs 2), .bl (bs 3), .bl (bs 4), .bl (bs 5), .bl (bs 6), .bl (bs 7), .bl (bs 8), .bl (bs 9), .bl (bs 10), .bl (bs 11)]) := e4
  have S4 := S3.trans s4
  have x4 := x3.keep s4
  clear x3 e3 S3 s4
  refine ⟨a, C, bs 12, bs 13, bs 14, p4, [.bl (bs 0), .bl (bs 1), .bl (bs 2), .bl (bs 3), .bl (bs 4), .bl (bs 5), .bl (bs 6), .bl (bs 7), .bl (bs 8), .bl (bs 9), .bl (bs 10), .bl (bs 11)], _, _, rfl, x4, kits 12 (by decide), kits 13 (by decide), kits 14 (by decide), e4, (by show 12 ≤ 100; decide), fun p5 H5 s5 e5 => ?_⟩
  have e5 : H5 p5 = some (.lst [.bl (bs 0), .bl (bs 1), .bl (bs 2), .bl (bs 3), .bl (bs 4), .bl (bs 5), .bl (bs 6), .bl (bs 7), .bl (bs 8), .bl (bs 9), .bl (bs 10), .bl (bs 11), .bl (bs 12), .bl (bs 13), .bl (bs 14)]) := e5
  have S5 := S4.trans s5
  have x5 := x4.keep s5
  clear x4 e4 S4 s5
  refine ⟨a, C, bs 15, bs 16, bs 17, p5, [.bl (bs 0), .bl (bs 1), .bl (bs 2), .bl (bs 3), .bl (bs 4), .bl (bs 5), .bl (bs 6), .bl (bs 7), .bl (bs 8), .bl (bs 9), .bl (bs 10), .bl (bs 11), .bl (bs 12), .bl (bs 13), .bl (bs 14)], _, _, rfl, x5, kits 15 (by decide), kits 16 (by decide), kits 17 (by decide), e5, (by show 15 ≤ 100; decide), fun p6 H6 s6 e6 => ?_⟩
  have e6 : H6 p6 = some (.lst [.bl (bs 0), .bl (bs 1), .bl (bs 2), .bl (bs 3), .bl (bs 4), .bl (bs 5), .bl (bs 6), .bl (bs 7), .bl (bs 8), .bl (bs 9), .bl (bs 10), .bl (bs 11), .bl (bs 12), .bl (bs 13), .bl (bs 14), .bl (bs 15), .bl (bs 16), .bl (bs 17)]) := e6
  have S6 := S5.trans s6
  have x6 := x5.keep s6
  clear x5 e5 S5 s6
  refine ⟨a, C, bs 18, bs 19, bs 20, p6, [.bl (bs 0), .bl (bs 1), .bl (bs 2), .bl (bs 3), .bl (bs 4), .bl (bs 5), .bl (bs 6), .bl (bs 7), .bl (bs 8), .bl (bs 9), .bl (bs 10), .bl (bs 11), .bl (bs 12), .bl (bs 13), .bl (bs 14), .bl (bs 15), .bl (bs 16), .bl (bs 17)], _, _, rfl, x6, kits 18 (by decide), kits 19 (by decide), kits 20 (by decide), e6, (by show 18 ≤ 100; decide), fun p7 H7 s7 e7 => ?_⟩
  have e7 : H7 p7 = some (.lst [.bl (bs 0), .bl (bs 1), .bl (bs 2), .bl (bs 3), .bl (bs 4), .bl (bs 5), .bl (bs 6), .bl (bs 7), .bl (bs 8), .bl (bs 9), .bl (bs 10), .bl (bs 11), .bl (bs 12), .bl (bs 13), .bl (bs 14), .bl (bs 15), .bl (bs 16), .bl (bs 17), .bl (bs 18), .bl (bs 19), .bl (bs 20)]) := e7
  have S7 := S6.trans s7
  have x7 := x6.keep s7
  clear x6 e6 S6 s7
  refine ⟨a, C, bs 21, bs 22, bs 23, p7, [.bl (bs 0), .bl (bs 1), .bl (bs 2), .bl (bs 3), .bl (bs 4), .bl (bs 5), .bl (bs 6), .bl (bs 7), .bl (bs 8), .bl (bs 9), .bl (bs 10), .bl (bs 11), .bl (bs 12), .bl (bs 13), .bl (bs 14), .bl (bs 15), .bl (bs 16), .bl (bs 17), .bl (bs 18), .bl (bs 19), .bl (bs 20)], _, _, rfl, x7, kits 21 (by decide), kits 22 (by decide), kits 23 (by decide), e7, (by show 21 ≤ 100; decide), fun p8 H8 s8 e8 => ?_⟩
  have e8 : H8 p8 = some (.lst [.bl (bs 0), .bl (bs 1), .bl (bs 2), .bl (bs 3), .bl (bs 4), .bl (bs 5), .bl (bs 6), .bl (bs 7), .bl (bs 8), .bl (bs 9), .bl (bs 10), .bl (bs 11), .bl (bs 12), .bl (bs 13), .bl (bs 14), .bl (bs 15), .bl (bs 16), .bl (bs 17), .bl (bs 18), .bl (bs 19), .bl (bs 20), .bl (bs 21), .bl (bs 22), .bl (bs 23)]) := e8
  have S8 := S7.trans s8
  have x8 := x7.keep s8
  clear x7 e7 S7 s8
  refine ⟨a, C, bs 24, bs 25, bs 26, p8, [.bl (bs 0), .bl (bs 1), .bl (bs 2), .bl (bs 3), .bl (bs 4), .bl (bs 5), .bl (bs 6), .bl (bs 7), .bl (bs 8), .bl (bs 9), .bl (bs 10), .bl (bs 11), .bl (bs 12), .bl (bs 13), .bl (bs 14), .bl (bs 15), .bl (bs 16), .bl (bs 17), .bl (bs 18), .bl (bs 19), .bl (bs 20), .bl (bs 21), .bl (bs 22), .bl (bs 23)], _, _, rfl, x8, kits 24 (by decide), kits 25 (by decide), kits 26 (by decide), e8, (by show 24 ≤ 100; decide), fun p9 H9 s9 e9 => ?_⟩
  have e9 : H9 p9 = some (.lst [.bl (bs 0), .bl (bs 1), .bl (bs 2), .bl (bs 3), .bl (bs 4), .bl (bs 5), .bl (bs 6), .bl (bs 7), .bl (bs 8), .bl (bs 9), .bl (bs 10), .bl (bs 11), .bl (bs 12), .bl (bs 13), .bl (bs 14), .bl (bs 15), .bl (bs 16), .bl (bs 17), .bl (bs 18), .bl (bs 19), .bl (bs 20), .bl (bs 21), .bl (bs 22), .bl (bs 23), .bl (bs 24), .bl (bs 25), .bl (bs 26)]) := e9
  have S9 := S8.trans s9
  have x9 := x8.keep s9
  clear x8 e8 S8 s9
  refine ⟨a, C, bs 27, bs 28, bs 29, p9, [.bl (bs 0), .bl (bs 1), .bl (bs 2), .bl (bs 3), .bl (bs 4), .bl (bs 5), .bl (bs 6), .bl (bs 7), .bl (bs 8), .bl (bs 9), .bl (bs 10), .bl (bs 11), .bl (bs 12), .bl (bs 13), .bl (bs 14), .bl (bs 15), .bl (bs 16), .bl (bs 17), .bl (bs 18), .bl (bs 19), .bl (bs 20), .bl (bs 21), .bl (bs 22), .bl (bs 23), .bl (bs 24), .bl (bs 25), .bl (bs 26)], _, _, rfl, x9, kits 27 (by decide), kits 28 (by decide), kits 29 (by decide), e9, (by show 27 ≤ 100; decide), fun p10 H10 s10 e10 => ?_⟩
  have e10 : H10 p10 = some (.lst [.bl (bs 0), .bl (bs 1), .bl (bs 2), .bl (bs 3), .bl (bs 4), .bl (bs 5), .bl (bs 6), .bl (bs 7), .bl (bs 8), .bl (bs 9), .bl (bs 10), .bl (bs 11), .bl (bs 12), .bl (bs 13), .bl (bs 14), .bl (bs 15), .bl (bs 16), .bl (bs 17), .bl (bs 18), .bl (bs 19), .bl (bs 20), .bl (bs 21), .bl (bs 22), .bl (bs 23), .bl (bs 24), .bl (bs 25), .bl (bs 26), .bl (bs 27), .bl (bs 28), .bl (bs 29)]) := e10
  have S10 := S9.trans s10
  have x10 := x9.keep s10
  clear x9 e9 S9 s10
  refine ⟨a, C, bs 30, bs 31, bs 32, p10, [.bl (bs 0), .bl (bs 1), .bl (bs 2), .bl (bs 3), .bl (bs 4), .bl (bs 5), .bl (bs 6), .bl (bs 7), .bl (bs 8), .bl (bs 9), .bl (bs 10), .bl (bs 11), .bl (bs 12), .bl (bs 13), .bl (bs 14), .bl (bs 15), .bl (bs 16), .bl (bs 17), .bl (bs 18), .bl (bs 19), .bl (bs 20), .bl (bs 21), .bl (bs 22), .bl (bs 23), .bl (bs 24), .bl (bs 25), .bl (bs 26), .bl (bs 27), .bl (bs 28), .bl (bs 29)], _, _, rfl, x10, kits 30 (by decide), kits 31 (by decide), kits 32 (by decide), e10, (by show 30 ≤ 100; decide), fun p11 H11 s11 e11 => ?_⟩
  have e11 : H11 p11 = some (.lst [.bl (bs 0), .bl (bs 1), .bl (bs 2), .bl (bs 3), .bl (bs 4), .bl (bs 5), .bl (bs 6), .bl (bs 7), .bl (bs 8), .bl (bs 9), .bl (bs 10), .bl (bs 11), .bl (bs 12), .bl (bs 13), .bl (bs 14), .bl (bs 15), .bl (bs 16), .bl (bs 17), .bl (bs 18), .bl (bs 19), .bl (bs 20), .bl (bs 21), .bl (bs 22), .bl (bs 23), .bl (bs 24), .bl (bs 25), .bl (bs 26), .bl (bs 27), .bl (bs 28), .bl (bs 29), .bl (bs 30), .bl (bs 31), .bl (bs 32)]) := e11
  have S11 := S10.trans s11
  have x11 := x10.keep s11
  clear x10 e10 S10 s11
  -- the places
  have el : ([.bl (bs 0), .bl (bs 1), .bl (bs 2), .bl (bs 3), .bl (bs 4), .bl (bs 5), .bl (bs 6), .bl (bs 7), .bl (bs 8), .bl (bs 9), .bl (bs 10), .bl (bs 11), .bl (bs 12), .bl (bs 13), .bl (bs 14), .bl (bs 15), .bl (bs 16), .bl (bs 17), .bl (bs 18), .bl (bs 19), .bl (bs 20), .bl (bs 21), .bl (bs 22), .bl (bs 23), .bl (bs 24), .bl (bs 25), .bl (bs 26), .bl (bs 27), .bl (bs 28), .bl (bs 29), .bl (bs 30), .bl (bs 31), .bl (bs 32)] : List V) = (List.range 33).map fun j => V.bl (bs j) := rfl
  rw [el] at e11
  have ge : ∀ {i : Nat} {z : V}, ((List.range 33).map fun j => V.bl (bs j))[i]? = some z → i < 33 ∧ z = .bl (bs i) := fun {i z} h => by
    rw [List.getElem?_map] at h
    by_cases hi : i < 33
    · rw [List.getElem?_range hi] at h
      exact ⟨hi, (Option.some.inj h).symm⟩
    · rw [List.getElem?_eq_none (by rw [List.length_range]; omega)] at h
      cases h
  refine ⟨_, rfl, p11, _, rfl, SqL.of e11, fun T hT => ?_⟩
  refine lc_it (walk_enum (K := K) (a := p11) (xs := (List.range 33).map fun j => V.bl (bs j))) (fun i H2 => H2 T = some (.lst ((hits bs i).map V.int)) ∧ Same H11 H2) ⟨upd_same, same_upd hT⟩ (fun i H2 _ h => SqL.of (h.2 _ _ e11)) ?_ ?_
  · rintro i x H2 H3 hi ⟨h2, s2⟩ ⟨Te, z1, z2, rfl, nT, rfl, g1, g2⟩
    cases g1
    obtain ⟨hi33, rfl⟩ := ge g2
    have sE := same_upd (o := .tup [.int (i : Int), .bl (bs i)]) nT
    refine ⟨Te, _, rfl, .inl (.inl upd_same), rfl, _, _, rfl, _, _, rfl, rfl, rfl, _, rfl, _, rfl, ?_⟩
    cases hb : bs i with
    | false =>
      rw [hb] at sE
      refine iteF ⟨?_, s2.trans sE⟩
      rw [hits_succ, hb, if_neg (by decide), List.append_nil]
      exact sE _ _ h2
    | true =>
      rw [hb] at sE
      refine iteT ⟨_, rfl, _, sE _ _ h2, ?_, ?_, fun z o e => ?_⟩
      · rw [List.length_map]
        have := hits_len bs i
        exact small1000 (by omega)
      · rw [upd_same, hits_succ, hb, if_pos rfl, List.map_append]
        rfl
      · rw [upd_ne (ne_of_none e hT)]
        exact sE _ _ (s2 _ _ e)
  · rintro H2 ⟨h2, s2⟩
    rw [List.length_map, List.length_range] at h2
    exact q T H2 (S11.trans s2) (SqL.of h2)
end
end Tl
namespace Tl
open PySem PySem.Spec PyProof.Rows L2 RZ
/-- exceptions of these classes, one by one -/
inductive XL (K : PySem.W.Frag) (H : Hp) : List V → List Addr → Prop
  | nil : XL K H [] []
  | cons {a C : Addr} {vs : List V} {Cs : List Addr} : IsX K H a C → XL K H vs Cs → XL K H (.ref a :: vs) (C :: Cs)
theorem XL.keep {K : PySem.W.Frag} {H H' : Hp} (s : Same H H') : ∀ {vs : List V} {Cs : List Addr}, XL K H vs Cs → XL K H' vs Cs
  | _, _, .nil => .nil
  | _, _, .cons h t => .cons (h.keep s) (XL.keep s t)
theorem XL.app {K : PySem.W.Frag} {H : Hp} : ∀ {vs ws : List V} {Cs Ds : List Addr}, XL K H vs Cs → XL K H ws Ds → XL K H (vs ++ ws) (Cs ++ Ds)
  | _, _, _, _, .nil, q => q
  | _, _, _, _, .cons h t, q => .cons h (XL.app t q)
theorem XL.len {K : PySem.W.Frag} {H : Hp} : ∀ {vs : List V} {Cs : List Addr}, XL K H vs Cs → vs.length = Cs.length
  | _, _, .nil => rfl
  | _, _, .cons _ t => congrArg (· + 1) (XL.len t)
theorem XL.get {K : PySem.W.Frag} {H : Hp} : ∀ {vs : List V} {Cs : List Addr} {i : Nat} {v : V}, XL K H vs Cs → vs[i]? = some v → ∃ a C, v = .ref a ∧ Cs[i]? = some C ∧ IsX K H a C
  | _, _, _, _, .nil, e => by simp at e
  | _, _, 0, _, .cons h _, e => by
    simp at e
    subst e
    exact ⟨_, _, rfl, rfl, h⟩
  | _, _, i + 1, v, .cons _ t, e => by
    obtain ⟨a, C, h1, h2, h3⟩ := XL.get (i := i) (v := v) t (by simpa using e)
    exact ⟨a, C, h1, by simpa using h2, h3⟩
/-- exceptions that keep v in a field -/
inductive XF (K : PySem.W.Frag) (H : Hp) (v : V) : List V → List (Addr × Str) → Prop
  | nil : XF K H v [] []
  | cons {a C dx : Addr} {f : Str} {vs : List V} {Cs : List (Addr × Str)} : ExcC K C → H a = some (exo a C (some dx)) → H dx = some (exd dx [(f, v)]) → XF K H v vs Cs → XF K H v (.ref a :: vs) ((C, f) :: Cs)
theorem XF.xl {K : PySem.W.Frag} {H : Hp} {v : V} : ∀ {vs : List V} {Cs : List (Addr × Str)}, XF K H v vs Cs → XL K H vs (Cs.map Prod.fst)
  | _, _, .nil => .nil
  | _, _, .cons E h1 h2 t => .cons ⟨E, _, h1, fun dx e => by cases e; exact ⟨_, h2⟩⟩ (XF.xl t)
def tMks (K : PySem.W.Frag) (Cs : List Addr) : TA := fun σ H Q => ∀ xs H', Same H H' → XL K H' xs Cs → Q xs H'
def tMkF (K : PySem.W.Frag) (Cs : List (Addr × Str)) : TA := fun σ H Q => ∃ v, σ[0]? = some (some v) ∧ ∀ xs H', Same H H' → XF K H' v xs Cs → Q xs H'
section
variable {X : Cx} {K : PySem.W.Frag}
theorem pa_mk0 : PA X [] (tMks K []) := PA.weak pa_nil fun σ H Q q => q [] H (Same.refl H) .nil
theorem pa_mkC {e : Expr} {es : List Expr} {C : Addr} {Cs : List Addr} (h : PE X e (tEx0 C)) (E : ExcC K C) (r : PA X es (tMks K Cs)) (hs : starEach (e :: es) X.env = (false, eval e X.env) :: starEach es X.env := by rfl) : PA X (e :: es) (tMks K (C :: Cs)) := by
  refine PA.weak (pa_cons h r hs) fun σ H Q q => ?_
  intro a ha xs H2 s x
  exact q _ _ ((same_upd ha).trans s) (.cons ⟨E, none, s _ _ upd_same, fun dx e => nomatch e⟩ x)
theorem pa_mkF0 : PA X [] (tMkF K []) := PA.weak pa_nil fun σ H Q ⟨v, e, q⟩ => q [] H (Same.refl H) .nil
theorem pa_mkF {e : Expr} {es : List Expr} {C : Addr} {f : Str} {Cs : List (Addr × Str)} (h : PE X e (tEx1 C (spExI C f) [] (tCons (tVar 0) tNil))) (E : ExcC K C) (r : PA X es (tMkF K Cs)) (hs : starEach (e :: es) X.env = (false, eval e X.env) :: starEach es X.env := by rfl) : PA X (e :: es) (tMkF K ((C, f) :: Cs)) := by
  refine PA.weak (pa_cons h r hs) ?_
  rintro σ H Q ⟨v, e, q⟩
  refine ⟨v, e, by show 1 ≤ 1000; decide, fun a ha => ⟨a, v, rfl, upd_same, fun dx hd hne => ⟨rfl, v, e, fun xs H2 s x => ?_⟩⟩⟩
  have ha2 : H dx = none := (upd_ne hne).symm.trans hd
  have s1 : Same H (upd (upd (upd H a (exo a C none)) dx (exd dx [(f, v)])) a (exo a C (some dx))) := fun z o ez => by
    rw [upd_ne (ne_of_none ez ha), upd_ne (ne_of_none ez ha2), upd_ne (ne_of_none ez ha)]
    exact ez
  exact q _ _ (s1.trans s) (.cons E (s _ _ upd_same) (s _ _ (by rw [upd_ne hne]; exact upd_same)) x)
end
def spErrs (K : PySem.W.Frag) (c : Nat → Addr) : Sp := fun vs H Q _ => ∃ v, vs = [v] ∧ ∀ t p q xs H', Same H H' → H' t = some (.tup [.ref p, .ref q]) → H' p = some (.lst xs) → XL K H' xs ((List.range 33).map c) → H' q = some (.lst (List.replicate 6 v)) → Q (.ref t) H'
section
variable {P : Program} {w : World} {K : PySem.W.Frag} {mg : Str → Option Value} {base : Heap} {HE : Addr} {c fI : Nat → Addr}
theorem ok_law_errors {f : Addr} {fd fd1 fd2 fd3 fd4 fd5 fd6 : FuncData} (D : Dn K mg "_law_errors" s_law_errors ["thing"] f fd) (B : Blt mg) (ER : Errs K mg HE c fI) (D_BadHouse_init : Dm K "__init__" "BadHouse.__init__" s_BadHouse_init ["self", "place"] (fI 0) fd1) (D_BadProgram_init : Dm K "__init__" "BadProgram.__init__" s_BadProgram_init ["self", "part"] (fI 1) fd2) (D_NoAnswer_init : Dm K "__init__" "NoAnswer.__init__" s_NoAnswer_init ["self", "talk"] (fI 2) fd3) (D_BadMachine_init : Dm K "__init__" "BadMachine.__init__" s_BadMachine_init ["self", "part"] (fI 3) fd4) (D_BadText_init : Dm K "__init__" "BadText.__init__" s_BadText_init ["self", "line"] (fI 4) fd5) (D_NoName_init : Dm K "__init__" "NoName.__init__" s_NoName_init ["self", "name"] (fI 5) fd6) : FnOk P w K mg base CX0 3 f fd ["thing"] (spErrs K c) := by
  have G_BadHouse_init : FnOk P w K mg base CX0 1 (fI 0) fd1 ["self", "place"] (spExI (c 0) "place") := ok_BadHouse_init D_BadHouse_init ER
  have G_BadProgram_init : FnOk P w K mg base CX0 1 (fI 1) fd2 ["self", "part"] (spExI (c 1) "part") := ok_BadProgram_init D_BadProgram_init ER
  have G_NoAnswer_init : FnOk P w K mg base CX0 1 (fI 2) fd3 ["self", "talk"] (spExI (c 2) "talk") := ok_NoAnswer_init D_NoAnswer_init ER
  have G_BadMachine_init : FnOk P w K mg base CX0 1 (fI 3) fd4 ["self", "part"] (spExI (c 3) "part") := ok_BadMachine_init D_BadMachine_init ER
  have G_BadText_init : FnOk P w K mg base CX0 1 (fI 4) fd5 ["self", "line"] (spExI (c 4) "line") := ok_BadText_init D_BadText_init ER
  have G_NoName_init : FnOk P w K mg base CX0 1 (fI 5) fd6 ["self", "name"] (spExI (c 5) "name") := ok_NoName_init D_NoName_init ER
  refine D.F.ok sc_law_errors (fun vs H Q E h => ?_) (fun cdv A outer s H vs Q E hr h => ?_)
  · obtain ⟨v, rfl, _⟩ := h
    rfl
  obtain ⟨v, rfl, q⟩ := h
  have nd := sc_law_errors.nd
  refine ⟨_, (pss_cons (ps_set (i := 1) nd rfl (.inl rfl) (pe_lst (pa_mkF (pe_ex1 ER.X_BadHouse.T ER.i_BadHouse ER.t_BadHouse G_BadHouse_init (hr.mono (by omega)) D_BadHouse_init.b .nil pass0 (by rfl) ER.X_BadHouse.g (pa_cons (pv 0) pa_nil)) ER.X_BadHouse.E (pa_mkF (pe_ex1 ER.X_BadProgram.T ER.i_BadProgram ER.t_BadProgram G_BadProgram_init (hr.mono (by omega)) D_BadProgram_init.b .nil pass0 (by rfl) ER.X_BadProgram.g (pa_cons (pv 0) pa_nil)) ER.X_BadProgram.E (pa_mkF (pe_ex1 ER.X_NoAnswer.T ER.i_NoAnswer ER.t_NoAnswer G_NoAnswer_init (hr.mono (by omega)) D_NoAnswer_init.b .nil pass0 (by rfl) ER.X_NoAnswer.g (pa_cons (pv 0) pa_nil)) ER.X_NoAnswer.E (pa_mkF (pe_ex1 ER.X_BadMachine.T ER.i_BadMachine ER.t_BadMachine G_BadMachine_init (hr.mono (by omega)) D_BadMachine_init.b .nil pass0 (by rfl) ER.X_BadMachine.g (pa_cons (pv 0) pa_nil)) ER.X_BadMachine.E (pa_mkF (pe_ex1 ER.X_BadText.T ER.i_BadText ER.t_BadText G_BadText_init (hr.mono (by omega)) D_BadText_init.b .nil pass0 (by rfl) ER.X_BadText.g (pa_cons (pv 0) pa_nil)) ER.X_BadText.E (pa_mkF (pe_ex1 ER.X_NoName.T ER.i_NoName ER.t_NoName G_NoName_init (hr.mono (by omega)) D_NoName_init.b .nil pass0 (by rfl) ER.X_NoName.g (pa_cons (pv 0) pa_nil)) ER.X_NoName.E pa_mkF0))))))))
      (pss_cons (ps_set (i := 2) nd rfl (.inl rfl) (pe_lst (pa_cons (k_fldX (K := K) rfl (pe_ix (k_ixL (K := K) rfl) (pv 1) pe_int (fun _ _ => rfl)) rfl) (pa_cons (k_fldX (K := K) rfl (pe_ix (k_ixL (K := K) rfl) (pv 1) pe_int (fun _ _ => rfl)) rfl) (pa_cons (k_fldX (K := K) rfl (pe_ix (k_ixL (K := K) rfl) (pv 1) pe_int (fun _ _ => rfl)) rfl) (pa_cons (k_fldX (K := K) rfl (pe_ix (k_ixL (K := K) rfl) (pv 1) pe_int (fun _ _ => rfl)) rfl) (pa_cons (k_fldX (K := K) rfl (pe_ix (k_ixL (K := K) rfl) (pv 1) pe_int (fun _ _ => rfl)) rfl) (pa_cons (k_fldX (K := K) rfl (pe_ix (k_ixL (K := K) rfl) (pv 1) pe_int (fun _ _ => rfl)) rfl) pa_nil))))))))
      (pss_cons (ps_set (i := 1) nd rfl (.inl rfl) (pe_op op_cat (pv 1) (pe_lst (pa_mkC (pe_ex0 PySem.F.excBase_ValueError ER.q_NoPath ER.X_NoPath.g ER.X_NoPath.k (by rfl)) ER.X_NoPath.E (pa_mkC (pe_ex0 PySem.F.excBase_ValueError ER.q_NoInside ER.X_NoInside.g ER.X_NoInside.k (by rfl)) ER.X_NoInside.E (pa_mkC (pe_ex0 PySem.F.excBase_ValueError ER.q_TooLarge ER.X_TooLarge.g ER.X_TooLarge.k (by rfl)) ER.X_TooLarge.E (pa_mkC (pe_ex0 PySem.F.excBase_ValueError ER.q_NotAlike ER.X_NotAlike.g ER.X_NotAlike.k (by rfl)) ER.X_NotAlike.E (pa_mkC (pe_ex0 PySem.F.excBase_ValueError ER.q_NotBetween ER.X_NotBetween.g ER.X_NotBetween.k (by rfl)) ER.X_NotBetween.E (pa_mkC (pe_ex0 PySem.F.excBase_ValueError ER.q_NoTest ER.X_NoTest.g ER.X_NoTest.k (by rfl)) ER.X_NoTest.E (pa_mkC (pe_ex0 PySem.F.excBase_ValueError ER.q_NoPrior ER.X_NoPrior.g ER.X_NoPrior.k (by rfl)) ER.X_NoPrior.E pa_mk0))))))))))
      (pss_cons (ps_set (i := 1) nd rfl (.inl rfl) (pe_op op_cat (pv 1) (pe_lst (pa_mkC (pe_ex0 PySem.F.excBase_ValueError ER.q_NoGains ER.X_NoGains.g ER.X_NoGains.k (by rfl)) ER.X_NoGains.E (pa_mkC (pe_ex0 PySem.F.excBase_ValueError ER.q_NoAsker ER.X_NoAsker.g ER.X_NoAsker.k (by rfl)) ER.X_NoAsker.E (pa_mkC (pe_ex0 PySem.F.excBase_ValueError ER.q_NotLooks ER.X_NotLooks.g ER.X_NotLooks.k (by rfl)) ER.X_NotLooks.E (pa_mkC (pe_ex0 PySem.F.excBase_ValueError ER.q_NotLook ER.X_NotLook.g ER.X_NotLook.k (by rfl)) ER.X_NotLook.E (pa_mkC (pe_ex0 PySem.F.excBase_ValueError ER.q_NotOneRound ER.X_NotOneRound.g ER.X_NotOneRound.k (by rfl)) ER.X_NotOneRound.E (pa_mkC (pe_ex0 PySem.F.excBase_ValueError ER.q_NoShare ER.X_NoShare.g ER.X_NoShare.k (by rfl)) ER.X_NoShare.E (pa_mkC (pe_ex0 PySem.F.excBase_ValueError ER.q_NotShaped ER.X_NotShaped.g ER.X_NotShaped.k (by rfl)) ER.X_NotShaped.E pa_mk0))))))))))
      (pss_cons (ps_set (i := 1) nd rfl (.inl rfl) (pe_op op_cat (pv 1) (pe_lst (pa_mkC (pe_ex0 PySem.F.excBase_ValueError ER.q_NoTable ER.X_NoTable.g ER.X_NoTable.k (by rfl)) ER.X_NoTable.E (pa_mkC (pe_ex0 PySem.F.excBase_ValueError ER.q_NoNumber ER.X_NoNumber.g ER.X_NoNumber.k (by rfl)) ER.X_NoNumber.E (pa_mkC (pe_ex0 PySem.F.excBase_ValueError ER.q_NoMenu ER.X_NoMenu.g ER.X_NoMenu.k (by rfl)) ER.X_NoMenu.E (pa_mkC (pe_ex0 PySem.F.excBase_ValueError ER.q_NoBudget ER.X_NoBudget.g ER.X_NoBudget.k (by rfl)) ER.X_NoBudget.E (pa_mkC (pe_ex0 PySem.F.excBase_ValueError ER.q_NoItem ER.X_NoItem.g ER.X_NoItem.k (by rfl)) ER.X_NoItem.E (pa_mkC (pe_ex0 PySem.F.excBase_ValueError ER.q_NotRefused ER.X_NotRefused.g ER.X_NotRefused.k (by rfl)) ER.X_NotRefused.E (pa_mkC (pe_ex0 PySem.F.excBase_ValueError ER.q_Stopped ER.X_Stopped.g ER.X_Stopped.k (by rfl)) ER.X_Stopped.E (pa_mkC (pe_ex0 PySem.F.excBase_ValueError ER.q_NoWorld ER.X_NoWorld.g ER.X_NoWorld.k (by rfl)) ER.X_NoWorld.E pa_mk0)))))))))))
      (pss_cons (ps_set (i := 1) nd rfl (.inl rfl) (pe_op op_cat (pv 1) (pe_lst (pa_mkC (pe_ex0 PySem.F.excBase_ValueError ER.q_NoDisk ER.X_NoDisk.g ER.X_NoDisk.k (by rfl)) ER.X_NoDisk.E (pa_mkC (pe_ex0 PySem.F.excBase_ValueError ER.q_NoThrow ER.X_NoThrow.g ER.X_NoThrow.k (by rfl)) ER.X_NoThrow.E (pa_mkC (pe_ex0 PySem.F.excBase_ValueError ER.q_NoMediator ER.X_NoMediator.g ER.X_NoMediator.k (by rfl)) ER.X_NoMediator.E (pa_mkC (pe_ex0 PySem.F.excBase_ValueError ER.q_NoLine ER.X_NoLine.g ER.X_NoLine.k (by rfl)) ER.X_NoLine.E (pa_mkC (pe_ex0 PySem.F.excBase_ValueError ER.q_NothingDone ER.X_NothingDone.g ER.X_NothingDone.k (by rfl)) ER.X_NothingDone.E pa_mk0))))))))
      (pss_one (ps_ret (pe_tup (pa_cons (pv 1) (pa_cons (pv 2) pa_nil))))))))))), ?_⟩
  refine ⟨v, rfl, fun xs H0 s0 x0 => ?_⟩
  have l0 := x0.xl.len
  have X0 := x0.xl
  obtain ⟨a0, a1, a2, a3, a4, a5, d0, d1, d2, d3, d4, d5, rfl, o0, g0, o1, g1, o2, g2, o3, g3, o4, g4, o5, g5⟩ : ∃ a0 a1 a2 a3 a4 a5 d0 d1 d2 d3 d4 d5 : Addr, xs = [.ref a0, .ref a1, .ref a2, .ref a3, .ref a4, .ref a5] ∧ H0 a0 = some (exo a0 (c 0) (some d0)) ∧ H0 d0 = some (exd d0 [("place", v)]) ∧ H0 a1 = some (exo a1 (c 1) (some d1)) ∧ H0 d1 = some (exd d1 [("part", v)]) ∧ H0 a2 = some (exo a2 (c 2) (some d2)) ∧ H0 d2 = some (exd d2 [("talk", v)]) ∧ H0 a3 = some (exo a3 (c 3) (some d3)) ∧ H0 d3 = some (exd d3 [("part", v)]) ∧ H0 a4 = some (exo a4 (c 4) (some d4)) ∧ H0 d4 = some (exd d4 [("line", v)]) ∧ H0 a5 = some (exo a5 (c 5) (some d5)) ∧ H0 d5 = some (exd d5 [("name", v)]) := by
    cases x0 with | cons _ o0 g0 x0 => cases x0 with | cons _ o1 g1 x0 => cases x0 with | cons _ o2 g2 x0 => cases x0 with | cons _ o3 g3 x0 => cases x0 with | cons _ o4 g4 x0 => cases x0 with | cons _ o5 g5 x0 => cases x0 with | nil => exact ⟨_, _, _, _, _, _, _, _, _, _, _, _, rfl, o0, g0, o1, g1, o2, g2, o3, g3, o4, g4, o5, g5⟩
  refine ⟨by show 6 ≤ sizeLine; decide, fun p1 n1 => ?_⟩
  have s1 := same_upd (o := .lst [.ref a0, .ref a1, .ref a2, .ref a3, .ref a4, .ref a5]) n1
  have e1 : upd H0 p1 (.lst [.ref a0, .ref a1, .ref a2, .ref a3, .ref a4, .ref a5]) p1 = some (.lst [.ref a0, .ref a1, .ref a2, .ref a3, .ref a4, .ref a5]) := upd_same
  have S1 := s0.trans s1
  have X1 := X0.keep s1
  generalize upd H0 p1 (.lst [.ref a0, .ref a1, .ref a2, .ref a3, .ref a4, .ref a5]) = H1 at s1 e1 S1 X1 ⊢
  -- kept
  refine ⟨_, rfl, p1, _, 0, _, rfl, rfl, SqL.of e1, at_of (j := 0) rfl rfl, a0, c 0, d0, _, v, rfl, s1 _ _ o0, s1 _ _ g0, ER.X_BadHouse.F, ER.n_BadHouse, rfl, ?_⟩
  refine ⟨_, rfl, p1, _, 1, _, rfl, rfl, SqL.of e1, at_of (j := 1) rfl rfl, a1, c 1, d1, _, v, rfl, s1 _ _ o1, s1 _ _ g1, ER.X_BadProgram.F, ER.n_BadProgram, rfl, ?_⟩
  refine ⟨_, rfl, p1, _, 2, _, rfl, rfl, SqL.of e1, at_of (j := 2) rfl rfl, a2, c 2, d2, _, v, rfl, s1 _ _ o2, s1 _ _ g2, ER.X_NoAnswer.F, ER.n_NoAnswer, rfl, ?_⟩
  refine ⟨_, rfl, p1, _, 3, _, rfl, rfl, SqL.of e1, at_of (j := 3) rfl rfl, a3, c 3, d3, _, v, rfl, s1 _ _ o3, s1 _ _ g3, ER.X_BadMachine.F, ER.n_BadMachine, rfl, ?_⟩
  refine ⟨_, rfl, p1, _, 4, _, rfl, rfl, SqL.of e1, at_of (j := 4) rfl rfl, a4, c 4, d4, _, v, rfl, s1 _ _ o4, s1 _ _ g4, ER.X_BadText.F, ER.n_BadText, rfl, ?_⟩
  refine ⟨_, rfl, p1, _, 5, _, rfl, rfl, SqL.of e1, at_of (j := 5) rfl rfl, a5, c 5, d5, _, v, rfl, s1 _ _ o5, s1 _ _ g5, ER.X_NoName.F, ER.n_NoName, rfl, ?_⟩
  refine ⟨by show 6 ≤ sizeLine; decide, fun p2 n2 => ?_⟩
  have s2 := same_upd (o := .lst [v, v, v, v, v, v]) n2
  have k2 : upd H1 p2 (.lst [v, v, v, v, v, v]) p2 = some (.lst (List.replicate 6 v)) := upd_same
  have e1 := s2 _ _ e1
  have S1 := S1.trans s2
  have X1 := X1.keep s2
  generalize upd H1 p2 (.lst [v, v, v, v, v, v]) = H2 at s2 e1 S1 X1 k2 ⊢
  clear s2 o0 g0 o1 g1 o2 g2 o3 g3 o4 g4 o5 g5 s1 n1 n2 X0 s0 l0
  refine ⟨_, rfl, fun ys0 H3 s3 y3 => ?_⟩
  have l0 : ys0.length = 7 := y3.len
  refine ⟨by rw [l0]; decide, fun pl nl => ?_⟩
  have s4 := same_upd (o := .lst ys0) nl
  have s34 := s3.trans s4
  refine ⟨p1, pl, _, _, rfl, rfl, s34 _ _ e1, upd_same, by rw [l0]; show 6 + 7 ≤ sizeLine; decide, fun q0 nq => ?_⟩
  have s5 := same_upd (o := .lst ([.ref a0, .ref a1, .ref a2, .ref a3, .ref a4, .ref a5] ++ ys0)) nq
  have s35 := s34.trans s5
  have e1 : upd (upd H3 pl (.lst ys0)) q0 (.lst ([.ref a0, .ref a1, .ref a2, .ref a3, .ref a4, .ref a5] ++ ys0)) q0 = some (.lst ([.ref a0, .ref a1, .ref a2, .ref a3, .ref a4, .ref a5] ++ ys0)) := upd_same
  have S1 := S1.trans s35
  have X1 := (X1.keep s35).app (y3.keep (s4.trans s5))
  have k2 := s35 _ _ k2
  generalize upd (upd H3 pl (.lst ys0)) q0 (.lst ([.ref a0, .ref a1, .ref a2, .ref a3, .ref a4, .ref a5] ++ ys0)) = H10 at s5 e1 S1 X1 k2 ⊢
  clear s5 s34 s35 s4 s3 y3 nl nq
  refine ⟨_, rfl, fun ys1 H3 s3 y3 => ?_⟩
  have l1 : ys1.length = 7 := y3.len
  refine ⟨by rw [l1]; decide, fun pl nl => ?_⟩
  have s4 := same_upd (o := .lst ys1) nl
  have s34 := s3.trans s4
  refine ⟨q0, pl, _, _, rfl, rfl, s34 _ _ e1, upd_same, by rw [l1, List.length_append, l0]; show 6 + 7 + 7 ≤ sizeLine; decide, fun q1 nq => ?_⟩
  have s5 := same_upd (o := .lst (([.ref a0, .ref a1, .ref a2, .ref a3, .ref a4, .ref a5] ++ ys0) ++ ys1)) nq
  have s35 := s34.trans s5
  have e1 : upd (upd H3 pl (.lst ys1)) q1 (.lst (([.ref a0, .ref a1, .ref a2, .ref a3, .ref a4, .ref a5] ++ ys0) ++ ys1)) q1 = some (.lst (([.ref a0, .ref a1, .ref a2, .ref a3, .ref a4, .ref a5] ++ ys0) ++ ys1)) := upd_same
  have S1 := S1.trans s35
  have X1 := (X1.keep s35).app (y3.keep (s4.trans s5))
  have k2 := s35 _ _ k2
  generalize upd (upd H3 pl (.lst ys1)) q1 (.lst (([.ref a0, .ref a1, .ref a2, .ref a3, .ref a4, .ref a5] ++ ys0) ++ ys1)) = H11 at s5 e1 S1 X1 k2 ⊢
  clear s5 s34 s35 s4 s3 y3 nl nq
  refine ⟨_, rfl, fun ys2 H3 s3 y3 => ?_⟩
  have l2 : ys2.length = 8 := y3.len
  refine ⟨by rw [l2]; decide, fun pl nl => ?_⟩
  have s4 := same_upd (o := .lst ys2) nl
  have s34 := s3.trans s4
  refine ⟨q1, pl, _, _, rfl, rfl, s34 _ _ e1, upd_same, by rw [l2, List.length_append, l1, List.length_append, l0]; show 6 + 7 + 7 + 8 ≤ sizeLine; decide, fun q2 nq => ?_⟩
  have s5 := same_upd (o := .lst ((([.ref a0, .ref a1, .ref a2, .ref a3, .ref a4, .ref a5] ++ ys0) ++ ys1) ++ ys2)) nq
  have s35 := s34.trans s5
  have e1 : upd (upd H3 pl (.lst ys2)) q2 (.lst ((([.ref a0, .ref a1, .ref a2, .ref a3, .ref a4, .ref a5] ++ ys0) ++ ys1) ++ ys2)) q2 = some (.lst ((([.ref a0, .ref a1, .ref a2, .ref a3, .ref a4, .ref a5] ++ ys0) ++ ys1) ++ ys2)) := upd_same
  have S1 := S1.trans s35
  have X1 := (X1.keep s35).app (y3.keep (s4.trans s5))
  have k2 := s35 _ _ k2
  generalize upd (upd H3 pl (.lst ys2)) q2 (.lst ((([.ref a0, .ref a1, .ref a2, .ref a3, .ref a4, .ref a5] ++ ys0) ++ ys1) ++ ys2)) = H12 at s5 e1 S1 X1 k2 ⊢
  clear s5 s34 s35 s4 s3 y3 nl nq
  refine ⟨_, rfl, fun ys3 H3 s3 y3 => ?_⟩
  have l3 : ys3.length = 5 := y3.len
  refine ⟨by rw [l3]; decide, fun pl nl => ?_⟩
  have s4 := same_upd (o := .lst ys3) nl
  have s34 := s3.trans s4
  refine ⟨q2, pl, _, _, rfl, rfl, s34 _ _ e1, upd_same, by rw [l3, List.length_append, l2, List.length_append, l1, List.length_append, l0]; show 6 + 7 + 7 + 8 + 5 ≤ sizeLine; decide, fun q3 nq => ?_⟩
  have s5 := same_upd (o := .lst (((([.ref a0, .ref a1, .ref a2, .ref a3, .ref a4, .ref a5] ++ ys0) ++ ys1) ++ ys2) ++ ys3)) nq
  have s35 := s34.trans s5
  have e1 : upd (upd H3 pl (.lst ys3)) q3 (.lst (((([.ref a0, .ref a1, .ref a2, .ref a3, .ref a4, .ref a5] ++ ys0) ++ ys1) ++ ys2) ++ ys3)) q3 = some (.lst (((([.ref a0, .ref a1, .ref a2, .ref a3, .ref a4, .ref a5] ++ ys0) ++ ys1) ++ ys2) ++ ys3)) := upd_same
  have S1 := S1.trans s35
  have X1 := (X1.keep s35).app (y3.keep (s4.trans s5))
  have k2 := s35 _ _ k2
  generalize upd (upd H3 pl (.lst ys3)) q3 (.lst (((([.ref a0, .ref a1, .ref a2, .ref a3, .ref a4, .ref a5] ++ ys0) ++ ys1) ++ ys2) ++ ys3)) = H13 at s5 e1 S1 X1 k2 ⊢
  clear s5 s34 s35 s4 s3 y3 nl nq
  refine ⟨_, rfl, _, rfl, by show 2 ≤ sizeLine; decide, fun t nt => ?_⟩
  have s6 := same_upd (o := .tup [.ref q3, .ref p2]) nt
  exact q t _ _ _ _ (S1.trans s6) upd_same (s6 _ _ e1) (X1.keep s6) (s6 _ _ k2)
end
end Tl
namespace Tl
open PySem PySem.Spec PyProof.Rows L2 RZ
theorem hits_one (m : Nat) : ∀ n, m < n → hits (fun j => decide (m = j)) n = [(m : Int)]
  | 0, h => by omega
  | n + 1, h => by
    rw [hits_succ]
    by_cases e : m = n
    · subst e
      rw [decide_eq_true rfl, if_pos rfl]
      have z : ∀ k, k ≤ m → hits (fun j => decide (m = j)) k = [] := by
        intro k
        induction k with
        | zero => intro _; rfl
        | succ k ih =>
          intro hk
          rw [hits_succ, ih (by omega), decide_eq_false (by omega), if_neg (by decide)]
          rfl
      rw [z m (Nat.le_refl _)]
      rfl
    · rw [decide_eq_false e, if_neg (by decide), hits_one m n (by omega), List.append_nil]
theorem hits_none : ∀ n, hits (fun _ => false) n = []
  | 0 => rfl
  | n + 1 => by
    rw [hits_succ, hits_none n, if_neg (by decide)]
    rfl
theorem dp_ints {K : PySem.W.Frag} {H : Hp} : ∀ ns : List Int, DpAll K H (ns.map V.int) (ns.map PyData.int)
  | [] => .nil
  | n :: r => .cons (.int n) (dp_ints r)
section
variable {P : Program} {w : World} {K : PySem.W.Frag} {mg : Str → Option Value} {base : Heap} {HE : Addr} {c fI : Nat → Addr}
theorem ok_law {f f1 f2 f3 f4 f5 : Addr} {fd fd1 fd2 fd3 fd4 fd5 : FuncData} (D : Dn K mg "law" s_law ["script"] f fd) (B : Blt mg) (ER : Errs K mg HE c fI) (zVE : mg "ValueError" = none) (inb : ∀ i, i < 33 → ∃ x, XFact K mg x (c i) (.ref HE :: veMro))
    (D_law_bag : Dn K mg "_law_bag" s_law_bag ["script"] f1 fd1) (G_law_bag : FnOk P w K mg base CX0 1 f1 fd1 ["script"] (spBag K)) (D_law_odd : Dn K mg "_law_odd" s_law_odd ["bag"] f2 fd2) (G_law_odd : FnOk P w K mg base CX0 3 f2 fd2 ["bag"] (spOdd K))
    (D_law_errors : Dn K mg "_law_errors" s_law_errors ["thing"] f3 fd3) (G_law_errors : FnOk P w K mg base CX0 3 f3 fd3 ["thing"] (spErrs K c)) (D_law_classes : Dn K mg "_law_classes" s_law_classes ["e"] f4 fd4) (G_law_classes : FnOk P w K mg base CX0 1 f4 fd4 ["e"] (spCls K c))
    (D_law_is : Dn K mg "_law_is" s_law_is ["found", "due"] f5 fd5) (G_law_is : FnG P w K mg base CX0 1 f5 fd5 ["found", "due"] (fun vs H Q _ => ∃ v, vs = [v, v] ∧ Odd K H v ∧ Q (.bl true) H)) : FnG P w K mg base CX0 5 f fd ["script"] (spTrue K) := by
  refine okG D.F sc_law (fun vs H Q E h => ?_) (fun cdv A outer s H vs Q E hr hgu h => ?_)
  · obtain ⟨a, ns, rfl, _⟩ := h
    rfl
  obtain ⟨a, ns, rfl, hs, h63, q⟩ := h
  have nd := sc_law.nd
  have ve1 : (veMro).contains (.type "ValueError") = true := by decide +kernel
  have ve2 : (Value.ref HE :: veMro).contains (.type "ValueError") = true := by
    rw [List.contains_cons, ve1, Bool.or_true]
  refine ⟨_, (pss_cons (ps_set (i := 1) nd rfl (.inl rfl) (pe_call G_law_bag (hr.mono (by omega)) (by rfl) D_law_bag.m D_law_bag.F.kp D_law_bag.b .nil pass0 (pa_cons (pv 0) pa_nil)))
      (pss_cons (ps_set (i := 2) nd rfl (.inr rfl) (pe_call G_law_odd (hr.mono (by omega)) (by rfl) D_law_odd.m D_law_odd.F.kp D_law_odd.b .nil pass0 (pa_cons (pv 1) pa_nil)))
      (pss_cons (ps_asg (pe_call G_law_errors (hr.mono (by omega)) (by rfl) D_law_errors.m D_law_errors.F.kp D_law_errors.b .nil pass0 (pa_cons (pv 2) pa_nil)) (k_tup (K := K) (n := 2) rfl rfl (pgs_cons (pg_name (i := 3) nd rfl (.inl rfl)) (pgs_cons (pg_name (i := 4) nd rfl (.inl rfl)) pgs_nil))))
      (pss_cons (ps_if (pt_not (pt_val (pe_callB (k_all (K := K) rfl rfl) (by rfl) B.all (by decide +kernel) (pa_cons (pe_lc (own := [("one", 5)]) rfl nd (k_iL (K := K) rfl (pv 4)) (blkOk_by (own := [("one", 5)]) (by kernel_rfl)) (fun _ _ _ _ _ => (pg_name (i := 5) nd rfl (.inl rfl))) (fun _ _ _ _ _ => pts_nil) (fun _ _ _ _ _ => (pe_callG G_law_is (hr.mono (by omega)) hgu (by rfl) D_law_is.m D_law_is.F.kp D_law_is.b .nil pass0 (pa_cons (pv 5) (pa_cons (pv 2) pa_nil))))) pa_nil)))) (pss_one (ps_ret pe_bl)) pss_nil)
      (pss_cons (ps_for PassesOwn.never rfl (pi_enum (by rfl) B.enumerate (pa_cons (pv 3) pa_nil)) (k_tup (K := K) (n := 2) rfl rfl (pgs_cons (pg_name (i := 6) nd rfl (.inl rfl)) (pgs_cons (pg_name (i := 7) nd rfl (.inl rfl)) pgs_nil))) (pss_one (ps_if (PW.pt (pw_or (pt_cmpR (k_neD (K := K) rfl hr.units) (pe_call G_law_classes (hr.mono (by omega)) (by rfl) D_law_classes.m D_law_classes.F.kp D_law_classes.b .nil pass0 (pa_cons (pv 7) pa_nil)) (pe_lst (pa_cons (pv 6) pa_nil)) (nomark _)) (pw_or (pt_not (pt_val (pe_callB (k_isX (K := K) rfl) (by rfl) B.isinstance (by decide +kernel) (pa_cons (pv 7) (pa_cons (pe_glob (v := .ref _) rfl ER.X_HouseError.g rfl) pa_nil))))) (pw_or1 (pt_not (pt_val (pe_callB (k_isX (K := K) rfl) (by rfl) B.isinstance (by decide +kernel) (pa_cons (pv 7) (pa_cons (pe_bltn (v := .ty "ValueError") (u := .type "ValueError") (by rfl) zVE (by decide +kernel) rfl) pa_nil))))))))) (pss_one (ps_ret pe_bl)) pss_nil)))
      (pss_one (ps_ret (pe_and (pe_cmpR (k_eqD (K := K) rfl hr.units) (pe_call G_law_classes (hr.mono (by omega)) (by rfl) D_law_classes.m D_law_classes.F.kp D_law_classes.b .nil pass0 (pa_cons (pe_ex0 PySem.F.excBase_ValueError ER.q_HouseError ER.X_HouseError.g ER.X_HouseError.k (by rfl)) pa_nil)) (pe_lst pa_nil) (nomark _)) (pe_one (pe_callB (k_isX (K := K) rfl) (by rfl) B.isinstance (by decide +kernel) (pa_cons (pe_ex0 PySem.F.excBase_ValueError ER.q_HouseError ER.X_HouseError.g ER.X_HouseError.k (by rfl)) (pa_cons (pe_bltn (v := .ty "ValueError") (u := .type "ValueError") (by rfl) zVE (by decide +kernel) rfl) pa_nil)))))))))))), ?_⟩
  refine ⟨_, rfl, a, ns, rfl, hs, h63, fun b g H1 s1 B1 b0 g0 => ?_⟩
  refine ⟨_, rfl, b, g, rfl, B1, fun v H2 o2 B2 F2 => ?_⟩
  refine ⟨_, rfl, v, rfl, fun t p k xs H3 s3 e3 ep xl ek => ?_⟩
  have o3 := o2.keep s3
  refine ⟨t, _, rfl, .inl (.inl e3), rfl, _, _, rfl, _, _, rfl, rfl, ?_⟩
  -- not all(..)
  refine ⟨_, rfl, k, rfl, ⟨_, SqL.of ek⟩, fun T nT => ?_⟩
  refine lc_list (K := K) (a := k) (xs := List.replicate 6 v) (fun i H4 => H4 T = some (.lst ((List.replicate i true).map V.bl)) ∧ Same H3 H4) ⟨upd_same, same_upd nT⟩ (fun i H4 _ h => SqL.of (h.2 _ _ ek)) ?_ ?_
  · rintro i y H4 hi ⟨h4, s4⟩
    have hy : y = v := by
      obtain ⟨h1, h2⟩ := List.getElem?_eq_some_iff.mp hi
      rw [List.getElem_replicate] at h2
      exact h2.symm
    have hi6 : i < 6 := by
      have := (List.getElem?_eq_some_iff.mp hi).1
      rw [List.length_replicate] at this
      exact this
    subst hy
    refine ⟨rfl, ?_⟩
    refine iteT (B := H4 T = some (.lst ((List.replicate (i + 1) true).map V.bl)) ∧ Same H3 H4) ?_
    refine ⟨_, rfl, _, rfl, y, rfl, o3.keep s4, _, h4, ?_, ?_, fun z o e => ?_⟩
    · rw [List.length_map, List.length_replicate]
      exact small1000 (by omega)
    · rw [upd_same, List.replicate_succ', List.map_append]
      rfl
    · rw [upd_ne (ne_of_none e nT)]
      exact s4 _ _ e
  rintro H4 ⟨h4, s4⟩
  rw [List.length_replicate] at h4
  refine ⟨T, _, rfl, SqL.of h4, _, rfl, iteF ?_⟩
  -- for at, error in enumerate(made)
  have ep4 := s4 _ _ ep
  have xl4 := xl.keep s4
  have l33 : xs.length = 33 := by
    rw [xl4.len, List.length_map, List.length_range]
  refine ⟨_, rfl, p, _, rfl, SqL.of ep4, for_it (walk_enum (K := K) (a := p) (xs := xs)) (fun i σ H5 => ∃ o5 o6 o7 : Option V, σ = [some (.ref a), some (.ref b), some v, some (.ref p), some (.ref k), o5, o6, o7] ∧ Same H4 H5) ⟨none, none, none, rfl, Same.refl _⟩ (fun i σ H5 _ h => ?_) ?_ ?_⟩
  · obtain ⟨_, _, _, _, s5⟩ := h
    exact SqL.of (s5 _ _ ep4)
  · rintro i y σ H5 H6 hi ⟨o5, o6, o7, rfl, s5⟩ ⟨Te, z1, z2, rfl, nT2, rfl, g1, g2⟩
    cases g1
    rw [l33] at hi
    obtain ⟨ax, C, rfl, hC, hX⟩ := (xl4.keep s5).get g2
    have eC : C = c i := by
      rw [List.getElem?_map, List.getElem?_range hi] at hC
      exact (Option.some.inj hC).symm
    subst eC
    have s6 := same_upd (o := .tup [.int (i : Int), .ref ax]) nT2
    have hX6 := hX.keep s6
    refine ⟨Te, _, rfl, .inl (.inl upd_same), rfl, _, _, rfl, _, _, rfl, rfl, ?_⟩
    obtain ⟨nmx, XC⟩ := inb i hi
    refine ⟨_, rfl, ax, c i, fun j => decide (i = j), rfl, hX6, fun j hj => ?_, fun p7 H7 s7 e7 => ?_⟩
    · obtain ⟨nmy, YC⟩ := inb j hj
      rw [kit_cc XC YC (ER.ne j hj)]
      show some (decide (c i = c j)) = some (decide (i = j))
      congr 1
      by_cases e : i = j
      · rw [decide_eq_true (congrArg c e), decide_eq_true e]
      · rw [decide_eq_false e, decide_eq_false (fun z => e (ER.inj i j hi hj z))]
    rw [hits_one i 33 hi] at e7
    refine ⟨_, rfl, by show 1 ≤ sizeLine; decide, fun p8 n8 => ?_⟩
    have s8 := same_upd (o := .lst [.int (i : Int)]) n8
    refine ⟨.list [.int i], .list [.int i], .lst (same_sql e7 s8) (.cons (.int _) .nil), .lst (SqL.of upd_same) (.cons (.int _) .nil), rfl, rfl, ?_⟩
    have ev : PyData.eqv (.list [.int (i : Int)]) (.list [.int (i : Int)]) = true := SeqAt.eqv_refl _ rfl
    rw [ev]
    obtain ⟨d, ea, hd⟩ := (hX6.keep (s7.trans s8)).h
    refine ⟨_, rfl, iteF ?_⟩
    refine ⟨_, rfl, ax, c i, d, .ref HE, .ref HE, true, rfl, ea, hd, XC.E, (fun u r => r), kit_base XC ER.X_HouseError, _, rfl, iteF ?_⟩
    refine ⟨_, rfl, ax, c i, d, .ty "ValueError", .type "ValueError", true, rfl, ea, hd, XC.E, (fun u r => r), kit_ve XC ve2, _, rfl, iteF ?_⟩
    exact ⟨_, _, _, rfl, ((s5.trans s6).trans s7).trans s8⟩
  · rintro σ H5 ⟨o5, o6, o7, rfl, s5⟩
    refine fun ex nx => ⟨ex, HE, fun _ => false, rfl, ⟨ER.X_HouseError.E, none, upd_same, fun dx e => nomatch e⟩, fun j hj => ?_, fun p9 H9 s9 e9 => ?_⟩
    · obtain ⟨nmy, YC⟩ := inb j hj
      exact kit_he ER.X_HouseError YC (ER.ne j hj)
    rw [hits_none] at e9
    refine ⟨by show 0 ≤ sizeLine; decide, fun pl nl => ?_⟩
    have sl := same_upd (o := .lst []) nl
    refine ⟨.list [], .list [], .lst (same_sql e9 sl) .nil, .lst (SqL.of upd_same) .nil, rfl, rfl, _, rfl, iteT ?_⟩
    exact fun ex2 nx2 => ⟨ex2, HE, none, .ty "ValueError", .type "ValueError", true, rfl, upd_same, (fun dx e => nomatch e), ER.X_HouseError.E, (fun u r => r), kit_ve ER.X_HouseError ve1, q _⟩
end
end Tl
namespace Tl
open PySem PySem.Spec PyProof.Rows L2 RZ
theorem exc_cls {K : PySem.W.Frag} {mg : Str → Option Value} {x : Str} {nm q : Str} {C N : Addr} {bs bm : List Value} {sn : List Str} {sub : List Value} {ab : Bool} {col : Option Bool} {dd : Option Addr} {k0 k1 k2 k3 k5 : Option Value} (g : mg x = some (.ref C))
    (hl : K.lookup C = some (excClassObj nm q C N bs bm true sn sub ab col dd k0 k1 k2 k3 k5 "ValueError.__new__")) (rv : PySem.HandSPX.refsVE bm = true) (be : bm.contains (.type "BaseException") = true) (ob : bm.contains (.type "object") = true)
    (sa : PySem.W.findIn K (.ref C) "__setattr__" = some (some (.builtin "object.__setattr__"))) (kp : PySem.W.keepIn K (.ref C) = true) (hg : PySem.W.findIn K (.ref C) "__getattribute__" = some (some (.builtin "BaseException.__getattribute__")))
    (hk : PySem.W.findIn K (.ref C) "__getattr__" = some none) (ha : PySem.W.findIn K (.ref C) "__class__" = some (some (.builtin "object.__class__"))) (hn : PySem.W.specialIn K (.builtin "object.__class__") "__get__" = some (some (.builtin "getset_descriptor.__get__")))
    (ht : PySem.W.takesIn K (.builtin "object.__class__") = some true) : XFact K mg x C bm := by
  have hc : ∃ cd, PySem.W.clsIn K C = some cd ∧ cd.mro = .ref C :: bm ∧ cd.hasDict = true := by
    unfold PySem.W.clsIn
    rw [hl]
    exact ⟨_, rfl, rfl, rfl⟩
  obtain ⟨cd, c1, c2, c3⟩ := hc
  have hm : ∀ v, bm.contains v = true → PySem.W.mroIn K C v = some true := fun v h => by
    unfold PySem.W.mroIn
    rw [c1, Option.bind_some, c2]
    show (if false = true then none else some ((Value.ref C :: bm).contains v)) = some true
    rw [if_neg (by decide), List.contains_cons, h, Bool.or_true]
  have ty : PySem.W.typeIn K (.ref C) = some (.type "type") := by
    show (K.lookup C).map (fun o => o.cls) = some (.type "type")
    rw [hl]
    rfl
  have hd : PySem.W.hasDictIn K C = true := by
    unfold PySem.W.hasDictIn
    rw [c1]
    exact c3
  exact ⟨g, ⟨cd, c1, c2⟩, ⟨⟨nm, q, N, bs, bm, sn, sub, ab, col, dd, k0, k1, k2, k3, k5, hl, rv⟩, sa, hm _ be, ty, kp⟩, ⟨hg, hk, hm _ be, hd, ha, hn, ht, hm _ ob⟩⟩
theorem fn_type {K : PySem.W.Frag} {f : Addr} {od : Option Addr} {d : Data} {sl : Array (Option Value)} (h : K.lookup f = some ⟨.type "function", od, d, sl⟩) : PySem.W.typeIn K (.ref f) = some (.type "function") := by
  show (K.lookup f).map (fun o => o.cls) = some (.type "function")
  rw [h]
  rfl
def cAt (l : List Addr) (i : Nat) : Addr := l.getD i 0
theorem cAt_inj {a : Addr} {l : List Addr} (h : (a :: l).Nodup) : (∀ i j, i < l.length → j < l.length → cAt l i = cAt l j → i = j) ∧ ∀ i, i < l.length → cAt l i ≠ a := by
  obtain ⟨h1, h2⟩ := List.nodup_cons.mp h
  have g : ∀ i, i < l.length → l[i]? = some (cAt l i) := fun i hi => by
    unfold cAt
    rw [List.getD_eq_getElem?_getD, List.getElem?_eq_getElem hi]
    rfl
  refine ⟨fun i j hi hj e => (List.getElem?_inj hi h2).mp ((g i hi).trans ((congrArg some e).trans (g j hj).symm)), fun i hi e => h1 ?_⟩
  rw [← e]
  exact List.mem_of_getElem? (g i hi)
theorem all_mk {l : PySem.W.OpenLaw} {w : World} {K : PySem.W.Frag} {h : Heap} {mg : Str → Option Value} {fa f_BadHouse_init f_BadProgram_init f_NoAnswer_init f_BadMachine_init f_BadText_init f_NoName_init f_law_bag f_law_pick f_law_some f_law_is f_law_deep f_law_odd f_law_classes f_law_errors f_law C_HouseError C_BadHouse C_BadProgram C_NoAnswer C_BadMachine C_BadText C_NoName C_NoPath C_NoInside C_TooLarge C_NotAlike C_NotBetween C_NoTest C_NoPrior C_NoGains C_NoAsker C_NotLooks C_NotLook C_NotOneRound C_NoShare C_NotShaped C_NoTable C_NoNumber C_NoMenu C_NoBudget C_NoItem C_NotRefused C_Stopped C_NoWorld C_NoDisk C_NoThrow C_NoMediator C_NoLine C_NothingDone : Addr} (X : K.In h) (G : h.Ns mainGlobals mg) (hfa : mg "law" = some (.ref fa))
    {nm_HouseError nm_BadHouse nm_BadProgram nm_NoAnswer nm_BadMachine nm_BadText nm_NoName nm_NoPath nm_NoInside nm_TooLarge nm_NotAlike nm_NotBetween nm_NoTest nm_NoPrior nm_NoGains nm_NoAsker nm_NotLooks nm_NotLook nm_NotOneRound nm_NoShare nm_NotShaped nm_NoTable nm_NoNumber nm_NoMenu nm_NoBudget nm_NoItem nm_NotRefused nm_Stopped nm_NoWorld nm_NoDisk nm_NoThrow nm_NoMediator nm_NoLine nm_NothingDone qn_HouseError qn_BadHouse qn_BadProgram qn_NoAnswer qn_BadMachine qn_BadText qn_NoName qn_NoPath qn_NoInside qn_TooLarge qn_NotAlike qn_NotBetween qn_NoTest qn_NoPrior qn_NoGains qn_NoAsker qn_NotLooks qn_NotLook qn_NotOneRound qn_NoShare qn_NotShaped qn_NoTable qn_NoNumber qn_NoMenu qn_NoBudget qn_NoItem qn_NotRefused qn_Stopped qn_NoWorld qn_NoDisk qn_NoThrow qn_NoMediator qn_NoLine qn_NothingDone : Str} {N_HouseError N_BadHouse N_BadProgram N_NoAnswer N_BadMachine N_BadText N_NoName N_NoPath N_NoInside N_TooLarge N_NotAlike N_NotBetween N_NoTest N_NoPrior N_NoGains N_NoAsker N_NotLooks N_NotLook N_NotOneRound N_NoShare N_NotShaped N_NoTable N_NoNumber N_NoMenu N_NoBudget N_NoItem N_NotRefused N_Stopped N_NoWorld N_NoDisk N_NoThrow N_NoMediator N_NoLine N_NothingDone : Addr} {bs_HouseError bs_BadHouse bs_BadProgram bs_NoAnswer bs_BadMachine bs_BadText bs_NoName bs_NoPath bs_NoInside bs_TooLarge bs_NotAlike bs_NotBetween bs_NoTest bs_NoPrior bs_NoGains bs_NoAsker bs_NotLooks bs_NotLook bs_NotOneRound bs_NoShare bs_NotShaped bs_NoTable bs_NoNumber bs_NoMenu bs_NoBudget bs_NoItem bs_NotRefused bs_Stopped bs_NoWorld bs_NoDisk bs_NoThrow bs_NoMediator bs_NoLine bs_NothingDone sub_HouseError sub_BadHouse sub_BadProgram sub_NoAnswer sub_BadMachine sub_BadText sub_NoName sub_NoPath sub_NoInside sub_TooLarge sub_NotAlike sub_NotBetween sub_NoTest sub_NoPrior sub_NoGains sub_NoAsker sub_NotLooks sub_NotLook sub_NotOneRound sub_NoShare sub_NotShaped sub_NoTable sub_NoNumber sub_NoMenu sub_NoBudget sub_NoItem sub_NotRefused sub_Stopped sub_NoWorld sub_NoDisk sub_NoThrow sub_NoMediator sub_NoLine sub_NothingDone : List Value} {sn_HouseError sn_BadHouse sn_BadProgram sn_NoAnswer sn_BadMachine sn_BadText sn_NoName sn_NoPath sn_NoInside sn_TooLarge sn_NotAlike sn_NotBetween sn_NoTest sn_NoPrior sn_NoGains sn_NoAsker sn_NotLooks sn_NotLook sn_NotOneRound sn_NoShare sn_NotShaped sn_NoTable sn_NoNumber sn_NoMenu sn_NoBudget sn_NoItem sn_NotRefused sn_Stopped sn_NoWorld sn_NoDisk sn_NoThrow sn_NoMediator sn_NoLine sn_NothingDone : List Str} {ab_HouseError ab_BadHouse ab_BadProgram ab_NoAnswer ab_BadMachine ab_BadText ab_NoName ab_NoPath ab_NoInside ab_TooLarge ab_NotAlike ab_NotBetween ab_NoTest ab_NoPrior ab_NoGains ab_NoAsker ab_NotLooks ab_NotLook ab_NotOneRound ab_NoShare ab_NotShaped ab_NoTable ab_NoNumber ab_NoMenu ab_NoBudget ab_NoItem ab_NotRefused ab_Stopped ab_NoWorld ab_NoDisk ab_NoThrow ab_NoMediator ab_NoLine ab_NothingDone : Bool} {col_HouseError col_BadHouse col_BadProgram col_NoAnswer col_BadMachine col_BadText col_NoName col_NoPath col_NoInside col_TooLarge col_NotAlike col_NotBetween col_NoTest col_NoPrior col_NoGains col_NoAsker col_NotLooks col_NotLook col_NotOneRound col_NoShare col_NotShaped col_NoTable col_NoNumber col_NoMenu col_NoBudget col_NoItem col_NotRefused col_Stopped col_NoWorld col_NoDisk col_NoThrow col_NoMediator col_NoLine col_NothingDone : Option Bool} {k0_HouseError k0_BadHouse k0_BadProgram k0_NoAnswer k0_BadMachine k0_BadText k0_NoName k0_NoPath k0_NoInside k0_TooLarge k0_NotAlike k0_NotBetween k0_NoTest k0_NoPrior k0_NoGains k0_NoAsker k0_NotLooks k0_NotLook k0_NotOneRound k0_NoShare k0_NotShaped k0_NoTable k0_NoNumber k0_NoMenu k0_NoBudget k0_NoItem k0_NotRefused k0_Stopped k0_NoWorld k0_NoDisk k0_NoThrow k0_NoMediator k0_NoLine k0_NothingDone k1_HouseError k1_BadHouse k1_BadProgram k1_NoAnswer k1_BadMachine k1_BadText k1_NoName k1_NoPath k1_NoInside k1_TooLarge k1_NotAlike k1_NotBetween k1_NoTest k1_NoPrior k1_NoGains k1_NoAsker k1_NotLooks k1_NotLook k1_NotOneRound k1_NoShare k1_NotShaped k1_NoTable k1_NoNumber k1_NoMenu k1_NoBudget k1_NoItem k1_NotRefused k1_Stopped k1_NoWorld k1_NoDisk k1_NoThrow k1_NoMediator k1_NoLine k1_NothingDone k2_HouseError k2_BadHouse k2_BadProgram k2_NoAnswer k2_BadMachine k2_BadText k2_NoName k2_NoPath k2_NoInside k2_TooLarge k2_NotAlike k2_NotBetween k2_NoTest k2_NoPrior k2_NoGains k2_NoAsker k2_NotLooks k2_NotLook k2_NotOneRound k2_NoShare k2_NotShaped k2_NoTable k2_NoNumber k2_NoMenu k2_NoBudget k2_NoItem k2_NotRefused k2_Stopped k2_NoWorld k2_NoDisk k2_NoThrow k2_NoMediator k2_NoLine k2_NothingDone k3_HouseError k3_BadHouse k3_BadProgram k3_NoAnswer k3_BadMachine k3_BadText k3_NoName k3_NoPath k3_NoInside k3_TooLarge k3_NotAlike k3_NotBetween k3_NoTest k3_NoPrior k3_NoGains k3_NoAsker k3_NotLooks k3_NotLook k3_NotOneRound k3_NoShare k3_NotShaped k3_NoTable k3_NoNumber k3_NoMenu k3_NoBudget k3_NoItem k3_NotRefused k3_Stopped k3_NoWorld k3_NoDisk k3_NoThrow k3_NoMediator k3_NoLine k3_NothingDone k5_HouseError k5_BadHouse k5_BadProgram k5_NoAnswer k5_BadMachine k5_BadText k5_NoName k5_NoPath k5_NoInside k5_TooLarge k5_NotAlike k5_NotBetween k5_NoTest k5_NoPrior k5_NoGains k5_NoAsker k5_NotLooks k5_NotLook k5_NotOneRound k5_NoShare k5_NotShaped k5_NoTable k5_NoNumber k5_NoMenu k5_NoBudget k5_NoItem k5_NotRefused k5_Stopped k5_NoWorld k5_NoDisk k5_NoThrow k5_NoMediator k5_NoLine k5_NothingDone : Option Value}
    {dd_HouseError dd_BadHouse dd_BadProgram dd_NoAnswer dd_BadMachine dd_BadText dd_NoName dd_NoPath dd_NoInside dd_TooLarge dd_NotAlike dd_NotBetween dd_NoTest dd_NoPrior dd_NoGains dd_NoAsker dd_NotLooks dd_NotLook dd_NotOneRound dd_NoShare dd_NotShaped dd_NoTable dd_NoNumber dd_NoMenu dd_NoBudget dd_NoItem dd_NotRefused dd_Stopped dd_NoWorld dd_NoDisk dd_NoThrow dd_NoMediator dd_NoLine dd_NothingDone od_BadHouse_init od_BadProgram_init od_NoAnswer_init od_BadMachine_init od_BadText_init od_NoName_init od_law_bag od_law_pick od_law_some od_law_is od_law_deep od_law_odd od_law_classes od_law_errors od_law an_BadHouse_init an_BadProgram_init an_NoAnswer_init an_BadMachine_init an_BadText_init an_NoName_init an_law_bag an_law_pick an_law_some an_law_is an_law_deep an_law_odd an_law_classes an_law_errors an_law : Option Addr} {sl_BadHouse_init sl_BadProgram_init sl_NoAnswer_init sl_BadMachine_init sl_BadText_init sl_NoName_init sl_law_bag sl_law_pick sl_law_some sl_law_is sl_law_deep sl_law_odd sl_law_classes sl_law_errors sl_law : Array (Option Value)} {oc_law_bag oc_law_pick oc_law_some oc_law_is oc_law_deep oc_law_odd oc_law_classes oc_law_errors oc_law kV_BadHouse_init kV_BadProgram_init kV_NoAnswer_init kV_BadMachine_init kV_BadText_init kV_NoName_init kV_law_bag kV_law_pick kV_law_some kV_law_is kV_law_deep kV_law_odd kV_law_classes kV_law_errors kV_law dc_BadHouse_init dc_BadProgram_init dc_NoAnswer_init dc_BadMachine_init dc_BadText_init dc_NoName_init dc_law_bag dc_law_pick dc_law_some dc_law_is dc_law_deep dc_law_odd dc_law_classes dc_law_errors dc_law pm_BadHouse_init pm_BadProgram_init pm_NoAnswer_init pm_BadMachine_init pm_BadText_init pm_NoName_init pm_law_bag pm_law_pick pm_law_some pm_law_is pm_law_deep pm_law_odd pm_law_classes pm_law_errors pm_law cd_BadHouse_init cd_BadProgram_init cd_NoAnswer_init cd_BadMachine_init cd_BadText_init cd_NoName_init cd_law_bag cd_law_pick cd_law_some cd_law_is cd_law_deep cd_law_odd cd_law_classes cd_law_errors cd_law ct_BadHouse_init ct_BadProgram_init ct_NoAnswer_init ct_BadMachine_init ct_BadText_init ct_NoName_init ct_law_bag ct_law_pick ct_law_some ct_law_is ct_law_deep ct_law_odd ct_law_classes ct_law_errors ct_law : Value}
    (a_HouseError : PySem.W.nsIn K mainGlobals "HouseError" = some (some (.ref C_HouseError)))
    (x_HouseError : K.lookup C_HouseError = some (excClassObj nm_HouseError qn_HouseError C_HouseError N_HouseError bs_HouseError veMro true sn_HouseError sub_HouseError ab_HouseError col_HouseError dd_HouseError k0_HouseError k1_HouseError k2_HouseError k3_HouseError k5_HouseError "ValueError.__new__"))
    (sa_HouseError : PySem.W.findIn K (.ref C_HouseError) "__setattr__" = some (some (.builtin "object.__setattr__")))
    (kp_HouseError : PySem.W.keepIn K (.ref C_HouseError) = true)
    (hg_HouseError : PySem.W.findIn K (.ref C_HouseError) "__getattribute__" = some (some (.builtin "BaseException.__getattribute__")))
    (hk_HouseError : PySem.W.findIn K (.ref C_HouseError) "__getattr__" = some none)
    (ha_HouseError : PySem.W.findIn K (.ref C_HouseError) "__class__" = some (some (.builtin "object.__class__")))
    (q_HouseError : PySem.W.excIn K C_HouseError veMro "ValueError.__new__" = true)
    (a_BadHouse : PySem.W.nsIn K mainGlobals "BadHouse" = some (some (.ref C_BadHouse)))
    (x_BadHouse : K.lookup C_BadHouse = some (excClassObj nm_BadHouse qn_BadHouse C_BadHouse N_BadHouse bs_BadHouse (.ref C_HouseError :: veMro) true sn_BadHouse sub_BadHouse ab_BadHouse col_BadHouse dd_BadHouse k0_BadHouse k1_BadHouse k2_BadHouse k3_BadHouse k5_BadHouse "ValueError.__new__"))
    (sa_BadHouse : PySem.W.findIn K (.ref C_BadHouse) "__setattr__" = some (some (.builtin "object.__setattr__")))
    (kp_BadHouse : PySem.W.keepIn K (.ref C_BadHouse) = true)
    (hg_BadHouse : PySem.W.findIn K (.ref C_BadHouse) "__getattribute__" = some (some (.builtin "BaseException.__getattribute__")))
    (hk_BadHouse : PySem.W.findIn K (.ref C_BadHouse) "__getattr__" = some none)
    (ha_BadHouse : PySem.W.findIn K (.ref C_BadHouse) "__class__" = some (some (.builtin "object.__class__")))
    (i_BadHouse : PySem.W.findIn K (.ref C_BadHouse) "__init__" = some (some (.ref f_BadHouse_init)))
    (n_BadHouse : PySem.W.findIn K (.ref C_BadHouse) "place" = some none)
    (a_BadProgram : PySem.W.nsIn K mainGlobals "BadProgram" = some (some (.ref C_BadProgram)))
    (x_BadProgram : K.lookup C_BadProgram = some (excClassObj nm_BadProgram qn_BadProgram C_BadProgram N_BadProgram bs_BadProgram (.ref C_HouseError :: veMro) true sn_BadProgram sub_BadProgram ab_BadProgram col_BadProgram dd_BadProgram k0_BadProgram k1_BadProgram k2_BadProgram k3_BadProgram k5_BadProgram "ValueError.__new__"))
    (sa_BadProgram : PySem.W.findIn K (.ref C_BadProgram) "__setattr__" = some (some (.builtin "object.__setattr__")))
    (kp_BadProgram : PySem.W.keepIn K (.ref C_BadProgram) = true)
    (hg_BadProgram : PySem.W.findIn K (.ref C_BadProgram) "__getattribute__" = some (some (.builtin "BaseException.__getattribute__")))
    (hk_BadProgram : PySem.W.findIn K (.ref C_BadProgram) "__getattr__" = some none)
    (ha_BadProgram : PySem.W.findIn K (.ref C_BadProgram) "__class__" = some (some (.builtin "object.__class__")))
    (i_BadProgram : PySem.W.findIn K (.ref C_BadProgram) "__init__" = some (some (.ref f_BadProgram_init)))
    (n_BadProgram : PySem.W.findIn K (.ref C_BadProgram) "part" = some none)
    (a_NoAnswer : PySem.W.nsIn K mainGlobals "NoAnswer" = some (some (.ref C_NoAnswer)))
    (x_NoAnswer : K.lookup C_NoAnswer = some (excClassObj nm_NoAnswer qn_NoAnswer C_NoAnswer N_NoAnswer bs_NoAnswer (.ref C_HouseError :: veMro) true sn_NoAnswer sub_NoAnswer ab_NoAnswer col_NoAnswer dd_NoAnswer k0_NoAnswer k1_NoAnswer k2_NoAnswer k3_NoAnswer k5_NoAnswer "ValueError.__new__"))
    (sa_NoAnswer : PySem.W.findIn K (.ref C_NoAnswer) "__setattr__" = some (some (.builtin "object.__setattr__")))
    (kp_NoAnswer : PySem.W.keepIn K (.ref C_NoAnswer) = true)
    (hg_NoAnswer : PySem.W.findIn K (.ref C_NoAnswer) "__getattribute__" = some (some (.builtin "BaseException.__getattribute__")))
    (hk_NoAnswer : PySem.W.findIn K (.ref C_NoAnswer) "__getattr__" = some none)
    (ha_NoAnswer : PySem.W.findIn K (.ref C_NoAnswer) "__class__" = some (some (.builtin "object.__class__")))
    (i_NoAnswer : PySem.W.findIn K (.ref C_NoAnswer) "__init__" = some (some (.ref f_NoAnswer_init)))
    (n_NoAnswer : PySem.W.findIn K (.ref C_NoAnswer) "talk" = some none)
    (a_BadMachine : PySem.W.nsIn K mainGlobals "BadMachine" = some (some (.ref C_BadMachine)))
    (x_BadMachine : K.lookup C_BadMachine = some (excClassObj nm_BadMachine qn_BadMachine C_BadMachine N_BadMachine bs_BadMachine (.ref C_HouseError :: veMro) true sn_BadMachine sub_BadMachine ab_BadMachine col_BadMachine dd_BadMachine k0_BadMachine k1_BadMachine k2_BadMachine k3_BadMachine k5_BadMachine "ValueError.__new__"))
    (sa_BadMachine : PySem.W.findIn K (.ref C_BadMachine) "__setattr__" = some (some (.builtin "object.__setattr__")))
    (kp_BadMachine : PySem.W.keepIn K (.ref C_BadMachine) = true)
    (hg_BadMachine : PySem.W.findIn K (.ref C_BadMachine) "__getattribute__" = some (some (.builtin "BaseException.__getattribute__")))
    (hk_BadMachine : PySem.W.findIn K (.ref C_BadMachine) "__getattr__" = some none)
    (ha_BadMachine : PySem.W.findIn K (.ref C_BadMachine) "__class__" = some (some (.builtin "object.__class__")))
    (i_BadMachine : PySem.W.findIn K (.ref C_BadMachine) "__init__" = some (some (.ref f_BadMachine_init)))
    (n_BadMachine : PySem.W.findIn K (.ref C_BadMachine) "part" = some none)
    (a_BadText : PySem.W.nsIn K mainGlobals "BadText" = some (some (.ref C_BadText)))
    (x_BadText : K.lookup C_BadText = some (excClassObj nm_BadText qn_BadText C_BadText N_BadText bs_BadText (.ref C_HouseError :: veMro) true sn_BadText sub_BadText ab_BadText col_BadText dd_BadText k0_BadText k1_BadText k2_BadText k3_BadText k5_BadText "ValueError.__new__"))
    (sa_BadText : PySem.W.findIn K (.ref C_BadText) "__setattr__" = some (some (.builtin "object.__setattr__")))
    (kp_BadText : PySem.W.keepIn K (.ref C_BadText) = true)
    (hg_BadText : PySem.W.findIn K (.ref C_BadText) "__getattribute__" = some (some (.builtin "BaseException.__getattribute__")))
    (hk_BadText : PySem.W.findIn K (.ref C_BadText) "__getattr__" = some none)
    (ha_BadText : PySem.W.findIn K (.ref C_BadText) "__class__" = some (some (.builtin "object.__class__")))
    (i_BadText : PySem.W.findIn K (.ref C_BadText) "__init__" = some (some (.ref f_BadText_init)))
    (n_BadText : PySem.W.findIn K (.ref C_BadText) "line" = some none)
    (a_NoName : PySem.W.nsIn K mainGlobals "NoName" = some (some (.ref C_NoName)))
    (x_NoName : K.lookup C_NoName = some (excClassObj nm_NoName qn_NoName C_NoName N_NoName bs_NoName (.ref C_HouseError :: veMro) true sn_NoName sub_NoName ab_NoName col_NoName dd_NoName k0_NoName k1_NoName k2_NoName k3_NoName k5_NoName "ValueError.__new__"))
    (sa_NoName : PySem.W.findIn K (.ref C_NoName) "__setattr__" = some (some (.builtin "object.__setattr__")))
    (kp_NoName : PySem.W.keepIn K (.ref C_NoName) = true)
    (hg_NoName : PySem.W.findIn K (.ref C_NoName) "__getattribute__" = some (some (.builtin "BaseException.__getattribute__")))
    (hk_NoName : PySem.W.findIn K (.ref C_NoName) "__getattr__" = some none)
    (ha_NoName : PySem.W.findIn K (.ref C_NoName) "__class__" = some (some (.builtin "object.__class__")))
    (i_NoName : PySem.W.findIn K (.ref C_NoName) "__init__" = some (some (.ref f_NoName_init)))
    (n_NoName : PySem.W.findIn K (.ref C_NoName) "name" = some none)
    (a_NoPath : PySem.W.nsIn K mainGlobals "NoPath" = some (some (.ref C_NoPath)))
    (x_NoPath : K.lookup C_NoPath = some (excClassObj nm_NoPath qn_NoPath C_NoPath N_NoPath bs_NoPath (.ref C_HouseError :: veMro) true sn_NoPath sub_NoPath ab_NoPath col_NoPath dd_NoPath k0_NoPath k1_NoPath k2_NoPath k3_NoPath k5_NoPath "ValueError.__new__"))
    (sa_NoPath : PySem.W.findIn K (.ref C_NoPath) "__setattr__" = some (some (.builtin "object.__setattr__")))
    (kp_NoPath : PySem.W.keepIn K (.ref C_NoPath) = true)
    (hg_NoPath : PySem.W.findIn K (.ref C_NoPath) "__getattribute__" = some (some (.builtin "BaseException.__getattribute__")))
    (hk_NoPath : PySem.W.findIn K (.ref C_NoPath) "__getattr__" = some none)
    (ha_NoPath : PySem.W.findIn K (.ref C_NoPath) "__class__" = some (some (.builtin "object.__class__")))
    (q_NoPath : PySem.W.excIn K C_NoPath veMro "ValueError.__new__" = true)
    (a_NoInside : PySem.W.nsIn K mainGlobals "NoInside" = some (some (.ref C_NoInside)))
    (x_NoInside : K.lookup C_NoInside = some (excClassObj nm_NoInside qn_NoInside C_NoInside N_NoInside bs_NoInside (.ref C_HouseError :: veMro) true sn_NoInside sub_NoInside ab_NoInside col_NoInside dd_NoInside k0_NoInside k1_NoInside k2_NoInside k3_NoInside k5_NoInside "ValueError.__new__"))
    (sa_NoInside : PySem.W.findIn K (.ref C_NoInside) "__setattr__" = some (some (.builtin "object.__setattr__")))
    (kp_NoInside : PySem.W.keepIn K (.ref C_NoInside) = true)
    (hg_NoInside : PySem.W.findIn K (.ref C_NoInside) "__getattribute__" = some (some (.builtin "BaseException.__getattribute__")))
    (hk_NoInside : PySem.W.findIn K (.ref C_NoInside) "__getattr__" = some none)
    (ha_NoInside : PySem.W.findIn K (.ref C_NoInside) "__class__" = some (some (.builtin "object.__class__")))
    (q_NoInside : PySem.W.excIn K C_NoInside veMro "ValueError.__new__" = true)
    (a_TooLarge : PySem.W.nsIn K mainGlobals "TooLarge" = some (some (.ref C_TooLarge)))
    (x_TooLarge : K.lookup C_TooLarge = some (excClassObj nm_TooLarge qn_TooLarge C_TooLarge N_TooLarge bs_TooLarge (.ref C_HouseError :: veMro) true sn_TooLarge sub_TooLarge ab_TooLarge col_TooLarge dd_TooLarge k0_TooLarge k1_TooLarge k2_TooLarge k3_TooLarge k5_TooLarge "ValueError.__new__"))
    (sa_TooLarge : PySem.W.findIn K (.ref C_TooLarge) "__setattr__" = some (some (.builtin "object.__setattr__")))
    (kp_TooLarge : PySem.W.keepIn K (.ref C_TooLarge) = true)
    (hg_TooLarge : PySem.W.findIn K (.ref C_TooLarge) "__getattribute__" = some (some (.builtin "BaseException.__getattribute__")))
    (hk_TooLarge : PySem.W.findIn K (.ref C_TooLarge) "__getattr__" = some none)
    (ha_TooLarge : PySem.W.findIn K (.ref C_TooLarge) "__class__" = some (some (.builtin "object.__class__")))
    (q_TooLarge : PySem.W.excIn K C_TooLarge veMro "ValueError.__new__" = true)
    (a_NotAlike : PySem.W.nsIn K mainGlobals "NotAlike" = some (some (.ref C_NotAlike)))
    (x_NotAlike : K.lookup C_NotAlike = some (excClassObj nm_NotAlike qn_NotAlike C_NotAlike N_NotAlike bs_NotAlike (.ref C_HouseError :: veMro) true sn_NotAlike sub_NotAlike ab_NotAlike col_NotAlike dd_NotAlike k0_NotAlike k1_NotAlike k2_NotAlike k3_NotAlike k5_NotAlike "ValueError.__new__"))
    (sa_NotAlike : PySem.W.findIn K (.ref C_NotAlike) "__setattr__" = some (some (.builtin "object.__setattr__")))
    (kp_NotAlike : PySem.W.keepIn K (.ref C_NotAlike) = true)
    (hg_NotAlike : PySem.W.findIn K (.ref C_NotAlike) "__getattribute__" = some (some (.builtin "BaseException.__getattribute__")))
    (hk_NotAlike : PySem.W.findIn K (.ref C_NotAlike) "__getattr__" = some none)
    (ha_NotAlike : PySem.W.findIn K (.ref C_NotAlike) "__class__" = some (some (.builtin "object.__class__")))
    (q_NotAlike : PySem.W.excIn K C_NotAlike veMro "ValueError.__new__" = true)
    (a_NotBetween : PySem.W.nsIn K mainGlobals "NotBetween" = some (some (.ref C_NotBetween)))
    (x_NotBetween : K.lookup C_NotBetween = some (excClassObj nm_NotBetween qn_NotBetween C_NotBetween N_NotBetween bs_NotBetween (.ref C_HouseError :: veMro) true sn_NotBetween sub_NotBetween ab_NotBetween col_NotBetween dd_NotBetween k0_NotBetween k1_NotBetween k2_NotBetween k3_NotBetween k5_NotBetween "ValueError.__new__"))
    (sa_NotBetween : PySem.W.findIn K (.ref C_NotBetween) "__setattr__" = some (some (.builtin "object.__setattr__")))
    (kp_NotBetween : PySem.W.keepIn K (.ref C_NotBetween) = true)
    (hg_NotBetween : PySem.W.findIn K (.ref C_NotBetween) "__getattribute__" = some (some (.builtin "BaseException.__getattribute__")))
    (hk_NotBetween : PySem.W.findIn K (.ref C_NotBetween) "__getattr__" = some none)
    (ha_NotBetween : PySem.W.findIn K (.ref C_NotBetween) "__class__" = some (some (.builtin "object.__class__")))
    (q_NotBetween : PySem.W.excIn K C_NotBetween veMro "ValueError.__new__" = true)
    (a_NoTest : PySem.W.nsIn K mainGlobals "NoTest" = some (some (.ref C_NoTest)))
    (x_NoTest : K.lookup C_NoTest = some (excClassObj nm_NoTest qn_NoTest C_NoTest N_NoTest bs_NoTest (.ref C_HouseError :: veMro) true sn_NoTest sub_NoTest ab_NoTest col_NoTest dd_NoTest k0_NoTest k1_NoTest k2_NoTest k3_NoTest k5_NoTest "ValueError.__new__"))
    (sa_NoTest : PySem.W.findIn K (.ref C_NoTest) "__setattr__" = some (some (.builtin "object.__setattr__")))
    (kp_NoTest : PySem.W.keepIn K (.ref C_NoTest) = true)
    (hg_NoTest : PySem.W.findIn K (.ref C_NoTest) "__getattribute__" = some (some (.builtin "BaseException.__getattribute__")))
    (hk_NoTest : PySem.W.findIn K (.ref C_NoTest) "__getattr__" = some none)
    (ha_NoTest : PySem.W.findIn K (.ref C_NoTest) "__class__" = some (some (.builtin "object.__class__")))
    (q_NoTest : PySem.W.excIn K C_NoTest veMro "ValueError.__new__" = true)
    (a_NoPrior : PySem.W.nsIn K mainGlobals "NoPrior" = some (some (.ref C_NoPrior)))
    (x_NoPrior : K.lookup C_NoPrior = some (excClassObj nm_NoPrior qn_NoPrior C_NoPrior N_NoPrior bs_NoPrior (.ref C_HouseError :: veMro) true sn_NoPrior sub_NoPrior ab_NoPrior col_NoPrior dd_NoPrior k0_NoPrior k1_NoPrior k2_NoPrior k3_NoPrior k5_NoPrior "ValueError.__new__"))
    (sa_NoPrior : PySem.W.findIn K (.ref C_NoPrior) "__setattr__" = some (some (.builtin "object.__setattr__")))
    (kp_NoPrior : PySem.W.keepIn K (.ref C_NoPrior) = true)
    (hg_NoPrior : PySem.W.findIn K (.ref C_NoPrior) "__getattribute__" = some (some (.builtin "BaseException.__getattribute__")))
    (hk_NoPrior : PySem.W.findIn K (.ref C_NoPrior) "__getattr__" = some none)
    (ha_NoPrior : PySem.W.findIn K (.ref C_NoPrior) "__class__" = some (some (.builtin "object.__class__")))
    (q_NoPrior : PySem.W.excIn K C_NoPrior veMro "ValueError.__new__" = true)
    (a_NoGains : PySem.W.nsIn K mainGlobals "NoGains" = some (some (.ref C_NoGains)))
    (x_NoGains : K.lookup C_NoGains = some (excClassObj nm_NoGains qn_NoGains C_NoGains N_NoGains bs_NoGains (.ref C_HouseError :: veMro) true sn_NoGains sub_NoGains ab_NoGains col_NoGains dd_NoGains k0_NoGains k1_NoGains k2_NoGains k3_NoGains k5_NoGains "ValueError.__new__"))
    (sa_NoGains : PySem.W.findIn K (.ref C_NoGains) "__setattr__" = some (some (.builtin "object.__setattr__")))
    (kp_NoGains : PySem.W.keepIn K (.ref C_NoGains) = true)
    (hg_NoGains : PySem.W.findIn K (.ref C_NoGains) "__getattribute__" = some (some (.builtin "BaseException.__getattribute__")))
    (hk_NoGains : PySem.W.findIn K (.ref C_NoGains) "__getattr__" = some none)
    (ha_NoGains : PySem.W.findIn K (.ref C_NoGains) "__class__" = some (some (.builtin "object.__class__")))
    (q_NoGains : PySem.W.excIn K C_NoGains veMro "ValueError.__new__" = true)
    (a_NoAsker : PySem.W.nsIn K mainGlobals "NoAsker" = some (some (.ref C_NoAsker)))
    (x_NoAsker : K.lookup C_NoAsker = some (excClassObj nm_NoAsker qn_NoAsker C_NoAsker N_NoAsker bs_NoAsker (.ref C_HouseError :: veMro) true sn_NoAsker sub_NoAsker ab_NoAsker col_NoAsker dd_NoAsker k0_NoAsker k1_NoAsker k2_NoAsker k3_NoAsker k5_NoAsker "ValueError.__new__"))
    (sa_NoAsker : PySem.W.findIn K (.ref C_NoAsker) "__setattr__" = some (some (.builtin "object.__setattr__")))
    (kp_NoAsker : PySem.W.keepIn K (.ref C_NoAsker) = true)
    (hg_NoAsker : PySem.W.findIn K (.ref C_NoAsker) "__getattribute__" = some (some (.builtin "BaseException.__getattribute__")))
    (hk_NoAsker : PySem.W.findIn K (.ref C_NoAsker) "__getattr__" = some none)
    (ha_NoAsker : PySem.W.findIn K (.ref C_NoAsker) "__class__" = some (some (.builtin "object.__class__")))
    (q_NoAsker : PySem.W.excIn K C_NoAsker veMro "ValueError.__new__" = true)
    (a_NotLooks : PySem.W.nsIn K mainGlobals "NotLooks" = some (some (.ref C_NotLooks)))
    (x_NotLooks : K.lookup C_NotLooks = some (excClassObj nm_NotLooks qn_NotLooks C_NotLooks N_NotLooks bs_NotLooks (.ref C_HouseError :: veMro) true sn_NotLooks sub_NotLooks ab_NotLooks col_NotLooks dd_NotLooks k0_NotLooks k1_NotLooks k2_NotLooks k3_NotLooks k5_NotLooks "ValueError.__new__"))
    (sa_NotLooks : PySem.W.findIn K (.ref C_NotLooks) "__setattr__" = some (some (.builtin "object.__setattr__")))
    (kp_NotLooks : PySem.W.keepIn K (.ref C_NotLooks) = true)
    (hg_NotLooks : PySem.W.findIn K (.ref C_NotLooks) "__getattribute__" = some (some (.builtin "BaseException.__getattribute__")))
    (hk_NotLooks : PySem.W.findIn K (.ref C_NotLooks) "__getattr__" = some none)
    (ha_NotLooks : PySem.W.findIn K (.ref C_NotLooks) "__class__" = some (some (.builtin "object.__class__")))
    (q_NotLooks : PySem.W.excIn K C_NotLooks veMro "ValueError.__new__" = true)
    (a_NotLook : PySem.W.nsIn K mainGlobals "NotLook" = some (some (.ref C_NotLook)))
    (x_NotLook : K.lookup C_NotLook = some (excClassObj nm_NotLook qn_NotLook C_NotLook N_NotLook bs_NotLook (.ref C_HouseError :: veMro) true sn_NotLook sub_NotLook ab_NotLook col_NotLook dd_NotLook k0_NotLook k1_NotLook k2_NotLook k3_NotLook k5_NotLook "ValueError.__new__"))
    (sa_NotLook : PySem.W.findIn K (.ref C_NotLook) "__setattr__" = some (some (.builtin "object.__setattr__")))
    (kp_NotLook : PySem.W.keepIn K (.ref C_NotLook) = true)
    (hg_NotLook : PySem.W.findIn K (.ref C_NotLook) "__getattribute__" = some (some (.builtin "BaseException.__getattribute__")))
    (hk_NotLook : PySem.W.findIn K (.ref C_NotLook) "__getattr__" = some none)
    (ha_NotLook : PySem.W.findIn K (.ref C_NotLook) "__class__" = some (some (.builtin "object.__class__")))
    (q_NotLook : PySem.W.excIn K C_NotLook veMro "ValueError.__new__" = true)
    (a_NotOneRound : PySem.W.nsIn K mainGlobals "NotOneRound" = some (some (.ref C_NotOneRound)))
    (x_NotOneRound : K.lookup C_NotOneRound = some (excClassObj nm_NotOneRound qn_NotOneRound C_NotOneRound N_NotOneRound bs_NotOneRound (.ref C_HouseError :: veMro) true sn_NotOneRound sub_NotOneRound ab_NotOneRound col_NotOneRound dd_NotOneRound k0_NotOneRound k1_NotOneRound k2_NotOneRound k3_NotOneRound k5_NotOneRound "ValueError.__new__"))
    (sa_NotOneRound : PySem.W.findIn K (.ref C_NotOneRound) "__setattr__" = some (some (.builtin "object.__setattr__")))
    (kp_NotOneRound : PySem.W.keepIn K (.ref C_NotOneRound) = true)
    (hg_NotOneRound : PySem.W.findIn K (.ref C_NotOneRound) "__getattribute__" = some (some (.builtin "BaseException.__getattribute__")))
    (hk_NotOneRound : PySem.W.findIn K (.ref C_NotOneRound) "__getattr__" = some none)
    (ha_NotOneRound : PySem.W.findIn K (.ref C_NotOneRound) "__class__" = some (some (.builtin "object.__class__")))
    (q_NotOneRound : PySem.W.excIn K C_NotOneRound veMro "ValueError.__new__" = true)
    (a_NoShare : PySem.W.nsIn K mainGlobals "NoShare" = some (some (.ref C_NoShare)))
    (x_NoShare : K.lookup C_NoShare = some (excClassObj nm_NoShare qn_NoShare C_NoShare N_NoShare bs_NoShare (.ref C_HouseError :: veMro) true sn_NoShare sub_NoShare ab_NoShare col_NoShare dd_NoShare k0_NoShare k1_NoShare k2_NoShare k3_NoShare k5_NoShare "ValueError.__new__"))
    (sa_NoShare : PySem.W.findIn K (.ref C_NoShare) "__setattr__" = some (some (.builtin "object.__setattr__")))
    (kp_NoShare : PySem.W.keepIn K (.ref C_NoShare) = true)
    (hg_NoShare : PySem.W.findIn K (.ref C_NoShare) "__getattribute__" = some (some (.builtin "BaseException.__getattribute__")))
    (hk_NoShare : PySem.W.findIn K (.ref C_NoShare) "__getattr__" = some none)
    (ha_NoShare : PySem.W.findIn K (.ref C_NoShare) "__class__" = some (some (.builtin "object.__class__")))
    (q_NoShare : PySem.W.excIn K C_NoShare veMro "ValueError.__new__" = true)
    (a_NotShaped : PySem.W.nsIn K mainGlobals "NotShaped" = some (some (.ref C_NotShaped)))
    (x_NotShaped : K.lookup C_NotShaped = some (excClassObj nm_NotShaped qn_NotShaped C_NotShaped N_NotShaped bs_NotShaped (.ref C_HouseError :: veMro) true sn_NotShaped sub_NotShaped ab_NotShaped col_NotShaped dd_NotShaped k0_NotShaped k1_NotShaped k2_NotShaped k3_NotShaped k5_NotShaped "ValueError.__new__"))
    (sa_NotShaped : PySem.W.findIn K (.ref C_NotShaped) "__setattr__" = some (some (.builtin "object.__setattr__")))
    (kp_NotShaped : PySem.W.keepIn K (.ref C_NotShaped) = true)
    (hg_NotShaped : PySem.W.findIn K (.ref C_NotShaped) "__getattribute__" = some (some (.builtin "BaseException.__getattribute__")))
    (hk_NotShaped : PySem.W.findIn K (.ref C_NotShaped) "__getattr__" = some none)
    (ha_NotShaped : PySem.W.findIn K (.ref C_NotShaped) "__class__" = some (some (.builtin "object.__class__")))
    (q_NotShaped : PySem.W.excIn K C_NotShaped veMro "ValueError.__new__" = true)
    (a_NoTable : PySem.W.nsIn K mainGlobals "NoTable" = some (some (.ref C_NoTable)))
    (x_NoTable : K.lookup C_NoTable = some (excClassObj nm_NoTable qn_NoTable C_NoTable N_NoTable bs_NoTable (.ref C_HouseError :: veMro) true sn_NoTable sub_NoTable ab_NoTable col_NoTable dd_NoTable k0_NoTable k1_NoTable k2_NoTable k3_NoTable k5_NoTable "ValueError.__new__"))
    (sa_NoTable : PySem.W.findIn K (.ref C_NoTable) "__setattr__" = some (some (.builtin "object.__setattr__")))
    (kp_NoTable : PySem.W.keepIn K (.ref C_NoTable) = true)
    (hg_NoTable : PySem.W.findIn K (.ref C_NoTable) "__getattribute__" = some (some (.builtin "BaseException.__getattribute__")))
    (hk_NoTable : PySem.W.findIn K (.ref C_NoTable) "__getattr__" = some none)
    (ha_NoTable : PySem.W.findIn K (.ref C_NoTable) "__class__" = some (some (.builtin "object.__class__")))
    (q_NoTable : PySem.W.excIn K C_NoTable veMro "ValueError.__new__" = true)
    (a_NoNumber : PySem.W.nsIn K mainGlobals "NoNumber" = some (some (.ref C_NoNumber)))
    (x_NoNumber : K.lookup C_NoNumber = some (excClassObj nm_NoNumber qn_NoNumber C_NoNumber N_NoNumber bs_NoNumber (.ref C_HouseError :: veMro) true sn_NoNumber sub_NoNumber ab_NoNumber col_NoNumber dd_NoNumber k0_NoNumber k1_NoNumber k2_NoNumber k3_NoNumber k5_NoNumber "ValueError.__new__"))
    (sa_NoNumber : PySem.W.findIn K (.ref C_NoNumber) "__setattr__" = some (some (.builtin "object.__setattr__")))
    (kp_NoNumber : PySem.W.keepIn K (.ref C_NoNumber) = true)
    (hg_NoNumber : PySem.W.findIn K (.ref C_NoNumber) "__getattribute__" = some (some (.builtin "BaseException.__getattribute__")))
    (hk_NoNumber : PySem.W.findIn K (.ref C_NoNumber) "__getattr__" = some none)
    (ha_NoNumber : PySem.W.findIn K (.ref C_NoNumber) "__class__" = some (some (.builtin "object.__class__")))
    (q_NoNumber : PySem.W.excIn K C_NoNumber veMro "ValueError.__new__" = true)
    (a_NoMenu : PySem.W.nsIn K mainGlobals "NoMenu" = some (some (.ref C_NoMenu)))
    (x_NoMenu : K.lookup C_NoMenu = some (excClassObj nm_NoMenu qn_NoMenu C_NoMenu N_NoMenu bs_NoMenu (.ref C_HouseError :: veMro) true sn_NoMenu sub_NoMenu ab_NoMenu col_NoMenu dd_NoMenu k0_NoMenu k1_NoMenu k2_NoMenu k3_NoMenu k5_NoMenu "ValueError.__new__"))
    (sa_NoMenu : PySem.W.findIn K (.ref C_NoMenu) "__setattr__" = some (some (.builtin "object.__setattr__")))
    (kp_NoMenu : PySem.W.keepIn K (.ref C_NoMenu) = true)
    (hg_NoMenu : PySem.W.findIn K (.ref C_NoMenu) "__getattribute__" = some (some (.builtin "BaseException.__getattribute__")))
    (hk_NoMenu : PySem.W.findIn K (.ref C_NoMenu) "__getattr__" = some none)
    (ha_NoMenu : PySem.W.findIn K (.ref C_NoMenu) "__class__" = some (some (.builtin "object.__class__")))
    (q_NoMenu : PySem.W.excIn K C_NoMenu veMro "ValueError.__new__" = true)
    (a_NoBudget : PySem.W.nsIn K mainGlobals "NoBudget" = some (some (.ref C_NoBudget)))
    (x_NoBudget : K.lookup C_NoBudget = some (excClassObj nm_NoBudget qn_NoBudget C_NoBudget N_NoBudget bs_NoBudget (.ref C_HouseError :: veMro) true sn_NoBudget sub_NoBudget ab_NoBudget col_NoBudget dd_NoBudget k0_NoBudget k1_NoBudget k2_NoBudget k3_NoBudget k5_NoBudget "ValueError.__new__"))
    (sa_NoBudget : PySem.W.findIn K (.ref C_NoBudget) "__setattr__" = some (some (.builtin "object.__setattr__")))
    (kp_NoBudget : PySem.W.keepIn K (.ref C_NoBudget) = true)
    (hg_NoBudget : PySem.W.findIn K (.ref C_NoBudget) "__getattribute__" = some (some (.builtin "BaseException.__getattribute__")))
    (hk_NoBudget : PySem.W.findIn K (.ref C_NoBudget) "__getattr__" = some none)
    (ha_NoBudget : PySem.W.findIn K (.ref C_NoBudget) "__class__" = some (some (.builtin "object.__class__")))
    (q_NoBudget : PySem.W.excIn K C_NoBudget veMro "ValueError.__new__" = true)
    (a_NoItem : PySem.W.nsIn K mainGlobals "NoItem" = some (some (.ref C_NoItem)))
    (x_NoItem : K.lookup C_NoItem = some (excClassObj nm_NoItem qn_NoItem C_NoItem N_NoItem bs_NoItem (.ref C_HouseError :: veMro) true sn_NoItem sub_NoItem ab_NoItem col_NoItem dd_NoItem k0_NoItem k1_NoItem k2_NoItem k3_NoItem k5_NoItem "ValueError.__new__"))
    (sa_NoItem : PySem.W.findIn K (.ref C_NoItem) "__setattr__" = some (some (.builtin "object.__setattr__")))
    (kp_NoItem : PySem.W.keepIn K (.ref C_NoItem) = true)
    (hg_NoItem : PySem.W.findIn K (.ref C_NoItem) "__getattribute__" = some (some (.builtin "BaseException.__getattribute__")))
    (hk_NoItem : PySem.W.findIn K (.ref C_NoItem) "__getattr__" = some none)
    (ha_NoItem : PySem.W.findIn K (.ref C_NoItem) "__class__" = some (some (.builtin "object.__class__")))
    (q_NoItem : PySem.W.excIn K C_NoItem veMro "ValueError.__new__" = true)
    (a_NotRefused : PySem.W.nsIn K mainGlobals "NotRefused" = some (some (.ref C_NotRefused)))
    (x_NotRefused : K.lookup C_NotRefused = some (excClassObj nm_NotRefused qn_NotRefused C_NotRefused N_NotRefused bs_NotRefused (.ref C_HouseError :: veMro) true sn_NotRefused sub_NotRefused ab_NotRefused col_NotRefused dd_NotRefused k0_NotRefused k1_NotRefused k2_NotRefused k3_NotRefused k5_NotRefused "ValueError.__new__"))
    (sa_NotRefused : PySem.W.findIn K (.ref C_NotRefused) "__setattr__" = some (some (.builtin "object.__setattr__")))
    (kp_NotRefused : PySem.W.keepIn K (.ref C_NotRefused) = true)
    (hg_NotRefused : PySem.W.findIn K (.ref C_NotRefused) "__getattribute__" = some (some (.builtin "BaseException.__getattribute__")))
    (hk_NotRefused : PySem.W.findIn K (.ref C_NotRefused) "__getattr__" = some none)
    (ha_NotRefused : PySem.W.findIn K (.ref C_NotRefused) "__class__" = some (some (.builtin "object.__class__")))
    (q_NotRefused : PySem.W.excIn K C_NotRefused veMro "ValueError.__new__" = true)
    (a_Stopped : PySem.W.nsIn K mainGlobals "Stopped" = some (some (.ref C_Stopped)))
    (x_Stopped : K.lookup C_Stopped = some (excClassObj nm_Stopped qn_Stopped C_Stopped N_Stopped bs_Stopped (.ref C_HouseError :: veMro) true sn_Stopped sub_Stopped ab_Stopped col_Stopped dd_Stopped k0_Stopped k1_Stopped k2_Stopped k3_Stopped k5_Stopped "ValueError.__new__"))
    (sa_Stopped : PySem.W.findIn K (.ref C_Stopped) "__setattr__" = some (some (.builtin "object.__setattr__")))
    (kp_Stopped : PySem.W.keepIn K (.ref C_Stopped) = true)
    (hg_Stopped : PySem.W.findIn K (.ref C_Stopped) "__getattribute__" = some (some (.builtin "BaseException.__getattribute__")))
    (hk_Stopped : PySem.W.findIn K (.ref C_Stopped) "__getattr__" = some none)
    (ha_Stopped : PySem.W.findIn K (.ref C_Stopped) "__class__" = some (some (.builtin "object.__class__")))
    (q_Stopped : PySem.W.excIn K C_Stopped veMro "ValueError.__new__" = true)
    (a_NoWorld : PySem.W.nsIn K mainGlobals "NoWorld" = some (some (.ref C_NoWorld)))
    (x_NoWorld : K.lookup C_NoWorld = some (excClassObj nm_NoWorld qn_NoWorld C_NoWorld N_NoWorld bs_NoWorld (.ref C_HouseError :: veMro) true sn_NoWorld sub_NoWorld ab_NoWorld col_NoWorld dd_NoWorld k0_NoWorld k1_NoWorld k2_NoWorld k3_NoWorld k5_NoWorld "ValueError.__new__"))
    (sa_NoWorld : PySem.W.findIn K (.ref C_NoWorld) "__setattr__" = some (some (.builtin "object.__setattr__")))
    (kp_NoWorld : PySem.W.keepIn K (.ref C_NoWorld) = true)
    (hg_NoWorld : PySem.W.findIn K (.ref C_NoWorld) "__getattribute__" = some (some (.builtin "BaseException.__getattribute__")))
    (hk_NoWorld : PySem.W.findIn K (.ref C_NoWorld) "__getattr__" = some none)
    (ha_NoWorld : PySem.W.findIn K (.ref C_NoWorld) "__class__" = some (some (.builtin "object.__class__")))
    (q_NoWorld : PySem.W.excIn K C_NoWorld veMro "ValueError.__new__" = true)
    (a_NoDisk : PySem.W.nsIn K mainGlobals "NoDisk" = some (some (.ref C_NoDisk)))
    (x_NoDisk : K.lookup C_NoDisk = some (excClassObj nm_NoDisk qn_NoDisk C_NoDisk N_NoDisk bs_NoDisk (.ref C_HouseError :: veMro) true sn_NoDisk sub_NoDisk ab_NoDisk col_NoDisk dd_NoDisk k0_NoDisk k1_NoDisk k2_NoDisk k3_NoDisk k5_NoDisk "ValueError.__new__"))
    (sa_NoDisk : PySem.W.findIn K (.ref C_NoDisk) "__setattr__" = some (some (.builtin "object.__setattr__")))
    (kp_NoDisk : PySem.W.keepIn K (.ref C_NoDisk) = true)
    (hg_NoDisk : PySem.W.findIn K (.ref C_NoDisk) "__getattribute__" = some (some (.builtin "BaseException.__getattribute__")))
    (hk_NoDisk : PySem.W.findIn K (.ref C_NoDisk) "__getattr__" = some none)
    (ha_NoDisk : PySem.W.findIn K (.ref C_NoDisk) "__class__" = some (some (.builtin "object.__class__")))
    (q_NoDisk : PySem.W.excIn K C_NoDisk veMro "ValueError.__new__" = true)
    (a_NoThrow : PySem.W.nsIn K mainGlobals "NoThrow" = some (some (.ref C_NoThrow)))
    (x_NoThrow : K.lookup C_NoThrow = some (excClassObj nm_NoThrow qn_NoThrow C_NoThrow N_NoThrow bs_NoThrow (.ref C_HouseError :: veMro) true sn_NoThrow sub_NoThrow ab_NoThrow col_NoThrow dd_NoThrow k0_NoThrow k1_NoThrow k2_NoThrow k3_NoThrow k5_NoThrow "ValueError.__new__"))
    (sa_NoThrow : PySem.W.findIn K (.ref C_NoThrow) "__setattr__" = some (some (.builtin "object.__setattr__")))
    (kp_NoThrow : PySem.W.keepIn K (.ref C_NoThrow) = true)
    (hg_NoThrow : PySem.W.findIn K (.ref C_NoThrow) "__getattribute__" = some (some (.builtin "BaseException.__getattribute__")))
    (hk_NoThrow : PySem.W.findIn K (.ref C_NoThrow) "__getattr__" = some none)
    (ha_NoThrow : PySem.W.findIn K (.ref C_NoThrow) "__class__" = some (some (.builtin "object.__class__")))
    (q_NoThrow : PySem.W.excIn K C_NoThrow veMro "ValueError.__new__" = true)
    (a_NoMediator : PySem.W.nsIn K mainGlobals "NoMediator" = some (some (.ref C_NoMediator)))
    (x_NoMediator : K.lookup C_NoMediator = some (excClassObj nm_NoMediator qn_NoMediator C_NoMediator N_NoMediator bs_NoMediator (.ref C_HouseError :: veMro) true sn_NoMediator sub_NoMediator ab_NoMediator col_NoMediator dd_NoMediator k0_NoMediator k1_NoMediator k2_NoMediator k3_NoMediator k5_NoMediator "ValueError.__new__"))
    (sa_NoMediator : PySem.W.findIn K (.ref C_NoMediator) "__setattr__" = some (some (.builtin "object.__setattr__")))
    (kp_NoMediator : PySem.W.keepIn K (.ref C_NoMediator) = true)
    (hg_NoMediator : PySem.W.findIn K (.ref C_NoMediator) "__getattribute__" = some (some (.builtin "BaseException.__getattribute__")))
    (hk_NoMediator : PySem.W.findIn K (.ref C_NoMediator) "__getattr__" = some none)
    (ha_NoMediator : PySem.W.findIn K (.ref C_NoMediator) "__class__" = some (some (.builtin "object.__class__")))
    (q_NoMediator : PySem.W.excIn K C_NoMediator veMro "ValueError.__new__" = true)
    (a_NoLine : PySem.W.nsIn K mainGlobals "NoLine" = some (some (.ref C_NoLine)))
    (x_NoLine : K.lookup C_NoLine = some (excClassObj nm_NoLine qn_NoLine C_NoLine N_NoLine bs_NoLine (.ref C_HouseError :: veMro) true sn_NoLine sub_NoLine ab_NoLine col_NoLine dd_NoLine k0_NoLine k1_NoLine k2_NoLine k3_NoLine k5_NoLine "ValueError.__new__"))
    (sa_NoLine : PySem.W.findIn K (.ref C_NoLine) "__setattr__" = some (some (.builtin "object.__setattr__")))
    (kp_NoLine : PySem.W.keepIn K (.ref C_NoLine) = true)
    (hg_NoLine : PySem.W.findIn K (.ref C_NoLine) "__getattribute__" = some (some (.builtin "BaseException.__getattribute__")))
    (hk_NoLine : PySem.W.findIn K (.ref C_NoLine) "__getattr__" = some none)
    (ha_NoLine : PySem.W.findIn K (.ref C_NoLine) "__class__" = some (some (.builtin "object.__class__")))
    (q_NoLine : PySem.W.excIn K C_NoLine veMro "ValueError.__new__" = true)
    (a_NothingDone : PySem.W.nsIn K mainGlobals "NothingDone" = some (some (.ref C_NothingDone)))
    (x_NothingDone : K.lookup C_NothingDone = some (excClassObj nm_NothingDone qn_NothingDone C_NothingDone N_NothingDone bs_NothingDone (.ref C_HouseError :: veMro) true sn_NothingDone sub_NothingDone ab_NothingDone col_NothingDone dd_NothingDone k0_NothingDone k1_NothingDone k2_NothingDone k3_NothingDone k5_NothingDone "ValueError.__new__"))
    (sa_NothingDone : PySem.W.findIn K (.ref C_NothingDone) "__setattr__" = some (some (.builtin "object.__setattr__")))
    (kp_NothingDone : PySem.W.keepIn K (.ref C_NothingDone) = true)
    (hg_NothingDone : PySem.W.findIn K (.ref C_NothingDone) "__getattribute__" = some (some (.builtin "BaseException.__getattribute__")))
    (hk_NothingDone : PySem.W.findIn K (.ref C_NothingDone) "__getattr__" = some none)
    (ha_NothingDone : PySem.W.findIn K (.ref C_NothingDone) "__class__" = some (some (.builtin "object.__class__")))
    (q_NothingDone : PySem.W.excIn K C_NothingDone veMro "ValueError.__new__" = true)
    (l_BadHouse_init : K.lookup f_BadHouse_init = some ⟨.type "function", od_BadHouse_init, .func (PySem.W.fnOf "__init__" "BadHouse.__init__" (defArgs s_BadHouse_init) (defBody s_BadHouse_init) (defScope s_BadHouse_init) .none kV_BadHouse_init dc_BadHouse_init pm_BadHouse_init an_BadHouse_init cd_BadHouse_init ct_BadHouse_init), sl_BadHouse_init⟩)
    (c_BadHouse_init : PySem.W.codeIn K cd_BadHouse_init "BadHouse.__init__" = true)
    (k_BadHouse_init : PySem.W.keepIn K (.ref f_BadHouse_init) = true)
    (l_BadProgram_init : K.lookup f_BadProgram_init = some ⟨.type "function", od_BadProgram_init, .func (PySem.W.fnOf "__init__" "BadProgram.__init__" (defArgs s_BadProgram_init) (defBody s_BadProgram_init) (defScope s_BadProgram_init) .none kV_BadProgram_init dc_BadProgram_init pm_BadProgram_init an_BadProgram_init cd_BadProgram_init ct_BadProgram_init), sl_BadProgram_init⟩)
    (c_BadProgram_init : PySem.W.codeIn K cd_BadProgram_init "BadProgram.__init__" = true)
    (k_BadProgram_init : PySem.W.keepIn K (.ref f_BadProgram_init) = true)
    (l_NoAnswer_init : K.lookup f_NoAnswer_init = some ⟨.type "function", od_NoAnswer_init, .func (PySem.W.fnOf "__init__" "NoAnswer.__init__" (defArgs s_NoAnswer_init) (defBody s_NoAnswer_init) (defScope s_NoAnswer_init) .none kV_NoAnswer_init dc_NoAnswer_init pm_NoAnswer_init an_NoAnswer_init cd_NoAnswer_init ct_NoAnswer_init), sl_NoAnswer_init⟩)
    (c_NoAnswer_init : PySem.W.codeIn K cd_NoAnswer_init "NoAnswer.__init__" = true)
    (k_NoAnswer_init : PySem.W.keepIn K (.ref f_NoAnswer_init) = true)
    (l_BadMachine_init : K.lookup f_BadMachine_init = some ⟨.type "function", od_BadMachine_init, .func (PySem.W.fnOf "__init__" "BadMachine.__init__" (defArgs s_BadMachine_init) (defBody s_BadMachine_init) (defScope s_BadMachine_init) .none kV_BadMachine_init dc_BadMachine_init pm_BadMachine_init an_BadMachine_init cd_BadMachine_init ct_BadMachine_init), sl_BadMachine_init⟩)
    (c_BadMachine_init : PySem.W.codeIn K cd_BadMachine_init "BadMachine.__init__" = true)
    (k_BadMachine_init : PySem.W.keepIn K (.ref f_BadMachine_init) = true)
    (l_BadText_init : K.lookup f_BadText_init = some ⟨.type "function", od_BadText_init, .func (PySem.W.fnOf "__init__" "BadText.__init__" (defArgs s_BadText_init) (defBody s_BadText_init) (defScope s_BadText_init) .none kV_BadText_init dc_BadText_init pm_BadText_init an_BadText_init cd_BadText_init ct_BadText_init), sl_BadText_init⟩)
    (c_BadText_init : PySem.W.codeIn K cd_BadText_init "BadText.__init__" = true)
    (k_BadText_init : PySem.W.keepIn K (.ref f_BadText_init) = true)
    (l_NoName_init : K.lookup f_NoName_init = some ⟨.type "function", od_NoName_init, .func (PySem.W.fnOf "__init__" "NoName.__init__" (defArgs s_NoName_init) (defBody s_NoName_init) (defScope s_NoName_init) .none kV_NoName_init dc_NoName_init pm_NoName_init an_NoName_init cd_NoName_init ct_NoName_init), sl_NoName_init⟩)
    (c_NoName_init : PySem.W.codeIn K cd_NoName_init "NoName.__init__" = true)
    (k_NoName_init : PySem.W.keepIn K (.ref f_NoName_init) = true)
    (a_law_bag : PySem.W.nsIn K mainGlobals "_law_bag" = some (some (.ref f_law_bag)))
    (l_law_bag : K.lookup f_law_bag = some ⟨oc_law_bag, od_law_bag, .func (PySem.W.fnOf "_law_bag" "_law_bag" (defArgs s_law_bag) (defBody s_law_bag) (defScope s_law_bag) .none kV_law_bag dc_law_bag pm_law_bag an_law_bag cd_law_bag ct_law_bag), sl_law_bag⟩)
    (c_law_bag : PySem.W.codeIn K cd_law_bag "_law_bag" = true)
    (k_law_bag : PySem.W.keepIn K (.ref f_law_bag) = true)
    (a_law_pick : PySem.W.nsIn K mainGlobals "_law_pick" = some (some (.ref f_law_pick)))
    (l_law_pick : K.lookup f_law_pick = some ⟨oc_law_pick, od_law_pick, .func (PySem.W.fnOf "_law_pick" "_law_pick" (defArgs s_law_pick) (defBody s_law_pick) (defScope s_law_pick) .none kV_law_pick dc_law_pick pm_law_pick an_law_pick cd_law_pick ct_law_pick), sl_law_pick⟩)
    (c_law_pick : PySem.W.codeIn K cd_law_pick "_law_pick" = true)
    (k_law_pick : PySem.W.keepIn K (.ref f_law_pick) = true)
    (a_law_some : PySem.W.nsIn K mainGlobals "_law_some" = some (some (.ref f_law_some)))
    (l_law_some : K.lookup f_law_some = some ⟨oc_law_some, od_law_some, .func (PySem.W.fnOf "_law_some" "_law_some" (defArgs s_law_some) (defBody s_law_some) (defScope s_law_some) .none kV_law_some dc_law_some pm_law_some an_law_some cd_law_some ct_law_some), sl_law_some⟩)
    (c_law_some : PySem.W.codeIn K cd_law_some "_law_some" = true)
    (k_law_some : PySem.W.keepIn K (.ref f_law_some) = true)
    (a_law_is : PySem.W.nsIn K mainGlobals "_law_is" = some (some (.ref f_law_is)))
    (l_law_is : K.lookup f_law_is = some ⟨oc_law_is, od_law_is, .func (PySem.W.fnOf "_law_is" "_law_is" (defArgs s_law_is) (defBody s_law_is) (defScope s_law_is) .none kV_law_is dc_law_is pm_law_is an_law_is cd_law_is ct_law_is), sl_law_is⟩)
    (c_law_is : PySem.W.codeIn K cd_law_is "_law_is" = true)
    (k_law_is : PySem.W.keepIn K (.ref f_law_is) = true)
    (a_law_deep : PySem.W.nsIn K mainGlobals "_law_deep" = some (some (.ref f_law_deep)))
    (l_law_deep : K.lookup f_law_deep = some ⟨oc_law_deep, od_law_deep, .func (PySem.W.fnOf "_law_deep" "_law_deep" (defArgs s_law_deep) (defBody s_law_deep) (defScope s_law_deep) .none kV_law_deep dc_law_deep pm_law_deep an_law_deep cd_law_deep ct_law_deep), sl_law_deep⟩)
    (c_law_deep : PySem.W.codeIn K cd_law_deep "_law_deep" = true)
    (k_law_deep : PySem.W.keepIn K (.ref f_law_deep) = true)
    (a_law_odd : PySem.W.nsIn K mainGlobals "_law_odd" = some (some (.ref f_law_odd)))
    (l_law_odd : K.lookup f_law_odd = some ⟨oc_law_odd, od_law_odd, .func (PySem.W.fnOf "_law_odd" "_law_odd" (defArgs s_law_odd) (defBody s_law_odd) (defScope s_law_odd) .none kV_law_odd dc_law_odd pm_law_odd an_law_odd cd_law_odd ct_law_odd), sl_law_odd⟩)
    (c_law_odd : PySem.W.codeIn K cd_law_odd "_law_odd" = true)
    (k_law_odd : PySem.W.keepIn K (.ref f_law_odd) = true)
    (a_law_classes : PySem.W.nsIn K mainGlobals "_law_classes" = some (some (.ref f_law_classes)))
    (l_law_classes : K.lookup f_law_classes = some ⟨oc_law_classes, od_law_classes, .func (PySem.W.fnOf "_law_classes" "_law_classes" (defArgs s_law_classes) (defBody s_law_classes) (defScope s_law_classes) .none kV_law_classes dc_law_classes pm_law_classes an_law_classes cd_law_classes ct_law_classes), sl_law_classes⟩)
    (c_law_classes : PySem.W.codeIn K cd_law_classes "_law_classes" = true)
    (k_law_classes : PySem.W.keepIn K (.ref f_law_classes) = true)
    (a_law_errors : PySem.W.nsIn K mainGlobals "_law_errors" = some (some (.ref f_law_errors)))
    (l_law_errors : K.lookup f_law_errors = some ⟨oc_law_errors, od_law_errors, .func (PySem.W.fnOf "_law_errors" "_law_errors" (defArgs s_law_errors) (defBody s_law_errors) (defScope s_law_errors) .none kV_law_errors dc_law_errors pm_law_errors an_law_errors cd_law_errors ct_law_errors), sl_law_errors⟩)
    (c_law_errors : PySem.W.codeIn K cd_law_errors "_law_errors" = true)
    (k_law_errors : PySem.W.keepIn K (.ref f_law_errors) = true)
    (a_law : PySem.W.nsIn K mainGlobals "law" = some (some (.ref f_law)))
    (l_law : K.lookup f_law = some ⟨oc_law, od_law, .func (PySem.W.fnOf "law" "law" (defArgs s_law) (defBody s_law) (defScope s_law) .none kV_law dc_law pm_law an_law cd_law ct_law), sl_law⟩)
    (c_law : PySem.W.codeIn K cd_law "law" = true)
    (k_law : PySem.W.keepIn K (.ref f_law) = true)
    (hnC : PySem.W.specialIn K (.builtin "object.__class__") "__get__" = some (some (.builtin "getset_descriptor.__get__")))
    (htC : PySem.W.takesIn K (.builtin "object.__class__") = some true)
    (z_len : PySem.W.nsIn K mainGlobals "len" = some none)
    (z_int : PySem.W.nsIn K mainGlobals "int" = some none)
    (z_abs : PySem.W.nsIn K mainGlobals "abs" = some none)
    (z_sum : PySem.W.nsIn K mainGlobals "sum" = some none)
    (z_range : PySem.W.nsIn K mainGlobals "range" = some none)
    (z_repr : PySem.W.nsIn K mainGlobals "repr" = some none)
    (z_isinstance : PySem.W.nsIn K mainGlobals "isinstance" = some none)
    (z_any : PySem.W.nsIn K mainGlobals "any" = some none)
    (z_all : PySem.W.nsIn K mainGlobals "all" = some none)
    (z_tuple : PySem.W.nsIn K mainGlobals "tuple" = some none)
    (z_zip : PySem.W.nsIn K mainGlobals "zip" = some none)
    (z_enumerate : PySem.W.nsIn K mainGlobals "enumerate" = some none)
    (z_max : PySem.W.nsIn K mainGlobals "max" = some none)
    (z_bool : PySem.W.nsIn K mainGlobals "bool" = some none)
    (z_ValueError : PySem.W.nsIn K mainGlobals "ValueError" = some none)
    (nodup : [C_HouseError, C_BadHouse, C_BadProgram, C_NoAnswer, C_BadMachine, C_BadText, C_NoName, C_NoPath, C_NoInside, C_TooLarge, C_NotAlike, C_NotBetween, C_NoTest, C_NoPrior, C_NoGains, C_NoAsker, C_NotLooks, C_NotLook, C_NotOneRound, C_NoShare, C_NotShaped, C_NoTable, C_NoNumber, C_NoMenu, C_NoBudget, C_NoItem, C_NotRefused, C_Stopped, C_NoWorld, C_NoDisk, C_NoThrow, C_NoMediator, C_NoLine, C_NothingDone].Nodup) :
    ∃ fd : FuncData, (∀ (s : Shared) (v : Value), BindsTo s fd ⟨[v], []⟩ [("script", v)]) ∧ ∀ base : Heap, K.In base → base.Ns mainGlobals mg → FnG l.prog w K mg base CX0 5 fa fd ["script"] (spTrue K) := by
  have e := hfa.symm.trans (PySem.W.mg_of X G a_law)
  cases e
  have B : Blt mg := ⟨PySem.W.mg_none_of X G z_len, PySem.W.mg_none_of X G z_int, PySem.W.mg_none_of X G z_abs, PySem.W.mg_none_of X G z_sum, PySem.W.mg_none_of X G z_range, PySem.W.mg_none_of X G z_repr, PySem.W.mg_none_of X G z_isinstance, PySem.W.mg_none_of X G z_any, PySem.W.mg_none_of X G z_all, PySem.W.mg_none_of X G z_tuple, PySem.W.mg_none_of X G z_zip, PySem.W.mg_none_of X G z_enumerate, PySem.W.mg_none_of X G z_max, PySem.W.mg_none_of X G z_bool⟩
  have X_HouseError : XFact K mg "HouseError" C_HouseError veMro := exc_cls (PySem.W.mg_of X G a_HouseError) x_HouseError rfl (by decide +kernel) (by decide +kernel) sa_HouseError kp_HouseError hg_HouseError hk_HouseError ha_HouseError hnC htC
  have cbe : (Value.ref C_HouseError :: veMro).contains (.type "BaseException") = true := by rw [List.contains_cons, show veMro.contains (.type "BaseException") = true from by decide +kernel, Bool.or_true]
  have cob : (Value.ref C_HouseError :: veMro).contains (.type "object") = true := by rw [List.contains_cons, show veMro.contains (.type "object") = true from by decide +kernel, Bool.or_true]
  have X_BadHouse : XFact K mg "BadHouse" C_BadHouse (.ref C_HouseError :: veMro) := exc_cls (PySem.W.mg_of X G a_BadHouse) x_BadHouse rfl cbe cob sa_BadHouse kp_BadHouse hg_BadHouse hk_BadHouse ha_BadHouse hnC htC
  have X_BadProgram : XFact K mg "BadProgram" C_BadProgram (.ref C_HouseError :: veMro) := exc_cls (PySem.W.mg_of X G a_BadProgram) x_BadProgram rfl cbe cob sa_BadProgram kp_BadProgram hg_BadProgram hk_BadProgram ha_BadProgram hnC htC
  have X_NoAnswer : XFact K mg "NoAnswer" C_NoAnswer (.ref C_HouseError :: veMro) := exc_cls (PySem.W.mg_of X G a_NoAnswer) x_NoAnswer rfl cbe cob sa_NoAnswer kp_NoAnswer hg_NoAnswer hk_NoAnswer ha_NoAnswer hnC htC
  have X_BadMachine : XFact K mg "BadMachine" C_BadMachine (.ref C_HouseError :: veMro) := exc_cls (PySem.W.mg_of X G a_BadMachine) x_BadMachine rfl cbe cob sa_BadMachine kp_BadMachine hg_BadMachine hk_BadMachine ha_BadMachine hnC htC
  have X_BadText : XFact K mg "BadText" C_BadText (.ref C_HouseError :: veMro) := exc_cls (PySem.W.mg_of X G a_BadText) x_BadText rfl cbe cob sa_BadText kp_BadText hg_BadText hk_BadText ha_BadText hnC htC
  have X_NoName : XFact K mg "NoName" C_NoName (.ref C_HouseError :: veMro) := exc_cls (PySem.W.mg_of X G a_NoName) x_NoName rfl cbe cob sa_NoName kp_NoName hg_NoName hk_NoName ha_NoName hnC htC
  have X_NoPath : XFact K mg "NoPath" C_NoPath (.ref C_HouseError :: veMro) := exc_cls (PySem.W.mg_of X G a_NoPath) x_NoPath rfl cbe cob sa_NoPath kp_NoPath hg_NoPath hk_NoPath ha_NoPath hnC htC
  have X_NoInside : XFact K mg "NoInside" C_NoInside (.ref C_HouseError :: veMro) := exc_cls (PySem.W.mg_of X G a_NoInside) x_NoInside rfl cbe cob sa_NoInside kp_NoInside hg_NoInside hk_NoInside ha_NoInside hnC htC
  have X_TooLarge : XFact K mg "TooLarge" C_TooLarge (.ref C_HouseError :: veMro) := exc_cls (PySem.W.mg_of X G a_TooLarge) x_TooLarge rfl cbe cob sa_TooLarge kp_TooLarge hg_TooLarge hk_TooLarge ha_TooLarge hnC htC
  have X_NotAlike : XFact K mg "NotAlike" C_NotAlike (.ref C_HouseError :: veMro) := exc_cls (PySem.W.mg_of X G a_NotAlike) x_NotAlike rfl cbe cob sa_NotAlike kp_NotAlike hg_NotAlike hk_NotAlike ha_NotAlike hnC htC
  have X_NotBetween : XFact K mg "NotBetween" C_NotBetween (.ref C_HouseError :: veMro) := exc_cls (PySem.W.mg_of X G a_NotBetween) x_NotBetween rfl cbe cob sa_NotBetween kp_NotBetween hg_NotBetween hk_NotBetween ha_NotBetween hnC htC
  have X_NoTest : XFact K mg "NoTest" C_NoTest (.ref C_HouseError :: veMro) := exc_cls (PySem.W.mg_of X G a_NoTest) x_NoTest rfl cbe cob sa_NoTest kp_NoTest hg_NoTest hk_NoTest ha_NoTest hnC htC
  have X_NoPrior : XFact K mg "NoPrior" C_NoPrior (.ref C_HouseError :: veMro) := exc_cls (PySem.W.mg_of X G a_NoPrior) x_NoPrior rfl cbe cob sa_NoPrior kp_NoPrior hg_NoPrior hk_NoPrior ha_NoPrior hnC htC
  have X_NoGains : XFact K mg "NoGains" C_NoGains (.ref C_HouseError :: veMro) := exc_cls (PySem.W.mg_of X G a_NoGains) x_NoGains rfl cbe cob sa_NoGains kp_NoGains hg_NoGains hk_NoGains ha_NoGains hnC htC
  have X_NoAsker : XFact K mg "NoAsker" C_NoAsker (.ref C_HouseError :: veMro) := exc_cls (PySem.W.mg_of X G a_NoAsker) x_NoAsker rfl cbe cob sa_NoAsker kp_NoAsker hg_NoAsker hk_NoAsker ha_NoAsker hnC htC
  have X_NotLooks : XFact K mg "NotLooks" C_NotLooks (.ref C_HouseError :: veMro) := exc_cls (PySem.W.mg_of X G a_NotLooks) x_NotLooks rfl cbe cob sa_NotLooks kp_NotLooks hg_NotLooks hk_NotLooks ha_NotLooks hnC htC
  have X_NotLook : XFact K mg "NotLook" C_NotLook (.ref C_HouseError :: veMro) := exc_cls (PySem.W.mg_of X G a_NotLook) x_NotLook rfl cbe cob sa_NotLook kp_NotLook hg_NotLook hk_NotLook ha_NotLook hnC htC
  have X_NotOneRound : XFact K mg "NotOneRound" C_NotOneRound (.ref C_HouseError :: veMro) := exc_cls (PySem.W.mg_of X G a_NotOneRound) x_NotOneRound rfl cbe cob sa_NotOneRound kp_NotOneRound hg_NotOneRound hk_NotOneRound ha_NotOneRound hnC htC
  have X_NoShare : XFact K mg "NoShare" C_NoShare (.ref C_HouseError :: veMro) := exc_cls (PySem.W.mg_of X G a_NoShare) x_NoShare rfl cbe cob sa_NoShare kp_NoShare hg_NoShare hk_NoShare ha_NoShare hnC htC
  have X_NotShaped : XFact K mg "NotShaped" C_NotShaped (.ref C_HouseError :: veMro) := exc_cls (PySem.W.mg_of X G a_NotShaped) x_NotShaped rfl cbe cob sa_NotShaped kp_NotShaped hg_NotShaped hk_NotShaped ha_NotShaped hnC htC
  have X_NoTable : XFact K mg "NoTable" C_NoTable (.ref C_HouseError :: veMro) := exc_cls (PySem.W.mg_of X G a_NoTable) x_NoTable rfl cbe cob sa_NoTable kp_NoTable hg_NoTable hk_NoTable ha_NoTable hnC htC
  have X_NoNumber : XFact K mg "NoNumber" C_NoNumber (.ref C_HouseError :: veMro) := exc_cls (PySem.W.mg_of X G a_NoNumber) x_NoNumber rfl cbe cob sa_NoNumber kp_NoNumber hg_NoNumber hk_NoNumber ha_NoNumber hnC htC
  have X_NoMenu : XFact K mg "NoMenu" C_NoMenu (.ref C_HouseError :: veMro) := exc_cls (PySem.W.mg_of X G a_NoMenu) x_NoMenu rfl cbe cob sa_NoMenu kp_NoMenu hg_NoMenu hk_NoMenu ha_NoMenu hnC htC
  have X_NoBudget : XFact K mg "NoBudget" C_NoBudget (.ref C_HouseError :: veMro) := exc_cls (PySem.W.mg_of X G a_NoBudget) x_NoBudget rfl cbe cob sa_NoBudget kp_NoBudget hg_NoBudget hk_NoBudget ha_NoBudget hnC htC
  have X_NoItem : XFact K mg "NoItem" C_NoItem (.ref C_HouseError :: veMro) := exc_cls (PySem.W.mg_of X G a_NoItem) x_NoItem rfl cbe cob sa_NoItem kp_NoItem hg_NoItem hk_NoItem ha_NoItem hnC htC
  have X_NotRefused : XFact K mg "NotRefused" C_NotRefused (.ref C_HouseError :: veMro) := exc_cls (PySem.W.mg_of X G a_NotRefused) x_NotRefused rfl cbe cob sa_NotRefused kp_NotRefused hg_NotRefused hk_NotRefused ha_NotRefused hnC htC
  have X_Stopped : XFact K mg "Stopped" C_Stopped (.ref C_HouseError :: veMro) := exc_cls (PySem.W.mg_of X G a_Stopped) x_Stopped rfl cbe cob sa_Stopped kp_Stopped hg_Stopped hk_Stopped ha_Stopped hnC htC
  have X_NoWorld : XFact K mg "NoWorld" C_NoWorld (.ref C_HouseError :: veMro) := exc_cls (PySem.W.mg_of X G a_NoWorld) x_NoWorld rfl cbe cob sa_NoWorld kp_NoWorld hg_NoWorld hk_NoWorld ha_NoWorld hnC htC
  have X_NoDisk : XFact K mg "NoDisk" C_NoDisk (.ref C_HouseError :: veMro) := exc_cls (PySem.W.mg_of X G a_NoDisk) x_NoDisk rfl cbe cob sa_NoDisk kp_NoDisk hg_NoDisk hk_NoDisk ha_NoDisk hnC htC
  have X_NoThrow : XFact K mg "NoThrow" C_NoThrow (.ref C_HouseError :: veMro) := exc_cls (PySem.W.mg_of X G a_NoThrow) x_NoThrow rfl cbe cob sa_NoThrow kp_NoThrow hg_NoThrow hk_NoThrow ha_NoThrow hnC htC
  have X_NoMediator : XFact K mg "NoMediator" C_NoMediator (.ref C_HouseError :: veMro) := exc_cls (PySem.W.mg_of X G a_NoMediator) x_NoMediator rfl cbe cob sa_NoMediator kp_NoMediator hg_NoMediator hk_NoMediator ha_NoMediator hnC htC
  have X_NoLine : XFact K mg "NoLine" C_NoLine (.ref C_HouseError :: veMro) := exc_cls (PySem.W.mg_of X G a_NoLine) x_NoLine rfl cbe cob sa_NoLine kp_NoLine hg_NoLine hk_NoLine ha_NoLine hnC htC
  have X_NothingDone : XFact K mg "NothingDone" C_NothingDone (.ref C_HouseError :: veMro) := exc_cls (PySem.W.mg_of X G a_NothingDone) x_NothingDone rfl cbe cob sa_NothingDone kp_NothingDone hg_NothingDone hk_NothingDone ha_NothingDone hnC htC
  obtain ⟨inj, ne⟩ := cAt_inj nodup
  have ER : Errs K mg C_HouseError (cAt [C_BadHouse, C_BadProgram, C_NoAnswer, C_BadMachine, C_BadText, C_NoName, C_NoPath, C_NoInside, C_TooLarge, C_NotAlike, C_NotBetween, C_NoTest, C_NoPrior, C_NoGains, C_NoAsker, C_NotLooks, C_NotLook, C_NotOneRound, C_NoShare, C_NotShaped, C_NoTable, C_NoNumber, C_NoMenu, C_NoBudget, C_NoItem, C_NotRefused, C_Stopped, C_NoWorld, C_NoDisk, C_NoThrow, C_NoMediator, C_NoLine, C_NothingDone]) (cAt [f_BadHouse_init, f_BadProgram_init, f_NoAnswer_init, f_BadMachine_init, f_BadText_init, f_NoName_init]) := ⟨X_HouseError, q_HouseError, inj, ne, X_BadHouse, i_BadHouse, fn_type l_BadHouse_init, n_BadHouse, X_BadProgram, i_BadProgram, fn_type l_BadProgram_init, n_BadProgram, X_NoAnswer, i_NoAnswer, fn_type l_NoAnswer_init, n_NoAnswer, X_BadMachine, i_BadMachine, fn_type l_BadMachine_init, n_BadMachine, X_BadText, i_BadText, fn_type l_BadText_init, n_BadText, X_NoName, i_NoName, fn_type l_NoName_init, n_NoName, X_NoPath, q_NoPath, X_NoInside, q_NoInside, X_TooLarge, q_TooLarge, X_NotAlike, q_NotAlike, X_NotBetween, q_NotBetween, X_NoTest, q_NoTest, X_NoPrior, q_NoPrior, X_NoGains, q_NoGains, X_NoAsker, q_NoAsker, X_NotLooks, q_NotLooks, X_NotLook, q_NotLook, X_NotOneRound, q_NotOneRound, X_NoShare, q_NoShare, X_NotShaped, q_NotShaped, X_NoTable, q_NoTable, X_NoNumber, q_NoNumber, X_NoMenu, q_NoMenu, X_NoBudget, q_NoBudget, X_NoItem, q_NoItem, X_NotRefused, q_NotRefused, X_Stopped, q_Stopped, X_NoWorld, q_NoWorld, X_NoDisk, q_NoDisk, X_NoThrow, q_NoThrow, X_NoMediator, q_NoMediator, X_NoLine, q_NoLine, X_NothingDone, q_NothingDone⟩
  have inb : ∀ i, i < 33 → ∃ x, XFact K mg x (cAt [C_BadHouse, C_BadProgram, C_NoAnswer, C_BadMachine, C_BadText, C_NoName, C_NoPath, C_NoInside, C_TooLarge, C_NotAlike, C_NotBetween, C_NoTest, C_NoPrior, C_NoGains, C_NoAsker, C_NotLooks, C_NotLook, C_NotOneRound, C_NoShare, C_NotShaped, C_NoTable, C_NoNumber, C_NoMenu, C_NoBudget, C_NoItem, C_NotRefused, C_Stopped, C_NoWorld, C_NoDisk, C_NoThrow, C_NoMediator, C_NoLine, C_NothingDone] i) (.ref C_HouseError :: veMro) := fun i hi => match i, hi with
    | 0, _ => ⟨_, X_BadHouse⟩
    | 1, _ => ⟨_, X_BadProgram⟩
    | 2, _ => ⟨_, X_NoAnswer⟩
    | 3, _ => ⟨_, X_BadMachine⟩
    | 4, _ => ⟨_, X_BadText⟩
    | 5, _ => ⟨_, X_NoName⟩
    | 6, _ => ⟨_, X_NoPath⟩
    | 7, _ => ⟨_, X_NoInside⟩
    | 8, _ => ⟨_, X_TooLarge⟩
    | 9, _ => ⟨_, X_NotAlike⟩
    | 10, _ => ⟨_, X_NotBetween⟩
    | 11, _ => ⟨_, X_NoTest⟩
    | 12, _ => ⟨_, X_NoPrior⟩
    | 13, _ => ⟨_, X_NoGains⟩
    | 14, _ => ⟨_, X_NoAsker⟩
    | 15, _ => ⟨_, X_NotLooks⟩
    | 16, _ => ⟨_, X_NotLook⟩
    | 17, _ => ⟨_, X_NotOneRound⟩
    | 18, _ => ⟨_, X_NoShare⟩
    | 19, _ => ⟨_, X_NotShaped⟩
    | 20, _ => ⟨_, X_NoTable⟩
    | 21, _ => ⟨_, X_NoNumber⟩
    | 22, _ => ⟨_, X_NoMenu⟩
    | 23, _ => ⟨_, X_NoBudget⟩
    | 24, _ => ⟨_, X_NoItem⟩
    | 25, _ => ⟨_, X_NotRefused⟩
    | 26, _ => ⟨_, X_Stopped⟩
    | 27, _ => ⟨_, X_NoWorld⟩
    | 28, _ => ⟨_, X_NoDisk⟩
    | 29, _ => ⟨_, X_NoThrow⟩
    | 30, _ => ⟨_, X_NoMediator⟩
    | 31, _ => ⟨_, X_NoLine⟩
    | 32, _ => ⟨_, X_NothingDone⟩
    | n + 33, h => absurd h (by omega)
  have F_BadHouse_init := fun_mk (st := s_BadHouse_init) l_BadHouse_init c_BadHouse_init k_BadHouse_init
  have D_BadHouse_init : Dm K "__init__" "BadHouse.__init__" s_BadHouse_init ["self", "place"] f_BadHouse_init _ := ⟨F_BadHouse_init, F_BadHouse_init.binds (ps := ["self", "place"]) fun _ _ _ _ _ _ us hl => match us, hl with | [_, _], _ => rfl⟩
  have F_BadProgram_init := fun_mk (st := s_BadProgram_init) l_BadProgram_init c_BadProgram_init k_BadProgram_init
  have D_BadProgram_init : Dm K "__init__" "BadProgram.__init__" s_BadProgram_init ["self", "part"] f_BadProgram_init _ := ⟨F_BadProgram_init, F_BadProgram_init.binds (ps := ["self", "part"]) fun _ _ _ _ _ _ us hl => match us, hl with | [_, _], _ => rfl⟩
  have F_NoAnswer_init := fun_mk (st := s_NoAnswer_init) l_NoAnswer_init c_NoAnswer_init k_NoAnswer_init
  have D_NoAnswer_init : Dm K "__init__" "NoAnswer.__init__" s_NoAnswer_init ["self", "talk"] f_NoAnswer_init _ := ⟨F_NoAnswer_init, F_NoAnswer_init.binds (ps := ["self", "talk"]) fun _ _ _ _ _ _ us hl => match us, hl with | [_, _], _ => rfl⟩
  have F_BadMachine_init := fun_mk (st := s_BadMachine_init) l_BadMachine_init c_BadMachine_init k_BadMachine_init
  have D_BadMachine_init : Dm K "__init__" "BadMachine.__init__" s_BadMachine_init ["self", "part"] f_BadMachine_init _ := ⟨F_BadMachine_init, F_BadMachine_init.binds (ps := ["self", "part"]) fun _ _ _ _ _ _ us hl => match us, hl with | [_, _], _ => rfl⟩
  have F_BadText_init := fun_mk (st := s_BadText_init) l_BadText_init c_BadText_init k_BadText_init
  have D_BadText_init : Dm K "__init__" "BadText.__init__" s_BadText_init ["self", "line"] f_BadText_init _ := ⟨F_BadText_init, F_BadText_init.binds (ps := ["self", "line"]) fun _ _ _ _ _ _ us hl => match us, hl with | [_, _], _ => rfl⟩
  have F_NoName_init := fun_mk (st := s_NoName_init) l_NoName_init c_NoName_init k_NoName_init
  have D_NoName_init : Dm K "__init__" "NoName.__init__" s_NoName_init ["self", "name"] f_NoName_init _ := ⟨F_NoName_init, F_NoName_init.binds (ps := ["self", "name"]) fun _ _ _ _ _ _ us hl => match us, hl with | [_, _], _ => rfl⟩
  have F_law_bag := fun_mk (st := s_law_bag) l_law_bag c_law_bag k_law_bag
  have D_law_bag : Dn K mg "_law_bag" s_law_bag ["script"] f_law_bag _ := ⟨F_law_bag, F_law_bag.binds (ps := ["script"]) fun _ _ _ _ _ _ us hl => match us, hl with | [_], _ => rfl, PySem.W.mg_of X G a_law_bag⟩
  have F_law_pick := fun_mk (st := s_law_pick) l_law_pick c_law_pick k_law_pick
  have D_law_pick : Dn K mg "_law_pick" s_law_pick ["bag", "many"] f_law_pick _ := ⟨F_law_pick, F_law_pick.binds (ps := ["bag", "many"]) fun _ _ _ _ _ _ us hl => match us, hl with | [_, _], _ => rfl, PySem.W.mg_of X G a_law_pick⟩
  have F_law_some := fun_mk (st := s_law_some) l_law_some c_law_some k_law_some
  have D_law_some : Dn K mg "_law_some" s_law_some ["bag", "things"] f_law_some _ := ⟨F_law_some, F_law_some.binds (ps := ["bag", "things"]) fun _ _ _ _ _ _ us hl => match us, hl with | [_, _], _ => rfl, PySem.W.mg_of X G a_law_some⟩
  have F_law_is := fun_mk (st := s_law_is) l_law_is c_law_is k_law_is
  have D_law_is : Dn K mg "_law_is" s_law_is ["found", "due"] f_law_is _ := ⟨F_law_is, F_law_is.binds (ps := ["found", "due"]) fun _ _ _ _ _ _ us hl => match us, hl with | [_, _], _ => rfl, PySem.W.mg_of X G a_law_is⟩
  have F_law_deep := fun_mk (st := s_law_deep) l_law_deep c_law_deep k_law_deep
  have D_law_deep : Dn K mg "_law_deep" s_law_deep [] f_law_deep _ := ⟨F_law_deep, F_law_deep.binds (ps := []) fun _ _ _ _ _ _ us hl => match us, hl with | [], _ => rfl, PySem.W.mg_of X G a_law_deep⟩
  have F_law_odd := fun_mk (st := s_law_odd) l_law_odd c_law_odd k_law_odd
  have D_law_odd : Dn K mg "_law_odd" s_law_odd ["bag"] f_law_odd _ := ⟨F_law_odd, F_law_odd.binds (ps := ["bag"]) fun _ _ _ _ _ _ us hl => match us, hl with | [_], _ => rfl, PySem.W.mg_of X G a_law_odd⟩
  have F_law_classes := fun_mk (st := s_law_classes) l_law_classes c_law_classes k_law_classes
  have D_law_classes : Dn K mg "_law_classes" s_law_classes ["e"] f_law_classes _ := ⟨F_law_classes, F_law_classes.binds (ps := ["e"]) fun _ _ _ _ _ _ us hl => match us, hl with | [_], _ => rfl, PySem.W.mg_of X G a_law_classes⟩
  have F_law_errors := fun_mk (st := s_law_errors) l_law_errors c_law_errors k_law_errors
  have D_law_errors : Dn K mg "_law_errors" s_law_errors ["thing"] f_law_errors _ := ⟨F_law_errors, F_law_errors.binds (ps := ["thing"]) fun _ _ _ _ _ _ us hl => match us, hl with | [_], _ => rfl, PySem.W.mg_of X G a_law_errors⟩
  have F_law := fun_mk (st := s_law) l_law c_law k_law
  have D_law : Dn K mg "law" s_law ["script"] fa _ := ⟨F_law, F_law.binds (ps := ["script"]) fun _ _ _ _ _ _ us hl => match us, hl with | [_], _ => rfl, PySem.W.mg_of X G a_law⟩
  refine ⟨PySem.W.fnOf "law" "law" (defArgs s_law) (defBody s_law) (defScope s_law) .none kV_law dc_law pm_law an_law cd_law ct_law, fun s v => .of_eq rfl, fun base _ _ => ?_⟩
  exact ok_law D_law B ER (PySem.W.mg_none_of X G z_ValueError) inb D_law_bag (ok_law_bag D_law_bag B) D_law_odd (ok_law_odd D_law_odd B D_law_pick D_law_some D_law_deep) D_law_errors (ok_law_errors D_law_errors B ER D_BadHouse_init D_BadProgram_init D_NoAnswer_init D_BadMachine_init D_BadText_init D_NoName_init) D_law_classes (ok_law_classes D_law_classes B ER) D_law_is (ok_law_is D_law_is B)
end Tl
open PySem PySem.W PyProof.Rows
set_option maxRecDepth 100000 in
set_option maxHeartbeats 0 in
theorem PySem.Challenge.cw_tellsless_k00_errors_keep_what_is_passed_holds : PySem.Challenge.rw_tellsless_k00_errors_keep_what_is_passed.Holds := by
  w_on; o_law; k_head; (case hw => w_witness2)
  k_fill
  refine Tl.walkG (l := PySem.Challenge.rw_tellsless_k00_errors_keep_what_is_passed) (k := 5) (x := "script") rfl rfl ⟨rfl, by decide, by decide⟩ (fun w h Y => PySem.W.kIn_of Y) ?F
  case F =>
    intro w mg fa h KX G hmg
    refine' Tl.all_mk KX G hmg ?a_HouseError ?x_HouseError ?sa_HouseError ?kp_HouseError ?hg_HouseError ?hk_HouseError ?ha_HouseError ?q_HouseError ?a_BadHouse ?x_BadHouse ?sa_BadHouse ?kp_BadHouse ?hg_BadHouse ?hk_BadHouse ?ha_BadHouse ?i_BadHouse ?n_BadHouse ?a_BadProgram ?x_BadProgram ?sa_BadProgram ?kp_BadProgram ?hg_BadProgram ?hk_BadProgram ?ha_BadProgram ?i_BadProgram ?n_BadProgram ?a_NoAnswer ?x_NoAnswer ?sa_NoAnswer ?kp_NoAnswer ?hg_NoAnswer ?hk_NoAnswer ?ha_NoAnswer ?i_NoAnswer ?n_NoAnswer ?a_BadMachine ?x_BadMachine ?sa_BadMachine ?kp_BadMachine ?hg_BadMachine ?hk_BadMachine ?ha_BadMachine ?i_BadMachine ?n_BadMachine ?a_BadText ?x_BadText ?sa_BadText ?kp_BadText ?hg_BadText ?hk_BadText ?ha_BadText ?i_BadText ?n_BadText ?a_NoName ?x_NoName ?sa_NoName ?kp_NoName ?hg_NoName ?hk_NoName ?ha_NoName ?i_NoName ?n_NoName ?a_NoPath ?x_NoPath ?sa_NoPath ?kp_NoPath ?hg_NoPath ?hk_NoPath ?ha_NoPath ?q_NoPath ?a_NoInside ?x_NoInside ?sa_NoInside ?kp_NoInside ?hg_NoInside ?hk_NoInside ?ha_NoInside ?q_NoInside ?a_TooLarge ?x_TooLarge ?sa_TooLarge ?kp_TooLarge ?hg_TooLarge ?hk_TooLarge ?ha_TooLarge ?q_TooLarge ?a_NotAlike ?x_NotAlike ?sa_NotAlike ?kp_NotAlike ?hg_NotAlike ?hk_NotAlike ?ha_NotAlike ?q_NotAlike ?a_NotBetween ?x_NotBetween ?sa_NotBetween ?kp_NotBetween ?hg_NotBetween ?hk_NotBetween ?ha_NotBetween ?q_NotBetween ?a_NoTest ?x_NoTest ?sa_NoTest ?kp_NoTest ?hg_NoTest ?hk_NoTest ?ha_NoTest ?q_NoTest ?a_NoPrior ?x_NoPrior ?sa_NoPrior ?kp_NoPrior ?hg_NoPrior ?hk_NoPrior ?ha_NoPrior ?q_NoPrior ?a_NoGains ?x_NoGains ?sa_NoGains ?kp_NoGains ?hg_NoGains ?hk_NoGains ?ha_NoGains ?q_NoGains ?a_NoAsker ?x_NoAsker ?sa_NoAsker ?kp_NoAsker ?hg_NoAsker ?hk_NoAsker ?ha_NoAsker ?q_NoAsker ?a_NotLooks ?x_NotLooks ?sa_NotLooks ?kp_NotLooks ?hg_NotLooks ?hk_NotLooks ?ha_NotLooks ?q_NotLooks ?a_NotLook ?x_NotLook ?sa_NotLook ?kp_NotLook ?hg_NotLook ?hk_NotLook ?ha_NotLook ?q_NotLook ?a_NotOneRound ?x_NotOneRound ?sa_NotOneRound ?kp_NotOneRound ?hg_NotOneRound ?hk_NotOneRound ?ha_NotOneRound ?q_NotOneRound ?a_NoShare ?x_NoShare ?sa_NoShare ?kp_NoShare ?hg_NoShare ?hk_NoShare ?ha_NoShare ?q_NoShare ?a_NotShaped ?x_NotShaped ?sa_NotShaped ?kp_NotShaped ?hg_NotShaped ?hk_NotShaped ?ha_NotShaped ?q_NotShaped ?a_NoTable ?x_NoTable ?sa_NoTable ?kp_NoTable ?hg_NoTable ?hk_NoTable ?ha_NoTable ?q_NoTable ?a_NoNumber ?x_NoNumber ?sa_NoNumber ?kp_NoNumber ?hg_NoNumber ?hk_NoNumber ?ha_NoNumber ?q_NoNumber ?a_NoMenu ?x_NoMenu ?sa_NoMenu ?kp_NoMenu ?hg_NoMenu ?hk_NoMenu ?ha_NoMenu ?q_NoMenu ?a_NoBudget ?x_NoBudget ?sa_NoBudget ?kp_NoBudget ?hg_NoBudget ?hk_NoBudget ?ha_NoBudget ?q_NoBudget ?a_NoItem ?x_NoItem ?sa_NoItem ?kp_NoItem ?hg_NoItem ?hk_NoItem ?ha_NoItem ?q_NoItem ?a_NotRefused ?x_NotRefused ?sa_NotRefused ?kp_NotRefused ?hg_NotRefused ?hk_NotRefused ?ha_NotRefused ?q_NotRefused ?a_Stopped ?x_Stopped ?sa_Stopped ?kp_Stopped ?hg_Stopped ?hk_Stopped ?ha_Stopped ?q_Stopped ?a_NoWorld ?x_NoWorld ?sa_NoWorld ?kp_NoWorld ?hg_NoWorld ?hk_NoWorld ?ha_NoWorld ?q_NoWorld ?a_NoDisk ?x_NoDisk ?sa_NoDisk ?kp_NoDisk ?hg_NoDisk ?hk_NoDisk ?ha_NoDisk ?q_NoDisk ?a_NoThrow ?x_NoThrow ?sa_NoThrow ?kp_NoThrow ?hg_NoThrow ?hk_NoThrow ?ha_NoThrow ?q_NoThrow ?a_NoMediator ?x_NoMediator ?sa_NoMediator ?kp_NoMediator ?hg_NoMediator ?hk_NoMediator ?ha_NoMediator ?q_NoMediator ?a_NoLine ?x_NoLine ?sa_NoLine ?kp_NoLine ?hg_NoLine ?hk_NoLine ?ha_NoLine ?q_NoLine ?a_NothingDone ?x_NothingDone ?sa_NothingDone ?kp_NothingDone ?hg_NothingDone ?hk_NothingDone ?ha_NothingDone ?q_NothingDone ?l_BadHouse_init ?c_BadHouse_init ?k_BadHouse_init ?l_BadProgram_init ?c_BadProgram_init ?k_BadProgram_init ?l_NoAnswer_init ?c_NoAnswer_init ?k_NoAnswer_init ?l_BadMachine_init ?c_BadMachine_init ?k_BadMachine_init ?l_BadText_init ?c_BadText_init ?k_BadText_init ?l_NoName_init ?c_NoName_init ?k_NoName_init ?a_law_bag ?l_law_bag ?c_law_bag ?k_law_bag ?a_law_pick ?l_law_pick ?c_law_pick ?k_law_pick ?a_law_some ?l_law_some ?c_law_some ?k_law_some ?a_law_is ?l_law_is ?c_law_is ?k_law_is ?a_law_deep ?l_law_deep ?c_law_deep ?k_law_deep ?a_law_odd ?l_law_odd ?c_law_odd ?k_law_odd ?a_law_classes ?l_law_classes ?c_law_classes ?k_law_classes ?a_law_errors ?l_law_errors ?c_law_errors ?k_law_errors ?a_law ?l_law ?c_law ?k_law ?hnC ?htC ?z_len ?z_int ?z_abs ?z_sum ?z_range ?z_repr ?z_isinstance ?z_any ?z_all ?z_tuple ?z_zip ?z_enumerate ?z_max ?z_bool ?z_ValueError ?nodup
    (case a_HouseError => k_is)
    (case x_HouseError => k_is)
    (case sa_HouseError => k_is)
    (case kp_HouseError => k_is)
    (case hg_HouseError => k_is)
    (case hk_HouseError => k_is)
    (case ha_HouseError => k_is)
    (case q_HouseError => k_exc)
    (case a_BadHouse => k_is)
    (case x_BadHouse => k_is)
    (case sa_BadHouse => k_is)
    (case kp_BadHouse => k_is)
    (case hg_BadHouse => k_is)
    (case hk_BadHouse => k_is)
    (case ha_BadHouse => k_is)
    (case i_BadHouse => k_is)
    (case n_BadHouse => k_is)
    (case a_BadProgram => k_is)
    (case x_BadProgram => k_is)
    (case sa_BadProgram => k_is)
    (case kp_BadProgram => k_is)
    (case hg_BadProgram => k_is)
    (case hk_BadProgram => k_is)
    (case ha_BadProgram => k_is)
    (case i_BadProgram => k_is)
    (case n_BadProgram => k_is)
    (case a_NoAnswer => k_is)
    (case x_NoAnswer => k_is)
    (case sa_NoAnswer => k_is)
    (case kp_NoAnswer => k_is)
    (case hg_NoAnswer => k_is)
    (case hk_NoAnswer => k_is)
    (case ha_NoAnswer => k_is)
    (case i_NoAnswer => k_is)
    (case n_NoAnswer => k_is)
    (case a_BadMachine => k_is)
    (case x_BadMachine => k_is)
    (case sa_BadMachine => k_is)
    (case kp_BadMachine => k_is)
    (case hg_BadMachine => k_is)
    (case hk_BadMachine => k_is)
    (case ha_BadMachine => k_is)
    (case i_BadMachine => k_is)
    (case n_BadMachine => k_is)
    (case a_BadText => k_is)
    (case x_BadText => k_is)
    (case sa_BadText => k_is)
    (case kp_BadText => k_is)
    (case hg_BadText => k_is)
    (case hk_BadText => k_is)
    (case ha_BadText => k_is)
    (case i_BadText => k_is)
    (case n_BadText => k_is)
    (case a_NoName => k_is)
    (case x_NoName => k_is)
    (case sa_NoName => k_is)
    (case kp_NoName => k_is)
    (case hg_NoName => k_is)
    (case hk_NoName => k_is)
    (case ha_NoName => k_is)
    (case i_NoName => k_is)
    (case n_NoName => k_is)
    (case a_NoPath => k_is)
    (case x_NoPath => k_is)
    (case sa_NoPath => k_is)
    (case kp_NoPath => k_is)
    (case hg_NoPath => k_is)
    (case hk_NoPath => k_is)
    (case ha_NoPath => k_is)
    (case q_NoPath => k_exc)
    (case a_NoInside => k_is)
    (case x_NoInside => k_is)
    (case sa_NoInside => k_is)
    (case kp_NoInside => k_is)
    (case hg_NoInside => k_is)
    (case hk_NoInside => k_is)
    (case ha_NoInside => k_is)
    (case q_NoInside => k_exc)
    (case a_TooLarge => k_is)
    (case x_TooLarge => k_is)
    (case sa_TooLarge => k_is)
    (case kp_TooLarge => k_is)
    (case hg_TooLarge => k_is)
    (case hk_TooLarge => k_is)
    (case ha_TooLarge => k_is)
    (case q_TooLarge => k_exc)
    (case a_NotAlike => k_is)
    (case x_NotAlike => k_is)
    (case sa_NotAlike => k_is)
    (case kp_NotAlike => k_is)
    (case hg_NotAlike => k_is)
    (case hk_NotAlike => k_is)
    (case ha_NotAlike => k_is)
    (case q_NotAlike => k_exc)
    (case a_NotBetween => k_is)
    (case x_NotBetween => k_is)
    (case sa_NotBetween => k_is)
    (case kp_NotBetween => k_is)
    (case hg_NotBetween => k_is)
    (case hk_NotBetween => k_is)
    (case ha_NotBetween => k_is)
    (case q_NotBetween => k_exc)
    (case a_NoTest => k_is)
    (case x_NoTest => k_is)
    (case sa_NoTest => k_is)
    (case kp_NoTest => k_is)
    (case hg_NoTest => k_is)
    (case hk_NoTest => k_is)
    (case ha_NoTest => k_is)
    (case q_NoTest => k_exc)
    (case a_NoPrior => k_is)
    (case x_NoPrior => k_is)
    (case sa_NoPrior => k_is)
    (case kp_NoPrior => k_is)
    (case hg_NoPrior => k_is)
    (case hk_NoPrior => k_is)
    (case ha_NoPrior => k_is)
    (case q_NoPrior => k_exc)
    (case a_NoGains => k_is)
    (case x_NoGains => k_is)
    (case sa_NoGains => k_is)
    (case kp_NoGains => k_is)
    (case hg_NoGains => k_is)
    (case hk_NoGains => k_is)
    (case ha_NoGains => k_is)
    (case q_NoGains => k_exc)
    (case a_NoAsker => k_is)
    (case x_NoAsker => k_is)
    (case sa_NoAsker => k_is)
    (case kp_NoAsker => k_is)
    (case hg_NoAsker => k_is)
    (case hk_NoAsker => k_is)
    (case ha_NoAsker => k_is)
    (case q_NoAsker => k_exc)
    (case a_NotLooks => k_is)
    (case x_NotLooks => k_is)
    (case sa_NotLooks => k_is)
    (case kp_NotLooks => k_is)
    (case hg_NotLooks => k_is)
    (case hk_NotLooks => k_is)
    (case ha_NotLooks => k_is)
    (case q_NotLooks => k_exc)
    (case a_NotLook => k_is)
    (case x_NotLook => k_is)
    (case sa_NotLook => k_is)
    (case kp_NotLook => k_is)
    (case hg_NotLook => k_is)
    (case hk_NotLook => k_is)
    (case ha_NotLook => k_is)
    (case q_NotLook => k_exc)
    (case a_NotOneRound => k_is)
    (case x_NotOneRound => k_is)
    (case sa_NotOneRound => k_is)
    (case kp_NotOneRound => k_is)
    (case hg_NotOneRound => k_is)
    (case hk_NotOneRound => k_is)
    (case ha_NotOneRound => k_is)
    (case q_NotOneRound => k_exc)
    (case a_NoShare => k_is)
    (case x_NoShare => k_is)
    (case sa_NoShare => k_is)
    (case kp_NoShare => k_is)
    (case hg_NoShare => k_is)
    (case hk_NoShare => k_is)
    (case ha_NoShare => k_is)
    (case q_NoShare => k_exc)
    (case a_NotShaped => k_is)
    (case x_NotShaped => k_is)
    (case sa_NotShaped => k_is)
    (case kp_NotShaped => k_is)
    (case hg_NotShaped => k_is)
    (case hk_NotShaped => k_is)
    (case ha_NotShaped => k_is)
    (case q_NotShaped => k_exc)
    (case a_NoTable => k_is)
    (case x_NoTable => k_is)
    (case sa_NoTable => k_is)
    (case kp_NoTable => k_is)
    (case hg_NoTable => k_is)
    (case hk_NoTable => k_is)
    (case ha_NoTable => k_is)
    (case q_NoTable => k_exc)
    (case a_NoNumber => k_is)
    (case x_NoNumber => k_is)
    (case sa_NoNumber => k_is)
    (case kp_NoNumber => k_is)
    (case hg_NoNumber => k_is)
    (case hk_NoNumber => k_is)
    (case ha_NoNumber => k_is)
    (case q_NoNumber => k_exc)
    (case a_NoMenu => k_is)
    (case x_NoMenu => k_is)
    (case sa_NoMenu => k_is)
    (case kp_NoMenu => k_is)
    (case hg_NoMenu => k_is)
    (case hk_NoMenu => k_is)
    (case ha_NoMenu => k_is)
    (case q_NoMenu => k_exc)
    (case a_NoBudget => k_is)
    (case x_NoBudget => k_is)
    (case sa_NoBudget => k_is)
    (case kp_NoBudget => k_is)
    (case hg_NoBudget => k_is)
    (case hk_NoBudget => k_is)
    (case ha_NoBudget => k_is)
    (case q_NoBudget => k_exc)
    (case a_NoItem => k_is)
    (case x_NoItem => k_is)
    (case sa_NoItem => k_is)
    (case kp_NoItem => k_is)
    (case hg_NoItem => k_is)
    (case hk_NoItem => k_is)
    (case ha_NoItem => k_is)
    (case q_NoItem => k_exc)
    (case a_NotRefused => k_is)
    (case x_NotRefused => k_is)
    (case sa_NotRefused => k_is)
    (case kp_NotRefused => k_is)
    (case hg_NotRefused => k_is)
    (case hk_NotRefused => k_is)
    (case ha_NotRefused => k_is)
    (case q_NotRefused => k_exc)
    (case a_Stopped => k_is)
    (case x_Stopped => k_is)
    (case sa_Stopped => k_is)
    (case kp_Stopped => k_is)
    (case hg_Stopped => k_is)
    (case hk_Stopped => k_is)
    (case ha_Stopped => k_is)
    (case q_Stopped => k_exc)
    (case a_NoWorld => k_is)
    (case x_NoWorld => k_is)
    (case sa_NoWorld => k_is)
    (case kp_NoWorld => k_is)
    (case hg_NoWorld => k_is)
    (case hk_NoWorld => k_is)
    (case ha_NoWorld => k_is)
    (case q_NoWorld => k_exc)
    (case a_NoDisk => k_is)
    (case x_NoDisk => k_is)
    (case sa_NoDisk => k_is)
    (case kp_NoDisk => k_is)
    (case hg_NoDisk => k_is)
    (case hk_NoDisk => k_is)
    (case ha_NoDisk => k_is)
    (case q_NoDisk => k_exc)
    (case a_NoThrow => k_is)
    (case x_NoThrow => k_is)
    (case sa_NoThrow => k_is)
    (case kp_NoThrow => k_is)
    (case hg_NoThrow => k_is)
    (case hk_NoThrow => k_is)
    (case ha_NoThrow => k_is)
    (case q_NoThrow => k_exc)
    (case a_NoMediator => k_is)
    (case x_NoMediator => k_is)
    (case sa_NoMediator => k_is)
    (case kp_NoMediator => k_is)
    (case hg_NoMediator => k_is)
    (case hk_NoMediator => k_is)
    (case ha_NoMediator => k_is)
    (case q_NoMediator => k_exc)
    (case a_NoLine => k_is)
    (case x_NoLine => k_is)
    (case sa_NoLine => k_is)
    (case kp_NoLine => k_is)
    (case hg_NoLine => k_is)
    (case hk_NoLine => k_is)
    (case ha_NoLine => k_is)
    (case q_NoLine => k_exc)
    (case a_NothingDone => k_is)
    (case x_NothingDone => k_is)
    (case sa_NothingDone => k_is)
    (case kp_NothingDone => k_is)
    (case hg_NothingDone => k_is)
    (case hk_NothingDone => k_is)
    (case ha_NothingDone => k_is)
    (case q_NothingDone => k_exc)
    (case l_BadHouse_init => k_is)
    (case c_BadHouse_init => k_is)
    (case k_BadHouse_init => k_is)
    (case l_BadProgram_init => k_is)
    (case c_BadProgram_init => k_is)
    (case k_BadProgram_init => k_is)
    (case l_NoAnswer_init => k_is)
    (case c_NoAnswer_init => k_is)
    (case k_NoAnswer_init => k_is)
    (case l_BadMachine_init => k_is)
    (case c_BadMachine_init => k_is)
    (case k_BadMachine_init => k_is)
    (case l_BadText_init => k_is)
    (case c_BadText_init => k_is)
    (case k_BadText_init => k_is)
    (case l_NoName_init => k_is)
    (case c_NoName_init => k_is)
    (case k_NoName_init => k_is)
    (case a_law_bag => k_is)
    (case l_law_bag => k_is)
    (case c_law_bag => k_is)
    (case k_law_bag => k_is)
    (case a_law_pick => k_is)
    (case l_law_pick => k_is)
    (case c_law_pick => k_is)
    (case k_law_pick => k_is)
    (case a_law_some => k_is)
    (case l_law_some => k_is)
    (case c_law_some => k_is)
    (case k_law_some => k_is)
    (case a_law_is => k_is)
    (case l_law_is => k_is)
    (case c_law_is => k_is)
    (case k_law_is => k_is)
    (case a_law_deep => k_is)
    (case l_law_deep => k_is)
    (case c_law_deep => k_is)
    (case k_law_deep => k_is)
    (case a_law_odd => k_is)
    (case l_law_odd => k_is)
    (case c_law_odd => k_is)
    (case k_law_odd => k_is)
    (case a_law_classes => k_is)
    (case l_law_classes => k_is)
    (case c_law_classes => k_is)
    (case k_law_classes => k_is)
    (case a_law_errors => k_is)
    (case l_law_errors => k_is)
    (case c_law_errors => k_is)
    (case k_law_errors => k_is)
    (case a_law => k_is)
    (case l_law => k_is)
    (case c_law => k_is)
    (case k_law => k_is)
    (case hnC => k_is)
    (case htC => k_is)
    (case z_len => k_is)
    (case z_int => k_is)
    (case z_abs => k_is)
    (case z_sum => k_is)
    (case z_range => k_is)
    (case z_repr => k_is)
    (case z_isinstance => k_is)
    (case z_any => k_is)
    (case z_all => k_is)
    (case z_tuple => k_is)
    (case z_zip => k_is)
    (case z_enumerate => k_is)
    (case z_max => k_is)
    (case z_bool => k_is)
    (case z_ValueError => k_is)
    (case nodup => decide +kernel)
