import PyProof.Rows.All
import Wide.All
import OpenK.AllK
import Wide.FinOn
import HandS.ForMost
import HandS.Gcd
import HandS.Zip
import HandS.Walk
import HandS.SortKw
import HandS.TupMul
import HandS.TupAny
import HandS.IsInst
import HandS.OwnEq
import HandS.Wide
import KE.DataMinMax
import KE.GoesMore
import KE.GoesEnum
import PyProof.ReprBulk
import PyProof.P3Eq
import HandS.Dict
import KE.KeyNested
import KE.KDictPairs
import KE.GoesNew
import PySem.Challenge.RW_tellsless_k18_whole_paid_by_own_sums
set_option Elab.async false
set_option linter.all false
set_option maxRecDepth 100000
set_option maxHeartbeats 16000000
/-! rules that the layer lacks -/
namespace Tl
open PySem PySem.Spec PyProof.Rows L2 RZ
section
variable {X : Cx}
/-- repr of nested data -/
def rReprD (K : PySem.W.Frag) : List V → Hp → VK → Prop := fun xs H Q =>
  ∃ (a : Addr) (d : PyData), xs = [.ref a] ∧ Dp K H (.ref a) d ∧ d.showable = true ∧ d.hasDict = false ∧ d.depth ≤ 60 ∧ d.shown.length ≤ sizeLine ∧ Q (.str d.shown) H
theorem cr_reprD (hu : X.A.units + 64 < cLine) (hg : X.A.guards = some []) : CallR X (.builtin "repr") (rReprD X.K) := by
  intro pins s σ H xs us Q I r h
  obtain ⟨a, d, rfl, hd, h1, h2, h3, h4, q⟩ := h
  rw [Vals.ref1 r]
  obtain ⟨as, rd⟩ := Dp.reads I d _ _ hd rfl
  refine repr_of_reads' rd h1 (PyData.noDict_hsm h2) hg (by omega) (fun _ _ e => e) (fun h' u tk hk => ?_) h4
  exact ⟨.str d.shown, H, I.kept (t' := tk) hk, ⟨_, rfl⟩, q⟩
/-- xs[i], i from 0 on, read for a store by an operator -/
def gAtL (K : PySem.W.Frag) : V → V → Hp → VK → Prop := fun x y H Q => ∃ p xs j v, x = .ref p ∧ y = .int ((j : Nat) : Int) ∧ SqL K H p xs ∧ xs[j]? = some v ∧ Q v H
theorem get_listP : PGet X (gAtL X.K) := by
  intro pins s σ H o i ov iv Q I ro ri h
  obtain ⟨p, xs, j, z, rfl, rfl, hq, he, q⟩ := h
  cases ro
  obtain ⟨t, rfl⟩ := ri
  obtain ⟨its, r, pl, hz⟩ := I.list hq
  obtain ⟨w, ew, rw'⟩ := r.get he
  have hn := line63
  have hj : j < xs.length := (List.getElem?_eq_some_iff.mp he).1
  exact wpAny_getItem_list pl.isList (by omega) (by omega) (by simpa using ew) ⟨z, H, I, rw', q⟩
end

section
variable {X : Cx}
def topOf (d : Int) : List Int → Int
  | [] => d
  | n :: r => r.foldl max n
def rMaxDf (K : PySem.W.Frag) : List V → List V → Hp → VK → Prop := fun vs zs H Q => ∃ (a : Addr) (ns : List Int) (d : Int), vs = [V.ref a] ∧ zs = [.int d] ∧ SqL K H a (ns.map V.int) ∧ Q (.int (topOf d ns)) H
theorem reads_ints {h : Heap} : ∀ {us : List Value} {ns : List Int}, IntsAre us ns → ∃ as, ReadsAll h us (ns.map PyData.int) as
  | _, _, .nil => ⟨_, .nil⟩
  | _, _, .cons n t r => by
    obtain ⟨as, q⟩ := reads_ints (h := h) r
    exact ⟨_, .cons (.int n t) q⟩
theorem depth_ints : ∀ ns : List Int, PyData.depthAll (ns.map PyData.int) = 0
  | [] => rfl
  | n :: r => by
    show max (PyData.depth (.int n)) (PyData.depthAll (r.map PyData.int)) = 0
    rw [depth_ints r]
    rfl
theorem alike_ints (ns : List Int) : PySem.W.AlikeAll (ns.map PyData.int) := by
  constructor
  · intro x hx y hy
    obtain ⟨i, _, rfl⟩ := List.mem_map.mp hx
    obtain ⟨j, _, rfl⟩ := List.mem_map.mp hy
    rfl
  · intro x hx
    obtain ⟨i, _, rfl⟩ := List.mem_map.mp hx
    exact fun h => by cases h
theorem cr_maxDf (hc : X.calm = true) (hu : X.A.units + 64 < cLine) : CallRK X (.builtin "max") [Str.ofString "default"] (rMaxDf X.K) := by
  intro pins s σ H vs zs us ws Q I r rz h
  obtain ⟨a, ns, d, rfl, rfl, hs, q⟩ := h
  obtain ⟨its, rv, pl, hz⟩ := I.list hs
  rw [Vals.ref1 r]
  obtain ⟨w1, rfl, t, rfl⟩ := vals1 rz
  have hi := rv.ints
  obtain ⟨as, hr⟩ := reads_ints (h := s.heap) hi
  refine PySem.W.max_list_default (vs := its.toArray) (xs := ns.map PyData.int) (as := as) (I.ok.hd hc) pl.isList (by simpa using hr) (alike_ints ns) (by rw [depth_ints]; omega) (fun hn h' tk hk => ?_) fun y ys i v h' tk bs e ev hv hk => ?_
  · have e : ns = [] := List.map_eq_nil_iff.mp hn
    subst e
    exact ⟨.int d, H, I.kept (t' := tk) hk, ⟨t, rfl⟩, q⟩
  · cases ns with
    | nil => cases e
    | cons n r =>
      cases e
      rw [PySem.W.maxD_ints] at hv
      cases hv
      exact ⟨.int _, H, I.kept (t' := tk) hk, ⟨_, rfl⟩, q⟩
end

/-! enumerate(a tuple) -/
def IteT (K : PySem.W.Frag) (a : Addr) : It :=
  ⟨fun i H => ∃ (xs : List V) (x : V), SqT K H a xs ∧ xs[i]? = some x,
   fun i H v H' => ∃ T x, v = .ref T ∧ H T = none ∧ H' = upd H T (.tup [.int (i : Nat), x]) ∧ ∀ xs, SqT K H a xs → xs[i]? = some x,
   fun i H => ∃ xs : List V, SqT K H a xs ∧ xs.length = i⟩
set_option maxHeartbeats 1000000 in
theorem enum_new_tup (l : Addr) (items : Array Value) : Meets (Builtin.«enumerate.__new__» ⟨[.type "enumerate", .ref l], []⟩) (fun _ R s => s.heap.IsTuple l items ∧
      R (.ok (.ret (.ref (s.heap.objs.size + 1)))) { s with heap := (s.heap.push { cls := .type "tuple_iterator", data := .fields #[.ref l, .int 0 0] }).push { cls := .type "enumerate", data := .fields #[.none, .bool false, .ref s.heap.objs.size, rawInt 0, .none, .none] } }) :=
  .of_wp fun prog w A R s ⟨ht, h⟩ => by
    obtain ⟨hp, g, d, tk, os⟩ := s
    have hsz : ∀ o : Obj, (hp.push o).objs.size = hp.objs.size + 1 := fun o => Heap.size_push ..
    have hsub := sub_enumerate
    have q1 : ∀ {A' : Around} {E' : Value → Shared → Prop} {Q' : Value → Shared → Prop}, Q' (.ref hp.objs.size) ⟨hp.push { cls := .type "tuple_iterator", data := .fields #[.ref l, .int 0 0] }, g, d, tk, os⟩ → wpAny (model prog w) A' (pyIter (.ref l)) Q' E' ⟨hp, g, d, tk, os⟩ :=
      fun q => wpAny_pyIter_tuple (s := ⟨hp, g, d, tk, os⟩) ht q
    rw [← hsz { cls := .type "tuple_iterator", data := .fields #[.ref l, .int 0 0] }] at h
    wp_walk using q1
    refine wpAny_stack_any fun st => wpAny_pure ?_
    split
    · rename_i c _ _ _ _ _
      rcases (c == Value.type "enumerate") with _ | _ <;> (wp_walk using q1; exact ⟨_, rfl, h⟩)
    · wp_walk using q1
      exact ⟨_, rfl, h⟩
theorem enum_tup {prog : Program} {w : World} {A : Around} {E : Value → Shared → Prop} {s : Shared} {l : Addr} {items : Array Value} {Q : Value → Shared → Prop} (ht : s.heap.IsTuple l items)
    (h : ∀ h', IsEnum h' (s.heap.objs.size + 1) s.heap.objs.size 0 .none → h'.IsTupleIter s.heap.objs.size l 0 →
      (∀ b o, s.heap.get? b = some o → h'.get? b = some o) → Q (.ref (s.heap.objs.size + 1)) { s with heap := h' }) :
    wpAny (model prog w) A (call (.type "enumerate") [.ref l]) Q E s := by
  refine callType_new F.called_enumerate (by decide) (F.typeCall_enumerate_1 _) (F.newCall_enumerate_1 _) (fun ob => F.args_object_init_2 ob _) F.entry_enumerate_new (enum_new_tup l items) ⟨ht, ?_⟩
  have e2 : IsEnum ((s.heap.push { cls := .type "tuple_iterator", data := .fields #[.ref l, .int 0 0] }).push { cls := .type "enumerate", data := .fields #[.none, .bool false, .ref s.heap.objs.size, rawInt 0, .none, .none] }) (s.heap.objs.size + 1) s.heap.objs.size 0 .none := by
    have e3 := Heap.get?_push_size (s.heap.push { cls := .type "tuple_iterator", data := .fields #[.ref l, .int 0 0] }) (o := { cls := .type "enumerate", data := .fields #[.none, .bool false, .ref s.heap.objs.size, rawInt 0, .none, .none] }) rfl
    rw [Heap.size_push] at e3
    exact e3
  exact ⟨⟨_, e2, rfl⟩, h _ e2 ⟨_, Heap.get?_push_of_some _ (Heap.get?_push_size _ rfl), rfl, rfl⟩ fun b o x => Heap.get?_push_of_some _ (Heap.get?_push_of_some _ x)⟩
theorem turn_enumT {P : Program} {w : World} {K : PySem.W.Frag} {elts : List Expr} {kk : Nat} {tpos : Pos} (a e it : Addr) :
    Turn P w K (.Tuple elts kk tpos) (IteT K a) [e, it] e (fun i h => (∃ old, IsEnum h e it ((i : Nat) : Int) old) ∧ h.IsTupleIter it a i ∧ e ≠ it ∧ e ≠ a ∧ a ≠ it) where
  mem := List.mem_cons_self
  obj := by
    rintro i h ⟨⟨old, he⟩, ⟨o, ho, hc, hd⟩, _⟩ b hb
    rcases (show b = e ∨ b = it by simpa using hb) with rfl | rfl
    · exact ⟨_, he, fun v q => by cases q⟩
    · exact ⟨o, ho, fun v q => by rw [hd] at q; cases q⟩
  keep := by
    rintro i h h' ⟨⟨old, he⟩, hi, hne⟩ k
    exact ⟨⟨old, k e (by simp) _ he⟩, hi.at fun o q => k it (by simp) o q, hne⟩
  item := by
    intro X hP hw hK hc i pins s σ H E I hf st hg
    subst hP hw hK
    obtain ⟨⟨old, he⟩, hit, hne, hea, hai⟩ := st
    obtain ⟨xs, x, hq, hx⟩ := hg
    obtain ⟨its, rv, pt, hz⟩ := I.tuple hq
    obtain ⟨u, hu, ru⟩ := rv.get hx
    have hlt : i < its.toArray.size := by
      rw [List.size_toArray]
      exact (List.getElem?_eq_some_iff.mp hu).1
    have lte : e < s.heap.objs.size := Heap.lt_size he
    have lti : it < s.heap.objs.size := by
      obtain ⟨_, q, _⟩ := hit
      exact Heap.lt_size q
    have D := Draws.tuple (prog := X.prog) (w := X.w) (A := X.A.in1) (I.ok.hd hc) it a hai its.toArray
    refine wpAny_pyNext_enum_itemD D he ⟨hit, pt⟩ hlt hne (by simp [hne, hea]) fun v h' tk hP ho hit' hT hsz hk => ?_
    have ev : v = u := by
      have q1 : its[i]? = some v := by simpa using hP
      rw [hu] at q1
      exact (Option.some.inj q1).symm
    subst ev
    refine ⟨_, rfl, wpAny_letOwnedTupleGo_enum (s := { s with heap := h', toks := tk + 1 }) ho fun h2 he2 sb => ?_⟩
    have hT2 : h2.get? s.heap.objs.size = some { cls := .type "tuple", data := .seq #[.int i tk, v] } := (sb.2 _ (Nat.ne_of_gt lte)).trans hT
    have mk : ObjOk X.prog X.w (upd H s.heap.objs.size (.tup [.int (i : Nat), x])) h2 s.heap.objs.size (.tup [.int (i : Nat), x]) :=
      ⟨by show 2 ≤ sizeLine; decide, [.int i tk, v], .cons ⟨_, rfl⟩ (.cons ru .nil), ⟨_, hT2, rfl, _, rfl⟩⟩
    have I1 : Inv X pins σ (upd H s.heap.objs.size (.tup [.int (i : Nat), x])) { s with heap := h2, toks := tk + 1 } :=
      I.turnedNew (ch := [e, it]) (fun b ob hb q => by
        have z1 : b ≠ e := fun z => hb (by simp [z])
        have z2 : b ≠ it := fun z => hb (by simp [z])
        exact (sb.2 b z1).trans (hk b ob z1 z2 q)) hf (Nat.le_refl _) mk
    refine ⟨.ref s.heap.objs.size, _, I1, rfl, ⟨_, x, rfl, I.hok.fresh (Nat.le_refl _), rfl, fun ys hy => by rw [I.tuple_inj hy hq]; exact hx⟩, ⟨⟨v, ?_⟩, hit'.1.at fun o q => (sb.2 it (Ne.symm hne)).trans q, hne, hea, hai⟩, fun b hb => ?_⟩
    · rw [show ((i + 1 : Nat) : Int) = (i : Int) + 1 by omega]
      exact he2
    · have lb : b < s.heap.objs.size := by
        rcases (show b = e ∨ b = it by simpa using hb) with z | z
        · rw [z]; exact lte
        · rw [z]; exact lti
      rw [upd_ne (Nat.ne_of_lt lb)]
      exact (hf b hb).1
  done := by
    intro X hP hw hK hc i pins s σ H E I hf st hg
    subst hP hw hK
    obtain ⟨⟨old, he⟩, hit, hne, hea, hai⟩ := st
    obtain ⟨xs, hq, hx⟩ := hg
    obtain ⟨its, rv, pt, hz⟩ := I.tuple hq
    obtain ⟨f0, f1, f2, f3, f4, f5⟩ := hf it (by simp)
    have hl : its.toArray.size = i := by
      rw [List.size_toArray, ← rv.length]
      exact hx
    have D := Draws.tuple (prog := X.prog) (w := X.w) (A := X.A.in1) (I.ok.hd hc) it a hai its.toArray
    exact wpAny_pyNext_enum_endD D he ⟨by rw [hl]; exact hit, pt⟩ fun h' eb => ⟨rfl, I.turned (t' := s.toks) (fun b o hb q => eb b o hb q) f0 f1 f3 f4 f5⟩
  self := fun A i s Q E st h => by
    obtain ⟨⟨_, he⟩, _⟩ := st
    exact wpAny_pyIter_enum he h
def iEnumT (K : PySem.W.Frag) (ta : TA) : TI := fun σ H R => ta σ H fun vs H1 => ∃ a xs, vs = [.ref a] ∧ SqT K H1 a xs ∧ R (IteT K a) H1
theorem pi_enumT {X : Cx} {e : Expr} {ta : TA} {p pos tpos : Pos} {elts : List Expr} {kk : Nat} (hg : Gl X "enumerate") (hm : X.mg "enumerate" = none) (ha : PA X [e] ta) (hs : starEach [e] X.env = [(false, eval e X.env)] := by rfl) :
    PI X (.Tuple elts kk tpos) (.Call (.Name "enumerate" p) [e] [] pos) (iEnumT X.K ta) := by
  refine ⟨fun pins s σ H R I h => Call_ (ld_blt I hg hm boot_enumerate (PyProof.Rows.callWith_type1 (thn (ha.run pos pins s σ H _ I h) fun us s1 hq => ?_) hs rfl))⟩
  obtain ⟨vs, H1, I1, r1, a, xs, rfl, hT, q⟩ := hq
  rw [Vals.ref1 r1]
  obtain ⟨its, rv, pt, hz⟩ := I1.tuple hT
  have hat : a < s1.heap.objs.size := by
    obtain ⟨o, ho, _⟩ := id pt
    exact Heap.lt_size ho
  refine enum_tup (show s1.heap.IsTuple a its.toArray from pt) fun h' he hit hk => wpAny_pyIter_enum he ?_
  have I2 : Inv X pins σ H1 { s1 with heap := h' } := I1.kept (t' := s1.toks) hk
  refine ⟨_, [s1.heap.objs.size + 1, s1.heap.objs.size], _, _, H1, rfl, I2, turn_enumT a (s1.heap.objs.size + 1) s1.heap.objs.size, ⟨⟨.none, he⟩, hit, Nat.succ_ne_self _, Nat.ne_of_gt (Nat.lt_succ_of_lt hat), Nat.ne_of_lt hat⟩, fun b hb => ?_, q⟩
  have hle : s1.heap.objs.size ≤ b := by
    rcases (show b = s1.heap.objs.size + 1 ∨ b = s1.heap.objs.size by simpa using hb) with z | z
    · rw [z]; exact Nat.le_succ _
    · rw [z]; exact Nat.le_refl _
  exact I1.fpOk hle (I1.hok.fresh hle)
theorem walk_enumT {K : PySem.W.Frag} {a : Addr} {xs : List V} : Walk (IteT K a) xs.length (fun H => SqT K H a xs) (YPair (fun i => some (.int (i : Nat))) (fun i => xs[i]?)) := by
  refine ⟨fun i _ hi q => ⟨xs, xs[i], q, by simp [hi]⟩, fun _ q => ⟨xs, q, rfl⟩, fun i H v H' _ q y => ?_⟩
  obtain ⟨T, x, h1, h2, h3, h4⟩ := y
  exact ⟨T, .int (i : Nat), x, h1, h2, h3, rfl, h4 xs q⟩
theorem walk_zipT {K : PySem.W.Frag} {a b : Addr} {xs ys : List V} {n : Nat} (hn : n = min xs.length ys.length) : Walk (ItzT K a b) n (fun H => SqT K H a xs ∧ SqT K H b ys) (YPair (fun i => xs[i]?) (fun i => ys[i]?)) := by
  subst hn
  refine ⟨fun i _ hi q => ⟨xs, ys, xs[i]'(by omega), ys[i]'(by omega), q.1, q.2, List.getElem?_eq_getElem _, List.getElem?_eq_getElem _⟩, fun _ q => ⟨xs, ys, q.1, q.2, by omega⟩, fun i H v H' _ q y => ?_⟩
  obtain ⟨T, x, z, h1, h2, h3, h4, h5⟩ := y
  exact ⟨T, x, z, h1, h2, h3, h4 xs q.1, h5 ys q.2⟩

/-! a tuple times an int, also 1 -/
theorem mul_one_tup (l : Addr) (items : Array Value) (n : Nat) (dd : Option Addr) (sl : Array (Option Value)) (u : Tok) (hne : items.isEmpty = false) : Meets (Builtin.«tuple.__mul__» ⟨[.ref l, .int 1 u], []⟩) (fun _ R s => s.heap.get? l = some { cls := .type "tuple", dict := dd, data := .seq items n, slots := sl } ∧ R (.ok (.ret (.ref l))) s) :=
  .of_wp fun prog w A R s h => by
    obtain ⟨hp, g, d, tk, os⟩ := s
    obtain ⟨hl, h⟩ := h
    have f1 := AutoSeq1.idx_int
    wp_walk using wpAny_loadPart' hl
    exact ⟨_, rfl, h⟩
def rRepP (K : PySem.W.Frag) : R2 := fun x y H Q => ∃ l k xs, x = .ref l ∧ y = .int k ∧ SqT K H l xs ∧ xs ≠ [] ∧ 1 ≤ k ∧ k ≤ 1000 ∧ xs.length ≤ 1000 ∧ ∀ p H', Same H H' → SqT K H' p (List.replicate k.toNat xs).flatten → Q (.ref p) H'
theorem same_upd {H : Hp} {p : Addr} {o : HO} (h : H p = none) : Same H (upd H p o) := fun b x e => by
  rw [upd_ne (ne_of_none e h)]
  exact e
theorem op_repP {X : Cx} : OpR X (binaryOp .Mult) (rRepP X.K) := by
  intro pins s σ H x y v u Q I rx ry h
  obtain ⟨l, k, xs, rfl, rfl, hT, hne, h1, h2, hz, q⟩ := h
  by_cases hk : 2 ≤ k
  · exact op_repT pins s σ H _ _ v u Q I rx ry ⟨l, k, xs, rfl, rfl, hT, hne, hk, h2, hz, fun p hp => q p _ (same_upd hp) (.inl (.inl upd_same))⟩
  · obtain rfl : k = 1 := by omega
    cases rx
    obtain ⟨t, rfl⟩ := ry
    obtain ⟨its, r, ⟨⟨cls, dd, data, sl⟩, ho, hc, n, hd⟩, hs⟩ := I.tuple hT
    simp only at hc hd
    subst hc hd
    have hn : its.toArray.isEmpty = false := by
      cases its with
      | nil =>
        cases r
        exact absurd rfl hne
      | cons a b => rfl
    refine wpAny_binaryOp_repeat_ref (T := "tuple") (U := "int") (by decide) ⟨_, ho, rfl⟩ (fun s' => typeIs_int s' 1 t) noFill_tuple_mul F.fills_int_mul F.slot_int_rmul repeat_tuple F.slot_int_index.lookup
      (call_meets F.slot_int_rmul (typeIs_int s 1 t) F.entry_int_rmul (F.args_int_rmul_2 _ _) (int_rmul_tuple 1 t l its.toArray n dd sl)
        ⟨ho, rfl, ⟨_, ho, rfl⟩, call_meets F.slot_tuple_mul ⟨_, ho, rfl⟩ F.entry_tuple_mul (F.args_tuple_mul_2 _ _) (mul_one_tup l its.toArray n dd sl t hn) ⟨ho, ?_⟩⟩)
    exact ⟨.ref l, H, I, rfl, q l H (Same.refl H) (by rw [show (List.replicate (Int.toNat 1) xs).flatten = xs by simp]; exact hT)⟩

/-! ### defs that want no repr to run around them -/
structure FnG (P : Program) (w : World) (K : PySem.W.Frag) (mg : Str → Option Value) (base : Heap) (CX : CXT) (k : Nat) (f : Addr) (fd : FuncData) (ps : List Str) (sp : Sp) : Prop where
  many : ∀ vs H Q E, sp vs H Q E → vs.length = ps.length
  goes : ∀ (A : Around) (outer : List Env) (s : Shared) (H : Hp) (args : Args) (us : List Value) (vs : List V) (Q : VK) (E : XK), Room k A → A.guards = some [] → Env0 P w K mg base A outer s H → BindsTo s fd args (ps.zip us) → Vals vs us → sp vs H Q E →
    codeAny (model P w) A (.call (.ref f) args) (CR CX outer P w H s Q E) s
section
variable {P : Program} {w : World} {K : PySem.W.Frag} {mg : Str → Option Value} {base : Heap}
theorem okG {x qual : Str} {st : Stmt} {f : Addr} {fd : FuncData} {N ps : List Str} {k : Nat} {sp : Sp} (F : Fun K x qual st f fd) (S : FnScope N ps (defScope st)) (len : ∀ vs H Q E, sp vs H Q E → vs.length = ps.length)
    (bd : ∀ (cdv : Value) (A : Around) (outer : List Env) (s : Shared) (H : Hp) (vs : List V) (Q : VK) (E : XK), Room k (A.deeper (envOfC qual (defScope st) s.heap.objs.size f cdv)) → A.guards = some [] → sp vs H Q E →
      ∃ t, PSs (cxOf CX0 P w K mg base N qual (defScope st) f cdv A outer s H E).nox (defBody st) t ∧ t { nx := fun _ H' => Q .non H', rt := Q } (start N vs) H) : FnG P w K mg base CX0 (k + 1) f fd ps sp := by
  obtain ⟨oc, od, kV, doc, pm, an, cdv, ct, osl, rfl, lk, hcd⟩ := F.ex
  refine ⟨len, fun A outer s H args us vs Q E hr hgu e0 hb rv hsp => ?_⟩
  have hl := len _ _ _ _ hsp
  have kin : K.In s.heap := e0.mod.kin.keeps fun b o e => (e0.bs b o e).1
  have nol : s.heap.NoLimit := e0.mod.nolimit.keeps fun b o e => (e0.bs b o e).1
  have kinds : ∀ y ∈ ps.zip us, (defScope st).names.lookup y.1 = some .local ∨ ((defScope st).names.lookup y.1 = some .cell ∧ ((cellsFrom (s.heap.objs.size + 1) (defScope st).names []).lookup y.1).isSome = true) := by
    rintro ⟨n, v⟩ hy
    have hn := (List.of_mem_zip hy).1
    rcases S.par n hn with q | q
    · exact Or.inl q
    · exact Or.inr ⟨q, PySem.W.cellsFrom_some _ _ _ (Or.inl q)⟩
  refine codeAny_call_function hr.depth (kin _ _ lk) rfl S.co S.gen rfl (PySem.W.codeRec_of kin hcd) (hb _ _ _ _ (wpAny_newFunctionEnv_cells S.kind kinds fun env ee s1 x => ?_))
  subst ee
  refine ⟨nol.keeps x.toInCall.keep, codeAny_func ?_⟩
  obtain ⟨t, ht, hq⟩ := bd cdv A outer s H vs Q E (hr.deeper _) hgu hsp
  have J : Inv (cxOf CX0 P w K mg base N qual (defScope st) f cdv A outer s H E) [] (start N vs) H s1 := inv_start S hr.hd e0 hl rv x
  refine wpAny_mono (ht.nox.run [] s1 (start N vs) H _ J hq) (fun fl s2 hs => ?_) fun e s2 hs => hs
  have done : ∀ {σ' : L2.St} {H' : Hp} {v : V} {u : Value}, Inv (cxOf CX0 P w K mg base N qual (defScope st) f cdv A outer s H E) [] σ' H' s2 → RelV v u → Q v H' → CE outer P w H s Q u s2 :=
    fun {σ' H' v u} L r q => ⟨v, H', L.os, L.bare, L.base, L.hok, r, q⟩
  cases fl with
  | ret u =>
    obtain ⟨v, σ', H', L, r, q⟩ := hs
    exact done L r q
  | next =>
    obtain ⟨σ', H', L, q⟩ := hs
    exact done (v := V.non) (u := Value.none) L rfl q
  | brk =>
    obtain ⟨_, _, _, q⟩ := hs
    exact q.elim
  | cont =>
    obtain ⟨_, _, _, q⟩ := hs
    exact q.elim
end
section
variable {X : Cx} {CX : CXT} {k : Nat} {f : Addr} {fd : FuncData} {ps : List Str} {sp : Sp} {dvs : List V} {ds : List Value} {E : XK} {x : Str} {p pos : Pos} {e : Expr} {es : List Expr} {t : TA}
theorem pe_callG (F : FnG X.prog X.w X.K X.mg X.base CX k f fd ps sp) (hr : Room k X.A) (hgu : X.A.guards = some []) (hg : Gl X x) (hm : X.mg x = some (.ref f)) (hk : PySem.W.keepIn X.K (.ref f) = true) (hb : Binds X.K fd ps ds) (hd : Vals dvs ds) (hx : Passes CX X E)
    (ha : PA X (e :: es) t) (hdb : (x == ("__debug__" : Str)) = false := by decide) (he : starEach (e :: es) X.env = (false, eval e X.env) :: starEach es X.env := by rfl) (hpl : (backTo pos (starEach es X.env)).any (·.1) = false := by rfl) :
    PE X (.Call (.Name x p) (e :: es) [] pos) (tCall sp dvs E t) := by
  refine ⟨fun pins s σ H Q I h => wpAny_Call_Name_kw (ld_glob I hg hm ?_ hdb)⟩
  refine PySem.W.callWith_K (h₀ := X.base) I.ok.mod.kin hk (thn (ha.run pos pins s σ H _ I h) ?_) he hpl
  rintro us s1 ⟨vs, H1, I1, r, q⟩
  refine ⟨I1.kIn, ?_⟩
  have r2 : Vals (vs ++ dvs) (us ++ ds) := r.append hd
  have hl : (us ++ ds).length = ps.length := by
    rw [← r2.length]
    exact F.many _ _ _ _ q
  refine wpAny_call (codeAny_mono (F.goes X.A X.stack s1 H1 ⟨us, []⟩ (us ++ ds) (vs ++ dvs) Q E hr hgu I1.env0 (hb s1 us I1.kIn hl) r2 q) ?_)
  intro res s2 hq
  match res, hq with
  | .error e, hq => exact hx pins σ H1 s1 e s2 I1 hq
  | .ok (.ret u), hq => exact I1.after hq
end
/-- a law's own promise -/
def spTrue (K : PySem.W.Frag) : Sp := fun vs H Q _ => ∃ (a : Addr) (ns : List Int), vs = [.ref a] ∧ SqL K H a (ns.map V.int) ∧ ns.length ≤ 63 ∧ ∀ H', Q (.bl true) H'
theorem callG {P : Program} {w : World} {K : PySem.W.Frag} {mg mb : Str → Option Value} {k : Nat} {fa a : Addr} {fd : FuncData} {x : Str} {s₁ : Shared} {vs : List Value} {ns : List Int}
    (kin : K.In s₁.heap) (hns : s₁.heap.Ns mainGlobals mg) (hbl : s₁.heap.Ns builtinsNs mb) (hbb : ∀ x : Str, x ≠ "__name__" → mb x = bootBuiltins x) (nol : s₁.heap.NoLimit) (hgens : s₁.gens = #[])
    (ha : s₁.heap.get? a = some { cls := .type "list", data := .seq vs.toArray }) (hi : IntsAre vs ns) (h63 : ns.length ≤ 63) (hr : Room k callerA)
    (F : ∀ base : Heap, K.In base → base.Ns mainGlobals mg → FnG P w K mg base CX0 k fa fd [x] (spTrue K)) (hbind : ∀ (s : Shared) (u : Value), BindsTo s fd ⟨[u], []⟩ [(x, u)]) :
    codeAny (model P w) callerA (.call (.ref fa) ⟨[.ref a], []⟩) (fun r s' => r = .ok (.ret (.bool true)) ∧ OldK s₁.heap s'.heap ∧ s'.os = s₁.os ∧ AllBare s'.gens) s₁ := by
  have hl : ns.length ≤ sizeLine := Nat.le_trans h63 (by decide)
  have rv := vals_ints hi
  have lv := hi.length
  have main : ∀ T : Hp, Only T → SqL K T a (ns.map V.int) → HOk P w T s₁.heap → (∀ b, T b ≠ none → b = a) → (T a ≠ none → K.lookup a = none) →
      codeAny (model P w) callerA (.call (.ref fa) ⟨[.ref a], []⟩) (fun r s' => r = .ok (.ret (.bool true)) ∧ OldK s₁.heap s'.heap ∧ s'.os = s₁.os ∧ AllBare s'.gens) s₁ := by
    intro T only hS hok only_a notK
    have put : ∀ {b : Addr} {o : Obj}, s₁.heap.get? b = some o → T b = none → (hidT s₁.heap T).get? b = some o := fun e n => hidT_get e n
    have dict_free : ∀ {b : Addr} {o : Obj} {es : Array DictEntry} {ep : Nat}, s₁.heap.get? b = some o → o.data = .dict es ep → T b = none := by
      intro b o es ep e d
      match q : T b with
      | none => rfl
      | some u =>
        obtain rfl := only_a b (by rw [q]; exact fun z => by cases z)
        rw [ha] at e
        cases e
        exact absurd (show Data.seq vs.toArray _ = Data.dict es ep from d) (fun z => by cases z)
    have nsB : ∀ {b : Addr} {m : Str → Option Value}, s₁.heap.Ns b m → (hidT s₁.heap T).Ns b m := by
      rintro b m ⟨o, es, ep, e, d, r⟩
      exact ⟨o, es, ep, put e (dict_free e d), d, r⟩
    have kinB : K.In (hidT s₁.heap T) := by
      intro b o e
      refine put (kin b o e) ?_
      match q : T b with
      | none => rfl
      | some u =>
        have q' : T b ≠ none := by rw [q]; exact fun z => by cases z
        obtain rfl := only_a b q'
        rw [notK q'] at e
        cases e
    obtain ⟨mc, l1, l2⟩ := nol
    have md : Mod K mg (hidT s₁.heap T) := ⟨kinB, nsB hns, ⟨mb, nsB hbl, hbb⟩, ⟨mc, nsB l1, l2⟩⟩
    have e0 : Env0 P w K mg (hidT s₁.heap T) callerA [] s₁ T :=
      { frames := rfl, mod := md, bs := fun b o e => of_hidT e, bsz := Nat.le_of_eq (hidT_size _ _), funs := trivial, frf := fun b hb => (List.not_mem_nil (show b ∈ ([] : List Addr) from hb)).elim, hok := hok, bare := .of_eq hgens }
    have sp0 : spTrue K [.ref a] T (fun v _ => v = .bl true) (fun _ _ _ => False) := ⟨a, ns, rfl, hS, h63, fun _ => rfl⟩
    refine codeAny_mono ((F _ kinB (nsB hns)).goes callerA [] s₁ T ⟨[.ref a], []⟩ [.ref a] [.ref a] _ _ hr rfl e0 (hbind s₁ (.ref a)) (.cons rfl .nil) sp0) ?_
    intro r s2 h
    match r, h with
    | .error e, h => exact h.elim
    | .ok (.ret u), h =>
      obtain ⟨v, T', os, bare, un, hok2, r2, q⟩ := h
      obtain rfl : v = .bl true := q
      obtain rfl : u = Value.bool true := r2
      refine ⟨rfl, OldK.of_keep fun b o e => ?_, os, bare⟩
      match q : T b with
      | none => exact un.keep b o e q (fun z => (List.not_mem_nil (show b ∈ ([] : List Addr) from z)).elim) List.not_mem_nil
      | some u =>
        rcases only b with z | ⟨ob, xs, z⟩
        · rw [q] at z
          cases z
        · obtain ⟨e1, _⟩ := hok b _ z
          obtain ⟨e2, _⟩ := hok2 b _ (un.frzs b ob _ z)
          rw [e] at e1
          cases e1
          exact e2
  match hk : K.lookup a with
  | some o =>
    have e := kin a o hk
    rw [ha] at e
    cases e
    exact main (fun _ => none) (fun _ => Or.inl rfl) (Or.inr ⟨_, vs.toArray, _, hk, rfl, rfl, rfl, by rw [List.size_toArray, lv]; exact hl, by simpa using rv⟩) (fun b u z => by cases (show (none : Option HO) = some u from z)) (fun b z => (z rfl).elim) fun z => (z rfl).elim
  | none =>
    refine main (fun b => if b = a then some (.frz { cls := .type "list", data := .seq vs.toArray } (.lst (ns.map V.int))) else none) (fun b => ?_) (Or.inl (Or.inr ⟨{ cls := .type "list", data := .seq vs.toArray }, if_pos rfl⟩)) (fun b u z => ?_) (fun b z => ?_) fun _ => hk
    · by_cases hb : b = a
      · exact Or.inr ⟨_, _, if_pos hb⟩
      · exact Or.inl (if_neg hb)
    · by_cases hb : b = a
      · cases (if_pos hb).symm.trans z
        subst hb
        exact ⟨ha, by rw [List.length_map]; exact hl, vs, _, rv, ha⟩
      · cases (if_neg hb).symm.trans z
    · exact Decidable.byContradiction fun hb => z (if_neg hb)
theorem walkG {l : PySem.W.OpenLaw} {k : Nat} {q : Program} {loose : List Str} {XP : (Str → Option Value) → Heap → Prop} {YP : World → Heap → Prop} {d : DefRec} {K : Params → PySem.W.Frag} {x : Str}
    (hn : l.most = some 63) (hdf : d.params.defaults = []) (hr : Room k callerA) (hY : ∀ (w : World) (h : Heap), YP w h → (K w.params).In h)
    (F : ∀ (w : World) (mg : Str → Option Value) (fa : Addr) (h : Heap), (K w.params).In h → h.Ns mainGlobals mg → mg d.name = some (.ref fa) →
      ∃ fd : FuncData, (∀ (s : Shared) (u : Value), BindsTo s fd ⟨[u], []⟩ [(x, u)]) ∧ ∀ base : Heap, (K w.params).In base → base.Ns mainGlobals mg → FnG l.prog w (K w.params) mg base CX0 k fa fd [x] (spTrue (K w.params))) :
    PySem.W.WalkO q loose XP YP l.row.toRowW d [] (fun f vs => PySem.call f vs) := by
  refine Att.attach_call hn hdf ?_
  intro w s₀ s₁ mg mb fa o pm cd doc a vs ns G Y ho hd hcd hmg hob hints hlen hg
  have kin := hY w _ Y
  obtain ⟨fd, hb, hF⟩ := F w mg fa _ kin G.T.g hmg
  exact callG kin G.T.g G.T.b G.T.builtins G.T.nolimit hg hob hints hlen hr hF hb
end Tl
/-! data without lists, frames, the bag -/
namespace Tl
open PySem PySem.Spec PyProof.Rows L2 RZ
/-! ### heaps -/
/-- all tuples stay -/
def KT (K : PySem.W.Frag) (H H' : Hp) : Prop := ∀ a xs, SqT K H a xs → SqT K H' a xs
theorem KT.refl {K : PySem.W.Frag} (H : Hp) : KT K H H := fun _ _ h => h
theorem KT.trans {K : PySem.W.Frag} {H1 H2 H3 : Hp} (a : KT K H1 H2) (b : KT K H2 H3) : KT K H1 H3 := fun x xs h => b x xs (a x xs h)
theorem Same.kt {K : PySem.W.Frag} {H H' : Hp} (h : Same H H') : KT K H H' := fun a xs q => by
  rcases q with (q | ⟨o, q⟩) | q
  · exact .inl (.inl (h _ _ q))
  · exact .inl (.inr ⟨o, h _ _ q⟩)
  · exact .inr q
/-- all but the lists at b and g stays as it was -/
def Frm (b g : Addr) (H H' : Hp) : Prop := ∀ a o, H a = some o → a ≠ b → a ≠ g → H' a = some o
theorem Frm.refl (b g : Addr) (H : Hp) : Frm b g H H := fun _ _ h _ _ => h
theorem Frm.trans {b g : Addr} {H1 H2 H3 : Hp} (x : Frm b g H1 H2) (y : Frm b g H2 H3) : Frm b g H1 H3 := fun a o h h1 h2 => y a o (x a o h h1 h2) h1 h2
theorem Frm.of {b g : Addr} {H H' : Hp} (h : Same H H') : Frm b g H H' := fun a o q _ _ => h a o q
theorem Frm.updB {b g : Addr} {H : Hp} {o : HO} : Frm b g H (upd H b o) := fun a x h h1 _ => by rw [upd_ne h1]; exact h
theorem Frm.updG {b g : Addr} {H : Hp} {o : HO} : Frm b g H (upd H g o) := fun a x h _ h2 => by rw [upd_ne h2]; exact h
/-! ### data of tuples -/
mutual
inductive Td (K : PySem.W.Frag) (H : Hp) : V → PyData → Prop
  | non : Td K H .non .none
  | bl (b : Bool) : Td K H (.bl b) (.bool b)
  | int (i : Int) : Td K H (.int i) (.int i)
  | str (x : Str) : Td K H (.str x) (.str x)
  | tup {a : Addr} {xs : List V} {ds : List PyData} : SqT K H a xs → TdAll K H xs ds → Td K H (.ref a) (.tuple ds)
inductive TdAll (K : PySem.W.Frag) (H : Hp) : List V → List PyData → Prop
  | nil : TdAll K H [] []
  | cons {v : V} {vs : List V} {d : PyData} {ds : List PyData} : Td K H v d → TdAll K H vs ds → TdAll K H (v :: vs) (d :: ds)
end
variable {K : PySem.W.Frag} {H H' : Hp}
mutual
theorem Td.dp : ∀ {v : V} {d : PyData}, Td K H v d → Dp K H v d
  | _, _, .non => .non
  | _, _, .bl b => .bl b
  | _, _, .int i => .int i
  | _, _, .str x => .str x
  | _, _, .tup h a => .tup h (TdAll.dp a)
theorem TdAll.dp : ∀ {v : List V} {d : List PyData}, TdAll K H v d → DpAll K H v d
  | _, _, .nil => .nil
  | _, _, .cons h t => .cons (Td.dp h) (TdAll.dp t)
end
mutual
theorem Td.keep (k : KT K H H') : ∀ {v : V} {d : PyData}, Td K H v d → Td K H' v d
  | _, _, .non => .non
  | _, _, .bl b => .bl b
  | _, _, .int i => .int i
  | _, _, .str x => .str x
  | _, _, .tup h a => .tup (k _ _ h) (TdAll.keep k a)
theorem TdAll.keep (k : KT K H H') : ∀ {v : List V} {d : List PyData}, TdAll K H v d → TdAll K H' v d
  | _, _, .nil => .nil
  | _, _, .cons h t => .cons (Td.keep k h) (TdAll.keep k t)
end
theorem TdAll.len : ∀ {v : List V} {d : List PyData}, TdAll K H v d → v.length = d.length
  | _, _, .nil => rfl
  | _, _, .cons _ t => congrArg (· + 1) (TdAll.len t)
theorem TdAll.get : ∀ {vs : List V} {ds : List PyData} {i : Nat} {d : PyData}, TdAll K H vs ds → ds[i]? = some d → ∃ v, vs[i]? = some v ∧ Td K H v d
  | _, _, _, _, .nil, e => by simp at e
  | _, _, 0, _, .cons h _, e => by
    simp at e
    subst e
    exact ⟨_, rfl, h⟩
  | _, _, i + 1, d, .cons _ t, e => by
    obtain ⟨v, h1, h2⟩ := TdAll.get (i := i) (d := d) t (by simpa using e)
    exact ⟨v, by simpa using h1, h2⟩
theorem TdAll.getV : ∀ {vs : List V} {ds : List PyData} {i : Nat} {v : V}, TdAll K H vs ds → vs[i]? = some v → ∃ d, ds[i]? = some d ∧ Td K H v d
  | _, _, _, _, .nil, e => by simp at e
  | _, _, 0, _, .cons h _, e => by
    simp at e
    subst e
    exact ⟨_, rfl, h⟩
  | _, _, i + 1, v, .cons _ t, e => by
    obtain ⟨d, h1, h2⟩ := TdAll.getV (i := i) (v := v) t (by simpa using e)
    exact ⟨d, by simpa using h1, h2⟩
theorem TdAll.app : ∀ {vs ws : List V} {ds es : List PyData}, TdAll K H vs ds → TdAll K H ws es → TdAll K H (vs ++ ws) (ds ++ es)
  | _, _, _, _, .nil, h => h
  | _, _, _, _, .cons h t, q => .cons h (TdAll.app t q)
theorem Td.tupE {v : V} {ds : List PyData} (h : Td K H v (.tuple ds)) : ∃ a xs, v = .ref a ∧ SqT K H a xs ∧ TdAll K H xs ds := by
  cases h with
  | tup h a => exact ⟨_, _, rfl, h, a⟩
theorem Td.intE {v : V} {i : Int} (h : Td K H v (.int i)) : v = .int i := by
  cases h
  rfl
theorem tdAll_ints : ∀ ns : List Int, TdAll K H (ns.map V.int) (ns.map PyData.int)
  | [] => .nil
  | n :: r => .cons (.int n) (tdAll_ints r)
theorem tdAll_intsE : ∀ {ns : List Int} {vs : List V}, TdAll K H vs (ns.map PyData.int) → vs = ns.map V.int
  | [], _, h => by
    cases h
    rfl
  | n :: r, _, h => by
    cases h with
    | cons h t =>
      cases h
      rw [tdAll_intsE t]
      rfl
/-- a list of values, each at its datum -/
theorem tdAll_iff {vs : List V} {ds : List PyData} (hl : vs.length = ds.length) (h : ∀ (i : Nat) (v : V) (d : PyData), vs[i]? = some v → ds[i]? = some d → Td K H v d) : TdAll K H vs ds := by
  induction vs generalizing ds with
  | nil =>
    cases ds with
    | nil => exact .nil
    | cons d r => simp at hl
  | cons v vs ih =>
    cases ds with
    | nil => simp at hl
    | cons d r =>
      refine .cons (h 0 v d rfl rfl) (ih (by simpa using hl) fun i v d h1 h2 => h (i + 1) v d (by simpa using h1) (by simpa using h2))
/-! ### the bag -/
structure Bag (H : Hp) (b g : Addr) : Prop where
  ne : b ≠ g
  hb : ∃ s c al, H b = some (.lst [.int s, .int c, .ref g, al]) ∧ (al = .non ∨ ∃ n, al = .int n)
  hg : ∃ gs : List Int, H g = some (.lst (gs.map V.int)) ∧ gs.length ≤ 63
theorem Bag.kt {b g : Addr} (B : Bag H b g) (f : Frm b g H H') : KT K H H' := fun a xs q => by
  obtain ⟨s, c, al, hb, _⟩ := B.hb
  obtain ⟨gs, hg, _⟩ := B.hg
  rcases q with (q | ⟨o, q⟩) | q
  · refine .inl (.inl (f _ _ q ?_ ?_))
    · intro e
      rw [e, hb] at q
      cases q
    · intro e
      rw [e, hg] at q
      cases q
  · refine .inl (.inr ⟨o, f _ _ q ?_ ?_⟩)
    · intro e
      rw [e, hb] at q
      cases q
    · intro e
      rw [e, hg] at q
      cases q
  · exact .inr q
theorem Bag.keep {b g : Addr} (B : Bag H b g) (s : Same H H') : Bag H' b g :=
  ⟨B.ne, let ⟨x, c, al, h, r⟩ := B.hb; ⟨x, c, al, s _ _ h, r⟩, let ⟨gs, h, r⟩ := B.hg; ⟨gs, s _ _ h, r⟩⟩
/-- another list stands -/
theorem Bag.other {b g a : Addr} {o : HO} (B : Bag H b g) (h : H a = some o) (h2 : ∀ xs, o ≠ .lst xs) : a ≠ b ∧ a ≠ g := by
  obtain ⟨s, c, al, hb, _⟩ := B.hb
  obtain ⟨gs, hg, _⟩ := B.hg
  constructor
  · intro e
    rw [e, hb] at h
    exact h2 _ (Option.some.inj h).symm
  · intro e
    rw [e, hg] at h
    exact h2 _ (Option.some.inj h).symm
theorem Bag.neNew {b g a : Addr} (B : Bag H b g) (h : H a = none) : a ≠ b ∧ a ≠ g := by
  obtain ⟨s, c, al, hb, _⟩ := B.hb
  obtain ⟨gs, hg, _⟩ := B.hg
  refine ⟨fun e => ?_, fun e => ?_⟩
  · rw [e, hb] at h
    cases h
  · rw [e, hg] at h
    cases h
end Tl
/-! the rules with the written part named (for blocks) -/
namespace Tl
open PySem PySem.Spec PyProof.Rows L2 RZ
section
variable {X : Cx} {K : PySem.W.Frag} (h : X.K = K)
include h
theorem k_ixL : IxR X (rIxL K) := by subst h; exact ix_list
theorem k_ixT : IxR X (rIxT K) := by subst h; exact ix_tup
def rLen (K : PySem.W.Frag) : List V → Hp → VK → Prop := fun xs H Q => ∃ p ys, xs = [.ref p] ∧ (SqL K H p ys ∨ SqT K H p ys) ∧ Q (.int ys.length) H
theorem k_len : CallR X (.builtin "len") (rLen K) := by subst h; exact call_len_seq
theorem k_sum (hc : X.calm = true) : CallR X (.builtin "sum") (rSum K) := by subst h; exact cr_sum hc
theorem k_any (hc : X.calm = true) : CallR X (.builtin "any") (rAny K) := by subst h; exact cr_any hc
theorem k_all (hc : X.calm = true) : CallR X (.builtin "all") (rAll K) := by subst h; exact cr_all hc
theorem k_eqD (hu : X.A.units + 64 < cLine) : OpR X (compareOp .Eq) (rEqD K) := by subst h; exact op_eqD hu
theorem k_neD (hu : X.A.units + 64 < cLine) : OpR X (compareOp .NotEq) (rNeD K) := by subst h; exact op_neD hu
theorem k_ltT (hu : X.A.units < cLine) : OpR X (compareOp .Lt) (rLtT K) := by subst h; exact op_ltT hu
theorem k_rep : OpR X (binaryOp .Mult) (rRepP K) := by subst h; exact op_repP
def rCatP (K : PySem.W.Frag) : R2 := fun x y H Q => ∃ a b xs ys, x = .ref a ∧ y = .ref b ∧ SqT K H a xs ∧ SqT K H b ys ∧ xs.length + ys.length ≤ sizeLine ∧ ∀ p H', Same H H' → SqT K H' p (xs ++ ys) → Q (.ref p) H'
theorem k_cat : OpR X (binaryOp .Add) (rCatP K) := by
  subst h
  intro pins s σ H x y v u Q I rx ry ⟨a, b, xs, ys, e1, e2, ha, hb, hz, q⟩
  refine op_catA pins s σ H x y v u Q I rx ry ⟨a, b, xs, ys, e1, e2, ha, hb, hz, fun z => ?_, fun _ z => ?_, fun _ _ p hp => q p _ (same_upd hp) (.inl (.inl upd_same))⟩
  · subst z
    exact q b H (Same.refl H) hb
  · subst z
    exact q a H (Same.refl H) (by rw [List.append_nil]; exact ha)
def rTupOf (K : PySem.W.Frag) : List V → Hp → VK → Prop := fun xs H Q => ∃ p ys, xs = [.ref p] ∧ SqL K H p ys ∧ ∀ l H', Same H H' → SqT K H' l ys → Q (.ref l) H'
theorem k_tupOf : CallR X (.type "tuple") (rTupOf K) := by
  subst h
  intro pins s σ H xs us Q I r ⟨p, ys, e, hs, q⟩
  exact call_tuple_of pins s σ H xs us Q I r ⟨p, ys, e, .inl ⟨hs, fun l hl => q l _ (same_upd hl) (.inl (.inl upd_same))⟩⟩
theorem k_isi : CallR X (.builtin "isinstance") (rIsi K) := by subst h; exact call_isi
theorem k_repr (hu : X.A.units + 64 < cLine) (hg : X.A.guards = some []) : CallR X (.builtin "repr") (rReprD K) := by subst h; exact cr_reprD hu hg
theorem k_maxDf (hc : X.calm = true) (hu : X.A.units + 64 < cLine) : CallRK X (.builtin "max") [Str.ofString "default"] (rMaxDf K) := by subst h; exact cr_maxDf hc hu
theorem k_slL : SlR X (rSlL K) := by subst h; exact sl_list
theorem k_getL : PGet X (gAtL K) := by subst h; exact get_listP
theorem k_tup {pos : Pos} {es : List Expr} {k : Nat} {t : TGs} {n : Nat} (hc : X.calm = true) (hp : PGs X es t) (hn : (assignEach es X.env).length = n := by rfl) (hst : (assignEach es X.env).findIdx? (·.1) = none := by rfl) : PG X (.Tuple es k pos) (gTup K n t) := by
  subst h
  exact pg_tup hc hp hn hst
theorem k_iL {tg l : Expr} {tl : TE} (hl : PE X l tl) : PI X tg l (iList K tl) := by subst h; exact pi_list hl
theorem k_iT {tg l : Expr} {tl : TE} (hl : PE X l tl) : PI X tg l (iTup K tl) := by subst h; exact pi_tup hl
theorem k_enum {e : Expr} {ta : TA} {p pos tpos : Pos} {elts : List Expr} {kk : Nat} (hg : Gl X "enumerate") (hm : X.mg "enumerate" = none) (ha : PA X [e] ta) (hs : starEach [e] X.env = [(false, eval e X.env)] := by rfl) :
    PI X (.Tuple elts kk tpos) (.Call (.Name "enumerate" p) [e] [] pos) (iEnumT K ta) := by subst h; exact pi_enumT hg hm ha hs
theorem k_zip {e e2 : Expr} {ta : TA} {p pos tpos : Pos} {elts : List Expr} {kk : Nat} (hg : Gl X "zip") (hm : X.mg "zip" = none) (ha : PA X [e, e2] ta)
    (hs : starEach [e, e2] X.env = (false, eval e X.env) :: starEach [e2] X.env := by rfl) (hpl : (backTo pos (starEach [e2] X.env)).any (·.1) = false := by rfl) :
    PI X (.Tuple elts kk tpos) (.Call (.Name "zip" p) [e, e2] [] pos) (iZipA K ta) := by subst h; exact pi_zipA hg hm ha hs hpl
theorem k_fld {e : Expr} {ta : TE} {f : Str} {pos : Pos} (he : PE X e ta) (hb : attributeBase e f X.env (eval e X.env) = eval e X.env) : PE X (.Attribute e f pos) (tFld K ta f) := by subst h; exact pe_fld he hb
end
end Tl
/-! every second item: a[::2], a[1::2]; list(a) -/
namespace Tl
open PySem PySem.Spec PyProof.Rows L2 RZ
def ev2 {T : Type} : List T → List T
  | [] => []
  | [a] => [a]
  | a :: _ :: r => a :: ev2 r
theorem ev2_at {T : Type} : ∀ (l : List T) (i : Nat), (ev2 l)[i]? = l[2 * i]?
  | [], i => by
    show ([] : List T)[i]? = _
    rw [List.getElem?_nil, List.getElem?_nil]
  | [a], 0 => rfl
  | [a], i + 1 => by
    rw [List.getElem?_eq_none (by show 1 ≤ i + 1; omega), List.getElem?_eq_none (by show 1 ≤ 2 * (i + 1); omega)]
  | a :: b :: r, 0 => rfl
  | a :: b :: r, i + 1 => by
    show (ev2 r)[i]? = _
    rw [ev2_at r i, show 2 * (i + 1) = 2 * i + 1 + 1 by omega, List.getElem?_cons_succ, List.getElem?_cons_succ]
theorem ev2_len {T : Type} : ∀ l : List T, (ev2 l).length = (l.length + 1) / 2
  | [] => by
    show 0 = (0 + 1) / 2
    decide
  | [a] => by
    show 1 = (1 + 1) / 2
    decide
  | a :: b :: r => by
    show (ev2 r).length + 1 = (r.length + 1 + 1 + 1) / 2
    rw [ev2_len r]
    omega
theorem pick2 {T : Type} : ∀ l : List T, ((List.range ((l.length + 1) / 2)).filterMap fun k => l[2 * k]?) = ev2 l
  | [] => by
    have e : (([] : List T).length + 1) / 2 = 0 := by
      show (0 + 1) / 2 = 0
      decide
    rw [e]
    rfl
  | [a] => by
    have e : ([a].length + 1) / 2 = 1 := by
      show (1 + 1) / 2 = 1
      decide
    rw [e]
    rfl
  | a :: b :: r => by
    have e : ((a :: b :: r).length + 1) / 2 = (r.length + 1) / 2 + 1 := by
      show (r.length + 1 + 1 + 1) / 2 = _
      omega
    rw [e, List.range_succ_eq_map, List.filterMap_cons, List.filterMap_map]
    show a :: _ = a :: ev2 r
    rw [← pick2 r]
    congr 1
theorem pick2_from {T : Type} (l : List T) (a : Nat) (ha : a ≤ l.length) : ((sliceRange (a : Int) (l.length : Int) 2).filterMap fun k => l[k]?) = ev2 (l.drop a) := by
  have c : (if (2 : Int) > 0 then (if (a : Int) < (l.length : Int) then ((l.length : Int) - a + 2 - 1) / 2 else 0) else (if (a : Int) > (l.length : Int) then ((a : Int) - l.length - 2 - 1) / (-2) else 0)).toNat = ((l.drop a).length + 1) / 2 := by
    rw [if_pos (by decide), List.length_drop]
    split <;> omega
  unfold sliceRange
  simp only []
  rw [c, List.filterMap_map, ← pick2 (l.drop a)]
  congr 1
  funext k
  show l[((a : Int) + 2 * (k : Int)).toNat]? = (l.drop a)[2 * k]?
  rw [List.getElem?_drop]
  congr 1
/-- a[::2] and a[1::2] -/
def rSlS (K : PySem.W.Frag) : V → Option Int → Hp → VK → Prop := fun x lo H Q => ∃ (p : Addr) (xs : List V) (j : Nat), x = .ref p ∧ SqL K H p xs ∧ (lo = none ∧ j = 0 ∨ lo = some 1 ∧ j = 1) ∧ 1 ≤ xs.length ∧ ∀ q, H q = none → Q (.ref q) (upd H q (.lst (ev2 (xs.drop j))))
def tSlS (K : PySem.W.Frag) (te : TE) (tl : TO) : TE := fun σ H Q => te σ H fun x H1 => tl σ H1 fun lo H2 => rSlS K x lo H2 Q
theorem ev2_vals {xs : List V} {us : List Value} (r : Vals xs us) : Vals (ev2 xs) (ev2 us) := by
  have g : ∀ (n : Nat) (xs : List V) (us : List Value), xs.length ≤ n → Vals xs us → Vals (ev2 xs) (ev2 us) := by
    intro n
    induction n with
    | zero =>
      intro xs us h r
      cases r with
      | nil => exact .nil
      | cons _ _ => simp at h
    | succ n ih =>
      intro xs us h r
      cases r with
      | nil => exact .nil
      | cons r1 t =>
        cases t with
        | nil => exact .cons r1 .nil
        | cons r2 t => exact .cons r1 (ih _ _ (by simp at h; omega) t)
  exact g _ _ _ (Nat.le_refl _) r
section
variable {X : Cx} {K : PySem.W.Frag} (hK : X.K = K)
include hK
theorem k_slS {e : Expr} {lo : Option Expr} {te : TE} {tl : TO} {kk : Nat} {p3 p2 pos : Pos} (ee : PE X e te) (el : PO X lo tl) : PE X (.Subscript e (.Slice lo none (some (.Constant (.int 2) kk p3)) p2) pos) (tSlS K te tl) := by
  subst hK
  constructor
  intro pins s σ H Q I want
  refine Subscript_ (thn (ee.run pins s σ H _ I want) fun v sa za => ?_)
  obtain ⟨x, Ha, Ia, rx, want⟩ := za
  refine wpAny_Slice (thn (el.run pins sa σ Ha _ Ia want) fun vl sb zb => ?_)
  obtain ⟨l, Hb, Ib, pl, want⟩ := zb
  rw [evalPart_none, evalPart_some]
  refine wpAny_pure ?_
  refine thn ((pe_int (X := X) (i := 2) (j := kk) (pos := p3)).run pins sb σ Hb (fun z Hz => z = .int 2 ∧ Hz = Hb) Ib ⟨rfl, rfl⟩) fun vs sc zc => ?_
  obtain ⟨z, Hc, Ic, rz, rfl, rfl⟩ := zc
  obtain ⟨tk, rfl⟩ := rz
  have Id : Inv X pins σ Hc { sc with heap := sc.heap.push { cls := .type "slice", data := .fields #[vl, .none, .int 2 tk] } } := Ic.kept (t' := sc.toks) fun b ob q => Heap.get?_push_of_some _ q
  obtain ⟨p, xs, j, rfl, hx, hj, h1, want⟩ := want
  cases rx
  obtain ⟨its, rv, ht, hz⟩ := Id.list hx
  have hlen := rv.length
  show wpAny (model X.prog X.w) X.A (subscriptTail e (.Slice lo none (some (.Constant (.int 2) kk p3)) p2) (.ref p) (.ref sc.heap.objs.size)) (EP X pins σ Q) X.xe { sc with heap := sc.heap.push { cls := .type "slice", data := .fields #[vl, .none, .int 2 tk] } }
  refine tail_any (ops := [.ref p, .ref sc.heap.objs.size]) ht.isList.typeIs slot_list_getitem.lookup ?_ (by with_unfolding_all rfl)
  refine wpAny_getItem_list_slice (st := some 2) ht.isList (Heap.IsSliceOf.new ..) pl .none (.int 2 tk) (by decide) ?_ (by rw [List.size_toArray] <;> omega)
  have b1 : (sliceBounds l none (some 2) its.length).1 = (j : Int) := by
    rcases hj with ⟨rfl, rfl⟩ | ⟨rfl, rfl⟩
    · rfl
    · show (if (2 : Int) > 0 then max 0 (min (if (1 : Int) < 0 then 1 + (its.length : Int) else 1) (its.length : Int)) else max (-1) (min (if (1 : Int) < 0 then 1 + (its.length : Int) else 1) ((its.length : Int) - 1))) = ((1 : Nat) : Int)
      rw [if_pos (by decide), if_neg (by decide)]
      omega
  have jl : j ≤ its.length := by rcases hj with ⟨_, rfl⟩ | ⟨_, rfl⟩ <;> omega
  have pk : slicePick its.toArray l none (some 2) = (ev2 (its.drop j)).toArray := by
    unfold slicePick
    rw [List.size_toArray, b1]
    show ((sliceRange (j : Int) (its.length : Int) 2).filterMap (its.toArray[·]?)).toArray = _
    rw [← pick2_from its j jl]
    congr 2
    funext k
    exact List.getElem?_toArray
  rw [pk]
  refine ⟨.ref _, _, Id.laid (t' := sc.toks) (o := .lst (ev2 (xs.drop j))) (fun b ob q => Heap.get?_push_of_some _ q) (Nat.le_refl _) ?_, rfl, want _ (Id.hok.fresh (Nat.le_refl _))⟩
  refine ⟨?_, ev2 (its.drop j), 0, ev2_vals (rv.drop j), Heap.get?_push_size _ rfl⟩
  rw [ev2_len, List.length_drop]
  omega
def rListOf (K : PySem.W.Frag) : List V → Hp → VK → Prop := fun xs H Q => ∃ p ys, xs = [.ref p] ∧ (SqL K H p ys ∨ SqT K H p ys) ∧ ∀ l, H l = none → Q (.ref l) (upd H l (.lst ys))
theorem k_listOf : CallR X (.type "list") (rListOf K) := by
  subst hK
  exact call_list_of
end
end Tl
/-! math.lcm; a walk over a list or a tuple, whichever it is -/
namespace Tl
open PySem PySem.Spec PyProof.Rows L2 RZ
def rLcm : List V → Hp → VK → Prop := fun vs H Q => ∃ a b : Nat, vs = [.int (a : Int), .int (b : Int)] ∧ a < 2 ^ 6000 ∧ b < 2 ^ 6000 ∧ Q (.int ((Nat.lcm a b : Nat) : Int)) H
section
variable {X : Cx}
theorem cr_lcm : CallR X (.builtin "math.lcm") rLcm := by
  intro pins s σ H vs us Q I r h
  obtain ⟨a, b, rfl, ha, hb, q⟩ := h
  obtain ⟨t, u, rfl⟩ := Vals.int2 r
  have e1 : (Nat.lcm 1 ((a : Int)).natAbs).lcm ((b : Int)).natAbs = Nat.lcm a b := by
    rw [PySem.W.mc_lcm_one, Int.natAbs_natCast, Int.natAbs_natCast]
  have e3 : ((1 : Nat)) ≤ 2 ^ 6000 := Nat.one_le_two_pow
  have e4 : ((1 : Nat)) < 2 ^ 6000 := Nat.one_lt_two_pow (by decide)
  have h1 : (max 1 ((a : Int)).natAbs).log2 ≤ 5999 := PySem.W.mg_log (by
    rw [Int.natAbs_natCast]
    show max 1 a < 2 ^ 6000
    generalize (2 : Nat) ^ 6000 = Z at ha e4
    omega)
  have h2 : (max ((a : Int)).natAbs ((b : Int)).natAbs).log2 ≤ 5999 := PySem.W.mg_log (by
    rw [Int.natAbs_natCast, Int.natAbs_natCast]
    show max a b < 2 ^ 6000
    generalize (2 : Nat) ^ 6000 = Z at ha hb
    omega)
  have h3 : Nat.lcm a b < 2 ^ 12000 := by
    refine Nat.lt_of_le_of_lt (PySem.W.mc_lcm_le a b) ?_
    rw [show (12000 : Nat) = 6000 + 6000 from rfl, Nat.pow_add]
    exact Nat.mul_lt_mul'' ha hb
  have hsz : ((((Nat.lcm 1 ((a : Int)).natAbs).lcm ((b : Int)).natAbs : Nat) : Int)).natAbs.log2 < bitsLine := by
    rw [e1, Int.natAbs_natCast]
    refine Nat.lt_of_le_of_lt (PySem.W.mg_log (k := 11999) h3) (by decide)
  refine call_function_meets PySem.W.MGF.kind_lcm PySem.W.MGF.plain_lcm PySem.W.MGF.entry_lcm (PySem.W.MGF.args_lcm _ _) (PySem.W.mg_run_lcm (a : Int) t (b : Int) u (by omega) (by omega) hsz).meets ?_
  rw [e1]
  exact ⟨.int _, H, I.tok _, ⟨_, rfl⟩, q⟩
end
theorem KT.updL {K : PySem.W.Frag} {H : Hp} {e : Addr} {xs ys : List V} (h : H e = some (.lst xs)) : KT K H (upd H e (.lst ys)) := fun a zs q => by
  rcases q with (q | ⟨o, q⟩) | q
  · exact .inl (.inl (by rw [upd_ne (ne_of q h (by intro z; cases z))]; exact q))
  · exact .inl (.inr ⟨o, by rw [upd_ne (ne_of q h (by intro z; cases z))]; exact q⟩)
  · exact .inr q
def iLT (K : PySem.W.Frag) (tl : TE) : TI := fun σ H R => tl σ H fun x H1 => ∃ a xs, x = .ref a ∧ (SqL K H1 a xs ∨ SqT K H1 a xs) ∧ ∀ (J : It) (G : Hp → Prop), Walk J xs.length G (YAt xs) → (∀ H', Same H1 H' → G H') → R J H1
theorem k_iLT {X : Cx} {K : PySem.W.Frag} (hK : X.K = K) {tg l : Expr} {tl : TE} (hl : PE X l tl) : PI X tg l (iLT K tl) := by
  subst hK
  refine ⟨fun pins s σ H R I h => ?_⟩
  refine thn (hl.run pins s σ H _ I h) fun v s1 ⟨x, H1, I1, r1, q1⟩ => ?_
  obtain ⟨a, xs, e, hq, q⟩ := q1
  subst e
  cases r1
  rcases hq with hq | hq
  · obtain ⟨its, rv, p, hz⟩ := I1.list hq
    refine wpAny_pyIter_list p.isList ?_
    refine ⟨s1.heap.objs.size, [s1.heap.objs.size], _, _, H1, rfl, I1.kept (t' := s1.toks) fun b o e => Heap.get?_push_of_some _ e, turn_list a _, ⟨_, Heap.get?_push_size _ rfl, rfl, rfl⟩, fun b hb => ?_, q _ _ walk_list fun H' s => s.seq hq⟩
    have e : b = s1.heap.objs.size := by simpa using hb
    subst e
    exact I1.fpOk (Nat.le_refl _) (I1.hok.fresh (Nat.le_refl _))
  · obtain ⟨its, rv, p, hz⟩ := I1.tuple hq
    refine wpAny_pyIter_tuple (show s1.heap.IsTuple a its.toArray from p) ?_
    refine ⟨s1.heap.objs.size, [s1.heap.objs.size], _, _, H1, rfl, I1.kept (t' := s1.toks) fun b o e => Heap.get?_push_of_some _ e, turn_tuple a _, ⟨_, Heap.get?_push_size _ rfl, rfl, rfl⟩, fun b hb => ?_, q _ _ walk_tup fun H' s => Same.kt s _ _ hq⟩
    have e : b = s1.heap.objs.size := by simpa using hb
    subst e
    exact I1.fpOk (Nat.le_refl _) (I1.hok.fresh (Nat.le_refl _))
/-- xs[i] of a list or a tuple, whichever it is -/
def rIxLT (K : PySem.W.Frag) : V → V → Hp → VK → Prop := fun x y H Q => ∃ (p : Addr) (xs : List V) (i : Int) (v : V), x = .ref p ∧ y = .int i ∧ (SqL K H p xs ∨ SqT K H p xs) ∧ atI xs i = some v ∧ Q v H
theorem k_ixLT {X : Cx} {K : PySem.W.Frag} (hK : X.K = K) : IxR X (rIxLT K) := by
  subst hK
  intro value slice pins s σ H x y v u Q I rx ry h hs
  obtain ⟨p, xs, j, z, e1, e2, hq, he, q⟩ := h
  rcases hq with hq | hq
  · exact ix_list value slice pins s σ H x y v u Q I rx ry ⟨p, xs, j, z, e1, e2, hq, he, q⟩ hs
  · exact ix_tup value slice pins s σ H x y v u Q I rx ry ⟨p, xs, j, z, e1, e2, hq, he, q⟩ hs
def iEnumLT (K : PySem.W.Frag) (ta : TA) : TI := fun σ H R => ta σ H fun vs H1 => ∃ a xs, vs = [.ref a] ∧ (SqL K H1 a xs ∨ SqT K H1 a xs) ∧ ∀ (J : It) (G : Hp → Prop), Walk J xs.length G (YPair (fun i => some (.int (i : Nat))) (fun i => xs[i]?)) → (∀ H', Same H1 H' → G H') → R J H1
theorem k_enumLT {X : Cx} {K : PySem.W.Frag} (hK : X.K = K) {e : Expr} {ta : TA} {p pos tpos : Pos} {elts : List Expr} {kk : Nat} (hg : Gl X "enumerate") (hm : X.mg "enumerate" = none) (ha : PA X [e] ta) (hs : starEach [e] X.env = [(false, eval e X.env)] := by rfl) :
    PI X (.Tuple elts kk tpos) (.Call (.Name "enumerate" p) [e] [] pos) (iEnumLT K ta) := by
  subst hK
  refine ⟨fun pins s σ H R I h => Call_ (ld_blt I hg hm boot_enumerate (PyProof.Rows.callWith_type1 (thn (ha.run pos pins s σ H _ I h) fun us s1 hq => ?_) hs rfl))⟩
  obtain ⟨vs, H1, I1, r1, a, xs, rfl, hT, q⟩ := hq
  rw [Vals.ref1 r1]
  rcases hT with hT | hT
  · obtain ⟨its, rv, p', hz⟩ := I1.list hT
    refine call_enumerate_list p'.isList fun h' he hit hsz hk => wpAny_pyIter_enum he ?_
    have I2 : Inv X pins σ H1 { s1 with heap := h' } := I1.kept (t' := s1.toks) hk
    refine ⟨s1.heap.objs.size + 1, [s1.heap.objs.size + 1, s1.heap.objs.size], _, _, H1, rfl, I2, turn_enum a (s1.heap.objs.size + 1) s1.heap.objs.size, ⟨⟨.none, he⟩, hit, Nat.succ_ne_self _⟩, fun b hb => ?_, q _ _ walk_enum fun H' s => s.seq hT⟩
    have e' : b = s1.heap.objs.size + 1 ∨ b = s1.heap.objs.size := by simpa using hb
    have hle : s1.heap.objs.size ≤ b := by
      rcases e' with z | z
      · rw [z]; exact Nat.le_add_right _ _
      · rw [z]; exact Nat.le_refl _
    exact I1.fpOk hle (I1.hok.fresh hle)
  · obtain ⟨its, rv, pt, hz⟩ := I1.tuple hT
    have hat : a < s1.heap.objs.size := by
      obtain ⟨o, ho, _⟩ := id pt
      exact Heap.lt_size ho
    refine enum_tup (show s1.heap.IsTuple a its.toArray from pt) fun h' he hit hk => wpAny_pyIter_enum he ?_
    have I2 : Inv X pins σ H1 { s1 with heap := h' } := I1.kept (t' := s1.toks) hk
    refine ⟨_, [s1.heap.objs.size + 1, s1.heap.objs.size], _, _, H1, rfl, I2, turn_enumT a (s1.heap.objs.size + 1) s1.heap.objs.size, ⟨⟨.none, he⟩, hit, Nat.succ_ne_self _, Nat.ne_of_gt (Nat.lt_succ_of_lt hat), Nat.ne_of_lt hat⟩, fun b hb => ?_, q _ _ walk_enumT fun H' s => Same.kt s _ _ hT⟩
    have hle : s1.heap.objs.size ≤ b := by
      rcases (show b = s1.heap.objs.size + 1 ∨ b = s1.heap.objs.size by simpa using hb) with z | z
      · rw [z]; exact Nat.le_succ _
      · rw [z]; exact Nat.le_refl _
    exact I1.fpOk hle (I1.hok.fresh hle)
/-! comprehensions whose items are told one by one -/
theorem lc_td {K : PySem.W.Frag} {J : It} {n : Nat} {G : Hp → Prop} {Y : Nat → Hp → V → Hp → Prop} (w : Walk J n G Y) {g : TG} {tt : TT} {te : TE} {vs : List Nat} {σ : L2.St} {H : Hp} {T : Addr} {Qd : Hp → Prop} (es : List PyData) (hl : es.length = n) (hn : n ≤ 3000) (hT : H T = none) (hG : ∀ H', Same H H' → G H')
    (hs : ∀ (i : Nat) (x : V) (e : PyData) (H2 H3 : Hp) (Qy : V → Hp → Prop) (N : Hp → Prop), es[i]? = some e → Same H H2 → Y i H2 x H3 → (∀ y H5, Same H2 H5 → Td K H5 y e → Qy y H5) → g x (wipe σ vs) H3 fun σ2 H4 => wipe σ2 vs = wipe σ vs ∧ tt σ2 H4 fun b H5 => if b = true then te σ2 H5 Qy else N H5)
    (hd : ∀ H2 ws, H2 T = some (.lst ws) → TdAll K H2 ws es → Same H H2 → Qd H2) :
    ∃ W : Nat → Nat → Hp → Prop, (∃ m, W 0 m (upd H T (.lst []))) ∧ ∀ i m H, W i m H →
      (J.stop i H ∧ Qd H) ∨ (J.go i H ∧ ∃ Nx : Hp → Prop, (∀ H', Nx H' → ∃ m', m' < m ∧ W (i + 1) m' H') ∧ ∀ x H', J.yld i H x H' → g x (wipe σ vs) H' fun σ2 H2 => wipe σ2 vs = wipe σ vs ∧ tt σ2 H2 fun b H3 =>
        if b = true then te σ2 H3 fun y H4 => ∃ acc, H4 T = some (.lst acc) ∧ acc.length < sizeLine ∧ Nx (upd H4 T (.lst (acc ++ [y]))) else Nx H3) := by
  refine lc_it w (fun i H2 => ∃ ws : List V, H2 T = some (.lst ws) ∧ TdAll K H2 ws (es.take i) ∧ Same H H2) ⟨[], upd_same, .nil, same_upd hT⟩ (fun i H2 _ h => hG _ h.choose_spec.2.2) ?_ ?_
  · rintro i x H2 H3 hi ⟨ws, h2, t2, s2⟩ y
    have he : es[i]? = some (es[i]'(by omega)) := List.getElem?_eq_getElem _
    refine hs i x _ H2 H3 _ _ he s2 y fun v H5 s5 tv => ?_
    have h5 := s5 _ _ h2
    have kT : KT K H5 (upd H5 T (.lst (ws ++ [v]))) := KT.updL h5
    refine ⟨ws, h5, ?_, ws ++ [v], upd_same, ?_, fun c o z => ?_⟩
    · rw [t2.len, List.length_take]
      have : (3000 : Nat) < sizeLine := by decide
      omega
    · rw [List.take_add_one, he]
      exact (t2.keep ((Same.kt s5).trans kT)).app (.cons (tv.keep kT) .nil)
    · rw [upd_ne (ne_of_none z hT)]
      exact s5 _ _ (s2 _ _ z)
  · rintro H2 ⟨ws, h2, t2, s2⟩
    rw [List.take_of_length_le (by omega)] at t2
    exact hd H2 ws h2 t2 s2
end Tl
namespace Tl
open PySem PySem.Spec PyProof.Rows L2 RZ
def topS (i : Nat) : Stmt := PySem.Challenge.pw_tellsless_k18_whole_paid_by_own_sums.main.body.getD i (.Pass ⟨0, 0, 0, 0⟩)
abbrev s_BadHouse_init : Stmt := inClass (topS 3) 0
theorem sc_BadHouse_init : FnScope ["self", "place"] ["self", "place"] (defScope s_BadHouse_init) := ⟨rfl, rfl, rfl, by decide +kernel, rfl, by decide +kernel, by decide +kernel⟩
abbrev s_is_integral : Stmt := topS 7
theorem sc_is_integral : FnScope ["thing"] ["thing"] (defScope s_is_integral) := ⟨rfl, rfl, rfl, by decide +kernel, rfl, by decide +kernel, by decide +kernel⟩
abbrev s_is_number : Stmt := topS 8
theorem sc_is_number : FnScope ["thing", "least", "most"] ["thing", "least", "most"] (defScope s_is_number) := ⟨rfl, rfl, rfl, by decide +kernel, rfl, by decide +kernel, by decide +kernel⟩
abbrev s_is_fraction : Stmt := topS 9
theorem sc_is_fraction : FnScope ["thing", "top", "bottom"] ["thing"] (defScope s_is_fraction) := ⟨rfl, rfl, rfl, by decide +kernel, rfl, by decide +kernel, by decide +kernel⟩
abbrev s_is_chance : Stmt := topS 10
theorem sc_is_chance : FnScope ["thing"] ["thing"] (defScope s_is_chance) := ⟨rfl, rfl, rfl, by decide +kernel, rfl, by decide +kernel, by decide +kernel⟩
abbrev s_are_fractions : Stmt := topS 11
theorem sc_are_fractions : FnScope ["thing", "many", "fraction"] ["thing", "many"] (defScope s_are_fractions) := ⟨rfl, rfl, rfl, by decide +kernel, rfl, by decide +kernel, by decide +kernel⟩
abbrev s_are_chances : Stmt := topS 12
theorem sc_are_chances : FnScope ["thing", "many", "chance"] ["thing", "many"] (defScope s_are_chances) := ⟨rfl, rfl, rfl, by decide +kernel, rfl, by decide +kernel, by decide +kernel⟩
abbrev s_is_prior : Stmt := topS 13
theorem sc_is_prior : FnScope ["thing", "worlds"] ["thing", "worlds"] (defScope s_is_prior) := ⟨rfl, rfl, rfl, by decide +kernel, rfl, by decide +kernel, by decide +kernel⟩
abbrev s_reduced : Stmt := topS 14
theorem sc_reduced : FnScope ["top", "bottom", "common"] ["top", "bottom"] (defScope s_reduced) := ⟨rfl, rfl, rfl, by decide +kernel, rfl, by decide +kernel, by decide +kernel⟩
abbrev s_added : Stmt := topS 15
theorem sc_added : FnScope ["first", "second"] ["first", "second"] (defScope s_added) := ⟨rfl, rfl, rfl, by decide +kernel, rfl, by decide +kernel, by decide +kernel⟩
abbrev s_multiplied : Stmt := topS 16
theorem sc_multiplied : FnScope ["first", "second"] ["first", "second"] (defScope s_multiplied) := ⟨rfl, rfl, rfl, by decide +kernel, rfl, by decide +kernel, by decide +kernel⟩
abbrev s_common_bottom : Stmt := topS 17
theorem sc_common_bottom : FnScope ["fractions", "bottom", "fraction"] ["fractions"] (defScope s_common_bottom) := ⟨rfl, rfl, rfl, by decide +kernel, rfl, by decide +kernel, by decide +kernel⟩
abbrev s_times_whole : Stmt := topS 18
theorem sc_times_whole : FnScope ["fraction", "whole"] ["fraction", "whole"] (defScope s_times_whole) := ⟨rfl, rfl, rfl, by decide +kernel, rfl, by decide +kernel, by decide +kernel⟩
abbrev s_total : Stmt := topS 19
theorem sc_total : FnScope ["fractions", "whole", "fraction"] ["fractions"] (defScope s_total) := ⟨rfl, rfl, rfl, by decide +kernel, rfl, by decide +kernel, by decide +kernel⟩
abbrev s_total_weights : Stmt := topS 20
theorem sc_total_weights : FnScope ["rows", "worlds", "weights", "world"] ["rows", "worlds"] (defScope s_total_weights) := ⟨rfl, rfl, rfl, by decide +kernel, rfl, by decide +kernel, by decide +kernel⟩
abbrev s_is_paying : Stmt := topS 22
theorem sc_is_paying : FnScope ["thing", "answer", "worlds"] ["thing", "answer", "worlds"] (defScope s_is_paying) := ⟨rfl, rfl, rfl, by decide +kernel, rfl, by decide +kernel, by decide +kernel⟩
abbrev s_is_asking : Stmt := topS 23
theorem sc_is_asking : FnScope ["thing", "question", "worlds", "rows", "row", "answer"] ["thing", "question", "worlds"] (defScope s_is_asking) := ⟨rfl, rfl, rfl, by decide +kernel, rfl, by decide +kernel, by decide +kernel⟩
abbrev s_is_table : Stmt := topS 24
theorem sc_is_table : FnScope ["thing", "node", "worlds", "asking", "question", "top", "bottom"] ["thing", "node", "worlds"] (defScope s_is_table) := ⟨rfl, rfl, rfl, by decide +kernel, rfl, by decide +kernel, by decide +kernel⟩
abbrev s_is_test : Stmt := topS 25
theorem sc_is_test : FnScope ["house", "thing"] ["house", "thing"] (defScope s_is_test) := ⟨rfl, rfl, rfl, by decide +kernel, rfl, by decide +kernel, by decide +kernel⟩
abbrev s_check_test : Stmt := topS 26
theorem sc_check_test : FnScope ["house", "thing"] ["house", "thing"] (defScope s_check_test) := ⟨rfl, rfl, rfl, by decide +kernel, rfl, by decide +kernel, by decide +kernel⟩
abbrev s_paid_for : Stmt := topS 27
theorem sc_paid_for : FnScope ["prior", "weights", "pays", "chance", "weight", "pay"] ["prior", "weights", "pays"] (defScope s_paid_for) := ⟨rfl, rfl, rfl, by decide +kernel, rfl, by decide +kernel, by decide +kernel⟩
abbrev s_paid_at : Stmt := topS 28
theorem sc_paid_at : FnScope ["prior", "node", "table", "means", "question", "chance", "rows", "pays", "answer", "row"] ["prior", "node", "table"] (defScope s_paid_at) := ⟨rfl, rfl, rfl, by decide +kernel, rfl, by decide +kernel, by decide +kernel⟩
abbrev s_paid : Stmt := topS 29
theorem sc_paid : FnScope ["house", "test", "prior", "table"] ["house", "test"] (defScope s_paid) := ⟨rfl, rfl, rfl, by decide +kernel, rfl, by decide +kernel, by decide +kernel⟩
abbrev s_is_word : Stmt := topS 36
theorem sc_is_word : FnScope ["thing", "number"] ["thing"] (defScope s_is_word) := ⟨rfl, rfl, rfl, by decide +kernel, rfl, by decide +kernel, by decide +kernel⟩
abbrev s_is_answer : Stmt := topS 37
theorem sc_is_answer : FnScope ["thing", "worlds"] ["thing", "worlds"] (defScope s_is_answer) := ⟨rfl, rfl, rfl, by decide +kernel, rfl, by decide +kernel, by decide +kernel⟩
abbrev s_is_ascending : Stmt := topS 38
theorem sc_is_ascending : FnScope ["rows", "low", "high"] ["rows"] (defScope s_is_ascending) := ⟨rfl, rfl, rfl, by decide +kernel, rfl, by decide +kernel, by decide +kernel⟩
abbrev s_check_tree : Stmt := topS 39
theorem sc_check_tree : FnScope ["worlds", "tree"] ["worlds", "tree"] (defScope s_check_tree) := ⟨rfl, rfl, rfl, by decide +kernel, rfl, by decide +kernel, by decide +kernel⟩
abbrev s_check_node : Stmt := topS 40
theorem sc_check_node : FnScope ["node", "place", "ahead", "number", "question"] ["node", "place", "ahead"] (defScope s_check_node) := ⟨rfl, rfl, rfl, by decide +kernel, rfl, by decide +kernel, by decide +kernel⟩
abbrev s_check_question : Stmt := topS 41
theorem sc_check_question : FnScope ["question", "place", "ahead", "number", "answer"] ["question", "place", "ahead"] (defScope s_check_question) := ⟨rfl, rfl, rfl, by decide +kernel, rfl, by decide +kernel, by decide +kernel⟩
abbrev s_answers_in : Stmt := topS 42
theorem sc_answers_in : FnScope ["node", "many", "question", "answer"] ["node"] (defScope s_answers_in) := ⟨rfl, rfl, rfl, by decide +kernel, rfl, by decide +kernel, by decide +kernel⟩
abbrev s_House_init : Stmt := inClass (topS 44) 0
theorem sc_House_init : FnScope ["self", "worlds", "tree"] ["self", "worlds", "tree"] (defScope s_House_init) := ⟨rfl, rfl, rfl, by decide +kernel, rfl, by decide +kernel, by decide +kernel⟩
abbrev s_House_eq : Stmt := inClass (topS 44) 1
theorem sc_House_eq : FnScope ["self", "other"] ["self", "other"] (defScope s_House_eq) := ⟨rfl, rfl, rfl, by decide +kernel, rfl, by decide +kernel, by decide +kernel⟩
abbrev s_law_bag : Stmt := topS 46
theorem sc_law_bag : FnScope ["script", "seed", "cell", "great", "always"] ["script"] (defScope s_law_bag) := ⟨rfl, rfl, rfl, by decide +kernel, rfl, by decide +kernel, by decide +kernel⟩
abbrev s_law_pick : Stmt := topS 47
theorem sc_law_pick : FnScope ["bag", "many", "great", "digit", "number"] ["bag", "many"] (defScope s_law_pick) := ⟨rfl, rfl, rfl, by decide +kernel, rfl, by decide +kernel, by decide +kernel⟩
abbrev s_law_some : Stmt := topS 48
theorem sc_law_some : FnScope ["bag", "things"] ["bag", "things"] (defScope s_law_some) := ⟨rfl, rfl, rfl, by decide +kernel, rfl, by decide +kernel, by decide +kernel⟩
abbrev s_law_common : Stmt := topS 49
theorem sc_law_common : FnScope ["one", "other"] ["one", "other"] (defScope s_law_common) := ⟨rfl, rfl, rfl, by decide +kernel, rfl, by decide +kernel, by decide +kernel⟩
abbrev s_law_low : Stmt := topS 50
theorem sc_law_low : FnScope ["top", "bottom", "common"] ["top", "bottom"] (defScope s_law_low) := ⟨rfl, rfl, rfl, by decide +kernel, rfl, by decide +kernel, by decide +kernel⟩
abbrev s_law_plus : Stmt := topS 51
theorem sc_law_plus : FnScope ["one", "other"] ["one", "other"] (defScope s_law_plus) := ⟨rfl, rfl, rfl, by decide +kernel, rfl, by decide +kernel, by decide +kernel⟩
abbrev s_law_times : Stmt := topS 52
theorem sc_law_times : FnScope ["one", "other"] ["one", "other"] (defScope s_law_times) := ⟨rfl, rfl, rfl, by decide +kernel, rfl, by decide +kernel, by decide +kernel⟩
abbrev s_law_shares : Stmt := topS 53
theorem sc_law_shares : FnScope ["bag", "many", "least", "parts", "k", "part"] ["bag", "many", "least"] (defScope s_law_shares) := ⟨rfl, rfl, rfl, by decide +kernel, rfl, by decide +kernel, by decide +kernel⟩
abbrev s_law_question : Stmt := topS 54
theorem sc_law_question : FnScope ["bag", "worlds", "ahead", "levels", "left", "many", "rows", "world", "found", "k", "word", "weights"] ["bag", "worlds", "ahead", "levels", "left"] (defScope s_law_question) := ⟨rfl, rfl, rfl, by decide +kernel, rfl, by decide +kernel, by decide +kernel⟩
abbrev s_law_node : Stmt := topS 55
theorem sc_law_node : FnScope ["bag", "worlds", "ahead", "levels", "left", "k"] ["bag", "worlds", "ahead", "levels", "left"] (defScope s_law_node) := ⟨rfl, rfl, rfl, by decide +kernel, rfl, by decide +kernel, by decide +kernel⟩
abbrev s_law_tree : Stmt := topS 56
theorem sc_law_tree : FnScope ["bag", "worlds", "levels", "answers", "ahead", "left", "some", "k"] ["bag", "worlds", "levels", "answers"] (defScope s_law_tree) := ⟨rfl, rfl, rfl, by decide +kernel, rfl, by decide +kernel, by decide +kernel⟩
abbrev s_law_paths : Stmt := topS 57
theorem sc_law_paths : FnScope ["node", "path", "found", "q", "question", "a", "word", "weights", "behind"] ["node", "path"] (defScope s_law_paths) := ⟨rfl, rfl, rfl, by decide +kernel, rfl, by decide +kernel, by decide +kernel⟩
abbrev s_law_is : Stmt := topS 58
theorem sc_law_is : FnScope ["found", "due"] ["found", "due"] (defScope s_law_is) := ⟨rfl, rfl, rfl, by decide +kernel, rfl, by decide +kernel, by decide +kernel⟩
abbrev s_law_with_hopeless : Stmt := topS 59
theorem sc_law_with_hopeless : FnScope ["bag", "worlds", "node", "found", "question", "answers", "word", "weights", "behind", "nought"] ["bag", "worlds", "node"] (defScope s_law_with_hopeless) := ⟨rfl, rfl, rfl, by decide +kernel, rfl, by decide +kernel, by decide +kernel⟩
abbrev s_law_reweighted : Stmt := topS 60
theorem sc_law_reweighted : FnScope ["bag", "worlds", "node", "ahead", "found", "question", "rows", "world", "answers", "k", "word", "weights", "behind", "there"] ["bag", "worlds", "node", "ahead"] (defScope s_law_reweighted) := ⟨rfl, rfl, rfl, by decide +kernel, rfl, by decide +kernel, by decide +kernel⟩
abbrev s_law_house : Stmt := topS 61
theorem sc_law_house : FnScope ["bag", "levels", "answers", "worlds", "tree"] ["bag", "levels", "answers"] (defScope s_law_house) := ⟨rfl, rfl, rfl, by decide +kernel, rfl, by decide +kernel, by decide +kernel⟩
abbrev s_law_table : Stmt := topS 62
theorem sc_law_table : FnScope ["bag", "worlds", "node", "found", "chances", "q", "question", "rows", "word", "weights", "behind", "pays", "world"] ["bag", "worlds", "node"] (defScope s_law_table) := ⟨rfl, rfl, rfl, by decide +kernel, rfl, by decide +kernel, by decide +kernel⟩
abbrev s_law_test : Stmt := topS 63
theorem sc_law_test : FnScope ["bag", "worlds", "tree"] ["bag", "worlds", "tree"] (defScope s_law_test) := ⟨rfl, rfl, rfl, by decide +kernel, rfl, by decide +kernel, by decide +kernel⟩
abbrev s_law_numbers : Stmt := topS 64
theorem sc_law_numbers : FnScope ["worlds", "test", "found", "left", "path", "ahead", "table", "q", "chance", "rows", "here", "a", "pays", "behind", "world", "part"] ["worlds", "test"] (defScope s_law_numbers) := ⟨rfl, rfl, rfl, by decide +kernel, rfl, by decide +kernel, by decide +kernel⟩
abbrev s_law_paid : Stmt := topS 65
theorem sc_law_paid : FnScope ["worlds", "tree", "numbers", "found", "path", "weights", "node", "world"] ["worlds", "tree", "numbers"] (defScope s_law_paid) := ⟨rfl, rfl, rfl, by decide +kernel, rfl, by decide +kernel, by decide +kernel⟩
abbrev s_law : Stmt := topS 66
theorem sc_law : FnScope ["script", "bag", "turn", "worlds", "tree", "test", "due", "other"] ["script"] (defScope s_law) := ⟨rfl, rfl, rfl, by decide +kernel, rfl, by decide +kernel, by decide +kernel⟩
end Tl
namespace Tl
open PySem PySem.Spec PyProof.Rows L2 RZ
/-- a def of the text as it stands behind the top -/
structure Dn (K : PySem.W.Frag) (mg : Str → Option Value) (x : Str) (st : Stmt) (ps : List Str) (f : Addr) (fd : FuncData) : Prop where
  F : Fun K x x st f fd
  b : Binds K fd ps []
  m : mg x = some (.ref f)
/-- the built-in names that the text uses -/
structure Blt (mg : Str → Option Value) : Prop where
  len : mg "len" = none
  int : mg "int" = none
  abs : mg "abs" = none
  sum : mg "sum" = none
  range : mg "range" = none
  repr : mg "repr" = none
  isinstance : mg "isinstance" = none
  any : mg "any" = none
  all : mg "all" = none
  tuple : mg "tuple" = none
  list : mg "list" = none
  zip : mg "zip" = none
  enumerate : mg "enumerate" = none
  max : mg "max" = none
  bool : mg "bool" = none
def spPick : Sp := fun vs H Q _ => ∃ (b g : Addr) (m : Int), vs = [.ref b, .int m] ∧ Bag H b g ∧ 0 < m ∧ m < 1000000 ∧
  ∀ (r : Int) (H' : Hp), 0 ≤ r → r < m → Bag H' b g → Frm b g H H' → Q (.int r) H'
theorem Bag.mk2 {H : Hp} {b g : Addr} {s c : Int} {al : V} {gs : List Int} (ne : b ≠ g) (hal : al = .non ∨ ∃ n, al = .int n) (h1 : H b = some (.lst [.int s, .int c, .ref g, al])) (h2 : H g = some (.lst (gs.map V.int))) (h3 : gs.length ≤ 63) : Bag H b g :=
  ⟨ne, ⟨s, c, al, h1, hal⟩, ⟨gs, h2, h3⟩⟩
section
variable {P : Program} {w : World} {K : PySem.W.Frag} {mg : Str → Option Value} {base : Heap}
theorem ok_law_pick {f : Addr} {fd : FuncData} (D : Dn K mg "_law_pick" s_law_pick ["bag", "many"] f fd) (B : Blt mg) : FnOk P w K mg base CX0 1 f fd ["bag", "many"] spPick := by
  refine D.F.ok sc_law_pick (fun vs H Q E h => ?_) (fun cdv A outer s H vs Q E hr h => ?_)
  · obtain ⟨b, g, m, rfl, _⟩ := h
    rfl
  obtain ⟨b, g, m, rfl, hB, hm0, hm1, q⟩ := h
  have nd := sc_law_pick.nd
  refine ⟨_, (pss_cons (ps_if (pt_cmpR op_notN (pe_ix (k_ixL (K := K) rfl) (pv 0) pe_int (fun _ _ => rfl)) pe_non (nomark _)) (pss_one (ps_ret (pe_op op_mod (pe_callTy call_int1 (by rfl) B.int (by decide +kernel) (pa_cons (pe_ix (k_ixL (K := K) rfl) (pv 0) pe_int (fun _ _ => rfl)) pa_nil)) (pv 1)))) pss_nil)
      (pss_cons (ps_asg (pe_op op_add (pe_ix (k_ixL (K := K) rfl) (pv 0) pe_int (fun _ _ => rfl)) pe_int) (pg_sub (pv 0) pe_int set_list))
      (pss_cons (ps_set (i := 2) nd rfl (.inl rfl) (pe_ix (k_ixL (K := K) rfl) (pv 0) pe_int (fun _ _ => rfl)))
      (pss_cons (ps_if (pt_cmpR op_gt (pe_callB (k_len (K := K) rfl) (by rfl) B.len PySem.boot_len (pa_cons (pv 2) pa_nil)) pe_int (nomark _)) (pss_cons (ps_set (i := 3) nd rfl (.inl rfl) (pe_op op_mod (pe_callTy call_int1 (by rfl) B.int (by decide +kernel) (pa_cons (pe_ix (k_ixL (K := K) rfl) (pv 2) pe_int (fun _ _ => rfl)) pa_nil)) (pv 1)))
      (pss_cons (ps_asg (pe_op op_fdivW (pe_callTy call_int1 (by rfl) B.int (by decide +kernel) (pa_cons (pe_ix (k_ixL (K := K) rfl) (pv 2) pe_int (fun _ _ => rfl)) pa_nil)) (pv 1)) (pg_sub (pv 2) pe_int set_list))
      (pss_cons (ps_if (pt_cmpR op_eq (pe_ix (k_ixL (K := K) rfl) (pv 2) pe_int (fun _ _ => rfl)) pe_int (nomark _)) (pss_one (ps_expr (pe_bm PySem.F.plainAttrs_list PySem.F.slot_list_pop PySem.F.type_list_pop mt_popAt (pv 2) (pa_cons pe_int pa_nil)))) pss_nil)
      (pss_one (ps_ret (pv 3)))))) pss_nil)
      (pss_cons (ps_set (i := 4) nd rfl (.inl rfl) (pe_op op_mod (pe_callTy call_int1 (by rfl) B.int (by decide +kernel) (pa_cons (pe_op op_mul (pe_op op_add (pe_ix (k_ixL (K := K) rfl) (pv 0) pe_int (fun _ _ => rfl)) (pe_op op_mul pe_int (pe_ix (k_ixL (K := K) rfl) (pv 0) pe_int (fun _ _ => rfl)))) pe_int) pa_nil)) pe_int))
      (pss_cons (ps_set (i := 4) nd rfl (.inl rfl) (pe_op op_mod (pe_callTy call_int1 (by rfl) B.int (by decide +kernel) (pa_cons (pe_op op_mul (pv 4) (pe_op op_add (pe_op op_fdivW (pv 4) pe_int) pe_int)) pa_nil)) pe_int))
      (pss_cons (ps_set (i := 4) nd rfl (.inl rfl) (pe_op op_mod (pe_callTy call_int1 (by rfl) B.int (by decide +kernel) (pa_cons (pe_op op_mul (pv 4) (pe_op op_add (pe_op op_fdivW (pv 4) pe_int) pe_int)) pa_nil)) pe_int))
      (pss_one (ps_ret (pe_op op_mod (pe_callTy call_int1 (by rfl) B.int (by decide +kernel) (pa_cons (pe_op op_fdivW (pv 4) pe_int) pa_nil)) (pv 1))))))))))), ?_⟩
  obtain ⟨s0, c0, al, hb, hal⟩ := hB.hb
  obtain ⟨gs, hg, hgl⟩ := hB.hg
  have hne := hB.ne
  refine ⟨_, rfl, b, _, 3, _, rfl, rfl, SqL.of hb, at_of (j := 3) rfl rfl, rfl, _, rfl, ?_⟩
  refine ite2 (fun c => ?_) (fun c => ?_)
  · -- always
    have c' : al ≠ .non := by simpa using c
    obtain ⟨n, rfl⟩ : ∃ n, al = .int n := by
      rcases hal with h | h
      · exact absurd h c'
      · exact h
    refine ⟨_, rfl, b, _, 3, _, rfl, rfl, SqL.of hb, at_of (j := 3) rfl rfl, .inl ⟨_, rfl, _, rfl, _, _, rfl, rfl, hm0, ?_⟩⟩
    exact q _ H (Int.emod_nonneg _ (by omega)) (Int.emod_lt_of_pos _ hm0) hB (Frm.refl _ _ _)
  -- bag[1] = bag[1] + 1
  refine ⟨_, rfl, b, _, 1, _, rfl, rfl, SqL.of hb, at_of (j := 1) rfl rfl, _, _, rfl, rfl, _, rfl, b, _, 1, 1, rfl, rfl, hb, rfl, ?_⟩
  have hb1 : (upd H b (.lst ([V.int s0, V.int c0, V.ref g, al].set 1 (V.int (c0 + 1))))) b = some (.lst [V.int s0, V.int (c0 + 1), V.ref g, al]) := upd_same
  have hg1 : (upd H b (.lst ([V.int s0, V.int c0, V.ref g, al].set 1 (V.int (c0 + 1))))) g = some (.lst (gs.map V.int)) := by
    rw [upd_ne hne.symm]
    exact hg
  generalize hH1 : upd H b (.lst ([V.int s0, V.int c0, V.ref g, al].set 1 (V.int (c0 + 1)))) = H1 at hb1 hg1
  have f1 : Frm b g H H1 := by
    rw [← hH1]
    exact Frm.updB
  clear hH1
  -- great = bag[2]
  refine ⟨_, rfl, b, _, 2, _, rfl, rfl, SqL.of hb1, at_of (j := 2) rfl rfl, ?_⟩
  refine ⟨_, rfl, g, _, rfl, .inl (SqL.of hg1), _, _, rfl, rfl, _, rfl, ?_⟩
  refine ite2 (fun c => ?_) (fun c => ?_)
  · -- a great one
    cases gs with
    | nil => simp at c
    | cons z zs =>
      have e0 : atI ((z :: zs).map V.int) 0 = some (V.int z) := at_of (j := 0) rfl rfl
      refine ⟨_, rfl, g, _, 0, _, rfl, rfl, SqL.of hg1, e0, .inl ⟨_, rfl, _, rfl, _, _, rfl, rfl, hm0, ?_⟩⟩
      have hm2 : m.natAbs < 2 ^ 20 := by omega
      refine ⟨_, rfl, g, _, 0, _, rfl, rfl, SqL.of hg1, e0, .inl ⟨_, rfl, _, rfl, _, _, rfl, rfl, wide_div hm0 hm2 (by decide) (by decide), _, rfl, g, _, 0, 0, rfl, rfl, hg1, by simp [ixN], ?_⟩⟩
      have hg2 : (upd H1 g (.lst (((z :: zs).map V.int).set 0 (V.int (z / m))))) g = some (.lst (((z / m) :: zs).map V.int)) := upd_same
      have hb2 : (upd H1 g (.lst (((z :: zs).map V.int).set 0 (V.int (z / m))))) b = some (.lst [V.int s0, V.int (c0 + 1), V.ref g, al]) := by
        rw [upd_ne hne]
        exact hb1
      generalize hH2 : upd H1 g (.lst (((z :: zs).map V.int).set 0 (V.int (z / m)))) = H2 at hg2 hb2
      have f2 : Frm b g H H2 := by
        rw [← hH2]
        exact f1.trans Frm.updG
      clear hH2
      have e1 : atI (((z / m) :: zs).map V.int) 0 = some (V.int (z / m)) := at_of (j := 0) rfl rfl
      refine ⟨_, rfl, g, _, 0, _, rfl, rfl, SqL.of hg2, e1, rfl, _, rfl, ?_⟩
      refine ite2 (fun c => ?_) (fun c => ?_)
      · refine ⟨_, rfl, .inl ⟨rfl, _, SqL.of hg2⟩, g, _, 0, 0, _, rfl, rfl, hg2, by decide, by decide, by simp [seqIndex?], rfl, ?_⟩
        have hg3 : (upd H2 g (.lst ((((z / m) :: zs).map V.int).eraseIdx 0))) g = some (.lst (zs.map V.int)) := upd_same
        refine ⟨_, rfl, q _ _ (Int.emod_nonneg _ (by omega)) (Int.emod_lt_of_pos _ hm0) (.mk2 hne hal ((upd_ne hne).trans hb2) hg3 (by simp at hgl; omega)) (f2.trans Frm.updG)⟩
      · exact ⟨_, rfl, q _ H2 (Int.emod_nonneg _ (by omega)) (Int.emod_lt_of_pos _ hm0) (.mk2 hne hal hb2 hg2 (by simpa using hgl)) f2⟩
  · have mod0 : ∀ i j : Int, 0 < j → 0 ≤ i % j ∧ i % j < j := fun i j h => ⟨Int.emod_nonneg _ (by omega), Int.emod_lt_of_pos _ h⟩
    refine ⟨_, rfl, b, _, 0, _, rfl, rfl, SqL.of hb1, at_of (j := 0) rfl rfl, _, rfl, b, _, 1, _, rfl, rfl, SqL.of hb1, at_of (j := 1) rfl rfl, _, _, rfl, rfl, .inl ⟨by decide, by decide⟩, _, _, rfl, rfl, _, _, rfl, rfl, .inr ⟨by decide, by decide⟩, .inl ⟨_, rfl, _, _, rfl, rfl, (by show (0 : Int) < 2147483647; decide), ?_⟩⟩
    obtain ⟨l1, u1⟩ := mod0 ((s0 + 7919 * (c0 + 1)) * 48271) 2147483647 (by decide)
    generalize (s0 + 7919 * (c0 + 1)) * 48271 % 2147483647 = n1 at l1 u1 ⊢
    refine ⟨_, rfl, _, rfl, _, _, rfl, rfl, wide_div (b := 40) (by decide) (by decide) (by decide) (by decide), _, _, rfl, rfl, _, _, rfl, rfl, .inl ⟨by omega, by omega⟩, .inl ⟨_, rfl, _, _, rfl, rfl, (by show (0 : Int) < 2147483647; decide), ?_⟩⟩
    obtain ⟨l2, u2⟩ := mod0 (n1 * (n1 / 1009 + 69621)) 2147483647 (by decide)
    generalize n1 * (n1 / 1009 + 69621) % 2147483647 = n2 at l2 u2 ⊢
    refine ⟨_, rfl, _, rfl, _, _, rfl, rfl, wide_div (b := 40) (by decide) (by decide) (by decide) (by decide), _, _, rfl, rfl, _, _, rfl, rfl, .inl ⟨by omega, by omega⟩, .inl ⟨_, rfl, _, _, rfl, rfl, (by show (0 : Int) < 2147483399; decide), ?_⟩⟩
    generalize n2 * (n2 / 2003 + 40692) % 2147483399 = n3
    refine ⟨_, rfl, _, _, rfl, rfl, wide_div (b := 40) (by decide) (by decide) (by decide) (by decide), .inl ⟨_, rfl, _, rfl, _, _, rfl, rfl, hm0, ?_⟩⟩
    exact q _ H1 (mod0 _ _ hm0).1 (mod0 _ _ hm0).2 (.mk2 hne hal hb1 hg1 hgl) f1
end
end Tl
namespace Tl
open PySem PySem.Spec PyProof.Rows L2 RZ
theorem int_at {ns : List Int} {i : Nat} {y : V} (h : (ns.map V.int)[i]? = some y) : ∃ z, ns[i]? = some z ∧ y = .int z := by
  rw [List.getElem?_map] at h
  cases e : ns[i]? with
  | none =>
    rw [e] at h
    cases h
  | some z =>
    rw [e] at h
    exact ⟨z, rfl, (Option.some.inj h).symm⟩
theorem cut_ints (ns : List Int) (lo hi : Option Int) : ∃ ms : List Int, cutV (ns.map V.int) lo hi = ms.map V.int ∧ ms.length ≤ ns.length := by
  unfold cutV
  refine ⟨(ns.drop (HT.sIx (ns.map V.int).length 0 lo)).take (HT.sIx (ns.map V.int).length (ns.map V.int).length hi - HT.sIx (ns.map V.int).length 0 lo), by rw [List.map_take, List.map_drop], ?_⟩
  rw [List.length_take, List.length_drop]
  omega
def spBag (K : PySem.W.Frag) : Sp := fun vs H Q _ => ∃ (a : Addr) (ns : List Int), vs = [.ref a] ∧ SqL K H a (ns.map V.int) ∧ ns.length ≤ 63 ∧
  ∀ (b g : Addr) (H' : Hp), Same H H' → Bag H' b g → H b = none → H g = none → Q (.ref b) H'
theorem small63 {n : Nat} (h : n ≤ 63) : n < sizeLine := small1000 (by omega)
section
variable {P : Program} {w : World} {K : PySem.W.Frag} {mg : Str → Option Value} {base : Heap}
theorem ok_law_bag {f : Addr} {fd : FuncData} (D : Dn K mg "_law_bag" s_law_bag ["script"] f fd) (B : Blt mg) : FnOk P w K mg base CX0 1 f fd ["script"] (spBag K) := by
  refine D.F.ok sc_law_bag (fun vs H Q E h => ?_) (fun cdv A outer s H vs Q E hr h => ?_)
  · obtain ⟨a, ns, rfl, _⟩ := h
    rfl
  obtain ⟨a, ns, rfl, hS, hn, q⟩ := h
  have nd := sc_law_bag.nd
  refine ⟨_, (pss_cons (ps_set (i := 1) nd rfl (.inl rfl) (pe_op op_add pe_int (pe_callB (k_len (K := K) rfl) (by rfl) B.len PySem.boot_len (pa_cons (pv 0) pa_nil))))
      (pss_cons (ps_for PassesOwn.never rfl (k_iL (K := K) rfl (pe_slice (k_slL (K := K) rfl) (pv 0) po_none (po_some pe_int))) (pg_name (i := 2) nd rfl (.inl rfl)) (pss_one (ps_set (i := 1) nd rfl (.inl rfl) (pe_op op_mod (pe_callTy call_int1 (by rfl) B.int (by decide +kernel) (pa_cons (pe_op op_add (pe_op op_add (pe_op op_mul (pv 1) pe_int) (pe_op op_mod (pe_callTy call_int1 (by rfl) B.int (by decide +kernel) (pa_cons (pv 2) pa_nil)) pe_int)) pe_int) pa_nil)) pe_int))))
      (pss_cons (ps_setLc (i := 3) (own := [("cell", 2)]) rfl nd rfl rfl (sw_true rfl rfl rfl (by decide +kernel)) (k_iL (K := K) rfl (pe_slice (k_slL (K := K) rfl) (pv 0) po_none (po_some pe_int))) (blkOk_by (own := [("cell", 2)]) (by kernel_rfl)) (fun _ _ _ _ _ => (pg_name (i := 2) nd rfl (.inl rfl))) (fun _ _ _ _ _ => pts_one (pt_cmpR op_ge (pe_callB call_abs (by rfl) B.abs (by decide +kernel) (pa_cons (pe_callTy call_int1 (by rfl) B.int (by decide +kernel) (pa_cons (pv 2) pa_nil)) pa_nil)) (pe_op op_pow pe_int pe_int) (nomark _))) (fun _ _ _ _ _ => (pe_callB call_abs (by rfl) B.abs (by decide +kernel) (pa_cons (pe_callTy call_int1 (by rfl) B.int (by decide +kernel) (pa_cons (pv 2) pa_nil)) pa_nil))))
      (pss_cons (ps_set (i := 4) nd rfl (.inl rfl) pe_non)
      (pss_cons (ps_if (PW.pt (pw_and (pt_cmpR op_lt (pe_callB (k_len (K := K) rfl) (by rfl) B.len PySem.boot_len (pa_cons (pv 0) pa_nil)) pe_int (nomark _)) (pw_and1 (pt_cmpR op_eq (pe_callB (k_len (K := K) rfl) (by rfl) B.len PySem.boot_len (pa_cons (pv 3) pa_nil)) pe_int (nomark _))))) (pss_one (ps_set (i := 4) nd rfl (.inl rfl) (pe_callB call_abs (by rfl) B.abs (by decide +kernel) (pa_cons (pe_callB (k_sum (K := K) rfl rfl) (by rfl) B.sum (by decide +kernel) (pa_cons (pe_lc (own := [("cell", 2)]) rfl nd (k_iL (K := K) rfl (pv 0)) (blkOk_by (own := [("cell", 2)]) (by kernel_rfl)) (fun _ _ _ _ _ => (pg_name (i := 2) nd rfl (.inl rfl))) (fun _ _ _ _ _ => pts_nil) (fun _ _ _ _ _ => (pe_callTy call_int1 (by rfl) B.int (by decide +kernel) (pa_cons (pv 2) pa_nil)))) pa_nil)) pa_nil)))) pss_nil)
      (pss_one (ps_ret (pe_lst (pa_cons (pv 1) (pa_cons pe_int (pa_cons (pv 3) (pa_cons (pv 4) pa_nil)))))))))))), ?_⟩
  obtain ⟨ms, em, hm⟩ := cut_ints ns none (some 63)
  -- seed = 29 + len(script)
  refine ⟨_, rfl, a, _, rfl, .inl hS, _, _, rfl, rfl, ?_⟩
  -- for cell in script[:63]
  refine ⟨_, rfl, _, rfl, a, _, rfl, hS, fun p hp => ?_⟩
  rw [em]
  have s1 : Same H (upd H p (.lst (ms.map V.int))) := same_upd hp
  refine ⟨p, rfl, ⟨_, SqL.of upd_same⟩, for_list (K := K) (a := p) (xs := ms.map V.int) (fun i σ H2 => ∃ (z : Int) (v : Option V), σ = [some (.ref a), some (.int z), v, none, none] ∧ H2 = upd H p (.lst (ms.map V.int))) ⟨_, none, rfl, rfl⟩ (fun i σ H2 _ h => ?_) ?_ ?_⟩
  · obtain ⟨_, _, _, rfl⟩ := h
    exact SqL.of upd_same
  · rintro i y σ H2 hi ⟨z, v, rfl, rfl⟩
    obtain ⟨n, _, rfl⟩ := int_at hi
    refine ⟨_, rfl, _, _, rfl, rfl, .inr ⟨by decide, by decide⟩, _, rfl, .inl ⟨_, rfl, _, _, rfl, rfl, (by show (0 : Int) < 1000003; decide), _, _, rfl, rfl, _, _, rfl, rfl, .inl ⟨_, rfl, _, _, rfl, rfl, (by show (0 : Int) < 2147483647; decide), ?_⟩⟩⟩
    exact ⟨_, _, rfl, rfl⟩
  rintro σ H2 ⟨z, v, rfl, rfl⟩
  -- great = [..]
  refine ⟨_, rfl, _, rfl, a, _, rfl, s1.seq hS, fun p2 hp2 => ?_⟩
  rw [em]
  have s2 : Same (upd H p (.lst (ms.map V.int))) (upd (upd H p (.lst (ms.map V.int))) p2 (.lst (ms.map V.int))) := same_upd hp2
  generalize hH2 : upd (upd H p (.lst (ms.map V.int))) p2 (.lst (ms.map V.int)) = H2 at s2
  have hp2' : H2 p2 = some (.lst (ms.map V.int)) := by
    rw [← hH2]
    exact upd_same
  have s12 : Same H H2 := s1.trans s2
  clear hH2 s2 s1 hp
  refine ⟨p2, rfl, ⟨_, SqL.of hp2'⟩, fun g hg => ?_⟩
  have sg : Same H2 (upd H2 g (.lst [])) := same_upd hg
  refine lc_list (K := K) (a := p2) (xs := ms.map V.int) (fun i H3 => ∃ gs : List Int, gs.length ≤ i ∧ H3 g = some (.lst (gs.map V.int)) ∧ Same H2 H3) ⟨[], Nat.le_refl _, upd_same, sg⟩ (fun i H3 _ h => ?_) ?_ ?_
  · obtain ⟨_, _, _, h⟩ := h
    exact h.seq (SqL.of hp2')
  · rintro i y H3 hi ⟨gs, hl, h3, s3⟩
    obtain ⟨n, hn', rfl⟩ := int_at hi
    have hi2 : i < ms.length := (List.getElem?_eq_some_iff.mp hn').1
    refine ⟨rfl, ?_⟩
    refine ⟨_, rfl, .inl ⟨_, rfl, _, rfl, _, _, rfl, rfl, ⟨by decide, by decide, by decide⟩, _, _, rfl, rfl, _, rfl, ?_⟩⟩
    refine ite2 (fun c => ?_) (fun c => ?_)
    · refine ⟨_, rfl, .inl ⟨_, rfl, _, rfl, _, h3, by rw [List.length_map]; exact small63 (by omega), ?_⟩⟩
      refine ⟨gs ++ [_], by rw [List.length_append]; exact Nat.add_le_add_right hl 1, by rw [List.map_append]; exact upd_same, fun c o e => ?_⟩
      rw [upd_ne (ne_of_none e hg)]
      exact s3 _ _ e
    · exact ⟨gs, Nat.le_succ_of_le hl, h3, s3⟩
  rintro H3 ⟨gs, hl, h3, s3⟩
  rw [List.length_map] at hl
  have s13 := s12.trans s3
  -- always
  have fin : ∀ (H4 : Hp) (al : V), Same H3 H4 → (al = .non ∨ ∃ n, al = .int n) → (∀ b, H4 b = none → Q (.ref b) (upd H4 b (.lst [.int z, .int 1, .ref g, al]))) := by
    intro H4 al s4 hal b hb
    have e4 := s4 _ _ h3
    have hbg : b ≠ g := fun e => by
      rw [e, e4] at hb
      cases hb
    have hn1 : H b = none := (s13.trans s4).free hb
    exact q b g _ ((s13.trans s4).trans (same_upd hb)) (.mk2 hbg hal upd_same ((upd_ne hbg.symm).trans e4) (by omega)) hn1 (s12.free hg)
  refine ⟨_, rfl, a, _, rfl, .inl (s13.seq hS), _, _, rfl, rfl, _, rfl, ?_⟩
  refine ite2 (fun c => ?_) (fun c => ?_)
  · refine ⟨_, rfl, g, _, rfl, .inl (SqL.of h3), rfl, _, rfl, ?_⟩
    refine ite2 (fun c => ?_) (fun c => ?_)
    · -- sum([int(cell) for cell in script])
      refine ⟨_, rfl, a, rfl, ⟨_, s13.seq hS⟩, fun l hl2 => ?_⟩
      refine lc_list (K := K) (a := a) (xs := ns.map V.int) (fun i H4 => H4 l = some (.lst ((ns.take i).map V.int)) ∧ Same H3 H4) ⟨upd_same, same_upd hl2⟩ (fun i H4 _ h => h.2.seq (s13.seq hS)) ?_ ?_
      · rintro i y H4 hi ⟨h4, s4⟩
        obtain ⟨n, hn', rfl⟩ := int_at hi
        have hi2 : i < ns.length := (List.getElem?_eq_some_iff.mp hn').1
        refine ⟨rfl, ?_⟩
        refine iteT (B := H4 l = some (.lst ((ns.take (i + 1)).map V.int)) ∧ Same H3 H4) ?_
        refine ⟨_, rfl, .inl ⟨_, rfl, _, h4, ?_, ?_, fun c o e => ?_⟩⟩
        · rw [List.length_map, List.length_take]
          exact small63 (by omega)
        · rw [upd_same, List.take_add_one, hn', List.map_append]
          rfl
        · rw [upd_ne (ne_of_none e hl2)]
          exact s4 _ _ e
      · rintro H4 ⟨h4, s4⟩
        refine ⟨l, _, rfl, SqL.of h4, _, rfl, ?_⟩
        refine ⟨_, rfl, _, rfl, _, rfl, (by show 4 ≤ sizeLine; decide), fun b hb => ?_⟩
        exact fin H4 _ s4 (.inr ⟨_, rfl⟩) b hb
    · exact ⟨_, rfl, _, rfl, _, rfl, (by show 4 ≤ sizeLine; decide), fun b hb => fin H3 _ (Same.refl _) (.inl rfl) b hb⟩
  · exact iteF ⟨_, rfl, _, rfl, _, rfl, (by show 4 ≤ sizeLine; decide), fun b hb => fin H3 _ (Same.refl _) (.inl rfl) b hb⟩
end
end Tl
namespace Tl
open PySem PySem.Spec PyProof.Rows L2 RZ
/-! ### fractions -/
def rD (q : Rat) : PyData := .tuple [.int q.num, .int (q.den : Int)]
theorem mkRat_parts (t : Int) (b : Nat) (h : 0 < b) : (mkRat t b).num = t / (Nat.gcd t.natAbs b : Nat) ∧ ((mkRat t b).den : Int) = (b : Int) / (Nat.gcd t.natAbs b : Nat) := by
  have hb : b ≠ 0 := by omega
  rw [mkRat, dif_neg hb, Rat.normalize_eq]
  exact ⟨rfl, rfl⟩
theorem mkRat_den_le (t : Int) (b : Nat) (h : 0 < b) : (mkRat t b).den ≤ b := by
  rw [Rat.den_mkRat, if_neg (by omega)]
  exact Nat.div_le_self _ _
theorem rat_mk (q : Rat) : mkRat q.num q.den = q := Rat.mkRat_self q
theorem td_rD {K : PySem.W.Frag} {H : Hp} {p : Addr} {t : Int} {b : Nat} (h : 0 < b) (hp : H p = some (.tup [.int (t / (Nat.gcd t.natAbs b : Nat)), .int ((b : Int) / (Nat.gcd t.natAbs b : Nat))])) : Td K H (.ref p) (rD (mkRat t b)) := by
  obtain ⟨e1, e2⟩ := mkRat_parts t b h
  unfold rD
  rw [e1, e2]
  exact .tup (.inl (.inl hp)) (.cons (.int _) (.cons (.int _) .nil))
theorem Td.rE {K : PySem.W.Frag} {H : Hp} {v : V} {q : Rat} (h : Td K H v (rD q)) : ∃ a, v = .ref a ∧ SqT K H a [.int q.num, .int (q.den : Int)] := by
  obtain ⟨a, xs, rfl, hs, ht⟩ := h.tupE
  cases ht with
  | cons h1 t =>
    cases t with
    | cons h2 t =>
      cases t
      cases h1
      cases h2
      exact ⟨a, rfl, hs⟩
def spCommon : Sp := fun vs H Q _ => ∃ a b : Int, vs = [.int a, .int b] ∧ 0 ≤ a ∧ 0 ≤ b ∧ Q (.int ((Nat.gcd a.toNat b.toNat : Nat) : Int)) H
def spLow (K : PySem.W.Frag) : Sp := fun vs H Q _ => ∃ (t : Int) (b : Nat), vs = [.int t, .int (b : Int)] ∧ 0 < b ∧ b < 2 ^ 4000 ∧ ∀ v H', Same H H' → Td K H' v (rD (mkRat t b)) → Q v H'
def spTimes (K : PySem.W.Frag) : Sp := fun vs H Q _ => ∃ (x y : V) (p q : Rat), vs = [x, y] ∧ Td K H x (rD p) ∧ Td K H y (rD q) ∧ p.den < 2 ^ 2000 ∧ q.den < 2 ^ 2000 ∧ p.num.natAbs < 2 ^ 2000 ∧ q.num.natAbs < 2 ^ 2000 ∧ ∀ v H', Same H H' → Td K H' v (rD (p * q)) → Q v H'
theorem gcd_step {a b : Int} (ha : 0 ≤ a) (hb : 0 < b) : Nat.gcd b.toNat (a % b).toNat = Nat.gcd a.toNat b.toNat := by
  rw [Int.toNat_emod ha (by omega), Nat.gcd_comm a.toNat b.toNat, Nat.gcd_rec b.toNat a.toNat, Nat.gcd_comm]
section
variable {P : Program} {w : World} {K : PySem.W.Frag} {mg : Str → Option Value} {base : Heap}
theorem ok_law_common {f : Addr} {fd : FuncData} (D : Dn K mg "_law_common" s_law_common ["one", "other"] f fd) (B : Blt mg) : FnOk P w K mg base CX0 1 f fd ["one", "other"] spCommon := by
  refine D.F.ok sc_law_common (fun vs H Q E h => ?_) (fun cdv A outer s H vs Q E hr h => ?_)
  · obtain ⟨a, b, rfl, _⟩ := h
    rfl
  obtain ⟨a, b, rfl, ha, hb, q⟩ := h
  have nd := sc_law_common.nd
  refine ⟨_, (pss_cons (ps_while PassesOwn.never (pt_cmpR op_ne (pv 1) pe_int (nomark _)) (pss_one (ps_par (i := 0) (j := 1) rfl nd rfl rfl (by decide) rfl rfl (pa_cons (pv 1) (pa_cons (pe_op op_mod (pv 0) (pv 1)) pa_nil)) (by rfl))))
      (pss_one (ps_ret (pv 0)))), ?_⟩
  refine while_by (fun σ H2 => H2 = H ∧ ∃ x y : Int, σ = [some (.int x), some (.int y)] ∧ 0 ≤ x ∧ 0 ≤ y ∧ Nat.gcd x.toNat y.toNat = Nat.gcd a.toNat b.toNat) (fun σ _ => match σ with | [_, some (.int y)] => y.toNat | _ => 0) ⟨rfl, a, b, rfl, ha, hb, rfl⟩ ?_ ?_
  · rintro σ H2 ⟨rfl, x, y, rfl, hx, hy, e⟩
    refine ⟨_, rfl, rfl, _, rfl, ?_⟩
    refine ite2 (fun c => ?_) (fun c => ?_)
    · have hy0 : y ≠ 0 := by
        intro z
        rw [z] at c
        simp at c
      have hy1 : 0 < y := by omega
      refine ⟨_, rfl, _, rfl, _, rfl, _, _, rfl, rfl, hy1, _, _, rfl, ?_⟩
      refine ⟨⟨rfl, y, x % y, rfl, hy, Int.emod_nonneg _ hy0, (gcd_step hx hy1).trans e⟩, ?_⟩
      have l := Int.emod_lt_of_pos x hy1
      have l0 := Int.emod_nonneg x hy0
      show (x % y).toNat < y.toNat
      omega
    · have hy0 : y = 0 := by
        by_cases z : y = 0
        · exact z
        · exact absurd (by simp [z]) c
      subst hy0
      refine ⟨_, rfl, ?_⟩
      have e3 : x.toNat.gcd (Int.toNat 0) = x.toNat := Nat.gcd_zero_right _
      have e4 : ((x.toNat : Nat) : Int) = x := by omega
      rw [← e, e3, e4] at q
      exact q
  · rintro σ H2 Q1 Q2 h ⟨x, hx, h1, k, hk, h2⟩
    exact ⟨x, hx, h1, k, hk, h _ _ h2⟩
theorem ok_law_low {f f1 : Addr} {fd fd1 : FuncData} (D : Dn K mg "_law_low" s_law_low ["top", "bottom"] f fd) (B : Blt mg) (D_law_common : Dn K mg "_law_common" s_law_common ["one", "other"] f1 fd1) : FnOk P w K mg base CX0 2 f fd ["top", "bottom"] (spLow K) := by
  have G_law_common : FnOk P w K mg base CX0 1 f1 fd1 ["one", "other"] spCommon := ok_law_common D_law_common B
  refine D.F.ok sc_law_low (fun vs H Q E h => ?_) (fun cdv A outer s H vs Q E hr h => ?_)
  · obtain ⟨a, b, rfl, _⟩ := h
    rfl
  obtain ⟨t, b, rfl, hb, hz, q⟩ := h
  have nd := sc_law_low.nd
  refine ⟨_, (pss_cons (ps_set (i := 2) nd rfl (.inl rfl) (pe_call G_law_common (hr.mono (by omega)) (by rfl) D_law_common.m D_law_common.F.kp D_law_common.b .nil pass0 (pa_cons (pe_callB call_abs (by rfl) B.abs (by decide +kernel) (pa_cons (pv 0) pa_nil)) (pa_cons (pv 1) pa_nil))))
      (pss_one (ps_ret (pe_tup (pa_cons (pe_op op_fdivW (pv 0) (pv 2)) (pa_cons (pe_op op_fdivW (pv 1) (pv 2)) pa_nil)))))), ?_⟩
  refine ⟨_, rfl, _, rfl, _, rfl, _, _, rfl, ?_, by omega, ?_⟩
  · split <;> omega
  have e1 : (if t < 0 then -t else t).toNat = t.natAbs := by split <;> omega
  have e2 : (b : Int).toNat = b := Int.toNat_natCast b
  rw [e1, e2]
  have hg0 : 0 < Nat.gcd t.natAbs b := Nat.gcd_pos_of_pos_right _ hb
  have hg1 : Nat.gcd t.natAbs b ≤ b := Nat.gcd_le_right _ hb
  have hg2 : ((Nat.gcd t.natAbs b : Nat) : Int).natAbs < 2 ^ 4000 := by
    rw [Int.natAbs_natCast]
    omega
  have dv : ∀ i : Int, CDivW i ((Nat.gcd t.natAbs b : Nat) : Int) := fun i => wide_div (b := 4000) (by omega) hg2 (by decide) (by decide)
  refine ⟨_, rfl, _, rfl, _, _, rfl, rfl, dv _, _, rfl, _, rfl, _, _, rfl, rfl, dv _, (by show 2 ≤ sizeLine; decide), fun p hp => ?_⟩
  exact q _ _ (same_upd hp) (td_rD hb upd_same)
theorem ok_law_times {f f1 f2 : Addr} {fd fd1 fd2 : FuncData} (D : Dn K mg "_law_times" s_law_times ["one", "other"] f fd) (B : Blt mg) (D_law_low : Dn K mg "_law_low" s_law_low ["top", "bottom"] f1 fd1) (D_law_common : Dn K mg "_law_common" s_law_common ["one", "other"] f2 fd2) : FnOk P w K mg base CX0 3 f fd ["one", "other"] (spTimes K) := by
  have G_law_low : FnOk P w K mg base CX0 2 f1 fd1 ["top", "bottom"] (spLow K) := ok_law_low D_law_low B D_law_common
  refine D.F.ok sc_law_times (fun vs H Q E h => ?_) (fun cdv A outer s H vs Q E hr h => ?_)
  · obtain ⟨x, y, p, q, rfl, _⟩ := h
    rfl
  obtain ⟨x, y, p, q, rfl, hx, hy, z1, z2, z3, z4, k⟩ := h
  have nd := sc_law_times.nd
  refine ⟨_, (pss_one (ps_ret (pe_call G_law_low (hr.mono (by omega)) (by rfl) D_law_low.m D_law_low.F.kp D_law_low.b .nil pass0 (pa_cons (pe_op op_mulW (pe_ix (k_ixT (K := K) rfl) (pv 0) pe_int (fun _ _ => rfl)) (pe_ix (k_ixT (K := K) rfl) (pv 1) pe_int (fun _ _ => rfl))) (pa_cons (pe_op op_mulW (pe_ix (k_ixT (K := K) rfl) (pv 0) pe_int (fun _ _ => rfl)) (pe_ix (k_ixT (K := K) rfl) (pv 1) pe_int (fun _ _ => rfl))) pa_nil))))), ?_⟩
  obtain ⟨a, rfl, ha⟩ := hx.rE
  obtain ⟨b, rfl, hb⟩ := hy.rE
  have i0 : atI [V.int p.num, .int (p.den : Int)] 0 = some (.int p.num) := at_of (j := 0) rfl rfl
  have i1 : atI [V.int p.num, .int (p.den : Int)] 1 = some (.int (p.den : Int)) := at_of (j := 1) rfl rfl
  have j0 : atI [V.int q.num, .int (q.den : Int)] 0 = some (.int q.num) := at_of (j := 0) rfl rfl
  have j1 : atI [V.int q.num, .int (q.den : Int)] 1 = some (.int (q.den : Int)) := at_of (j := 1) rfl rfl
  have hp0 : 0 < p.den := Nat.pos_of_ne_zero p.den_nz
  have hq0 : 0 < q.den := Nat.pos_of_ne_zero q.den_nz
  have c1 : CMulW p.num q.num := wide_mul z3 z4 (by decide) (by decide) (by decide)
  have c2 : CMulW (p.den : Int) (q.den : Int) := wide_mul (a := 2000) (b := 2000) (by rw [Int.natAbs_natCast]; exact z1) (by rw [Int.natAbs_natCast]; exact z2) (by decide) (by decide) (by decide)
  refine ⟨_, rfl, a, _, 0, _, rfl, rfl, ha, i0, _, rfl, b, _, 0, _, rfl, rfl, hb, j0, _, _, rfl, rfl, c1, _, rfl, a, _, 1, _, rfl, rfl, ha, i1, _, rfl, b, _, 1, _, rfl, rfl, hb, j1, _, _, rfl, rfl, c2, ?_⟩
  refine ⟨p.num * q.num, p.den * q.den, by rw [Int.natCast_mul]; rfl, Nat.mul_pos hp0 hq0, ?_, fun v H' s' hv => k v H' s' ?_⟩
  · rw [show (4000 : Nat) = 2000 + 2000 from rfl, Nat.pow_add]
    exact Nat.mul_lt_mul'' z1 z2
  · rw [← Rat.mkRat_mul_mkRat, rat_mk, rat_mk] at hv
    exact hv
end
end Tl
namespace Tl
open PySem PySem.Spec PyProof.Rows L2 RZ
theorem Frm.updN {b g p : Addr} {H H' : Hp} {o : HO} (f : Frm b g H H') (h : H p = none) : Frm b g H (upd H' p o) := fun a x e h1 h2 => by
  rw [upd_ne (ne_of_none e h)]
  exact f a x e h1 h2
theorem Bag.updN {b g p : Addr} {H : Hp} {o : HO} (B : Bag H b g) (h1 : p ≠ b) (h2 : p ≠ g) : Bag (upd H p o) b g := by
  obtain ⟨ne, ⟨s, c, al, h, r⟩, ⟨gs, h', r'⟩⟩ := B
  exact ⟨ne, ⟨s, c, al, by rw [upd_ne h1.symm]; exact h, r⟩, ⟨gs, by rw [upd_ne h2.symm]; exact h', r'⟩⟩
def nI (ps : List Nat) : List Int := ps.map fun (p : Nat) => (p : Int)
theorem nI_sum : ∀ ps : List Nat, (nI ps).sum = ((ps.sum : Nat) : Int)
  | [] => rfl
  | p :: r => by
    show ((p : Int)) + (nI r).sum = (((p + r.sum : Nat)) : Int)
    rw [nI_sum r]
    omega
/-- shares of a whole by small parts -/
def IsShares (m : Nat) (rs : List Rat) : Prop := ∃ ps : List Nat, ps.length = m ∧ 0 < ps.sum ∧ ps.sum ≤ 5 * m + 1 ∧ rs = ps.map fun (p : Nat) => mkRat (p : Int) ps.sum
theorem sum_le5 : ∀ ps : List Nat, (∀ p ∈ ps, p ≤ 4) → ps.sum ≤ 4 * ps.length
  | [], _ => Nat.le_refl _
  | p :: r, h => by
    have h1 := h p (List.mem_cons_self ..)
    have h2 := sum_le5 r fun x hx => h x (List.mem_cons_of_mem _ hx)
    show p + r.sum ≤ 4 * (r.length + 1)
    omega
theorem sum_bump : ∀ (ps : List Nat) (j : Nat) (v : Nat), ps[j]? = some v → (ps.set j (v + 1)).sum = ps.sum + 1
  | [], _, _, h => by simp at h
  | p :: r, 0, v, h => by
    have e : p = v := by simpa using h
    subst e
    show (p + 1) + r.sum = (p + r.sum) + 1
    omega
  | p :: r, j + 1, v, h => by
    have ih := sum_bump r j v (by simpa using h)
    show p + (r.set j (v + 1)).sum = (p + r.sum) + 1
    omega
def spShares (K : PySem.W.Frag) : Sp := fun vs H Q _ => ∃ (b g : Addr) (m : Nat) (l : Int), vs = [.ref b, .int (m : Int), .int l] ∧ Bag H b g ∧ 1 ≤ m ∧ m ≤ 12 ∧ 0 ≤ l ∧ l ≤ 1 ∧
  ∀ (r : Addr) (rs : List Rat) (us : List V) (H' : Hp), IsShares m rs → H' r = some (.lst us) → TdAll K H' us (rs.map rD) → H r = none → Bag H' b g → Frm b g H H' → Q (.ref r) H'
section
variable {P : Program} {w : World} {K : PySem.W.Frag} {mg : Str → Option Value} {base : Heap}
theorem ok_law_shares {f f1 f2 f3 : Addr} {fd fd1 fd2 fd3 : FuncData} (D : Dn K mg "_law_shares" s_law_shares ["bag", "many", "least"] f fd) (B : Blt mg) (D_law_low : Dn K mg "_law_low" s_law_low ["top", "bottom"] f1 fd1) (D_law_common : Dn K mg "_law_common" s_law_common ["one", "other"] f2 fd2)
    (D_law_pick : Dn K mg "_law_pick" s_law_pick ["bag", "many"] f3 fd3) : FnOk P w K mg base CX0 3 f fd ["bag", "many", "least"] (spShares K) := by
  have G_law_low : FnOk P w K mg base CX0 2 f1 fd1 ["top", "bottom"] (spLow K) := ok_law_low D_law_low B D_law_common
  have G_law_pick : FnOk P w K mg base CX0 1 f3 fd3 ["bag", "many"] spPick := ok_law_pick D_law_pick B
  refine D.F.ok sc_law_shares (fun vs H Q E h => ?_) (fun cdv A outer s H vs Q E hr h => ?_)
  · obtain ⟨b, g, m, l, rfl, _⟩ := h
    rfl
  obtain ⟨b, g, m, l, rfl, hB, hm1, hm2, hl0, hl1, q⟩ := h
  have nd := sc_law_shares.nd
  refine ⟨_, (pss_cons (ps_set (i := 3) nd rfl (.inr rfl) (pe_lc (own := [("k", 4)]) rfl nd (pi_range1 (by rfl) B.range (pa_cons (pv 1) pa_nil)) (blkOk_by (own := [("k", 4)]) (by kernel_rfl)) (fun _ _ _ _ _ => (pg_name (i := 4) nd rfl (.inl rfl))) (fun _ _ _ _ _ => pts_nil) (fun _ _ _ _ _ => (pe_op op_add (pv 2) (pe_call G_law_pick (hr.mono (by omega)) (by rfl) D_law_pick.m D_law_pick.F.kp D_law_pick.b .nil pass0 (pa_cons (pv 0) (pa_cons pe_int pa_nil)))))))
      (pss_cons (ps_augS (pv 3) (pe_call G_law_pick (hr.mono (by omega)) (by rfl) D_law_pick.m D_law_pick.F.kp D_law_pick.b .nil pass0 (pa_cons (pv 0) (pa_cons (pv 1) pa_nil))) (k_getL (K := K) rfl) pe_int ip_add set_list)
      (pss_one (ps_ret (pe_lc (own := [("part", 5)]) rfl nd (k_iL (K := K) rfl (pv 3)) (blkOk_by (own := [("part", 5)]) (by kernel_rfl)) (fun _ _ _ _ _ => (pg_name (i := 5) nd rfl (.inl rfl))) (fun _ _ _ _ _ => pts_nil) (fun _ _ _ _ _ => (pe_call G_law_low (hr.mono (by omega)) (by rfl) D_law_low.m D_law_low.F.kp D_law_low.b .nil pass0 (pa_cons (pv 5) (pa_cons (pe_callB (k_sum (K := K) rfl rfl) (by rfl) B.sum (by decide +kernel) (pa_cons (pv 3) pa_nil)) pa_nil))))))))), ?_⟩
  -- parts = [least + _law_pick(bag, 4) for k in range(many)]
  refine ⟨_, rfl, _, rfl, by omega, by omega, fun d hd => ?_⟩
  obtain ⟨db, dg⟩ := hB.neNew hd
  refine lc_range (lo := 0) (n := m) (fun i H3 => ∃ ps : List Nat, ps.length = i ∧ (∀ p ∈ ps, p ≤ 4) ∧ H3 d = some (.lst ((nI ps).map V.int)) ∧ Bag H3 b g ∧ Frm b g H H3) ⟨[], rfl, fun _ h => absurd h List.not_mem_nil, upd_same, hB.updN db dg, (Frm.refl b g H).updN hd⟩ ?_ ?_
  · rintro i H3 hi ⟨ps, hp1, hp2, h3, B3, F3⟩
    refine ⟨rfl, ?_⟩
    refine iteT (B := ∃ ps : List Nat, ps.length = i + 1 ∧ (∀ p ∈ ps, p ≤ 4) ∧ H3 d = some (.lst ((nI ps).map V.int)) ∧ Bag H3 b g ∧ Frm b g H H3) ?_
    refine ⟨_, rfl, _, rfl, b, g, 4, rfl, B3, by decide, by decide, fun r H4 r0 r1 B4 F4 => ⟨_, _, rfl, rfl, ?_⟩⟩
    have h4 := F4 d _ h3 db dg
    refine ⟨_, h4, by rw [List.length_map, nI, List.length_map]; exact small1000 (by omega), ps ++ [(l + r).toNat], by rw [List.length_append, hp1]; rfl, ?_, ?_, B4.updN db dg, (F3.trans F4).updN hd⟩
    · intro p hp
      rcases List.mem_append.mp hp with hp | hp
      · exact hp2 p hp
      · rw [List.mem_singleton.mp hp]
        omega
    · rw [upd_same, nI, nI, List.map_append, List.map_append]
      show some (HO.lst (_ ++ [V.int (l + r)])) = some (HO.lst (_ ++ [V.int (((l + r).toNat : Nat) : Int)]))
      rw [show (((l + r).toNat : Nat) : Int) = l + r by omega]
  rintro H3 ⟨ps, hp1, hp2, h3, B3, F3⟩
  -- parts[_law_pick(bag, many)] += 1
  refine ⟨_, rfl, _, rfl, _, rfl, b, g, (m : Int), rfl, B3, by omega, by omega, fun r H4 r0 r1 B4 F4 => ?_⟩
  have h4 := F4 d _ h3 db dg
  obtain ⟨j, ej⟩ : ∃ j : Nat, r = (j : Int) := ⟨r.toNat, by omega⟩
  have hj : j < ps.length := by omega
  have gj : ps[j]? = some ps[j] := List.getElem?_eq_getElem hj
  have gI : ((nI ps).map V.int)[j]? = some (.int ((ps[j] : Nat) : Int)) := by
    rw [List.getElem?_map, nI, List.getElem?_map, gj]
    rfl
  refine ⟨d, _, j, _, rfl, by rw [ej], SqL.of h4, gI, _, _, rfl, rfl, d, _, r, j, rfl, rfl, h4, ?_, ?_⟩
  · rw [List.length_map, nI, List.length_map]
    unfold ixN
    rw [if_pos r0, if_pos (by omega)]
    exact congrArg some (by omega)
  have h5 : (upd H4 d (.lst (((nI ps).map V.int).set j (.int (((ps[j] : Nat) : Int) + 1))))) d = some (.lst ((nI (ps.set j (ps[j] + 1))).map V.int)) := by
    rw [upd_same, nI, nI, List.map_set, List.map_set]
    rfl
  have B5 : Bag (upd H4 d (.lst (((nI ps).map V.int).set j (.int (((ps[j] : Nat) : Int) + 1))))) b g := B4.updN db dg
  have F5 : Frm b g H (upd H4 d (.lst (((nI ps).map V.int).set j (.int (((ps[j] : Nat) : Int) + 1))))) := (F3.trans F4).updN hd
  generalize upd H4 d (.lst (((nI ps).map V.int).set j (.int (((ps[j] : Nat) : Int) + 1)))) = H5 at h5 B5 F5
  have hsum := sum_bump ps j _ gj
  have hle := sum_le5 ps hp2
  have hlen : (ps.set j (ps[j] + 1)).length = m := by rw [List.length_set]; exact hp1
  generalize ps.set j (ps[j] + 1) = us at h5 hsum hlen
  -- return [_law_low(part, sum(parts)) for part in parts]
  have hs0 : 0 < us.sum := by omega
  have hs1 : us.sum ≤ 5 * m + 1 := by omega
  refine ⟨_, rfl, d, rfl, ⟨_, SqL.of h5⟩, fun e he => ?_⟩
  obtain ⟨eb, eg⟩ := B5.neNew he
  have heH : H e = none := by
    cases z : H e with
    | none => rfl
    | some o =>
      rw [F5 e o z eb eg] at he
      cases he
  have hl5 : ((nI us).map V.int).length = m := by rw [List.length_map, nI, List.length_map, hlen]
  refine lc_list (K := K) (a := d) (xs := (nI us).map V.int) (fun i H6 => ∃ ws : List V, H6 e = some (.lst ws) ∧ TdAll K H6 ws ((us.take i).map fun (p : Nat) => rD (mkRat (p : Int) us.sum)) ∧ Same H5 H6) ⟨[], upd_same, .nil, same_upd he⟩ (fun i H6 _ h => by obtain ⟨_, _, _, s6⟩ := h; exact s6.seq (SqL.of h5)) ?_ ?_
  · rintro i y H6 hi ⟨ws, h6, t6, s6⟩
    obtain ⟨z, hz, rfl⟩ := int_at hi
    obtain ⟨p, hp, rfl⟩ : ∃ p : Nat, us[i]? = some p ∧ z = (p : Int) := by
      rw [nI, List.getElem?_map] at hz
      cases q2 : us[i]? with
      | none =>
        rw [q2] at hz
        cases hz
      | some p =>
        rw [q2] at hz
        exact ⟨p, rfl, (Option.some.inj hz).symm⟩
    have hi2 : i < us.length := (List.getElem?_eq_some_iff.mp hp).1
    refine ⟨rfl, ?_⟩
    refine iteT (B := ∃ ws : List V, H6 e = some (.lst ws) ∧ TdAll K H6 ws ((us.take (i + 1)).map fun (p : Nat) => rD (mkRat (p : Int) us.sum)) ∧ Same H5 H6) ?_
    refine ⟨_, rfl, _, rfl, d, nI us, rfl, SqL.of (s6 _ _ h5), (p : Int), us.sum, by rw [nI_sum]; rfl, hs0, ?_, fun v H7 s7 hv => ?_⟩
    · exact Nat.lt_of_le_of_lt (Nat.le_trans hs1 (show 5 * m + 1 ≤ 2 ^ 10 by omega)) (Nat.pow_lt_pow_right (by decide) (by decide))
    · have h7 := s7 _ _ h6
      have kt7 : KT K H7 (upd H7 e (.lst (ws ++ [v]))) := KT.updL h7
      have kt : KT K H6 (upd H7 e (.lst (ws ++ [v]))) := (Same.kt s7).trans kt7
      refine ⟨ws, h7, ?_, ws ++ [v], upd_same, ?_, fun a o q => ?_⟩
      · rw [t6.len, List.length_map, List.length_take]
        exact small1000 (by omega)
      · rw [List.take_add_one, hp, List.map_append]
        exact (t6.keep kt).app (.cons (hv.keep kt7) .nil)
      · rw [upd_ne (ne_of_none q he)]
        exact s7 _ _ (s6 _ _ q)
  · rintro H6 ⟨ws, h6, t6, s6⟩
    rw [hl5, ← hlen, List.take_length] at t6
    have t7 : TdAll K H6 ws ((us.map fun (p : Nat) => mkRat (p : Int) us.sum).map rD) := by
      rw [List.map_map]
      exact t6
    exact q e _ ws H6 ⟨us, hlen, hs0, hs1, rfl⟩ h6 t7 heH (B5.keep s6) (F5.trans (Frm.of s6))
end
end Tl
/-! trees -/
namespace Tl
open PySem PySem.Spec PyProof.Rows L2 RZ
/-- nodes of at most n rounds: questions of answers (word, weights, node) -/
def Nd : Nat → Type
  | 0 => Unit
  | n + 1 => List (List (List Int × List Rat × Nd n))
abbrev An (n : Nat) : Type := List Int × List Rat × Nd n
abbrev Qn (n : Nat) : Type := List (An n)
def wdD (w : List Int) : PyData := .tuple (w.map .int)
def wsD (ws : List Rat) : PyData := .tuple (ws.map rD)
def ndD : (n : Nat) → Nd n → PyData
  | 0, _ => .tuple []
  | n + 1, qs => .tuple ((show List (Qn n) from qs).map fun q => .tuple (q.map fun a => .tuple [wdD a.1, wsD a.2.1, ndD n a.2.2]))
def anD (n : Nat) (a : An n) : PyData := .tuple [wdD a.1, wsD a.2.1, ndD n a.2.2]
def qnD (n : Nat) (q : Qn n) : PyData := .tuple (q.map (anD n))
theorem ndD_succ (n : Nat) (qs : List (Qn n)) : ndD (n + 1) qs = .tuple (qs.map (qnD n)) := rfl
/-- how many answers -/
def cnt : (n : Nat) → Nd n → Nat
  | 0, _ => 0
  | n + 1, qs => ((show List (Qn n) from qs).map fun q => (q.map fun a => 1 + cnt n a.2.2).sum).sum
def cntQ (n : Nat) (q : Qn n) : Nat := (q.map fun a => 1 + cnt n a.2.2).sum
theorem cnt_succ (n : Nat) (qs : List (Qn n)) : cnt (n + 1) qs = (qs.map (cntQ n)).sum := rfl
def emptyNd : (n : Nat) → Nd n
  | 0 => ()
  | _ + 1 => ([] : List _)
theorem ndD_empty (n : Nat) : ndD n (emptyNd n) = .tuple [] := by cases n <;> rfl
theorem cnt_empty (n : Nat) : cnt n (emptyNd n) = 0 := by cases n <;> rfl
/-! sums of fractions from the left -/
def fsum (l : List Rat) : Rat := l.foldl (· + ·) 0
theorem foldl_add (l : List Rat) : ∀ a : Rat, l.foldl (· + ·) a = a + fsum l := by
  induction l with
  | nil =>
    intro a
    exact (Rat.add_zero a).symm
  | cons x r ih =>
    intro a
    unfold fsum
    rw [List.foldl_cons, List.foldl_cons, ih, ih (0 + x), Rat.zero_add, Rat.add_assoc]
theorem fsum_nil : fsum [] = 0 := rfl
theorem fsum_cons (x : Rat) (r : List Rat) : fsum (x :: r) = x + fsum r := by
  unfold fsum
  rw [List.foldl_cons, foldl_add, Rat.zero_add]
  rfl
theorem fsum_snoc (l : List Rat) (x : Rat) : fsum (l ++ [x]) = fsum l + x := by
  unfold fsum
  rw [List.foldl_append]
  rfl
theorem fsum_mul (a : Rat) : ∀ l : List Rat, fsum (l.map fun x => a * x) = a * fsum l
  | [] => by
    rw [List.map_nil, fsum_nil, Rat.mul_zero]
  | x :: r => by
    rw [List.map_cons, fsum_cons, fsum_cons, fsum_mul a r, Rat.mul_add]
theorem mk_add (p q : Int) (s : Nat) (hs : 0 < s) : mkRat p s + mkRat q s = mkRat (p + q) s := by
  have h : s ≠ 0 := by omega
  rw [Rat.mkRat_add_mkRat _ _ h h, ← Int.add_mul, Rat.mkRat_mul_right h]
theorem fsum_mk (s : Nat) (hs : 0 < s) : ∀ ps : List Nat, fsum (ps.map fun (p : Nat) => mkRat (p : Int) s) = mkRat ((ps.sum : Nat) : Int) s
  | [] => by
    show (0 : Rat) = mkRat 0 s
    rw [Rat.zero_mkRat]
  | p :: r => by
    rw [List.map_cons, fsum_cons, fsum_mk s hs r, mk_add _ _ _ hs]
    congr 1
theorem mk_same (s : Nat) (hs : 0 < s) : mkRat (s : Int) s = 1 := by
  have h : s ≠ 0 := by omega
  have e := Rat.mkRat_mul_right (n := 1) (d := 1) h
  rw [Int.one_mul, Nat.one_mul] at e
  rw [e]
  rfl
theorem mk_nonneg (p s : Nat) (hs : 0 < s) : 0 ≤ mkRat (p : Int) s := by
  refine Rat.num_nonneg.mp ?_
  rw [(mkRat_parts (p : Int) s hs).1]
  exact Int.ediv_nonneg (by omega) (by omega)
theorem mk_le_one (p s : Nat) (hs : 0 < s) (h : p ≤ s) : mkRat (p : Int) s ≤ 1 := by
  refine (Rat.le_iff _ _).mpr ?_
  obtain ⟨e1, e2⟩ := mkRat_parts (p : Int) s hs
  rw [e2, e1]
  show _ / _ * 1 ≤ 1 * (_ / _)
  rw [Int.mul_one, Int.one_mul]
  exact Int.ediv_le_ediv (by have := Nat.gcd_pos_of_pos_right (p : Int).natAbs hs; omega) (by omega)
/-- all numbers up to 61 divide it -/
def LL : Nat := 591133442051411133755680800
theorem ll_dvd : ∀ s : Nat, 0 < s → s ≤ 61 → s ∣ LL := fun s h1 h2 => by
  have h : ∀ s : Fin 62, 0 < s.val → s.val ∣ LL := by decide +kernel
  exact h ⟨s, by omega⟩ h1
theorem ll_pos (e : Nat) : 0 < LL ^ e := Nat.pow_pos (by decide)
theorem ll_mono {e f : Nat} (h : e ≤ f) : LL ^ e ∣ LL ^ f := Nat.pow_dvd_pow LL h
theorem ll_le {e : Nat} : LL ^ e ≤ 2 ^ (89 * e) := by
  rw [Nat.pow_mul]
  exact Nat.pow_le_pow_left (by decide) e
theorem ll_small {e k : Nat} (h : 89 * e ≤ k) : LL ^ e ≤ 2 ^ k := Nat.le_trans ll_le (Nat.pow_le_pow_right (by decide) h)
/-- from NOUGHT to ONE, the bottom divides the e-th power -/
def Ch (e : Nat) (r : Rat) : Prop := 0 ≤ r ∧ r ≤ 1 ∧ r.den ∣ LL ^ e
theorem Ch.den {e : Nat} {r : Rat} (h : Ch e r) : r.den ≤ LL ^ e := Nat.le_of_dvd (ll_pos e) h.2.2
theorem Ch.num {e : Nat} {r : Rat} (h : Ch e r) : r.num.natAbs ≤ LL ^ e := by
  have d3 := h.den
  obtain ⟨h0, h1, h2⟩ := h
  have a := (Rat.le_iff r 1).mp h1
  have b := Rat.num_nonneg.mpr h0
  have c : (1 : Rat).num = 1 := rfl
  have d : (1 : Rat).den = 1 := rfl
  rw [c, d] at a
  omega
theorem Ch.mono {e f : Nat} {r : Rat} (h : Ch e r) (l : e ≤ f) : Ch f r := ⟨h.1, h.2.1, Nat.dvd_trans h.2.2 (ll_mono l)⟩
theorem mk_den_dvd {t : Int} {b : Nat} (h : 0 < b) : (mkRat t b).den ∣ b := by
  rw [Rat.den_mkRat, if_neg (by omega)]
  exact Nat.div_dvd_of_dvd (Nat.gcd_dvd_left _ _)
theorem mul_den_dvd (a b : Rat) : (a * b).den ∣ a.den * b.den := by
  have e : a * b = mkRat (a.num * b.num) (a.den * b.den) := by
    rw [← Rat.mkRat_mul_mkRat, rat_mk, rat_mk]
  rw [e]
  exact mk_den_dvd (Nat.mul_pos (Nat.pos_of_ne_zero a.den_nz) (Nat.pos_of_ne_zero b.den_nz))
theorem Ch.mul {e p s : Nat} {a : Rat} (h : Ch e a) (hs : 0 < s) (h21 : s ≤ 61) (hp : p ≤ s) : Ch (e + 1) (a * mkRat (p : Int) s) := by
  obtain ⟨h0, h1, h2⟩ := h
  have m0 := mk_nonneg p s hs
  have m1 := mk_le_one p s hs hp
  refine ⟨Rat.mul_nonneg h0 m0, ?_, Nat.dvd_trans (mul_den_dvd _ _) ?_⟩
  · have z := Rat.mul_le_mul_of_nonneg_left m1 h0
    rw [Rat.mul_one] at z
    exact Rat.le_trans z h1
  · rw [Nat.pow_succ]
    exact Nat.mul_dvd_mul h2 (Nat.dvd_trans (mk_den_dvd hs) (ll_dvd s hs h21))
theorem ch_zero {e : Nat} : Ch e 0 := ⟨by decide, by decide, Nat.one_dvd _⟩
theorem ch_one {e : Nat} : Ch e 1 := ⟨by decide, by decide, Nat.one_dvd _⟩
theorem ch_share {p s : Nat} (hs : 0 < s) (h21 : s ≤ 61) (hp : p ≤ s) : Ch 1 (mkRat (p : Int) s) := by
  have z := ch_one.mul (e := 0) hs h21 hp
  rw [Rat.one_mul] at z
  exact z
/-! ### right trees -/
def col {n : Nat} (q : Qn n) (j : Nat) : List Rat := q.map fun a => a.2.1.getD j 0
def WordOk (w : List Int) : Prop := w.length ≤ 8 ∧ ∀ x ∈ w, 0 ≤ x ∧ x ≤ 99
/-- one question right but for what is behind -/
structure QnOk (W : Nat) {n : Nat} (ahead : List Rat) (q : Qn n) : Prop where
  one : 1 ≤ q.length
  most : q.length ≤ 12
  words : ∀ a ∈ q, WordOk a.1
  asc : ∀ i (x y : An n), q[i]? = some x → q[i + 1]? = some y → HT.lexLt x.1 y.1 = true
  wide : ∀ a ∈ q, a.2.1.length = W
  chs : ∀ a ∈ q, ∀ r ∈ a.2.1, Ch 6 r
  whole : ∀ j, j < W → fsum (col q j) = ahead.getD j 0
def NdOk (W : Nat) : (n : Nat) → List Rat → Nd n → Prop
  | 0, _, _ => True
  | n + 1, ahead, qs => (show List (Qn n) from qs).length ≤ 5 ∧ ∀ q ∈ (show List (Qn n) from qs), QnOk W ahead q ∧ ∀ a ∈ q, NdOk W n a.2.1 a.2.2
theorem ndOk_empty (W n : Nat) (ws : List Rat) : NdOk W n ws (emptyNd n) := by
  cases n with
  | zero => trivial
  | succ n => exact ⟨Nat.zero_le _, fun q h => absurd h List.not_mem_nil⟩
end Tl
namespace Tl
open PySem PySem.Spec PyProof.Rows L2 RZ
/-- all but the lists at b, g, l stays -/
def Frl (b g l : Addr) (H H' : Hp) : Prop := ∀ a o, H a = some o → a ≠ b → a ≠ g → a ≠ l → H' a = some o
theorem Frl.refl (b g l : Addr) (H : Hp) : Frl b g l H H := fun _ _ h _ _ _ => h
theorem Frl.trans {b g l : Addr} {H1 H2 H3 : Hp} (x : Frl b g l H1 H2) (y : Frl b g l H2 H3) : Frl b g l H1 H3 := fun a o h h1 h2 h3 => y a o (x a o h h1 h2 h3) h1 h2 h3
theorem Frl.of {b g l : Addr} {H H' : Hp} (h : Same H H') : Frl b g l H H' := fun a o q _ _ _ => h a o q
theorem Frl.ofF {b g l : Addr} {H H' : Hp} (h : Frm b g H H') : Frl b g l H H' := fun a o q h1 h2 _ => h a o q h1 h2
theorem Frl.updL {b g l : Addr} {H : Hp} {o : HO} : Frl b g l H (upd H l o) := fun a x h _ _ h3 => by rw [upd_ne h3]; exact h
theorem Frl.updN {b g l p : Addr} {H H' : Hp} {o : HO} (f : Frl b g l H H') (h : H p = none) : Frl b g l H (upd H' p o) := fun a x e h1 h2 h3 => by
  rw [upd_ne (ne_of_none e h)]
  exact f a x e h1 h2 h3
/-- the bag and the list that tells how many answers are left -/
structure BagL (H : Hp) (b g l : Addr) (L : Int) : Prop where
  B : Bag H b g
  hl : H l = some (.lst [.int L])
  lb : l ≠ b
  lg : l ≠ g
theorem BagL.kt {K : PySem.W.Frag} {b g l : Addr} {L : Int} {H H' : Hp} (B : BagL H b g l L) (f : Frl b g l H H') : KT K H H' := fun a xs q => by
  have ne : ∀ {o : HO}, H a = some o → (∀ xs, o ≠ .lst xs) → a ≠ b ∧ a ≠ g ∧ a ≠ l := fun {o} e z => by
    obtain ⟨h1, h2⟩ := B.B.other e z
    exact ⟨h1, h2, fun y => by rw [y, B.hl] at e; exact z _ (Option.some.inj e).symm⟩
  rcases q with (q | ⟨o, q⟩) | q
  · obtain ⟨h1, h2, h3⟩ := ne q (fun xs z => by cases z)
    exact .inl (.inl (f _ _ q h1 h2 h3))
  · obtain ⟨h1, h2, h3⟩ := ne q (fun xs z => by cases z)
    exact .inl (.inr ⟨o, f _ _ q h1 h2 h3⟩)
  · exact .inr q
theorem BagL.keep {b g l : Addr} {L : Int} {H H' : Hp} (B : BagL H b g l L) (s : Same H H') : BagL H' b g l L := ⟨B.B.keep s, s _ _ B.hl, B.lb, B.lg⟩
theorem BagL.neNew {b g l p : Addr} {L : Int} {H : Hp} (B : BagL H b g l L) (h : H p = none) : p ≠ b ∧ p ≠ g ∧ p ≠ l := by
  obtain ⟨h1, h2⟩ := B.B.neNew h
  exact ⟨h1, h2, fun e => by rw [e, B.hl] at h; cases h⟩
theorem BagL.bag {b g l : Addr} {L : Int} {H H' : Hp} (B : BagL H b g l L) (B' : Bag H' b g) (f : Frm b g H H') : BagL H' b g l L := ⟨B', f _ _ B.hl B.lb B.lg, B.lb, B.lg⟩
theorem BagL.updN {b g l p : Addr} {L : Int} {H : Hp} {o : HO} (B : BagL H b g l L) (h1 : p ≠ b) (h2 : p ≠ g) (h3 : p ≠ l) : BagL (upd H p o) b g l L :=
  ⟨B.B.updN h1 h2, by rw [upd_ne h3.symm]; exact B.hl, B.lb, B.lg⟩
theorem BagL.updL {b g l : Addr} {L M : Int} {H : Hp} (B : BagL H b g l L) : BagL (upd H l (.lst [.int M])) b g l M :=
  ⟨B.B.updN B.lb B.lg, upd_same, B.lb, B.lg⟩
theorem Frl.none {b g l p : Addr} {H H' : Hp} (f : Frl b g l H H') (h : H' p = Option.none) (h1 : p ≠ b) (h2 : p ≠ g) (h3 : p ≠ l) : H p = Option.none := by
  cases e : H p with
  | none => rfl
  | some o =>
    rw [f p o e h1 h2 h3] at h
    cases h
def spSome : Sp := fun vs H Q _ => ∃ (b g t : Addr) (xs : List V), vs = [.ref b, .ref t] ∧ Bag H b g ∧ H t = some (.lst xs) ∧ t ≠ b ∧ t ≠ g ∧ 0 < xs.length ∧ xs.length ≤ 1000 ∧
  ∀ (i : Nat) (x : V) (H' : Hp), xs[i]? = some x → Bag H' b g → Frm b g H H' → Q x H'
section
variable {P : Program} {w : World} {K : PySem.W.Frag} {mg : Str → Option Value} {base : Heap}
theorem ok_law_some {f f3 : Addr} {fd fd3 : FuncData} (D : Dn K mg "_law_some" s_law_some ["bag", "things"] f fd) (B : Blt mg) (D_law_pick : Dn K mg "_law_pick" s_law_pick ["bag", "many"] f3 fd3) : FnOk P w K mg base CX0 2 f fd ["bag", "things"] spSome := by
  have G_law_pick : FnOk P w K mg base CX0 1 f3 fd3 ["bag", "many"] spPick := ok_law_pick D_law_pick B
  refine D.F.ok sc_law_some (fun vs H Q E h => ?_) (fun cdv A outer s H vs Q E hr h => ?_)
  · obtain ⟨b, g, t, xs, rfl, _⟩ := h
    rfl
  obtain ⟨b, g, t, xs, rfl, hB, ht, tb, tg, h1, h2, q⟩ := h
  have nd := sc_law_some.nd
  refine ⟨_, (pss_one (ps_ret (pe_ix (k_ixL (K := K) rfl) (pv 1) (pe_call G_law_pick (hr.mono (by omega)) (by rfl) D_law_pick.m D_law_pick.F.kp D_law_pick.b .nil pass0 (pa_cons (pv 0) (pa_cons (pe_callB (k_len (K := K) rfl) (by rfl) B.len PySem.boot_len (pa_cons (pv 1) pa_nil)) pa_nil))) (fun _ _ => rfl)))), ?_⟩
  refine ⟨_, rfl, _, rfl, _, rfl, t, _, rfl, .inl (SqL.of ht), b, g, _, rfl, hB, by omega, by omega, fun r H' r0 r1 B' F' => ?_⟩
  obtain ⟨j, ej⟩ : ∃ j : Nat, r = (j : Int) := ⟨r.toNat, by omega⟩
  have hj : j < xs.length := by omega
  have gj : xs[j]? = some xs[j] := List.getElem?_eq_getElem hj
  exact ⟨t, xs, r, xs[j], rfl, rfl, SqL.of (F' _ _ ht tb tg), at_of (j := j) ej gj, q j _ H' gj B' F'⟩
end
/-! ### questions and nodes that the law draws -/
/-- right nodes of questions of at most three answers -/
def NdF (W : Nat) : (n : Nat) → List Rat → Nd n → Prop
  | 0, _, _ => True
  | n + 1, ahead, qs => (show List (Qn n) from qs).length ≤ 5 ∧ ∀ q ∈ (show List (Qn n) from qs), (QnOk W ahead q ∧ q.length ≤ 3) ∧ ∀ a ∈ q, NdF W n a.2.1 a.2.2
theorem ndF_empty (W n : Nat) (ws : List Rat) : NdF W n ws (emptyNd n) := by
  cases n with
  | zero => trivial
  | succ n => exact ⟨Nat.zero_le _, fun q h => absurd h List.not_mem_nil⟩
theorem NdF.ok : ∀ {W n : Nat} {ahead : List Rat} {t : Nd n}, NdF W n ahead t → NdOk W n ahead t
  | _, 0, _, _, _ => trivial
  | _, _ + 1, _, _, h => ⟨h.1, fun q hq => ⟨(h.2 q hq).1.1, fun a ha => NdF.ok ((h.2 q hq).2 a ha)⟩⟩
def lowL (n : Nat) : Int := -(3 * (n : Int) + 2)
def spQ (K : PySem.W.Frag) : Nat → Sp
  | 0 => fun _ _ _ _ => False
  | n + 1 => fun vs H Q _ => ∃ (b g l : Addr) (W e : Nat) (av : V) (ahead : List Rat) (L : Int), vs = [.ref b, .int (W : Int), av, .int ((n + 1 : Nat) : Int), .ref l] ∧ BagL H b g l L ∧ Td K H av (wsD ahead) ∧
      ahead.length = W ∧ (∀ r ∈ ahead, Ch e r) ∧ e + (n + 1) ≤ 6 ∧ 1 ≤ W ∧ W ≤ 5 ∧
      ∀ (v : V) (q : Qn n) (L' : Int) (H' : Hp), Td K H' v (qnD n q) → (QnOk W ahead q ∧ q.length ≤ 3) → (∀ a ∈ q, NdF W n a.2.1 a.2.2) → ((cntQ n q : Nat) : Int) + L' = L → (L - 3 ≤ L' ∨ lowL n ≤ L') → BagL H' b g l L' → Frl b g l H H' → Q v H'
def spN (K : PySem.W.Frag) (n : Nat) : Sp := fun vs H Q _ => ∃ (b g l : Addr) (W e : Nat) (av : V) (ahead : List Rat) (L : Int), vs = [.ref b, .int (W : Int), av, .int (n : Int), .ref l] ∧ BagL H b g l L ∧ Td K H av (wsD ahead) ∧
      ahead.length = W ∧ (∀ r ∈ ahead, Ch e r) ∧ e + n ≤ 6 ∧ 1 ≤ W ∧ W ≤ 5 ∧
      ∀ (v : V) (t : Nd n) (L' : Int) (H' : Hp), Td K H' v (ndD n t) → NdF W n ahead t → ((cnt n t : Nat) : Int) + L' = L → (L ≤ L' ∨ lowL n ≤ L') → BagL H' b g l L' → Frl b g l H H' → Q v H'
/-- lists of fractions, told by their places, away from Z -/
def RowsAt (K : PySem.W.Frag) (b g l : Addr) (Z : Addr → Prop) (H : Hp) (R : Addr) (ds : List (List Rat)) : Prop := R ≠ b ∧ R ≠ g ∧ R ≠ l ∧ ¬ Z R ∧ ∃ rs : List Addr, H R = some (.lst (rs.map V.ref)) ∧ rs.length = ds.length ∧
  ∀ (i : Nat) (r : Addr) (d : List Rat), rs[i]? = some r → ds[i]? = some d → (r ≠ R ∧ ¬ Z r) ∧ r ≠ b ∧ r ≠ g ∧ r ≠ l ∧ ∃ us, H r = some (.lst us) ∧ TdAll K H us (d.map rD)
theorem RowsAt.keep {K : PySem.W.Frag} {b g l R : Addr} {Z : Addr → Prop} {H H' : Hp} {ds : List (List Rat)} (h : RowsAt K b g l Z H R ds) (k : KT K H H') (f : Frl b g l H H') : RowsAt K b g l Z H' R ds := by
  obtain ⟨n1, n2, n3, n4, rs, h1, h2, h3⟩ := h
  refine ⟨n1, n2, n3, n4, rs, f _ _ h1 n1 n2 n3, h2, fun i r d e1 e2 => ?_⟩
  obtain ⟨m0, m1, m2, m3, us, u1, u2⟩ := h3 i r d e1 e2
  exact ⟨m0, m1, m2, m3, us, f _ _ u1 m1 m2 m3, u2.keep k⟩
theorem RowsAt.avoid {K : PySem.W.Frag} {b g l R φ : Addr} {Z : Addr → Prop} {H : Hp} {ds : List (List Rat)} (h : RowsAt K b g l Z H R ds) (n : H φ = none) : RowsAt K b g l (fun x => x = φ) H R ds := by
  obtain ⟨n1, n2, n3, _, rs, h1, h2, h3⟩ := h
  refine ⟨n1, n2, n3, ne_of_none h1 n, rs, h1, h2, fun i r d e1 e2 => ?_⟩
  obtain ⟨m0, m1, m2, m3, us, u1, u2⟩ := h3 i r d e1 e2
  exact ⟨⟨m0.1, ne_of_none u1 n⟩, m1, m2, m3, us, u1, u2⟩
end Tl
namespace Tl
open PySem PySem.Spec PyProof.Rows L2 RZ
def cntB (n : Nat) (q : Qn n) : Nat := (q.map fun a => cnt n a.2.2).sum
theorem cntQ_eq (n : Nat) : ∀ q : Qn n, cntQ n q = q.length + cntB n q
  | [] => rfl
  | a :: r => by
    have ih := cntQ_eq n r
    show (1 + cnt n a.2.2) + cntQ n r = (r.length + 1) + (cnt n a.2.2 + cntB n r)
    omega
theorem cntB_snoc (n : Nat) (q : Qn n) (a : An n) : cntB n (q ++ [a]) = cntB n q + cnt n a.2.2 := by
  unfold cntB
  rw [List.map_append, List.sum_append]
  rfl
/-- the weights of the i-th answer -/
def wk (W : Nat) (ahead : List Rat) (ds : List (List Rat)) (i : Nat) : List Rat := (List.range W).map fun j => ahead.getD j 0 * (ds.getD j []).getD i 0
/-- a drawn answer in its place -/
structure AnIs (W n : Nat) (ahead : List Rat) (ds : List (List Rat)) (i : Nat) (a : An n) : Prop where
  w : ∃ r : List Int, a.1 = 11 * (i : Int) :: r ∧ r.length ≤ 7 ∧ ∀ x ∈ r, 0 ≤ x ∧ x ≤ 99
  ws : a.2.1 = wk W ahead ds i
  ok : NdF W n a.2.1 a.2.2
theorem getD_of {α : Type} {l : List α} {i : Nat} {x d : α} (h : l[i]? = some x) : l.getD i d = x := by
  rw [List.getD_eq_getElem?_getD, h]
  rfl
theorem wk_at {W : Nat} {ahead : List Rat} {ds : List (List Rat)} {i j : Nat} (hj : j < W) : (wk W ahead ds i).getD j 0 = ahead.getD j 0 * (ds.getD j []).getD i 0 := by
  refine getD_of ?_
  unfold wk
  rw [List.getElem?_map, List.getElem?_range hj]
  rfl
theorem mem_getD0 {l : List Rat} {P : Rat → Prop} (h : ∀ r ∈ l, P r) {j : Nat} (hj : j < l.length) : P (l.getD j 0) := by
  rw [getD_of (List.getElem?_eq_getElem hj)]
  exact h _ (List.getElem_mem hj)
theorem share_at {m i : Nat} {rs : List Rat} (h : IsShares m rs) (hi : i < m) : ∃ p s : Nat, 0 < s ∧ s ≤ 5 * m + 1 ∧ p ≤ s ∧ rs.getD i 0 = mkRat (p : Int) s := by
  obtain ⟨ps, h1, h2, h3, rfl⟩ := h
  have hi2 : i < ps.length := by omega
  refine ⟨ps[i], ps.sum, h2, h3, ?_, getD_of (by rw [List.getElem?_map, List.getElem?_eq_getElem hi2]; rfl)⟩
  have : ∀ (l : List Nat) (x : Nat), x ∈ l → x ≤ l.sum := fun l => by
    induction l with
    | nil =>
      intro x h
      exact absurd h List.not_mem_nil
    | cons y r ih =>
      intro x h
      rcases List.mem_cons.mp h with rfl | h
      · show x ≤ x + r.sum
        omega
      · have := ih x h
        show x ≤ y + r.sum
        omega
  exact this ps _ (List.getElem_mem hi2)
theorem shares_col {m : Nat} {rs : List Rat} (h : IsShares m rs) (a : Rat) : fsum (rs.map fun x => a * x) = a := by
  obtain ⟨ps, h1, h2, h3, rfl⟩ := h
  rw [fsum_mul, fsum_mk _ h2, mk_same _ h2, Rat.mul_one]
/-- a drawn question is right -/
theorem drawn_ok {W n m e : Nat} {ahead : List Rat} {ds : List (List Rat)} {q : Qn n} (hm1 : 1 ≤ m) (hm : m ≤ 3) (hq : q.length = m) (hd : ds.length = W) (ha : ahead.length = W) (hS : ∀ d ∈ ds, IsShares m d) (hA : ∀ r ∈ ahead, Ch e r) (he : e + 1 ≤ 6)
    (h : ∀ i a, q[i]? = some a → AnIs W n ahead ds i a) : QnOk W ahead q ∧ (∀ a ∈ q, ∀ r ∈ a.2.1, Ch (e + 1) r) := by
  have dj : ∀ j, j < W → IsShares m (ds.getD j []) := fun j hj => by
    have hj2 : j < ds.length := by omega
    rw [getD_of (List.getElem?_eq_getElem hj2)]
    exact hS _ (List.getElem_mem hj2)
  have aj : ∀ j, j < W → Ch e (ahead.getD j 0) := fun j hj => mem_getD0 hA (by omega)
  have chw : ∀ a ∈ q, ∀ r ∈ a.2.1, Ch (e + 1) r := by
    intro a hm' r hr
    obtain ⟨i, hi, rfl⟩ := List.getElem_of_mem hm'
    have A := h i _ (List.getElem?_eq_getElem hi)
    rw [A.ws] at hr
    unfold wk at hr
    obtain ⟨j, hj, rfl⟩ := List.mem_map.mp hr
    have hj := List.mem_range.mp hj
    obtain ⟨p, s, s0, s1, ps, e1⟩ := share_at (dj j hj) (show i < m by omega)
    rw [e1]
    exact (aj j hj).mul s0 (by omega) ps
  have colj : ∀ j, j < W → col q j = (ds.getD j []).map fun x => ahead.getD j 0 * x := by
    intro j hj
    have lj : (ds.getD j []).length = m := by
      obtain ⟨ps, h1, _, _, e1⟩ := dj j hj
      rw [e1, List.length_map, h1]
    refine List.ext_getElem? fun i => ?_
    unfold col
    rw [List.getElem?_map, List.getElem?_map]
    by_cases hi : i < m
    · have g1 : q[i]? = some q[i] := List.getElem?_eq_getElem (by omega)
      have g2 : (ds.getD j [])[i]? = some (ds.getD j [])[i] := List.getElem?_eq_getElem (by omega)
      rw [g1, g2]
      have e3 : (q[i]).2.1 = wk W ahead ds i := (h i _ g1).ws
      show some ((q[i]).2.1.getD j 0) = some (ahead.getD j 0 * (ds.getD j [])[i])
      rw [e3, wk_at hj, getD_of g2]
    · rw [List.getElem?_eq_none (by omega), List.getElem?_eq_none (by omega)]
      rfl
  refine ⟨⟨by omega, by omega, ?_, ?_, ?_, ?_, ?_⟩, chw⟩
  · intro a hm'
    obtain ⟨i, hi, rfl⟩ := List.getElem_of_mem hm'
    obtain ⟨r, e1, e2, e3⟩ := (h i _ (List.getElem?_eq_getElem hi)).w
    rw [e1]
    refine ⟨by rw [List.length_cons]; omega, fun x hx => ?_⟩
    rcases List.mem_cons.mp hx with rfl | hx
    · omega
    · exact e3 x hx
  · intro i x y hx hy
    obtain ⟨r, e1, _⟩ := (h i _ hx).w
    obtain ⟨r2, e2, _⟩ := (h (i + 1) _ hy).w
    rw [e1, e2]
    show (if 11 * (i : Int) = 11 * ((i + 1 : Nat) : Int) then HT.lexLt r r2 else decide (11 * (i : Int) < 11 * ((i + 1 : Nat) : Int))) = true
    rw [if_neg (by omega)]
    exact decide_eq_true (by omega)
  · intro a hm'
    obtain ⟨i, hi, rfl⟩ := List.getElem_of_mem hm'
    rw [(h i _ (List.getElem?_eq_getElem hi)).ws]
    unfold wk
    rw [List.length_map, List.length_range]
  · exact fun a h1 r h2 => (chw a h1 r h2).mono he
  · intro j hj
    rw [colj j hj]
    exact shares_col (dj j hj) _
end Tl
namespace Tl
open PySem PySem.Spec PyProof.Rows L2 RZ
theorem cmul_small {i j : Int} (h1 : i.natAbs < 1024) (h2 : j.natAbs < 1024) : CMulW i j := wide_mul (a := 10) (b := 10) h1 h2 (by decide) (by decide) (by decide)
theorem pow_lt2000 {e : Nat} (h : e ≤ 14) : LL ^ e < 2 ^ 2000 := Nat.lt_of_le_of_lt (ll_small (k := 1500) (by omega)) (Nat.pow_lt_pow_right (by decide) (by decide))
/-- the five words that the law picks from -/
def five (k : Int) : List (List Int) := [[k], [7 * k, 3], [9 * k + 1, 0, 99], List.replicate 7 (90 + k), []]
theorem five_ok {k : Int} (h0 : 0 ≤ k) (h2 : k ≤ 2) : ∀ r ∈ five k, r.length ≤ 7 ∧ ∀ x ∈ r, 0 ≤ x ∧ x ≤ 99 := by
  intro r hr
  unfold five at hr
  simp only [List.mem_cons, List.not_mem_nil, or_false] at hr
  rcases hr with rfl | rfl | rfl | rfl | rfl
  · exact ⟨by simp, fun x hx => by simp at hx; omega⟩
  · exact ⟨by simp, fun x hx => by simp at hx; omega⟩
  · exact ⟨by simp, fun x hx => by simp at hx; omega⟩
  · exact ⟨by simp, fun x hx => by rw [List.mem_replicate] at hx; omega⟩
  · exact ⟨by simp, fun x hx => absurd hx List.not_mem_nil⟩
section
variable {P : Program} {w : World} {K : PySem.W.Frag} {mg : Str → Option Value} {base : Heap}
theorem ok_law_question {m : Nat} {f f1 f2 f3 f4 f5 f6 f7 : Addr} {fd fd1 fd2 fd3 fd4 fd5 fd6 fd7 : FuncData} (D : Dn K mg "_law_question" s_law_question ["bag", "worlds", "ahead", "levels", "left"] f fd) (B : Blt mg) (D_law_low : Dn K mg "_law_low" s_law_low ["top", "bottom"] f1 fd1) (D_law_common : Dn K mg "_law_common" s_law_common ["one", "other"] f2 fd2)
    (D_law_pick : Dn K mg "_law_pick" s_law_pick ["bag", "many"] f3 fd3) (D_law_shares : Dn K mg "_law_shares" s_law_shares ["bag", "many", "least"] f4 fd4) (D_law_some : Dn K mg "_law_some" s_law_some ["bag", "things"] f5 fd5) (D_law_times : Dn K mg "_law_times" s_law_times ["one", "other"] f6 fd6)
    (D_law_node : Dn K mg "_law_node" s_law_node ["bag", "worlds", "ahead", "levels", "left"] f7 fd7) (G_law_node : FnOk P w K mg base CX0 (6 + 2 * m) f7 fd7 ["bag", "worlds", "ahead", "levels", "left"] (spN K m)) :
    FnOk P w K mg base CX0 (7 + 2 * m) f fd ["bag", "worlds", "ahead", "levels", "left"] (spQ K (m + 1)) := by
  have G_law_pick : FnOk P w K mg base CX0 1 f3 fd3 ["bag", "many"] spPick := ok_law_pick D_law_pick B
  have G_law_shares : FnOk P w K mg base CX0 3 f4 fd4 ["bag", "many", "least"] (spShares K) := ok_law_shares D_law_shares B D_law_low D_law_common D_law_pick
  have G_law_some : FnOk P w K mg base CX0 2 f5 fd5 ["bag", "things"] spSome := ok_law_some D_law_some B D_law_pick
  have G_law_times : FnOk P w K mg base CX0 3 f6 fd6 ["one", "other"] (spTimes K) := ok_law_times D_law_times B D_law_low D_law_common
  rw [show 7 + 2 * m = (6 + 2 * m) + 1 by omega]
  refine D.F.ok sc_law_question (fun vs H Q E h => ?_) (fun cdv A outer s H vs Q E hr h => ?_)
  · obtain ⟨b, g, l, W, e, av, ahead, L, rfl, _⟩ := h
    rfl
  obtain ⟨b, g, l, W, e, av, ahead, L, rfl, hB, hav, hla, hch, hel, hW1, hW5, q⟩ := h
  have nd := sc_law_question.nd
  refine ⟨_, (pss_cons (ps_set (i := 5) nd rfl (.inr rfl) (pe_op op_add pe_int (pe_call G_law_pick (hr.mono (by omega)) (by rfl) D_law_pick.m D_law_pick.F.kp D_law_pick.b .nil pass0 (pa_cons (pv 0) (pa_cons pe_int pa_nil)))))
      (pss_cons (ps_augS (pv 4) pe_int (k_getL (K := K) rfl) (pv 5) ip_sub set_list)
      (pss_cons (ps_set (i := 6) nd rfl (.inr rfl) (pe_lc (own := [("world", 7)]) rfl nd (pi_range1 (by rfl) B.range (pa_cons (pv 1) pa_nil)) (blkOk_by (own := [("world", 7)]) (by kernel_rfl)) (fun _ _ _ _ _ => (pg_name (i := 7) nd rfl (.inl rfl))) (fun _ _ _ _ _ => pts_nil) (fun _ _ _ _ _ => (pe_call G_law_shares (hr.mono (by omega)) (by rfl) D_law_shares.m D_law_shares.F.kp D_law_shares.b .nil pass0 (pa_cons (pv 0) (pa_cons (pv 5) (pa_cons (pe_call G_law_pick (hr.mono (by omega)) (by rfl) D_law_pick.m D_law_pick.F.kp D_law_pick.b .nil pass0 (pa_cons (pv 0) (pa_cons pe_int pa_nil))) pa_nil)))))))
      (pss_cons (ps_set (i := 8) nd rfl (.inl rfl) (pe_lst pa_nil))
      (pss_cons (ps_for PassesOwn.never rfl (pi_range1 (by rfl) B.range (pa_cons (pv 5) pa_nil)) (pg_name (i := 9) nd rfl (.inr rfl)) (pss_cons (ps_set (i := 10) nd rfl (.inl rfl) (pe_call G_law_some (hr.mono (by omega)) (by rfl) D_law_some.m D_law_some.F.kp D_law_some.b .nil pass0 (pa_cons (pv 0) (pa_cons (pe_lst (pa_cons (pe_tup (pa_cons (pv 9) pa_nil)) (pa_cons (pe_tup (pa_cons (pe_op op_mulW pe_int (pv 9)) (pa_cons pe_int pa_nil))) (pa_cons (pe_tup (pa_cons (pe_op op_add (pe_op op_mulW pe_int (pv 9)) pe_int) (pa_cons pe_int (pa_cons pe_int pa_nil)))) (pa_cons (pe_op (k_rep (K := K) rfl) (pe_tup (pa_cons (pe_op op_add pe_int (pv 9)) pa_nil)) pe_int) (pa_cons (pe_tup pa_nil) pa_nil)))))) pa_nil))))
      (pss_cons (ps_set (i := 11) nd rfl (.inl rfl) (pe_callTy (k_tupOf (K := K) rfl) (by rfl) B.tuple (by decide +kernel) (pa_cons (pe_lc (own := [("world", 7)]) rfl nd (pi_range1 (by rfl) B.range (pa_cons (pv 1) pa_nil)) (blkOk_by (own := [("world", 7)]) (by kernel_rfl)) (fun _ _ _ _ _ => (pg_name (i := 7) nd rfl (.inl rfl))) (fun _ _ _ _ _ => pts_nil) (fun _ _ _ _ _ => (pe_call G_law_times (hr.mono (by omega)) (by rfl) D_law_times.m D_law_times.F.kp D_law_times.b .nil pass0 (pa_cons (pe_ix (k_ixT (K := K) rfl) (pv 2) (pv 7) (fun _ _ => rfl)) (pa_cons (pe_ix (k_ixL (K := K) rfl) (pe_ix (k_ixL (K := K) rfl) (pv 6) (pv 7) (fun _ _ => rfl)) (pv 9) (fun _ _ => rfl)) pa_nil))))) pa_nil)))
      (pss_one (ps_expr (pe_bm PySem.F.plainAttrs_list PySem.F.slot_list_append PySem.F.type_list_append mt_append (pv 8) (pa_cons (pe_tup (pa_cons (pe_op (k_cat (K := K) rfl) (pe_tup (pa_cons (pe_op op_mulW pe_int (pv 9)) pa_nil)) (pv 10)) (pa_cons (pv 11) (pa_cons (pe_call G_law_node (hr.mono (by omega)) (by rfl) D_law_node.m D_law_node.F.kp D_law_node.b .nil pass0 (pa_cons (pv 0) (pa_cons (pv 1) (pa_cons (pv 11) (pa_cons (pe_op op_sub (pv 3) pe_int) (pa_cons (pv 4) pa_nil)))))) pa_nil)))) pa_nil)))))))
      (pss_one (ps_ret (pe_callTy (k_tupOf (K := K) rfl) (by rfl) B.tuple (by decide +kernel) (pa_cons (pv 8) pa_nil))))))))), ?_⟩
  -- many = 1 + _law_pick(bag, 3)
  refine ⟨_, rfl, b, g, 3, rfl, hB.B, by decide, by decide, fun r H1 r0 r1 B1 F1 => ⟨_, _, rfl, rfl, ?_⟩⟩
  obtain ⟨mm, em⟩ : ∃ mm : Nat, 1 + r = (mm : Int) := ⟨(1 + r).toNat, by omega⟩
  have mm1 : 1 ≤ mm := by omega
  have mm3 : mm ≤ 3 := by omega
  show gName 5 (V.int (1 + r)) _ _ _
  rw [em]
  have B1 := hB.bag B1 F1
  have F1 : Frl b g l H H1 := .ofF F1
  have hav1 := hav.keep (hB.kt F1)
  -- left[0] -= many
  refine ⟨_, rfl, l, _, 0, _, rfl, rfl, SqL.of B1.hl, rfl, _, rfl, _, _, rfl, rfl, l, _, 0, 0, rfl, rfl, B1.hl, rfl, ?_⟩
  have B2 : BagL (upd H1 l (.lst ([V.int L].set 0 (.int (L - (mm : Int)))))) b g l (L - (mm : Int)) := B1.updL
  have F2 : Frl b g l H1 (upd H1 l (.lst ([V.int L].set 0 (.int (L - (mm : Int)))))) := Frl.updL
  generalize upd H1 l (.lst ([V.int L].set 0 (.int (L - (mm : Int))))) = H2 at B2 F2
  have hav2 := hav1.keep (B1.kt F2)
  have F02 := F1.trans F2
  clear F1 F2 B1 hav1
  -- rows
  refine ⟨_, rfl, _, rfl, by omega, by omega, fun R hR => ?_⟩
  obtain ⟨Rb, Rg, Rl⟩ := B2.neNew hR
  refine lc_range (lo := 0) (n := W) (fun i H3 => ∃ ds : List (List Rat), ds.length = i ∧ RowsAt K b g l (fun _ => False) H3 R ds ∧ (∀ d ∈ ds, IsShares mm d) ∧ BagL H3 b g l (L - (mm : Int)) ∧ Frl b g l H2 H3)
    ⟨[], rfl, ⟨Rb, Rg, Rl, (fun z => z), [], upd_same, rfl, fun i r d e1 _ => by simp at e1⟩, fun d h => absurd h List.not_mem_nil, B2.updN Rb Rg Rl, (Frl.refl b g l H2).updN hR⟩ ?_ ?_
  · rintro i H3 hi ⟨ds, hd, hRows, hS, B3, F3⟩
    refine ⟨rfl, ?_⟩
    refine iteT (B := ∃ ds : List (List Rat), ds.length = i + 1 ∧ RowsAt K b g l (fun _ => False) H3 R ds ∧ (∀ d ∈ ds, IsShares mm d) ∧ BagL H3 b g l (L - (mm : Int)) ∧ Frl b g l H2 H3) ?_
    refine ⟨_, rfl, _, rfl, _, rfl, b, g, 2, rfl, B3.B, by decide, by decide, fun r H4 r0 r1 B4 F4 => ?_⟩
    refine ⟨b, g, mm, r, rfl, B4, mm1, by omega, r0, by omega, fun ρ d us H5 hI h5 t5 fr B5 F5 => ?_⟩
    have B4 := B3.bag B4 F4
    have F4 : Frl b g l H3 H4 := .ofF F4
    have k4 := B3.kt (K := K) F4
    have nρ4 := B4.neNew fr
    have B5 := B4.bag B5 F5
    have F5 : Frl b g l H4 H5 := .ofF F5
    have k5 := k4.trans (B4.kt F5)
    have F35 := F4.trans F5
    obtain ⟨_, _, _, _, rs, h1, h2, h3⟩ := hRows.keep k5 F35
    have ρR : ρ ≠ R := fun z => by
      rw [z] at fr
      obtain ⟨_, _, _, _, rs', h1', _⟩ := hRows.keep k4 F4
      rw [h1'] at fr
      cases fr
    have kR : KT K H5 (upd H5 R (.lst (rs.map V.ref ++ [V.ref ρ]))) := KT.updL h1
    refine ⟨_, h1, by rw [List.length_map]; exact small1000 (by omega), ds ++ [d], by rw [List.length_append, hd]; rfl, ⟨Rb, Rg, Rl, (fun z => z), rs ++ [ρ], by rw [upd_same, List.map_append]; rfl, by rw [List.length_append, List.length_append, h2]; rfl, ?_⟩, ?_, B5.updN Rb Rg Rl, (F3.trans F35).updN hR⟩
    · intro j ρ' d' e1 e2
      by_cases hj : j < rs.length
      · rw [List.getElem?_append_left hj] at e1
        rw [List.getElem?_append_left (by omega)] at e2
        obtain ⟨nR, m1, m2, m3, us', u1, u2⟩ := h3 j ρ' d' e1 e2
        exact ⟨nR, m1, m2, m3, us', by rw [upd_ne nR.1]; exact u1, u2.keep kR⟩
      · have ej : j = rs.length := by
          have := (List.getElem?_eq_some_iff.mp e1).1
          rw [List.length_append] at this
          simp at this
          omega
        subst ej
        rw [List.getElem?_append_right (Nat.le_refl _), Nat.sub_self] at e1
        rw [h2, List.getElem?_append_right (Nat.le_refl _), Nat.sub_self] at e2
        cases e1
        cases e2
        exact ⟨⟨ρR, fun z => z⟩, nρ4.1, nρ4.2.1, nρ4.2.2, us, by rw [upd_ne ρR]; exact h5, t5.keep kR⟩
    · intro d' hd'
      rcases List.mem_append.mp hd' with h | h
      · exact hS d' h
      · rw [List.mem_singleton.mp h]
        exact hI
  rintro H3 ⟨ds, hd, hRows, hS, B3, F3⟩
  have hav3 := hav2.keep (B2.kt F3)
  have F03 := F02.trans F3
  clear F3 F02 hav2 B2
  -- found = []
  refine ⟨Nat.zero_le _, fun φ hφ => ?_⟩
  obtain ⟨φb, φg, φl⟩ := B3.neNew hφ
  have sφ : Same H3 (upd H3 φ (.lst [])) := same_upd hφ
  have hφ0 : H φ = none := F03.none hφ φb φg φl
  -- for k in range(many)
  refine ⟨_, rfl, _, rfl, by omega, by omega, for_range (lo := 0) (n := mm) (fun i σ H4 => ∃ (qs : Qn m) (us : List V) (L4 : Int) (o7 o9 o10 o11 : Option V),
      σ = [some (.ref b), some (.int (W : Int)), some av, some (.int ((m + 1 : Nat) : Int)), some (.ref l), some (.int (mm : Int)), some (.ref R), o7, some (.ref φ), o9, o10, o11] ∧ qs.length = i ∧ H4 φ = some (.lst us) ∧ TdAll K H4 us (qs.map (anD m)) ∧
      (∀ j a, qs[j]? = some a → AnIs W m ahead ds j a) ∧ ((cntB m qs : Nat) : Int) + L4 = L - (mm : Int) ∧ (L - (mm : Int) ≤ L4 ∨ lowL m ≤ L4) ∧ RowsAt K b g l (fun x => x = φ) H4 R ds ∧ R ≠ φ ∧ Td K H4 av (wsD ahead) ∧ BagL H4 b g l L4 ∧ Frl b g l H H4)
    ⟨[], [], L - (mm : Int), none, none, none, none, rfl, rfl, upd_same, .nil, fun j a h => by simp at h, by show ((0 : Nat) : Int) + _ = _; omega, .inl (Int.le_refl _), (hRows.avoid hφ).keep (Same.kt sφ) (.of sφ), ?_, hav3.keep (Same.kt sφ), B3.updN φb φg φl, F03.updN hφ0⟩ ?_ ?_⟩
  · intro z
    obtain ⟨_, _, _, _, rs, h1, _⟩ := hRows
    rw [z, hφ] at h1
    cases h1
  · clear sφ hRows B3 F03 hφ hav3
    rintro i σ H4 hi ⟨qs, us, L4, o7, o9, o10, o11, rfl, hq, h4, t4, hA, hc, hlow, hRows, hRφ, hav4, B4, F4⟩
    have hk : (0 : Int) + (i : Int) = (i : Int) := by omega
    show gName 9 (.int (0 + (i : Int))) _ _ _
    rw [hk]
    -- the five words
    refine ⟨_, rfl, _, rfl, (by show 1 ≤ sizeLine; decide), fun p1 n1 => ?_⟩
    refine ⟨_, rfl, _, _, rfl, rfl, cmul_small (by decide) (by omega), (by show 2 ≤ sizeLine; decide), fun p2 n2 => ?_⟩
    refine ⟨_, rfl, _, _, rfl, rfl, cmul_small (by decide) (by omega), _, _, rfl, rfl, (by show 3 ≤ sizeLine; decide), fun p3 n3 => ?_⟩
    refine ⟨_, rfl, _, _, rfl, rfl, (by show 1 ≤ sizeLine; decide), fun p4 n4 => ?_⟩
    have s4 : Same H4 (upd (upd (upd (upd H4 p1 (.tup [.int (i : Int)])) p2 (.tup [.int (7 * (i : Int)), .int 3])) p3 (.tup [.int (9 * (i : Int) + 1), .int 0, .int 99])) p4 (.tup [.int (90 + (i : Int))])) :=
      (((same_upd n1).trans (same_upd n2)).trans (same_upd n3)).trans (same_upd n4)
    refine ⟨p4, 7, _, rfl, rfl, .inl (.inl upd_same), by simp, by decide, by decide, by simp, fun p5 H5 s5 t5 => ?_⟩
    refine ⟨Nat.zero_le _, fun p6 n6 => ?_⟩
    refine ⟨(by show 5 ≤ sizeLine; decide), fun t nt => ?_⟩
    have t1 : SqT K (upd (upd H5 p6 (.tup [])) t (.lst [.ref p1, .ref p2, .ref p3, .ref p5, .ref p6])) p1 [.int (i : Int)] := Same.kt (same_upd nt) _ _ (Same.kt (same_upd n6) _ _ (Same.kt s5 _ _ (Same.kt (same_upd n4) _ _ (Same.kt (same_upd n3) _ _ (Same.kt (same_upd n2) _ _ (.inl (.inl upd_same)))))))
    have t2 : SqT K (upd (upd H5 p6 (.tup [])) t (.lst [.ref p1, .ref p2, .ref p3, .ref p5, .ref p6])) p2 [.int (7 * (i : Int)), .int 3] := Same.kt (same_upd nt) _ _ (Same.kt (same_upd n6) _ _ (Same.kt s5 _ _ (Same.kt (same_upd n4) _ _ (Same.kt (same_upd n3) _ _ (.inl (.inl upd_same))))))
    have t3 : SqT K (upd (upd H5 p6 (.tup [])) t (.lst [.ref p1, .ref p2, .ref p3, .ref p5, .ref p6])) p3 [.int (9 * (i : Int) + 1), .int 0, .int 99] := Same.kt (same_upd nt) _ _ (Same.kt (same_upd n6) _ _ (Same.kt s5 _ _ (Same.kt (same_upd n4) _ _ (.inl (.inl upd_same)))))
    have t5' : SqT K (upd (upd H5 p6 (.tup [])) t (.lst [.ref p1, .ref p2, .ref p3, .ref p5, .ref p6])) p5 _ := Same.kt (same_upd nt) _ _ (Same.kt (same_upd n6) _ _ t5)
    have t6 : SqT K (upd (upd H5 p6 (.tup [])) t (.lst [.ref p1, .ref p2, .ref p3, .ref p5, .ref p6])) p6 [] := Same.kt (same_upd nt) _ _ (.inl (.inl upd_same))
    have s6 : Same H4 (upd (upd H5 p6 (.tup [])) t (.lst [.ref p1, .ref p2, .ref p3, .ref p5, .ref p6])) := ((s4.trans s5).trans (same_upd n6)).trans (same_upd nt)
    have ht : (upd (upd H5 p6 (.tup [])) t (.lst [.ref p1, .ref p2, .ref p3, .ref p5, .ref p6])) t = some (.lst [.ref p1, .ref p2, .ref p3, .ref p5, .ref p6]) := upd_same
    have nt4 : H4 t = none := ((s4.trans s5).trans (same_upd n6)).free nt
    generalize upd (upd H5 p6 (.tup [])) t (.lst [.ref p1, .ref p2, .ref p3, .ref p5, .ref p6]) = H6 at t1 t2 t3 t5' t6 s6 ht ⊢
    have tw : TdAll K H6 [.ref p1, .ref p2, .ref p3, .ref p5, .ref p6] ((five (i : Int)).map wdD) := by
      refine .cons (.tup t1 (tdAll_ints [(i : Int)])) (.cons (.tup t2 (tdAll_ints [7 * (i : Int), 3])) (.cons (.tup t3 (tdAll_ints [9 * (i : Int) + 1, 0, 99])) (.cons (.tup t5' ?_) (.cons (.tup t6 .nil) .nil))))
      have e : (List.replicate (Int.toNat 7) [V.int (90 + (i : Int))]).flatten = (List.replicate 7 (90 + (i : Int))).map V.int := rfl
      rw [e]
      exact tdAll_ints _
    clear t1 t2 t3 t5' t6 t5 n6 n4 n3 n2 n1 nt s5 s4
    obtain ⟨tb, tg, tl⟩ := B4.neNew nt4
    have B6 := B4.keep s6
    refine ⟨b, g, t, _, rfl, B6.B, ht, tb, tg, by simp, by simp, fun jj x H7 hx B7 F7 => ?_⟩
    obtain ⟨dx, hdx, tx⟩ := tw.getV hx
    obtain ⟨wd, hwd, rfl⟩ : ∃ wd, (five (i : Int))[jj]? = some wd ∧ dx = wdD wd := by
      rw [List.getElem?_map] at hdx
      cases e : (five (i : Int))[jj]? with
      | none =>
        rw [e] at hdx
        cases hdx
      | some wd =>
        rw [e] at hdx
        exact ⟨wd, rfl, (Option.some.inj hdx).symm⟩
    have hwok := five_ok (k := (i : Int)) (by omega) (by omega) wd (List.mem_of_getElem? hwd)
    have B7 := B6.bag B7 F7
    have F7 : Frl b g l H6 H7 := .ofF F7
    have F67 : Frl b g l H4 H7 := (Frl.of s6).trans F7
    have k67 : KT K H4 H7 := (Same.kt s6).trans (B6.kt F7)
    have tx7 := tx.keep (B6.kt F7)
    have hR7 := hRows.keep k67 F67
    have t7 := t4.keep k67
    have h7 := F67 φ _ h4 φb φg φl
    have hav7 := hav4.keep k67
    have F07 := F4.trans F67
    clear hRows t4 h4 hav4 F4 F67 k67 F7 tx tw hx hdx B6 ht s6 nt4 B4
    -- weights
    refine ⟨_, rfl, _, rfl, by omega, by omega, fun wd' nw => ?_⟩
    obtain ⟨wb, wg, wl⟩ := B7.neNew nw
    obtain ⟨aA, aX, rfl, aS, aT⟩ := hav7.tupE
    refine lc_range (lo := 0) (n := W) (fun j H8 => ∃ vs : List V, H8 wd' = some (.lst vs) ∧ TdAll K H8 vs (((wk W ahead ds i).take j).map rD) ∧ Same H7 H8) ⟨[], upd_same, .nil, same_upd nw⟩ ?_ ?_
    · rintro j H8 hj ⟨vs, h8, t8, s8⟩
      refine ⟨rfl, ?_⟩
      refine iteT (B := ∃ vs : List V, H8 wd' = some (.lst vs) ∧ TdAll K H8 vs (((wk W ahead ds i).take (j + 1)).map rD) ∧ Same H7 H8) ?_
      have aj : ahead[j]? = some ahead[j] := List.getElem?_eq_getElem (by omega)
      obtain ⟨va, ea, ta⟩ := aT.get (i := j) (d := rD ahead[j]) (by rw [List.getElem?_map, aj]; rfl)
      obtain ⟨_, _, _, _, rs, h1, h2, h3⟩ := hR7.keep (Same.kt s8) (.of s8)
      have rj : rs[j]? = some rs[j] := List.getElem?_eq_getElem (by omega)
      have dj : ds[j]? = some ds[j] := List.getElem?_eq_getElem (by omega)
      obtain ⟨_, _, _, _, us', u1, u2⟩ := h3 j _ _ rj dj
      obtain ⟨ps, c1, c2, c3, c4⟩ := hS _ (List.getElem_mem (show j < ds.length by omega))
      have lj : ds[j].length = mm := by rw [c4, List.length_map, c1]
      have di : ds[j][i]? = some (ds[j][i]'(by omega)) := List.getElem?_eq_getElem _
      obtain ⟨vb, eb, tb'⟩ := u2.get (i := i) (d := rD (ds[j][i]'(by omega))) (by rw [List.getElem?_map, di]; rfl)
      have hj0 : (0 : Int) + (j : Int) = ((j : Nat) : Int) := by omega
      have ca := hch _ (List.getElem_mem (show j < ahead.length by omega))
      obtain ⟨pp, ss, q1, q2, q3, q4⟩ := share_at (hS _ (List.getElem_mem (show j < ds.length by omega))) hi
      have eqi : ds[j][i]'(by omega) = mkRat (pp : Int) ss := by rw [← q4]; exact (getD_of di).symm
      have cb : Ch 1 (ds[j][i]'(by omega)) := by
        rw [eqi]
        exact ch_share q1 (by omega) q3
      have z1 : LL ^ e < 2 ^ 2000 := pow_lt2000 (by omega)
      have z2 : LL ^ 1 < 2 ^ 2000 := pow_lt2000 (by decide)
      refine ⟨_, rfl, _, rfl, aA, aX, _, va, rfl, by rw [hj0], Same.kt s8 _ _ aS, atI_nat ea, ?_⟩
      refine ⟨_, rfl, _, rfl, R, _, _, _, rfl, by rw [hj0], SqL.of h1, atI_nat (by rw [List.getElem?_map, rj]; rfl), _, rfl, rs[j], us', (i : Int), vb, rfl, rfl, SqL.of u1, atI_nat eb, ?_⟩
      refine ⟨va, vb, _, _, rfl, ta.keep (Same.kt s8), tb', Nat.lt_of_le_of_lt ca.den z1, Nat.lt_of_le_of_lt cb.den z2, Nat.lt_of_le_of_lt ca.num z1, Nat.lt_of_le_of_lt cb.num z2, fun v H9 s9 tv => ?_⟩
      have h9 := s9 _ _ h8
      have kw : KT K H9 (upd H9 wd' (.lst (vs ++ [v]))) := KT.updL h9
      refine ⟨vs, h9, ?_, vs ++ [v], upd_same, ?_, fun a o z => ?_⟩
      · rw [t8.len, List.length_map, List.length_take]
        exact small1000 (by omega)
      · have ewk : (wk W ahead ds i)[j]? = some (ahead[j] * (ds[j][i]'(by omega))) := by
          unfold wk
          rw [List.getElem?_map, List.getElem?_range hj]
          show some (ahead.getD j 0 * (ds.getD j []).getD i 0) = some (ahead[j] * (ds[j][i]'(by omega)))
          rw [getD_of aj, getD_of dj, getD_of di]
        rw [List.take_add_one, ewk, List.map_append]
        exact (t8.keep ((Same.kt s9).trans kw)).app (.cons (tv.keep kw) .nil)
      · rw [upd_ne (ne_of_none z nw)]
        exact s9 _ _ (s8 _ _ z)
    · rintro H8 ⟨vs, h8, t8, s8⟩
      have lw : (wk W ahead ds i).length = W := by
        unfold wk
        rw [List.length_map, List.length_range]
      rw [List.take_of_length_le (by omega)] at t8
      refine ⟨wd', vs, rfl, SqL.of h8, fun wt H9 s9 q9 => ?_⟩
      have s79 := s8.trans s9
      have twt : Td K H9 (.ref wt) (wsD (wk W ahead ds i)) := .tup q9 (t8.keep (Same.kt s9))
      -- found.append(..)
      have h9 := s79 _ _ h7
      refine ⟨_, rfl, .inl ⟨rfl, _, SqL.of h9⟩, _, rfl, _, _, rfl, rfl, cmul_small (by decide) (by omega), (by show 1 ≤ sizeLine; decide), fun p1 n1 => ?_⟩
      obtain ⟨xa, xs, rfl, xS, xT⟩ := tx7.tupE
      have xe := tdAll_intsE xT
      subst xe
      refine ⟨_, rfl, p1, xa, _, _, rfl, rfl, .inl (.inl upd_same), Same.kt (same_upd n1) _ _ (Same.kt s79 _ _ xS), ?_, fun pw H10 s10 q10 => ?_⟩
      · rw [List.length_map]
        have := hwok.1
        exact Nat.le_of_lt (small1000 (by simp; omega))
      have s910 : Same H9 H10 := (same_upd n1).trans s10
      have s710 := s79.trans s910
      have B10 := B7.keep s710
      have hlev : (((m + 1 : Nat) : Int)) - 1 = (m : Int) := by omega
      refine ⟨_, rfl, _, rfl, _, rfl, _, rfl, _, rfl, _, _, rfl, rfl, _, rfl, ?_⟩
      have hdr : ∀ (a : An m), NdF W m a.2.1 a.2.2 → a.1 = 11 * (i : Int) :: wd → a.2.1 = wk W ahead ds i → ∀ j a', (qs ++ [a])[j]? = some a' → AnIs W m ahead ds j a' := by
        intro a o1 o2 o3 j a' ea
        by_cases hj : j < qs.length
        · rw [List.getElem?_append_left hj] at ea
          exact hA j a' ea
        · have ej : j = qs.length := by
            have := (List.getElem?_eq_some_iff.mp ea).1
            rw [List.length_append] at this
            simp at this
            omega
          subst ej
          rw [List.getElem?_append_right (Nat.le_refl _), Nat.sub_self] at ea
          cases ea
          exact ⟨⟨wd, by rw [o2, hq], hwok.1, hwok.2⟩, by rw [o3, hq], o1⟩
      have chk : ∀ r ∈ wk W ahead ds i, Ch (e + 1) r := by
        intro r hr
        unfold wk at hr
        obtain ⟨j, hj, rfl⟩ := List.mem_map.mp hr
        have hj := List.mem_range.mp hj
        have hj2 : j < ds.length := by omega
        rw [getD_of (List.getElem?_eq_getElem hj2)]
        obtain ⟨p, s, s0, s1, ps, e1⟩ := share_at (hS _ (List.getElem_mem hj2)) hi
        rw [e1]
        exact (mem_getD0 hch (by omega)).mul s0 (by omega) ps
      refine ⟨b, g, l, W, e + 1, .ref wt, wk W ahead ds i, L4, congrArg (fun z => [V.ref b, V.int (W : Int), V.ref wt, V.int z, V.ref l]) hlev, B10, twt.keep (Same.kt s910), lw, chk, by omega, hW1, hW5, fun v tn L5 H11 tv nok hcnt hlow5 B11 F11 => ?_⟩
      refine ⟨(by show 3 ≤ sizeLine; decide), fun pa na => ?_⟩
      have F911 : Frl b g l H7 H11 := (Frl.of s710).trans F11
      have k711 : KT K H7 H11 := (Same.kt s710).trans (B10.kt F11)
      have h11 := F911 φ _ h7 φb φg φl
      have naφ : φ ≠ pa := ne_of_none h11 na
      have h12 : (upd H11 pa (.tup [.ref pw, .ref wt, v])) φ = some (.lst us) := by
        rw [upd_ne naφ]
        exact h11
      have s12 : Same H11 (upd H11 pa (.tup [.ref pw, .ref wt, v])) := same_upd na
      refine ⟨φ, us, _, rfl, rfl, h12, ?_, ?_⟩
      · rw [t7.len, List.length_map]
        exact small1000 (by omega)
      have kf : KT K (upd H11 pa (.tup [.ref pw, .ref wt, v])) (upd (upd H11 pa (.tup [.ref pw, .ref wt, v])) φ (.lst (us ++ [.ref pa]))) := KT.updL h12
      have kall : KT K H7 (upd (upd H11 pa (.tup [.ref pw, .ref wt, v])) φ (.lst (us ++ [.ref pa]))) := (k711.trans (Same.kt s12)).trans kf
      have k1011 : KT K H10 (upd (upd H11 pa (.tup [.ref pw, .ref wt, v])) φ (.lst (us ++ [.ref pa]))) := ((B10.kt F11).trans (Same.kt s12)).trans kf
      have tan : Td K (upd (upd H11 pa (.tup [.ref pw, .ref wt, v])) φ (.lst (us ++ [.ref pa]))) (.ref pa) (anD m (11 * (i : Int) :: wd, wk W ahead ds i, tn)) := by
        refine .tup (kf _ _ (.inl (.inl upd_same))) (.cons ?_ (.cons ?_ (.cons (tv.keep ((Same.kt s12).trans kf)) .nil)))
        · exact .tup (k1011 _ _ q10) (tdAll_ints (11 * (i : Int) :: wd))
        · exact twt.keep ((Same.kt s910).trans k1011)
      have F712 : Frl b g l H7 (upd H11 pa (.tup [.ref pw, .ref wt, v])) := F911.trans (.of s12)
      have R12 := hR7.keep (k711.trans (Same.kt s12)) F712
      refine ⟨qs ++ [(11 * (i : Int) :: wd, wk W ahead ds i, tn)], us ++ [.ref pa], L5, _, _, _, _, rfl, by rw [List.length_append, hq]; rfl, upd_same, ?_, hdr _ nok rfl rfl, ?_, ?_, ?_, hRφ, hav7.keep kall, ?_, ?_⟩
      · rw [List.map_append]
        exact (t7.keep kall).app (.cons tan .nil)
      · rw [cntB_snoc]
        show ((cntB m qs + cnt m tn : Nat) : Int) + L5 = _
        omega
      · rcases hlow with hl | hl <;> rcases hlow5 with hl5 | hl5 <;> omega
      · obtain ⟨_, _, _, _, rs, h1, h2, h3⟩ := R12
        refine ⟨Rb, Rg, Rl, hRφ, rs, by rw [upd_ne hRφ]; exact h1, h2, fun j r d e1 e2 => ?_⟩
        obtain ⟨m0, m1, m2, m3, us', u1, u2⟩ := h3 j r d e1 e2
        exact ⟨m0, m1, m2, m3, us', by rw [upd_ne m0.2]; exact u1, u2.keep kf⟩
      · exact (B11.keep s12).updN φb φg φl
      · exact (F07.trans F712).updN hφ0
  · rintro σ H4 ⟨qs, us, L4, o7, o9, o10, o11, rfl, hq, h4, t4, hA, hc, hlow, hRows, hRφ, hav4, B4, F4⟩
    refine ⟨_, rfl, φ, us, rfl, SqL.of h4, fun v H5 s5 q5 => ?_⟩
    obtain ⟨ok1, ok2⟩ := drawn_ok mm1 mm3 hq hd hla hS hch (by omega) hA
    refine q (.ref v) qs L4 H5 (.tup q5 (t4.keep (Same.kt s5))) ⟨ok1, by omega⟩ ?_ ?_ ?_ (B4.keep s5) (F4.trans (.of s5))
    · intro a ha
      obtain ⟨j, hj, rfl⟩ := List.getElem_of_mem ha
      exact (hA j _ (List.getElem?_eq_getElem hj)).ok
    · rw [cntQ_eq]
      omega
    · rcases hlow with hl | hl
      · exact .inl (by omega)
      · exact .inr hl
end
end Tl
namespace Tl
open PySem PySem.Spec PyProof.Rows L2 RZ
theorem cnt_snoc (n : Nat) (qs : List (Qn n)) (q : Qn n) : cnt (n + 1) (qs ++ [q] : List (Qn n)) = cnt (n + 1) qs + cntQ n q := by
  rw [cnt_succ, cnt_succ, List.map_append, List.sum_append]
  rfl
section
variable {P : Program} {w : World} {K : PySem.W.Frag} {mg : Str → Option Value} {base : Heap}
theorem ok_law_node {n : Nat} {f f1 f2 : Addr} {fd fd1 fd2 : FuncData} (D : Dn K mg "_law_node" s_law_node ["bag", "worlds", "ahead", "levels", "left"] f fd) (B : Blt mg) (D_law_pick : Dn K mg "_law_pick" s_law_pick ["bag", "many"] f1 fd1)
    (D_law_question : Dn K mg "_law_question" s_law_question ["bag", "worlds", "ahead", "levels", "left"] f2 fd2) (G_law_question : FnOk P w K mg base CX0 (5 + 2 * n) f2 fd2 ["bag", "worlds", "ahead", "levels", "left"] (spQ K n)) :
    FnOk P w K mg base CX0 (6 + 2 * n) f fd ["bag", "worlds", "ahead", "levels", "left"] (spN K n) := by
  have G_law_pick : FnOk P w K mg base CX0 1 f1 fd1 ["bag", "many"] spPick := ok_law_pick D_law_pick B
  rw [show 6 + 2 * n = (5 + 2 * n) + 1 by omega]
  refine D.F.ok sc_law_node (fun vs H Q E h => ?_) (fun cdv A outer s H vs Q E hr h => ?_)
  · obtain ⟨b, g, l, W, e, av, ahead, L, rfl, _⟩ := h
    rfl
  obtain ⟨b, g, l, W, e, av, ahead, L, rfl, hB, hav, hla, hch, hel, hW1, hW5, q⟩ := h
  have nd := sc_law_node.nd
  refine ⟨_, (pss_cons (ps_if (PW.pt (pw_or (pt_cmpR op_eq (pv 3) pe_int (nomark _)) (pw_or1 (pt_cmpR op_le (pe_ix (k_ixL (K := K) rfl) (pv 4) pe_int (fun _ _ => rfl)) pe_int (nomark _))))) (pss_one (ps_ret (pe_tup pa_nil))) pss_nil)
      (pss_one (ps_ret (pe_callTy (k_tupOf (K := K) rfl) (by rfl) B.tuple (by decide +kernel) (pa_cons (pe_lc (own := [("k", 5)]) rfl nd (pi_range1 (by rfl) B.range (pa_cons (pe_call G_law_pick (hr.mono (by omega)) (by rfl) D_law_pick.m D_law_pick.F.kp D_law_pick.b .nil pass0 (pa_cons (pv 0) (pa_cons pe_int pa_nil))) pa_nil)) (blkOk_by (own := [("k", 5)]) (by kernel_rfl)) (fun _ _ _ _ _ => (pg_name (i := 5) nd rfl (.inl rfl))) (fun _ _ _ _ _ => pts_nil) (fun _ _ _ _ _ => (pe_call G_law_question (hr.mono (by omega)) (by rfl) D_law_question.m D_law_question.F.kp D_law_question.b .nil pass0 (pa_cons (pv 0) (pa_cons (pv 1) (pa_cons (pv 2) (pa_cons (pv 3) (pa_cons (pv 4) pa_nil)))))))) pa_nil))))), ?_⟩
  have none_ : ∀ p, H p = none → Q (.ref p) (upd H p (.tup [])) := fun p np => by
    refine q (.ref p) (emptyNd n) L _ ?_ (ndF_empty _ _ _) (by rw [cnt_empty]; omega) (.inl (Int.le_refl _)) (hB.keep (same_upd np)) (.of (same_upd np))
    rw [ndD_empty]
    exact .tup (.inl (.inl upd_same)) .nil
  refine ⟨_, rfl, rfl, _, rfl, ?_⟩
  refine ite2 (fun c => ?_) (fun c => ?_)
  · exact iteT ⟨Nat.zero_le _, none_⟩
  refine ⟨_, rfl, l, _, 0, _, rfl, rfl, SqL.of hB.hl, at_of (j := 0) rfl rfl, _, _, rfl, rfl, _, rfl, ?_⟩
  refine ite2 (fun c2 => ?_) (fun c2 => ?_)
  · exact ⟨Nat.zero_le _, none_⟩
  have hL : 0 < L := by
    have : ¬ L ≤ 0 := by simpa using c2
    omega
  cases n with
  | zero => exact absurd rfl c
  | succ n =>
    refine ⟨_, rfl, b, g, 3, rfl, hB.B, by decide, by decide, fun r H1 r0 r1 B1 F1 => ⟨_, rfl, by omega, by omega, fun T hT => ?_⟩⟩
    have B1 := hB.bag B1 F1
    have F1 : Frl b g l H H1 := .ofF F1
    have hav1 := hav.keep (hB.kt F1)
    obtain ⟨Tb, Tg, Tl'⟩ := B1.neNew hT
    obtain ⟨mm, em⟩ : ∃ mm : Nat, r = (mm : Int) := ⟨r.toNat, by omega⟩
    have emm : r.toNat = mm := by omega
    rw [emm]
    have T0 : H T = none := F1.none hT Tb Tg Tl'
    refine lc_range (lo := 0) (n := mm) (fun i H2 => ∃ (us : List V) (qs : List (Qn n)) (L2 : Int), qs.length = i ∧ H2 T = some (.lst us) ∧ TdAll K H2 us (qs.map (qnD n)) ∧ (∀ q ∈ qs, (QnOk W ahead q ∧ q.length ≤ 3) ∧ ∀ a ∈ q, NdF W n a.2.1 a.2.2) ∧ ((cnt (n + 1) qs : Nat) : Int) + L2 = L ∧
        (L2 = L ∨ lowL (n + 1) + 3 * ((2 : Int) - i) ≤ L2) ∧ Td K H2 av (wsD ahead) ∧ BagL H2 b g l L2 ∧ Frl b g l H H2)
      ⟨[], [], L, rfl, upd_same, .nil, fun q h => absurd h List.not_mem_nil, by show ((0 : Nat) : Int) + L = L; omega, .inl rfl, hav1.keep (Same.kt (same_upd hT)), B1.updN Tb Tg Tl', F1.updN T0⟩ ?_ ?_
    · rintro i H2 hi ⟨us, qs, L2, hq, h2, t2, ok2, c2, low2, av2, B2, F2⟩
      refine ⟨rfl, ?_⟩
      refine iteT (B := ∃ (us : List V) (qs : List (Qn n)) (L2 : Int), qs.length = i + 1 ∧ H2 T = some (.lst us) ∧ TdAll K H2 us (qs.map (qnD n)) ∧ (∀ q ∈ qs, (QnOk W ahead q ∧ q.length ≤ 3) ∧ ∀ a ∈ q, NdF W n a.2.1 a.2.2) ∧ ((cnt (n + 1) qs : Nat) : Int) + L2 = L ∧
        (L2 = L ∨ lowL (n + 1) + 3 * ((2 : Int) - ((i + 1 : Nat) : Int)) ≤ L2) ∧ Td K H2 av (wsD ahead) ∧ BagL H2 b g l L2 ∧ Frl b g l H H2) ?_
      refine ⟨_, rfl, _, rfl, _, rfl, _, rfl, _, rfl, ?_⟩
      refine ⟨b, g, l, W, e, av, ahead, L2, rfl, B2, av2, hla, hch, hel, hW1, hW5, fun v qn L3 H3 tv ok3 nok3 c3 low3 B3 F3 => ?_⟩
      have k3 := B2.kt (K := K) F3
      have h3 := F3 T _ h2 Tb Tg Tl'
      have kT : KT K H3 (upd H3 T (.lst (us ++ [v]))) := KT.updL h3
      refine ⟨us, h3, ?_, us ++ [v], qs ++ [qn], L3, by rw [List.length_append, hq]; rfl, upd_same, ?_, ?_, ?_, ?_, av2.keep (k3.trans kT), B3.updN Tb Tg Tl', (F2.trans F3).updN T0⟩
      · rw [t2.len, List.length_map]
        exact small1000 (by omega)
      · rw [List.map_append]
        exact (t2.keep (k3.trans kT)).app (.cons (tv.keep kT) .nil)
      · intro q' hq'
        rcases List.mem_append.mp hq' with h | h
        · exact ok2 q' h
        · rw [List.mem_singleton.mp h]
          exact ⟨ok3, nok3⟩
      · rw [cnt_snoc]
        omega
      · have e1 : lowL (n + 1) = lowL n - 3 := by
          unfold lowL
          omega
        have e2 : lowL n = -(3 * (n : Int) + 2) := rfl
        refine .inr ?_
        rcases low2 with l2 | l2 <;> rcases low3 with l3 | l3 <;> omega
    · rintro H2 ⟨us, qs, L2, hq, h2, t2, ok2, c2, low2, av2, B2, F2⟩
      refine ⟨T, us, rfl, SqL.of h2, fun v H3 s3 q3 => ?_⟩
      refine q (.ref v) qs L2 H3 (.tup q3 (t2.keep (Same.kt s3))) ⟨by show qs.length ≤ 5; omega, ok2⟩ c2 ?_ (B2.keep s3) (F2.trans (.of s3))
      rcases low2 with l2 | l2
      · exact .inl (by omega)
      · exact .inr (by omega)
/-- both, by the number of levels -/
theorem ok_law_qn {f f1 f2 f3 f4 f5 f6 f7 : Addr} {fd fd1 fd2 fd3 fd4 fd5 fd6 fd7 : FuncData} (D_law_question : Dn K mg "_law_question" s_law_question ["bag", "worlds", "ahead", "levels", "left"] f fd) (B : Blt mg) (D_law_low : Dn K mg "_law_low" s_law_low ["top", "bottom"] f1 fd1) (D_law_common : Dn K mg "_law_common" s_law_common ["one", "other"] f2 fd2)
    (D_law_pick : Dn K mg "_law_pick" s_law_pick ["bag", "many"] f3 fd3) (D_law_shares : Dn K mg "_law_shares" s_law_shares ["bag", "many", "least"] f4 fd4) (D_law_some : Dn K mg "_law_some" s_law_some ["bag", "things"] f5 fd5) (D_law_times : Dn K mg "_law_times" s_law_times ["one", "other"] f6 fd6)
    (D_law_node : Dn K mg "_law_node" s_law_node ["bag", "worlds", "ahead", "levels", "left"] f7 fd7) :
    ∀ n : Nat, FnOk P w K mg base CX0 (5 + 2 * n) f fd ["bag", "worlds", "ahead", "levels", "left"] (spQ K n) ∧ FnOk P w K mg base CX0 (6 + 2 * n) f7 fd7 ["bag", "worlds", "ahead", "levels", "left"] (spN K n)
  | 0 => by
    have h0 : FnOk P w K mg base CX0 (5 + 2 * 0) f fd ["bag", "worlds", "ahead", "levels", "left"] (spQ K 0) := ⟨fun vs H Q E h => h.elim, fun A outer s H args us vs Q E _ _ _ _ h => h.elim⟩
    exact ⟨h0, ok_law_node D_law_node B D_law_pick D_law_question h0⟩
  | n + 1 => by
    have ih := ok_law_qn D_law_question B D_law_low D_law_common D_law_pick D_law_shares D_law_some D_law_times D_law_node n
    have h1 : FnOk P w K mg base CX0 (5 + 2 * (n + 1)) f fd ["bag", "worlds", "ahead", "levels", "left"] (spQ K (n + 1)) := by
      have := ok_law_question D_law_question B D_law_low D_law_common D_law_pick D_law_shares D_law_some D_law_times D_law_node ih.2
      rw [show 5 + 2 * (n + 1) = 7 + 2 * n by omega]
      exact this
    exact ⟨h1, ok_law_node D_law_node B D_law_pick D_law_question h1⟩
end
end Tl
namespace Tl
open PySem PySem.Spec PyProof.Rows L2 RZ
def ones (W : Nat) : List Rat := List.replicate W 1
theorem ones_ch {W e : Nat} : ∀ r ∈ ones W, Ch e r := fun r hr => by
  rw [(List.mem_replicate.mp hr).2]
  exact ch_one
theorem rD_one : rD 1 = .tuple [.int 1, .int 1] := rfl
theorem rD_zero : rD 0 = .tuple [.int 0, .int 1] := rfl
theorem tdAll_rep {K : PySem.W.Frag} {H : Hp} {v : V} {d : PyData} (h : Td K H v d) : ∀ n : Nat, TdAll K H (List.replicate n v) (List.replicate n d)
  | 0 => .nil
  | n + 1 => by
    rw [List.replicate_succ, List.replicate_succ]
    exact .cons h (tdAll_rep h n)
theorem flat_rep {α : Type} (v : α) : ∀ n : Nat, (List.replicate n [v]).flatten = List.replicate n v
  | 0 => rfl
  | n + 1 => by
    rw [List.replicate_succ, List.flatten_cons, flat_rep v n, List.replicate_succ]
    rfl
theorem ones_td {K : PySem.W.Frag} {H : Hp} {p q : Addr} {W : Nat} (hq : Td K H (.ref q) (rD 1)) (hp : SqT K H p (List.replicate (W : Int).toNat [V.ref q]).flatten) : Td K H (.ref p) (wsD (ones W)) := by
  rw [flat_rep, Int.toNat_natCast] at hp
  refine .tup hp ?_
  unfold ones
  rw [List.map_replicate]
  exact tdAll_rep hq W
/-- a drawn tree -/
def spTree (K : PySem.W.Frag) (n : Nat) : Sp := fun vs H Q _ => ∃ (b g : Addr) (W : Nat) (A : Nat), vs = [.ref b, .int (W : Int), .int ((n + 1 : Nat) : Int), .int (A : Int)] ∧ Bag H b g ∧ n + 1 ≤ 6 ∧ 1 ≤ W ∧ W ≤ 5 ∧
  ∀ (v : V) (t : Nd (n + 1)) (H' : Hp), Td K H' v (ndD (n + 1) t) → NdF W (n + 1) (ones W) t → cnt (n + 1) t ≤ A + 3 * n + 8 → Bag H' b g → Frm b g H H' → Q v H'
section
variable {P : Program} {w : World} {K : PySem.W.Frag} {mg : Str → Option Value} {base : Heap}
theorem ok_law_tree {n : Nat} {f f1 f2 : Addr} {fd fd1 fd2 : FuncData} (D : Dn K mg "_law_tree" s_law_tree ["bag", "worlds", "levels", "answers"] f fd) (B : Blt mg) (D_law_pick : Dn K mg "_law_pick" s_law_pick ["bag", "many"] f1 fd1)
    (D_law_question : Dn K mg "_law_question" s_law_question ["bag", "worlds", "ahead", "levels", "left"] f2 fd2) (G_law_question : FnOk P w K mg base CX0 (5 + 2 * (n + 1)) f2 fd2 ["bag", "worlds", "ahead", "levels", "left"] (spQ K (n + 1))) :
    FnOk P w K mg base CX0 (6 + 2 * (n + 1)) f fd ["bag", "worlds", "levels", "answers"] (spTree K n) := by
  have G_law_pick : FnOk P w K mg base CX0 1 f1 fd1 ["bag", "many"] spPick := ok_law_pick D_law_pick B
  rw [show 6 + 2 * (n + 1) = (5 + 2 * (n + 1)) + 1 by omega]
  refine D.F.ok sc_law_tree (fun vs H Q E h => ?_) (fun cdv A outer s H vs Q E hr h => ?_)
  · obtain ⟨b, g, W, A, rfl, _⟩ := h
    rfl
  obtain ⟨b, g, W, A, rfl, hB, hn, hW1, hW5, q⟩ := h
  have nd := sc_law_tree.nd
  refine ⟨_, (pss_cons (ps_asg (pe_tup (pa_cons (pe_op (k_rep (K := K) rfl) (pe_tup (pa_cons (pe_tup (pa_cons pe_int (pa_cons pe_int pa_nil))) pa_nil)) (pv 1)) (pa_cons (pe_lst (pa_cons (pv 3) pa_nil)) pa_nil))) (k_tup (K := K) (n := 2) rfl rfl (pgs_cons (pg_name (i := 4) nd rfl (.inr rfl)) (pgs_cons (pg_name (i := 5) nd rfl (.inr rfl)) pgs_nil))))
      (pss_cons (ps_setLc (i := 6) (own := [("k", 7)]) rfl nd rfl rfl (sw_true rfl rfl rfl (by decide +kernel)) (pi_range1 (by rfl) B.range (pa_cons (pe_op op_add pe_int (pe_call G_law_pick (hr.mono (by omega)) (by rfl) D_law_pick.m D_law_pick.F.kp D_law_pick.b .nil pass0 (pa_cons (pv 0) (pa_cons pe_int pa_nil)))) pa_nil)) (blkOk_by (own := [("k", 7)]) (by kernel_rfl)) (fun _ _ _ _ _ => (pg_name (i := 7) nd rfl (.inl rfl))) (fun _ _ _ _ _ => pts_nil) (fun _ _ _ _ _ => (pe_call G_law_question (hr.mono (by omega)) (by rfl) D_law_question.m D_law_question.F.kp D_law_question.b .nil pass0 (pa_cons (pv 0) (pa_cons (pv 1) (pa_cons (pv 4) (pa_cons (pv 2) (pa_cons (pv 5) pa_nil))))))))
      (pss_one (ps_ret (pe_callTy (k_tupOf (K := K) rfl) (by rfl) B.tuple (by decide +kernel) (pa_cons (pv 6) pa_nil)))))), ?_⟩
  refine ⟨(by show 2 ≤ sizeLine; decide), fun p1 n1 => ⟨(by show 1 ≤ sizeLine; decide), fun p2 n2 => ?_⟩⟩
  have s2 : Same H (upd (upd H p1 (.tup [.int 1, .int 1])) p2 (.tup [.ref p1])) := (same_upd n1).trans (same_upd n2)
  refine ⟨_, rfl, p2, (W : Int), _, rfl, rfl, .inl (.inl upd_same), by simp, by omega, by omega, by simp, fun pa H3 s3 q3 => ?_⟩
  refine ⟨_, rfl, (by show 1 ≤ sizeLine; decide), fun l nl => ?_⟩
  refine ⟨(by show 2 ≤ sizeLine; decide), fun pt npt => ?_⟩
  have hl : (upd (upd H3 l (.lst [.int (A : Int)])) pt (.tup [.ref pa, .ref l])) l = some (.lst [.int (A : Int)]) := by
    rw [upd_ne (ne_of_none (H := upd H3 l (.lst [.int (A : Int)])) upd_same npt)]
    exact upd_same
  have s35 : Same H3 (upd (upd H3 l (.lst [.int (A : Int)])) pt (.tup [.ref pa, .ref l])) := (same_upd nl).trans (same_upd npt)
  have s5 := (s2.trans s3).trans s35
  have t1 : Td K (upd (upd H3 l (.lst [.int (A : Int)])) pt (.tup [.ref pa, .ref l])) (.ref p1) (rD 1) := by
    rw [rD_one]
    exact .tup (Same.kt s35 _ _ (Same.kt s3 _ _ (Same.kt (same_upd n2) _ _ (.inl (.inl upd_same))))) (tdAll_ints [1, 1])
  have ta : Td K (upd (upd H3 l (.lst [.int (A : Int)])) pt (.tup [.ref pa, .ref l])) (.ref pa) (wsD (ones W)) := ones_td t1 (Same.kt s35 _ _ q3)
  have nl0 : H l = none := (s2.trans s3).free nl
  obtain ⟨lb, lg⟩ := hB.neNew nl0
  refine ⟨pt, [.ref pa, .ref l], rfl, .inl (.inl upd_same), rfl, _, _, rfl, _, _, rfl, rfl, ?_⟩
  generalize upd (upd H3 l (.lst [.int (A : Int)])) pt (.tup [.ref pa, .ref l]) = H5 at hl s5 ta
  have B5 : BagL H5 b g l (A : Int) := ⟨hB.keep s5, hl, lb, lg⟩
  clear t1
  -- some
  refine ⟨_, rfl, b, g, 2, rfl, B5.B, by decide, by decide, fun r H6 r0 r1 B6 F6 => ⟨_, _, rfl, rfl, _, rfl, by omega, by omega, fun T hT => ?_⟩⟩
  have B6 := B5.bag B6 F6
  have F6 : Frl b g l H5 H6 := .ofF F6
  have ta6 := ta.keep (B5.kt F6)
  obtain ⟨Tb, Tg, Tl'⟩ := B6.neNew hT
  obtain ⟨mm, em⟩ : ∃ mm : Nat, (1 + r).toNat = mm := ⟨_, rfl⟩
  rw [em]
  have F06 : Frl b g l H H6 := (Frl.of s5).trans F6
  have T0 : H T = none := F06.none hT Tb Tg Tl'
  refine lc_range (lo := 0) (n := mm) (fun i H2 => ∃ (us : List V) (qs : List (Qn n)) (L2 : Int), qs.length = i ∧ H2 T = some (.lst us) ∧ TdAll K H2 us (qs.map (qnD n)) ∧ (∀ q ∈ qs, (QnOk W (ones W) q ∧ q.length ≤ 3) ∧ ∀ a ∈ q, NdF W n a.2.1 a.2.2) ∧ ((cnt (n + 1) qs : Nat) : Int) + L2 = (A : Int) ∧
      ((A : Int) - 3 * i ≤ L2 ∨ lowL n - 3 * i ≤ L2) ∧ Td K H2 (.ref pa) (wsD (ones W)) ∧ BagL H2 b g l L2 ∧ Frl b g l H H2)
    ⟨[], [], (A : Int), rfl, upd_same, .nil, fun q h => absurd h List.not_mem_nil, by show ((0 : Nat) : Int) + (A : Int) = A; omega, .inl (by omega), ta6.keep (Same.kt (same_upd hT)), B6.updN Tb Tg Tl', F06.updN T0⟩ ?_ ?_
  · rintro i H2 hi ⟨us, qs, L2, hq, h2, t2, ok2, c2, low2, av2, B2, F2⟩
    refine ⟨rfl, ?_⟩
    refine iteT (B := ∃ (us : List V) (qs : List (Qn n)) (L2 : Int), qs.length = i + 1 ∧ H2 T = some (.lst us) ∧ TdAll K H2 us (qs.map (qnD n)) ∧ (∀ q ∈ qs, (QnOk W (ones W) q ∧ q.length ≤ 3) ∧ ∀ a ∈ q, NdF W n a.2.1 a.2.2) ∧ ((cnt (n + 1) qs : Nat) : Int) + L2 = (A : Int) ∧
      ((A : Int) - 3 * ((i + 1 : Nat) : Int) ≤ L2 ∨ lowL n - 3 * ((i + 1 : Nat) : Int) ≤ L2) ∧ Td K H2 (.ref pa) (wsD (ones W)) ∧ BagL H2 b g l L2 ∧ Frl b g l H H2) ?_
    refine ⟨_, rfl, _, rfl, _, rfl, _, rfl, _, rfl, ?_⟩
    refine ⟨b, g, l, W, 0, .ref pa, ones W, L2, rfl, B2, av2, by unfold ones; rw [List.length_replicate], ones_ch, by omega, hW1, hW5, fun v qn L3 H3 tv ok3 nok3 c3 low3 B3 F3 => ?_⟩
    have k3 := B2.kt (K := K) F3
    have h3 := F3 T _ h2 Tb Tg Tl'
    have kT : KT K H3 (upd H3 T (.lst (us ++ [v]))) := KT.updL h3
    refine ⟨us, h3, ?_, us ++ [v], qs ++ [qn], L3, by rw [List.length_append, hq]; rfl, upd_same, ?_, ?_, ?_, ?_, av2.keep (k3.trans kT), B3.updN Tb Tg Tl', (F2.trans F3).updN T0⟩
    · rw [t2.len, List.length_map]
      exact small1000 (by omega)
    · rw [List.map_append]
      exact (t2.keep (k3.trans kT)).app (.cons (tv.keep kT) .nil)
    · intro q' hq'
      rcases List.mem_append.mp hq' with h | h
      · exact ok2 q' h
      · rw [List.mem_singleton.mp h]
        exact ⟨ok3, nok3⟩
    · rw [cnt_snoc]
      omega
    · rcases low2 with l2 | l2 <;> rcases low3 with l3 | l3 <;> omega
  · rintro H2 ⟨us, qs, L2, hq, h2, t2, ok2, c2, low2, av2, B2, F2⟩
    refine ⟨_, rfl, T, us, rfl, SqL.of h2, fun v H3 s3 q3 => ?_⟩
    refine q (.ref v) qs H3 (.tup q3 (t2.keep (Same.kt s3))) ⟨by show qs.length ≤ 5; omega, ok2⟩ ?_ ((B2.keep s3).B) ?_
    · have e2 : lowL n = -(3 * (n : Int) + 2) := rfl
      rcases low2 with l2 | l2 <;> omega
    · intro a o ha h1 h2'
      exact (F2.trans (.of s3)) a o ha h1 h2' (fun z => by rw [z, nl0] at ha; cases ha)
end
end Tl
namespace Tl
open PySem PySem.Spec PyProof.Rows L2 RZ
/-- the module's constants -/
structure Cst (K : PySem.W.Frag) (mg : Str → Option Value) (aN aO : Addr) (t1 t2 t3 t4 t5 t6 t7 : Tok) : Prop where
  gcd : mg "gcd" = some (.builtin "math.gcd")
  lcm : mg "lcm" = some (.builtin "math.lcm")
  ONE : mg "ONE" = some (.ref aO)
  tO : ∀ H, SqT K H aO [.int 1, .int 1]
  MOST_QUESTIONS : mg "MOST_QUESTIONS" = some (.int 5 t1)
  MOST_WORDS : mg "MOST_WORDS" = some (.int 12 t2)
  MOST_NUMBERS : mg "MOST_NUMBERS" = some (.int 8 t3)
  MOST_ON_A_WAY : mg "MOST_ON_A_WAY" = some (.int 8 t4)
  MOST_PASSED : mg "MOST_PASSED" = some (.int 1500 t5)
theorem tyx_tup {K : PySem.W.Frag} {H : Hp} {a : Addr} {xs : List V} (h : SqT K H a xs) : TyX K H (.ref a) (.type "tuple") := by
  rcases h with (h | ⟨o, h⟩) | ⟨o, its, n, h, c, _⟩
  · exact .base (.tup h)
  · exact .fTuple h
  · exact .kTuple h c
def spIntegral : Sp := fun vs H Q _ => ∃ i : Int, vs = [.int i] ∧ Q (.bl true) H
def spNumber : Sp := fun vs H Q _ => ∃ i lo hi : Int, vs = [.int i, .int lo, .int hi] ∧ Q (.bl (decide (lo ≤ i) && decide (i ≤ hi))) H
def spFraction (K : PySem.W.Frag) : Sp := fun vs H Q _ => ∃ (v : V) (q : Rat), vs = [v] ∧ Td K H v (rD q) ∧ Q (.bl true) H
def spChance (K : PySem.W.Frag) : Sp := fun vs H Q _ => ∃ (v : V) (q : Rat), vs = [v] ∧ Td K H v (rD q) ∧ 0 ≤ q ∧ q ≤ 1 ∧ Q (.bl true) H
def spReduced (K : PySem.W.Frag) : Sp := fun vs H Q _ => ∃ (t : Int) (b : Nat), vs = [.int t, .int (b : Int)] ∧ 0 < b ∧ b < 2 ^ 4000 ∧ ∀ v H', Same H H' → Td K H' v (rD (mkRat t b)) → Q v H'
/-- small enough to be reckoned with -/
def Sm (q : Rat) : Prop := q.den < 2 ^ 1500 ∧ q.num.natAbs < 2 ^ 1500
theorem ll_lt1500 {e : Nat} (h : e ≤ 16) : LL ^ e < 2 ^ 1500 := Nat.lt_of_le_of_lt (ll_small (k := 1450) (by omega)) (Nat.pow_lt_pow_right (by decide) (by decide))
theorem Ch.sm {e : Nat} {q : Rat} (h : Ch e q) (he : e ≤ 16) : Sm q := ⟨Nat.lt_of_le_of_lt h.den (ll_lt1500 he), Nat.lt_of_le_of_lt h.num (ll_lt1500 he)⟩
def spAdded (K : PySem.W.Frag) : Sp := fun vs H Q _ => ∃ (x y : V) (p q : Rat), vs = [x, y] ∧ Td K H x (rD p) ∧ Td K H y (rD q) ∧ Sm p ∧ Sm q ∧ ∀ v H', Same H H' → Td K H' v (rD (p + q)) → Q v H'
theorem mapAt {α β : Type} {l : List α} {f : α → β} {i : Nat} {y : β} (h : (l.map f)[i]? = some y) : ∃ x, l[i]? = some x ∧ y = f x := by
  rw [List.getElem?_map] at h
  cases e : l[i]? with
  | none =>
    rw [e] at h
    cases h
  | some x =>
    rw [e] at h
    exact ⟨x, rfl, (Option.some.inj h).symm⟩
/-! fractions with one bottom -/
def fr (D : Nat) (n : Int) : Rat := mkRat n D
theorem fr_add {D : Nat} (hD : 0 < D) (m n : Int) : fr D m + fr D n = fr D (m + n) := mk_add m n D hD
theorem fsum_fr {D : Nat} (hD : 0 < D) : ∀ ns : List Int, fsum (ns.map (fr D)) = fr D ns.sum
  | [] => by
    show (0 : Rat) = mkRat 0 D
    rw [Rat.zero_mkRat]
  | n :: r => by
    rw [List.map_cons, fsum_cons, fsum_fr hD r, fr_add hD]
    rfl
def abssum (ns : List Int) : Nat := (ns.map Int.natAbs).sum
theorem abssum_cons (n : Int) (r : List Int) : abssum (n :: r) = n.natAbs + abssum r := rfl
theorem abssum_mem {ns : List Int} {n : Int} (h : n ∈ ns) : n.natAbs ≤ abssum ns := by
  induction ns with
  | nil => exact absurd h List.not_mem_nil
  | cons x r ih =>
    rw [abssum_cons]
    rcases List.mem_cons.mp h with rfl | h
    · omega
    · have := ih h
      omega
theorem fr_sm {D : Nat} (hD : 0 < D) (h : D < 2 ^ 1500) {n : Int} (hn : n.natAbs < 2 ^ 1500) : Sm (fr D n) := by
  refine ⟨Nat.lt_of_le_of_lt (mkRat_den_le n D hD) h, Nat.lt_of_le_of_lt ?_ hn⟩
  show (mkRat n D).num.natAbs ≤ _
  rw [(mkRat_parts n D hD).1]
  exact Int.natAbs_ediv_le_natAbs _ _
/-- the sums of pairs -/
def prs : List Int → List Int
  | a :: b :: r => (a + b) :: prs r
  | _ => []
theorem prs_len : ∀ ns : List Int, (prs ns).length = ns.length / 2
  | [] => by
    show 0 = 0 / 2
    decide
  | [a] => by
    show 0 = 1 / 2
    decide
  | a :: b :: r => by
    show (prs r).length + 1 = (r.length + 1 + 1) / 2
    rw [prs_len r]
    omega
theorem prs_at : ∀ (ns : List Int) (i : Nat) (x y : Int), ns[2 * i]? = some x → ns[2 * i + 1]? = some y → (prs ns)[i]? = some (x + y)
  | [], i, x, y, h, _ => by simp at h
  | [a], i, x, y, _, h => by simp at h
  | a :: b :: r, 0, x, y, h1, h2 => by
    cases h1
    cases h2
    rfl
  | a :: b :: r, i + 1, x, y, h1, h2 => by
    rw [show 2 * (i + 1) = 2 * i + 1 + 1 by omega] at h1 h2
    exact prs_at r i x y (by simpa using h1) (by simpa using h2)
def pw (ns : List Int) : List Int := prs ns ++ ns.drop (2 * (prs ns).length)
theorem pw_cons (a b : Int) (r : List Int) : pw (a :: b :: r) = (a + b) :: pw r := rfl
theorem pw_sum : ∀ ns : List Int, (pw ns).sum = ns.sum
  | [] => rfl
  | [a] => rfl
  | a :: b :: r => by
    rw [pw_cons]
    show (a + b) + (pw r).sum = a + (b + r.sum)
    rw [pw_sum r]
    omega
theorem pw_abs : ∀ ns : List Int, abssum (pw ns) ≤ abssum ns
  | [] => Nat.le_refl _
  | [a] => Nat.le_refl _
  | a :: b :: r => by
    rw [pw_cons, abssum_cons, abssum_cons, abssum_cons]
    have := pw_abs r
    omega
theorem pw_len (ns : List Int) : (pw ns).length = ns.length - (prs ns).length := by
  unfold pw
  have := prs_len ns
  rw [List.length_append, List.length_drop]
  omega
def frN (D : Nat) (r : Rat) : Int := r.num * ((D / r.den : Nat) : Int)
theorem fr_frN {D : Nat} (hD : 0 < D) {r : Rat} (h : r.den ∣ D) : fr D (frN D r) = r := by
  obtain ⟨k, e⟩ := h
  have d0 : 0 < r.den := Nat.pos_of_ne_zero r.den_nz
  have k0 : k ≠ 0 := fun z => by
    rw [z, Nat.mul_zero] at e
    omega
  have ek : D / r.den = k := by rw [e]; exact Nat.mul_div_cancel_left k d0
  unfold fr frN
  rw [ek]
  show mkRat (r.num * (k : Int)) D = r
  rw [e, Rat.mkRat_mul_right k0]
  exact rat_mk r
theorem frs_frN {D : Nat} (hD : 0 < D) : ∀ {rs : List Rat}, (∀ r ∈ rs, r.den ∣ D) → (rs.map (frN D)).map (fr D) = rs
  | [], _ => rfl
  | r :: rs, h => by
    rw [List.map_cons, List.map_cons, fr_frN hD (h r (List.mem_cons_self ..)), frs_frN hD fun x hx => h x (List.mem_cons_of_mem _ hx)]
theorem frN_abs {D : Nat} {r : Rat} (h : r.den ∣ D) (h0 : 0 ≤ r) (h1 : r ≤ 1) : (frN D r).natAbs ≤ D := by
  have a := (Rat.le_iff r 1).mp h1
  have b := Rat.num_nonneg.mpr h0
  have c : (1 : Rat).num = 1 := rfl
  have d : (1 : Rat).den = 1 := rfl
  rw [c, d] at a
  have n1 : r.num.natAbs ≤ r.den := by omega
  unfold frN
  rw [Int.natAbs_mul, Int.natAbs_natCast]
  have := Nat.mul_le_mul_right (D / r.den) n1
  rw [Nat.mul_div_cancel' h] at this
  exact this
theorem frNs_abs {D : Nat} : ∀ {rs : List Rat}, (∀ r ∈ rs, r.den ∣ D ∧ 0 ≤ r ∧ r ≤ 1) → abssum (rs.map (frN D)) ≤ rs.length * D
  | [], _ => by
    rw [List.length_nil, Nat.zero_mul]
    exact Nat.le_refl 0
  | r :: rs, h => by
    rw [List.map_cons, abssum_cons, List.length_cons, Nat.add_mul, Nat.one_mul]
    obtain ⟨a, b, c⟩ := h r (List.mem_cons_self ..)
    have := frN_abs a b c
    have := frNs_abs fun x hx => h x (List.mem_cons_of_mem _ hx)
    omega
theorem TdAll.drop {K : PySem.W.Frag} {H : Hp} : ∀ {us : List V} {ds : List PyData} (k : Nat), TdAll K H us ds → TdAll K H (us.drop k) (ds.drop k)
  | _, _, 0, h => h
  | _, _, _ + 1, .nil => .nil
  | _, _, k + 1, .cons _ t => TdAll.drop k t
theorem cut_drop {xs : List V} {k : Nat} (h : k ≤ xs.length) : cutV xs (some (k : Int)) none = xs.drop k := by
  unfold cutV
  rw [HT.sIx_nat, HT.sIx_none, Nat.min_eq_left h]
  exact List.take_of_length_le (by rw [List.length_drop]; omega)
theorem rat0_td {K : PySem.W.Frag} {H : Hp} {a : Addr} (h : SqT K H a [.int 0, .int 1]) : Td K H (.ref a) (rD 0) := by
  have e : rD 0 = .tuple [.int 0, .int 1] := rfl
  rw [e]
  exact .tup h (tdAll_ints [0, 1])
def spTotal (K : PySem.W.Frag) : Sp := fun vs H Q _ => ∃ (r : Addr) (us : List V) (D : Nat) (ns : List Int), vs = [.ref r] ∧ (SqL K H r us ∨ SqT K H r us) ∧ TdAll K H us ((ns.map (fr D)).map rD) ∧ 0 < D ∧ D < 2 ^ 1500 ∧ abssum ns < 2 ^ 1500 ∧ ns.length ≤ 1000 ∧
  ∀ v H', Same H H' → Td K H' v (rD (fsum (ns.map (fr D)))) → Q v H'
def tot (W : Nat) (rows : List (List Rat)) : List Rat := (List.range W).map fun j => fsum (rows.map fun r => r.getD j 0)
def spTotW (K : PySem.W.Frag) : Sp := fun vs H Q _ => ∃ (r : Addr) (us : List V) (W : Nat) (rows : List (List Rat)), vs = [.ref r, .int (W : Int)] ∧ SqL K H r us ∧ TdAll K H us (rows.map wsD) ∧ 1 ≤ W ∧ W ≤ 5 ∧ rows.length ≤ 900 ∧ (∀ x ∈ rows, x.length = W) ∧
  (∀ j, j < W → ∃ D : Nat, 0 < D ∧ D < 2 ^ 1500 ∧ (∀ x ∈ rows, (x.getD j 0).den ∣ D) ∧ abssum ((rows.map fun x => x.getD j 0).map (frN D)) < 2 ^ 1500) ∧ ∀ v H', Same H H' → Td K H' v (wsD (tot W rows)) → Q v H'
def spChances (K : PySem.W.Frag) : Sp := fun vs H Q _ => ∃ (v : V) (ws : List Rat), vs = [v, .int ((ws.length : Nat) : Int)] ∧ Td K H v (wsD ws) ∧ ws.length ≤ 100 ∧ (∀ r ∈ ws, 0 ≤ r ∧ r ≤ 1) ∧ ∀ H', Same H H' → Q (.bl true) H'
theorem tot_len (W : Nat) (rows : List (List Rat)) : (tot W rows).length = W := by
  unfold tot
  rw [List.length_map, List.length_range]
/-! the least common bottom -/
def lcmL (rs : List Rat) : Nat := rs.foldl (fun b r => Nat.lcm b r.den) 1
theorem lcmL_snoc (rs : List Rat) (r : Rat) : lcmL (rs ++ [r]) = Nat.lcm (lcmL rs) r.den := by
  unfold lcmL
  rw [List.foldl_append]
  rfl
theorem foldlcm : ∀ (rs : List Rat) (b : Nat), b ∣ rs.foldl (fun b r => Nat.lcm b r.den) b ∧ (∀ r ∈ rs, r.den ∣ rs.foldl (fun b r => Nat.lcm b r.den) b) ∧ (∀ D, b ∣ D → (∀ r ∈ rs, r.den ∣ D) → rs.foldl (fun b r => Nat.lcm b r.den) b ∣ D)
  | [], b => ⟨Nat.dvd_refl _, fun r h => absurd h List.not_mem_nil, fun D h _ => h⟩
  | x :: rs, b => by
    obtain ⟨h1, h2, h3⟩ := foldlcm rs (Nat.lcm b x.den)
    rw [List.foldl_cons]
    refine ⟨Nat.dvd_trans (Nat.dvd_lcm_left b x.den) h1, fun r hr => ?_, fun D hb hr => h3 D (Nat.lcm_dvd hb (hr x (List.mem_cons_self ..))) fun r h => hr r (List.mem_cons_of_mem _ h)⟩
    rcases List.mem_cons.mp hr with rfl | hr
    · exact Nat.dvd_trans (Nat.dvd_lcm_right b r.den) h1
    · exact h2 r hr
theorem lcmL_mem {rs : List Rat} {r : Rat} (h : r ∈ rs) : r.den ∣ lcmL rs := (foldlcm rs 1).2.1 r h
theorem lcmL_dvd {rs : List Rat} {D : Nat} (h : ∀ r ∈ rs, r.den ∣ D) : lcmL rs ∣ D := (foldlcm rs 1).2.2 D (Nat.one_dvd _) h
theorem lcmL_pos {rs : List Rat} {D : Nat} (hD : 0 < D) (h : ∀ r ∈ rs, r.den ∣ D) : 0 < lcmL rs := Nat.pos_of_dvd_of_pos (lcmL_dvd h) hD
theorem fr_den {D : Nat} (hD : 0 < D) (n : Int) : (fr D n).den ∣ D := by
  unfold fr
  rw [Rat.den_mkRat, if_neg (by omega)]
  exact Nat.div_dvd_of_dvd (Nat.gcd_dvd_left _ _)
theorem fr_num_le {D : Nat} (hD : 0 < D) (n : Int) : (fr D n).num.natAbs ≤ n.natAbs := by
  show (mkRat n D).num.natAbs ≤ _
  rw [(mkRat_parts n D hD).1]
  exact Int.natAbs_ediv_le_natAbs _ _
theorem fsum_lcm {rs : List Rat} {D : Nat} (hD : 0 < D) (h : ∀ r ∈ rs, r.den ∣ D) : mkRat (rs.map (frN (lcmL rs))).sum (lcmL rs) = fsum rs := by
  have e := frs_frN (lcmL_pos hD h) (rs := rs) fun r hr => lcmL_mem hr
  have s := fsum_fr (lcmL_pos hD h) (rs.map (frN (lcmL rs)))
  rw [e] at s
  exact s.symm
def spCB (K : PySem.W.Frag) : Sp := fun vs H Q _ => ∃ (r : Addr) (us : List V) (D : Nat) (rs : List Rat), vs = [.ref r] ∧ (SqL K H r us ∨ SqT K H r us) ∧ TdAll K H us (rs.map rD) ∧ 0 < D ∧ D < 2 ^ 1500 ∧ (∀ x ∈ rs, x.den ∣ D) ∧ Q (.int ((lcmL rs : Nat) : Int)) H
def spTW (K : PySem.W.Frag) : Sp := fun vs H Q _ => ∃ (v : V) (r : Rat) (m : Nat), vs = [v, .int (m : Int)] ∧ Td K H v (rD r) ∧ m < 2 ^ 1500 ∧ r.num.natAbs < 2 ^ 1500 ∧ r.den < 2 ^ 1500 ∧ Q (.int (frN m r)) H
def DTot (K : PySem.W.Frag) (mg : Str → Option Value) (f : Addr) (fd : FuncData) : Prop := Dn K mg "common_bottom" s_common_bottom ["fractions"] f fd ∧ ∃ f2 fd2, Dn K mg "times_whole" s_times_whole ["fraction", "whole"] f2 fd2
section
variable {P : Program} {w : World} {K : PySem.W.Frag} {mg : Str → Option Value} {base : Heap} {aN aO : Addr} {t1 t2 t3 t4 t5 t6 t7 : Tok}
theorem ok_is_integral {f : Addr} {fd : FuncData} (D : Dn K mg "is_integral" s_is_integral ["thing"] f fd) (B : Blt mg) : FnOk P w K mg base CX0 1 f fd ["thing"] spIntegral := by
  refine D.F.ok sc_is_integral (fun vs H Q E h => ?_) (fun cdv A outer s H vs Q E hr h => ?_)
  · obtain ⟨i, rfl, _⟩ := h
    rfl
  obtain ⟨i, rfl, q⟩ := h
  have nd := sc_is_integral.nd
  refine ⟨_, (pss_one (ps_ret (pe_and (pe_callB (k_isi (K := K) rfl) (by rfl) B.isinstance (by decide +kernel) (pa_cons (pv 0) (pa_cons (pe_bltn (v := .ty "int") (u := .type "int") (by rfl) B.int (by decide +kernel) rfl) pa_nil))) (pe_one (pe_not (pe_callB (k_isi (K := K) rfl) (by rfl) B.isinstance (by decide +kernel) (pa_cons (pv 0) (pa_cons (pe_bltn (v := .ty "bool") (u := .type "bool") (by rfl) B.bool (by decide +kernel) rfl) pa_nil)))))))), ?_⟩
  refine ⟨_, rfl, _, _, _, _, true, rfl, .ty "int", .base (.int i), kit_ty (by decide +kernel), _, rfl, ?_⟩
  refine iteT ⟨_, rfl, _, _, _, _, false, rfl, .ty "bool", .base (.int i), kit_ty (by decide +kernel), _, rfl, q⟩
theorem ok_is_number {f f1 : Addr} {fd fd1 : FuncData} (D : Dn K mg "is_number" s_is_number ["thing", "least", "most"] f fd) (B : Blt mg) (D_is_integral : Dn K mg "is_integral" s_is_integral ["thing"] f1 fd1) : FnOk P w K mg base CX0 2 f fd ["thing", "least", "most"] spNumber := by
  have G_is_integral : FnOk P w K mg base CX0 1 f1 fd1 ["thing"] spIntegral := ok_is_integral D_is_integral B
  refine D.F.ok sc_is_number (fun vs H Q E h => ?_) (fun cdv A outer s H vs Q E hr h => ?_)
  · obtain ⟨i, lo, hi, rfl, _⟩ := h
    rfl
  obtain ⟨i, lo, hi, rfl, q⟩ := h
  have nd := sc_is_number.nd
  refine ⟨_, (pss_one (ps_ret (pe_and (pe_call G_is_integral (hr.mono (by omega)) (by rfl) D_is_integral.m D_is_integral.F.kp D_is_integral.b .nil pass0 (pa_cons (pv 0) pa_nil)) (pe_one (pe_chain op_le op_le (pv 1) (pv 0) (pv 2)))))), ?_⟩
  refine ⟨_, rfl, i, rfl, _, rfl, iteT ⟨_, rfl, _, rfl, _, _, rfl, rfl, _, rfl, ?_⟩⟩
  refine ite2 (fun c => ?_) (fun c => ?_)
  · have e : (decide (lo ≤ i) && decide (i ≤ hi)) = decide (i ≤ hi) := by rw [c, Bool.true_and]
    rw [e] at q
    exact ⟨_, rfl, _, _, rfl, rfl, q⟩
  · have c : decide (lo ≤ i) = false := Bool.eq_false_iff.mpr c
    rw [c, Bool.false_and] at q
    exact q
theorem ok_is_fraction {f f1 : Addr} {fd fd1 : FuncData} (D : Dn K mg "is_fraction" s_is_fraction ["thing"] f fd) (B : Blt mg) (C : Cst K mg aN aO t1 t2 t3 t4 t5 t6 t7) (D_is_integral : Dn K mg "is_integral" s_is_integral ["thing"] f1 fd1) : FnOk P w K mg base CX0 2 f fd ["thing"] (spFraction K) := by
  have G_is_integral : FnOk P w K mg base CX0 1 f1 fd1 ["thing"] spIntegral := ok_is_integral D_is_integral B
  refine D.F.ok sc_is_fraction (fun vs H Q E h => ?_) (fun cdv A outer s H vs Q E hr h => ?_)
  · obtain ⟨v, r, rfl, _⟩ := h
    rfl
  obtain ⟨v, r, rfl, hv, q⟩ := h
  have nd := sc_is_fraction.nd
  refine ⟨_, (pss_cons (ps_if (PW.pt (pw_or (pt_not (pt_val (pe_callB (k_isi (K := K) rfl) (by rfl) B.isinstance (by decide +kernel) (pa_cons (pv 0) (pa_cons (pe_bltn (v := .ty "tuple") (u := .type "tuple") (by rfl) B.tuple (by decide +kernel) rfl) pa_nil))))) (pw_or1 (pt_cmpR op_ne (pe_callB (k_len (K := K) rfl) (by rfl) B.len PySem.boot_len (pa_cons (pv 0) pa_nil)) pe_int (nomark _))))) (pss_one (ps_ret pe_bl)) pss_nil)
      (pss_cons (ps_asg (pv 0) (k_tup (K := K) (n := 2) rfl rfl (pgs_cons (pg_name (i := 1) nd rfl (.inl rfl)) (pgs_cons (pg_name (i := 2) nd rfl (.inl rfl)) pgs_nil))))
      (pss_one (ps_ret (pe_and (pe_call G_is_integral (hr.mono (by omega)) (by rfl) D_is_integral.m D_is_integral.F.kp D_is_integral.b .nil pass0 (pa_cons (pv 1) pa_nil)) (pe_and (pe_call G_is_integral (hr.mono (by omega)) (by rfl) D_is_integral.m D_is_integral.F.kp D_is_integral.b .nil pass0 (pa_cons (pv 2) pa_nil)) (pe_and (pe_cmpR op_ge (pv 2) pe_int (nomark _)) (pe_one (pe_cmpR op_eq (pe_callBfun cr_gcd (by rfl) C.gcd (pa_cons (pv 1) (pa_cons (pv 2) pa_nil))) pe_int (nomark _)))))))))), ?_⟩
  obtain ⟨a, rfl, hs⟩ := hv.rE
  refine ⟨_, rfl, _, _, _, _, true, rfl, .ty "tuple", tyx_tup hs, kit_ty (by decide +kernel), _, rfl, iteF ?_⟩
  refine ⟨_, rfl, a, _, rfl, .inr hs, rfl, _, rfl, iteF ?_⟩
  refine ⟨_, rfl, a, _, rfl, hs, rfl, _, _, rfl, _, _, rfl, rfl, ?_⟩
  have hd : 0 < r.den := Nat.pos_of_ne_zero r.den_nz
  have hd1 : decide ((r.den : Int) ≥ 1) = true := decide_eq_true (by omega)
  refine ⟨_, rfl, _, rfl, _, rfl, iteT ⟨_, rfl, _, rfl, _, rfl, iteT ⟨_, rfl, _, _, rfl, rfl, _, rfl, ?_⟩⟩⟩
  rw [hd1]
  refine iteT ⟨_, rfl, _, rfl, _, _, rfl, rfl, ?_⟩
  have hg : Nat.gcd r.num.natAbs ((r.den : Int)).natAbs = 1 := by
    rw [Int.natAbs_natCast]
    exact r.reduced
  show Q (.bl (decide (V.int ((Nat.gcd r.num.natAbs ((r.den : Int)).natAbs : Nat) : Int) = V.int 1))) H
  rw [hg]
  exact q
theorem rat_bound {q : Rat} (h0 : 0 ≤ q) (h1 : q ≤ 1) : 0 ≤ q.num ∧ q.num ≤ (q.den : Int) := by
  have a := (Rat.le_iff q 1).mp h1
  have b := Rat.num_nonneg.mpr h0
  have c : (1 : Rat).num = 1 := rfl
  have d : (1 : Rat).den = 1 := rfl
  rw [c, d] at a
  omega
theorem ok_is_chance {f f1 f2 : Addr} {fd fd1 fd2 : FuncData} (D : Dn K mg "is_chance" s_is_chance ["thing"] f fd) (B : Blt mg) (C : Cst K mg aN aO t1 t2 t3 t4 t5 t6 t7) (D_is_integral : Dn K mg "is_integral" s_is_integral ["thing"] f1 fd1) (D_is_fraction : Dn K mg "is_fraction" s_is_fraction ["thing"] f2 fd2) : FnOk P w K mg base CX0 3 f fd ["thing"] (spChance K) := by
  have G_is_fraction : FnOk P w K mg base CX0 2 f2 fd2 ["thing"] (spFraction K) := ok_is_fraction D_is_fraction B C D_is_integral
  refine D.F.ok sc_is_chance (fun vs H Q E h => ?_) (fun cdv A outer s H vs Q E hr h => ?_)
  · obtain ⟨v, r, rfl, _⟩ := h
    rfl
  obtain ⟨v, r, rfl, hv, h0, h1, q⟩ := h
  have nd := sc_is_chance.nd
  refine ⟨_, (pss_one (ps_ret (pe_and (pe_call G_is_fraction (hr.mono (by omega)) (by rfl) D_is_fraction.m D_is_fraction.F.kp D_is_fraction.b .nil pass0 (pa_cons (pv 0) pa_nil)) (pe_one (pe_chain op_le op_le pe_int (pe_ix (k_ixT (K := K) rfl) (pv 0) pe_int (fun _ _ => rfl)) (pe_ix (k_ixT (K := K) rfl) (pv 0) pe_int (fun _ _ => rfl))))))), ?_⟩
  obtain ⟨a, rfl, hs⟩ := id hv.rE
  obtain ⟨b0, b1⟩ := rat_bound h0 h1
  refine ⟨_, rfl, _, r, rfl, hv, _, rfl, iteT ⟨_, rfl, a, _, 0, _, rfl, rfl, hs, at_of (j := 0) rfl rfl, _, _, rfl, rfl, _, rfl, ?_⟩⟩
  rw [decide_eq_true b0]
  refine iteT ⟨_, rfl, a, _, 1, _, rfl, rfl, hs, at_of (j := 1) rfl rfl, _, _, rfl, rfl, ?_⟩
  show Q (.bl (decide (r.num ≤ (r.den : Int)))) H
  rw [decide_eq_true b1]
  exact q
theorem ok_reduced {f : Addr} {fd : FuncData} (D : Dn K mg "reduced" s_reduced ["top", "bottom"] f fd) (B : Blt mg) (C : Cst K mg aN aO t1 t2 t3 t4 t5 t6 t7) : FnOk P w K mg base CX0 1 f fd ["top", "bottom"] (spReduced K) := by
  refine D.F.ok sc_reduced (fun vs H Q E h => ?_) (fun cdv A outer s H vs Q E hr h => ?_)
  · obtain ⟨a, b, rfl, _⟩ := h
    rfl
  obtain ⟨t, b, rfl, hb, hz, q⟩ := h
  have nd := sc_reduced.nd
  refine ⟨_, (pss_cons (ps_set (i := 2) nd rfl (.inl rfl) (pe_callBfun cr_gcd (by rfl) C.gcd (pa_cons (pv 0) (pa_cons (pv 1) pa_nil))))
      (pss_one (ps_ret (pe_tup (pa_cons (pe_op op_fdivW (pv 0) (pv 2)) (pa_cons (pe_op op_fdivW (pv 1) (pv 2)) pa_nil)))))), ?_⟩
  refine ⟨_, rfl, _, rfl, _, _, rfl, ?_⟩
  rw [Int.natAbs_natCast]
  have hg0 : 0 < Nat.gcd t.natAbs b := Nat.gcd_pos_of_pos_right _ hb
  have hg1 : Nat.gcd t.natAbs b ≤ b := Nat.gcd_le_right _ hb
  have hg2 : ((Nat.gcd t.natAbs b : Nat) : Int).natAbs < 2 ^ 4000 := by
    rw [Int.natAbs_natCast]
    omega
  have dv : ∀ i : Int, CDivW i ((Nat.gcd t.natAbs b : Nat) : Int) := fun i => wide_div (b := 4000) (by omega) hg2 (by decide) (by decide)
  refine ⟨_, rfl, _, rfl, _, _, rfl, rfl, dv _, _, rfl, _, rfl, _, _, rfl, rfl, dv _, (by show 2 ≤ sizeLine; decide), fun p hp => ?_⟩
  exact q _ _ (same_upd hp) (td_rD hb upd_same)
theorem ok_added {f f1 : Addr} {fd fd1 : FuncData} (D : Dn K mg "added" s_added ["first", "second"] f fd) (B : Blt mg) (C : Cst K mg aN aO t1 t2 t3 t4 t5 t6 t7) (D_reduced : Dn K mg "reduced" s_reduced ["top", "bottom"] f1 fd1) : FnOk P w K mg base CX0 2 f fd ["first", "second"] (spAdded K) := by
  have G_reduced : FnOk P w K mg base CX0 1 f1 fd1 ["top", "bottom"] (spReduced K) := ok_reduced D_reduced B C
  refine D.F.ok sc_added (fun vs H Q E h => ?_) (fun cdv A outer s H vs Q E hr h => ?_)
  · obtain ⟨x, y, p, q, rfl, _⟩ := h
    rfl
  obtain ⟨x, y, p, q, rfl, hx, hy, z1, z2, k⟩ := h
  have nd := sc_added.nd
  refine ⟨_, (pss_one (ps_ret (pe_call G_reduced (hr.mono (by omega)) (by rfl) D_reduced.m D_reduced.F.kp D_reduced.b .nil pass0 (pa_cons (pe_op op_add (pe_op op_mulW (pe_ix (k_ixT (K := K) rfl) (pv 0) pe_int (fun _ _ => rfl)) (pe_ix (k_ixT (K := K) rfl) (pv 1) pe_int (fun _ _ => rfl))) (pe_op op_mulW (pe_ix (k_ixT (K := K) rfl) (pv 1) pe_int (fun _ _ => rfl)) (pe_ix (k_ixT (K := K) rfl) (pv 0) pe_int (fun _ _ => rfl)))) (pa_cons (pe_op op_mulW (pe_ix (k_ixT (K := K) rfl) (pv 0) pe_int (fun _ _ => rfl)) (pe_ix (k_ixT (K := K) rfl) (pv 1) pe_int (fun _ _ => rfl))) pa_nil))))), ?_⟩
  obtain ⟨a, rfl, ha⟩ := hx.rE
  obtain ⟨b, rfl, hb⟩ := hy.rE
  have i0 : atI [V.int p.num, .int (p.den : Int)] 0 = some (.int p.num) := at_of (j := 0) rfl rfl
  have i1 : atI [V.int p.num, .int (p.den : Int)] 1 = some (.int (p.den : Int)) := at_of (j := 1) rfl rfl
  have j0 : atI [V.int q.num, .int (q.den : Int)] 0 = some (.int q.num) := at_of (j := 0) rfl rfl
  have j1 : atI [V.int q.num, .int (q.den : Int)] 1 = some (.int (q.den : Int)) := at_of (j := 1) rfl rfl
  have hp0 : 0 < p.den := Nat.pos_of_ne_zero p.den_nz
  have hq0 : 0 < q.den := Nat.pos_of_ne_zero q.den_nz
  have dp : ((p.den : Int)).natAbs < 2 ^ 1500 := by rw [Int.natAbs_natCast]; exact z1.1
  have dq : ((q.den : Int)).natAbs < 2 ^ 1500 := by rw [Int.natAbs_natCast]; exact z2.1
  have c1 : CMulW p.num (q.den : Int) := wide_mul z1.2 dq (by decide) (by decide) (by decide)
  have c2 : CMulW q.num (p.den : Int) := wide_mul z2.2 dp (by decide) (by decide) (by decide)
  have c3 : CMulW (p.den : Int) (q.den : Int) := wide_mul dp dq (by decide) (by decide) (by decide)
  refine ⟨_, rfl, a, _, 0, _, rfl, rfl, ha, i0, _, rfl, b, _, 1, _, rfl, rfl, hb, j1, _, _, rfl, rfl, c1, _, rfl, b, _, 0, _, rfl, rfl, hb, j0, _, rfl, a, _, 1, _, rfl, rfl, ha, i1, _, _, rfl, rfl, c2, _, _, rfl, rfl,
    _, rfl, a, _, 1, _, rfl, rfl, ha, i1, _, rfl, b, _, 1, _, rfl, rfl, hb, j1, _, _, rfl, rfl, c3, ?_⟩
  refine ⟨p.num * q.den + q.num * p.den, p.den * q.den, by rw [Int.natCast_mul]; rfl, Nat.mul_pos hp0 hq0, ?_, fun v H' s' hv => k v H' s' ?_⟩
  · have z := Nat.mul_lt_mul'' z1.1 z2.1
    rw [← Nat.pow_add] at z
    exact Nat.lt_trans z (Nat.pow_lt_pow_right (by decide) (by decide))
  · rw [← Rat.mkRat_add_mkRat _ _ p.den_nz q.den_nz, rat_mk, rat_mk] at hv
    exact hv
theorem ok_common_bottom {f : Addr} {fd : FuncData} (D : Dn K mg "common_bottom" s_common_bottom ["fractions"] f fd) (B : Blt mg) (C : Cst K mg aN aO t1 t2 t3 t4 t5 t6 t7) : FnOk P w K mg base CX0 1 f fd ["fractions"] (spCB K) := by
  refine D.F.ok sc_common_bottom (fun vs H Q E h => ?_) (fun cdv A outer s H vs Q E hr h => ?_)
  · obtain ⟨r, us, D, rs, rfl, _⟩ := h
    rfl
  obtain ⟨r, us, d, rs, rfl, hS, tS, d0, d1, hdv, q⟩ := h
  have nd := sc_common_bottom.nd
  refine ⟨_, (pss_cons (ps_set (i := 1) nd rfl (.inl rfl) pe_int)
      (pss_cons (ps_for PassesOwn.never rfl (k_iLT (K := K) rfl (pv 0)) (pg_name (i := 2) nd rfl (.inl rfl)) (pss_one (ps_set (i := 1) nd rfl (.inl rfl) (pe_callBfun cr_lcm (by rfl) C.lcm (pa_cons (pv 1) (pa_cons (pe_ix (k_ixT (K := K) rfl) (pv 2) pe_int (fun _ _ => rfl)) pa_nil))))))
      (pss_one (ps_ret (pv 1))))), ?_⟩
  have lu : us.length = rs.length := by rw [tS.len, List.length_map]
  refine ⟨_, rfl, r, us, rfl, hS, fun J G w1 hG => for_it w1 (fun i σ H2 => H2 = H ∧ ∃ o2 : Option V, σ = [some (.ref r), some (.int ((lcmL (rs.take i) : Nat) : Int)), o2]) ⟨rfl, none, rfl⟩ (fun i σ H2 _ h => by rw [h.1]; exact hG _ (Same.refl _)) ?_ ?_⟩
  · rintro i x σ H0 H2 hi ⟨rfl, o2, rfl⟩ ⟨rfl, e1⟩
    obtain ⟨dx, ex, tx⟩ := tS.getV e1
    obtain ⟨x', er, rfl⟩ := mapAt ex
    obtain ⟨a, rfl, ha⟩ := tx.rE
    have l1 : lcmL (rs.take i) ∣ d := lcmL_dvd fun z hz => hdv z (List.mem_of_mem_take hz)
    have l2 := hdv x' (List.mem_of_getElem? er)
    have z : ∀ {m : Nat}, m ∣ d → m < 2 ^ 6000 := fun {m} h => Nat.lt_of_le_of_lt (Nat.le_of_dvd d0 h) (Nat.lt_trans d1 (Nat.pow_lt_pow_right (by decide) (by decide)))
    refine ⟨_, rfl, _, rfl, a, _, 1, _, rfl, rfl, ha, at_of (j := 1) rfl rfl, _, _, rfl, z l1, z l2, rfl, some (.ref a), ?_⟩
    rw [List.take_add_one, er]
    show [some (V.ref r), some (.int ((Nat.lcm (lcmL (rs.take i)) x'.den : Nat) : Int)), some (V.ref a)] = [some (V.ref r), some (.int ((lcmL (rs.take i ++ [x']) : Nat) : Int)), _]
    rw [lcmL_snoc]
  · rintro σ H2 ⟨rfl, o2, rfl⟩
    rw [lu, List.take_length]
    exact ⟨_, rfl, q⟩
theorem ok_times_whole {f : Addr} {fd : FuncData} (D : Dn K mg "times_whole" s_times_whole ["fraction", "whole"] f fd) (B : Blt mg) (C : Cst K mg aN aO t1 t2 t3 t4 t5 t6 t7) : FnOk P w K mg base CX0 1 f fd ["fraction", "whole"] (spTW K) := by
  refine D.F.ok sc_times_whole (fun vs H Q E h => ?_) (fun cdv A outer s H vs Q E hr h => ?_)
  · obtain ⟨v, r, m, rfl, _⟩ := h
    rfl
  obtain ⟨v, r, m, rfl, tv, m0, n0, b0, q⟩ := h
  have nd := sc_times_whole.nd
  refine ⟨_, (pss_one (ps_ret (pe_op op_mulW (pe_ix (k_ixT (K := K) rfl) (pv 0) pe_int (fun _ _ => rfl)) (pe_op op_fdivW (pv 1) (pe_ix (k_ixT (K := K) rfl) (pv 0) pe_int (fun _ _ => rfl)))))), ?_⟩
  obtain ⟨a, rfl, ha⟩ := tv.rE
  have hd : 0 < r.den := Nat.pos_of_ne_zero r.den_nz
  have q0 : ((m : Int) / (r.den : Int)) = ((m / r.den : Nat) : Int) := (Int.natCast_ediv _ _).symm
  have q1 : m / r.den < 2 ^ 1500 := Nat.lt_of_le_of_lt (Nat.div_le_self _ _) m0
  refine ⟨_, rfl, a, _, 0, _, rfl, rfl, ha, at_of (j := 0) rfl rfl, _, rfl, _, rfl, a, _, 1, _, rfl, rfl, ha, at_of (j := 1) rfl rfl, _, _, rfl, rfl, wide_div (b := 1500) (by omega) (by rw [Int.natAbs_natCast]; exact b0) (by decide) (by decide), _, _, rfl, rfl, ?_, ?_⟩
  · rw [q0]
    exact wide_mul n0 (by rw [Int.natAbs_natCast]; exact q1) (by decide) (by decide) (by decide)
  · show Q (.int (r.num * ((m : Int) / (r.den : Int)))) H
    rw [q0]
    exact q
theorem ok_total {f f1 f2 : Addr} {fd fd1 fd2 : FuncData} (D : Dn K mg "total" s_total ["fractions"] f fd) (B : Blt mg) (C : Cst K mg aN aO t1 t2 t3 t4 t5 t6 t7) (D_reduced : Dn K mg "reduced" s_reduced ["top", "bottom"] f1 fd1) (D_added : DTot K mg f2 fd2) : FnOk P w K mg base CX0 3 f fd ["fractions"] (spTotal K) := by
  obtain ⟨D_common_bottom, f3, fd3, D_times_whole⟩ := D_added
  have G_reduced : FnOk P w K mg base CX0 1 f1 fd1 ["top", "bottom"] (spReduced K) := ok_reduced D_reduced B C
  have G_common_bottom : FnOk P w K mg base CX0 1 f2 fd2 ["fractions"] (spCB K) := ok_common_bottom D_common_bottom B C
  have G_times_whole : FnOk P w K mg base CX0 1 f3 fd3 ["fraction", "whole"] (spTW K) := ok_times_whole D_times_whole B C
  refine D.F.ok sc_total (fun vs H Q E h => ?_) (fun cdv A outer s H vs Q E hr h => ?_)
  · obtain ⟨r, us, d, ns, rfl, _⟩ := h
    rfl
  obtain ⟨r, us, d, ns, rfl, hS, tS, hd0, hd1, hb, hl, k⟩ := h
  have nd := sc_total.nd
  refine ⟨_, (pss_cons (ps_set (i := 1) nd rfl (.inr rfl) (pe_call G_common_bottom (hr.mono (by omega)) (by rfl) D_common_bottom.m D_common_bottom.F.kp D_common_bottom.b .nil pass0 (pa_cons (pv 0) pa_nil)))
      (pss_one (ps_ret (pe_call G_reduced (hr.mono (by omega)) (by rfl) D_reduced.m D_reduced.F.kp D_reduced.b .nil pass0 (pa_cons (pe_callB (k_sum (K := K) rfl rfl) (by rfl) B.sum (by decide +kernel) (pa_cons (pe_lc (own := [("fraction", 2)]) rfl nd (k_iLT (K := K) rfl (pv 0)) (blkOk_by (own := [("fraction", 2)]) (by kernel_rfl)) (fun _ _ _ _ _ => (pg_name (i := 2) nd rfl (.inl rfl))) (fun _ _ _ _ _ => pts_nil) (fun _ _ _ _ _ => (pe_call G_times_whole (hr.mono (by omega)) (by rfl) D_times_whole.m D_times_whole.F.kp D_times_whole.b .nil pass0 (pa_cons (pv 2) (pa_cons (pv 1) pa_nil))))) pa_nil)) (pa_cons (pv 1) pa_nil)))))), ?_⟩
  have hdv : ∀ x ∈ ns.map (fr d), x.den ∣ d := fun x hx => by
    obtain ⟨n, _, rfl⟩ := List.mem_map.mp hx
    exact fr_den hd0 n
  have hnum : ∀ x ∈ ns.map (fr d), x.num.natAbs < 2 ^ 1500 := fun x hx => by
    obtain ⟨n, hn, rfl⟩ := List.mem_map.mp hx
    exact Nat.lt_of_le_of_lt (Nat.le_trans (fr_num_le hd0 n) (abssum_mem hn)) hb
  have lu : us.length = ns.length := by rw [tS.len, List.length_map, List.length_map]
  have lr : (ns.map (fr d)).length = ns.length := List.length_map ..
  have esum := fsum_lcm hd0 hdv
  have lpos := lcmL_pos hd0 hdv
  have lle := Nat.le_of_dvd hd0 (lcmL_dvd hdv)
  generalize ns.map (fr d) = rs at tS hdv hnum k esum lpos lle lr
  refine ⟨_, rfl, r, us, d, rs, rfl, hS, tS, hd0, hd1, hdv, ?_⟩
  refine ⟨_, rfl, r, us, rfl, hS, fun J G w1 hG T hT => lc_it w1 (fun i H2 => H2 T = some (.lst (((rs.map (frN (lcmL rs))).take i).map V.int)) ∧ Same H H2) ⟨upd_same, same_upd hT⟩ (fun i H2 _ h => hG H2 h.2) ?_ ?_⟩
  · rintro i x H0 H2 hi ⟨h2, s2⟩ ⟨rfl, e1⟩
    obtain ⟨dx, ex, tx⟩ := tS.getV e1
    obtain ⟨x', er, rfl⟩ := mapAt ex
    have m1 := List.mem_of_getElem? er
    refine ⟨rfl, ?_⟩
    refine iteT (B := H2 T = some (.lst (((rs.map (frN (lcmL rs))).take (i + 1)).map V.int)) ∧ Same H H2) ?_
    refine ⟨_, rfl, _, rfl, x, x', lcmL rs, rfl, tx.keep (Same.kt s2), Nat.lt_of_le_of_lt lle hd1, hnum _ m1, Nat.lt_of_le_of_lt (Nat.le_of_dvd hd0 (hdv _ m1)) hd1, _, h2, ?_, ?_, fun c o y => ?_⟩
    · rw [List.length_map, List.length_take]
      exact small1000 (by omega)
    · rw [upd_same, List.take_add_one, List.getElem?_map, er, List.map_append]
      rfl
    · rw [upd_ne (ne_of_none y hT)]
      exact s2 _ _ y
  · rintro H2 ⟨h2, s2⟩
    rw [lu, ← lr] at h2
    rw [List.take_of_length_le (by rw [List.length_map]; exact Nat.le_refl _)] at h2
    refine ⟨T, _, rfl, SqL.of h2, _, rfl, _, lcmL rs, rfl, lpos, Nat.lt_of_le_of_lt lle (Nat.lt_trans hd1 (Nat.pow_lt_pow_right (by decide) (by decide))), fun v H3 s3 tv => ?_⟩
    rw [esum] at tv
    exact k v H3 (s2.trans s3) tv
theorem ok_total_weights {f f1 f2 f3 : Addr} {fd fd1 fd2 fd3 : FuncData} (D : Dn K mg "total_weights" s_total_weights ["rows", "worlds"] f fd) (B : Blt mg) (C : Cst K mg aN aO t1 t2 t3 t4 t5 t6 t7) (D_reduced : Dn K mg "reduced" s_reduced ["top", "bottom"] f1 fd1) (D_added : DTot K mg f2 fd2)
    (D_total : Dn K mg "total" s_total ["fractions"] f3 fd3) : FnOk P w K mg base CX0 4 f fd ["rows", "worlds"] (spTotW K) := by
  have G_total : FnOk P w K mg base CX0 3 f3 fd3 ["fractions"] (spTotal K) := ok_total D_total B C D_reduced D_added
  refine D.F.ok sc_total_weights (fun vs H Q E h => ?_) (fun cdv A outer s H vs Q E hr h => ?_)
  · obtain ⟨x, y, p, q, rfl, _⟩ := h
    rfl
  obtain ⟨r, us, W, rows, rfl, hS, tS, hW1, hW5, hlr, hrow, hcol, k⟩ := h
  have nd := sc_total_weights.nd
  refine ⟨_, (pss_one (ps_ret (pe_callTy (k_tupOf (K := K) rfl) (by rfl) B.tuple (by decide +kernel) (pa_cons (pe_lc (own := [("world", 3)]) rfl nd (pi_range1 (by rfl) B.range (pa_cons (pv 1) pa_nil)) (blkOk_by (own := [("world", 3)]) (by kernel_rfl)) (fun _ _ _ _ _ => (pg_name (i := 3) nd rfl (.inr rfl))) (fun _ _ _ _ _ => pts_nil) (fun _ _ _ _ _ => (pe_call G_total (hr.mono (by omega)) (by rfl) D_total.m D_total.F.kp D_total.b .nil pass0 (pa_cons (pe_lc (own := [("weights", 2)]) rfl nd (k_iL (K := K) rfl (pv 0)) (blkOk_by (own := [("weights", 2)]) (by kernel_rfl)) (fun _ _ _ _ _ => (pg_name (i := 2) nd rfl (.inl rfl))) (fun _ _ _ _ _ => pts_nil) (fun _ _ _ _ _ => (pe_ix (k_ixT (K := K) rfl) (pv 2) (pv 3) (fun _ _ => rfl)))) pa_nil)))) pa_nil)))), ?_⟩
  have lu : us.length = rows.length := by rw [tS.len, List.length_map]
  refine ⟨_, rfl, _, rfl, by omega, by omega, fun T hT => ?_⟩
  refine lc_range (lo := 0) (n := W) (fun i H2 => ∃ vs : List V, H2 T = some (.lst vs) ∧ TdAll K H2 vs (((tot W rows).take i).map rD) ∧ Same H H2) ⟨[], upd_same, .nil, same_upd hT⟩ ?_ ?_
  · rintro i H2 hi ⟨vs, h2, t2, s2⟩
    refine ⟨rfl, ?_⟩
    refine iteT (B := ∃ vs : List V, H2 T = some (.lst vs) ∧ TdAll K H2 vs (((tot W rows).take (i + 1)).map rD) ∧ Same H H2) ?_
    obtain ⟨d, d0, d1, hdv, hab⟩ := hcol i hi
    refine ⟨_, rfl, r, rfl, ⟨_, s2.seq hS⟩, fun T2 hT2 => ?_⟩
    refine lc_list (K := K) (a := r) (xs := us) (fun j H3 => ∃ ws : List V, H3 T2 = some (.lst ws) ∧ TdAll K H3 ws (((rows.take j).map fun x => x.getD i 0).map rD) ∧ Same H2 H3) ⟨[], upd_same, .nil, same_upd hT2⟩ (fun j H3 _ h => ?_) ?_ ?_
    · obtain ⟨_, _, _, s3⟩ := h
      exact s3.seq (s2.seq hS)
    · rintro j y H3 hj ⟨ws, h3, t3, s3⟩
      obtain ⟨dy, ey, ty⟩ := tS.getV hj
      obtain ⟨x, hx, rfl⟩ := mapAt ey
      have lx := hrow x (List.mem_of_getElem? hx)
      have ty3 := ty.keep (Same.kt (s2.trans s3))
      obtain ⟨b, zs, rfl, hb, tz⟩ := ty3.tupE
      have gx : x[i]? = some (x.getD i 0) := by
        rw [List.getD_eq_getElem?_getD, List.getElem?_eq_getElem (show i < x.length by omega)]
        rfl
      obtain ⟨z, ez, tz1⟩ := tz.get (i := i) (d := rD (x.getD i 0)) (by rw [List.getElem?_map, gx]; rfl)
      have kT : KT K H3 (upd H3 T2 (.lst (ws ++ [z]))) := KT.updL h3
      refine ⟨rfl, ?_⟩
      refine iteT (B := ∃ ws : List V, H3 T2 = some (.lst ws) ∧ TdAll K H3 ws (((rows.take (j + 1)).map fun x => x.getD i 0).map rD) ∧ Same H2 H3) ?_
      refine ⟨_, rfl, _, rfl, b, zs, (0 + (i : Int)), z, rfl, rfl, hb, at_of (j := i) (by omega) ez, ws, h3, ?_, ws ++ [z], upd_same, ?_, fun c o w => ?_⟩
      · rw [t3.len, List.length_map, List.length_map, List.length_take]
        exact small1000 (by omega)
      · rw [List.take_add_one, hx, List.map_append, List.map_append]
        exact (t3.keep kT).app (.cons (tz1.keep kT) .nil)
      · rw [upd_ne (ne_of_none w hT2)]
        exact s3 _ _ w
    · rintro H3 ⟨ws, h3, t3, s3⟩
      rw [lu, List.take_length] at t3
      have er : ((rows.map fun x => x.getD i 0).map (frN d)).map (fr d) = rows.map fun x => x.getD i 0 := frs_frN d0 fun q hq => by
        obtain ⟨x, hx, rfl⟩ := List.mem_map.mp hq
        exact hdv x hx
      refine ⟨T2, ws, d, (rows.map fun x => x.getD i 0).map (frN d), rfl, .inl (SqL.of h3), by rw [er]; exact t3, d0, d1, hab, by rw [List.length_map, List.length_map]; omega, fun v H4 s4 tv => ?_⟩
      rw [er] at tv
      have s34 := s3.trans s4
      have h4 := s34 _ _ h2
      have kT : KT K H4 (upd H4 T (.lst (vs ++ [v]))) := KT.updL h4
      refine ⟨vs, h4, ?_, vs ++ [v], upd_same, ?_, fun c o w => ?_⟩
      · rw [t2.len, List.length_map, List.length_take]
        exact small1000 (by omega)
      · have et : (tot W rows)[i]? = some (fsum (rows.map fun x => x.getD i 0)) := by
          unfold tot
          rw [List.getElem?_map, List.getElem?_range hi]
          rfl
        rw [List.take_add_one, et, List.map_append]
        exact (t2.keep ((Same.kt s34).trans kT)).app (.cons (tv.keep kT) .nil)
      · rw [upd_ne (ne_of_none w hT)]
        exact s34 _ _ (s2 _ _ w)
  · rintro H2 ⟨vs, h2, t2, s2⟩
    rw [show (tot W rows).take W = tot W rows from List.take_of_length_le (by rw [tot_len]; omega)] at t2
    refine ⟨T, vs, rfl, SqL.of h2, fun l H3 s3 q3 => k (.ref l) H3 (s2.trans s3) (.tup q3 (t2.keep (Same.kt s3)))⟩
theorem ok_are_chances {f f2 f4 f5 : Addr} {fd fd2 fd4 fd5 : FuncData} (D : Dn K mg "are_chances" s_are_chances ["thing", "many"] f fd) (B : Blt mg) (C : Cst K mg aN aO t1 t2 t3 t4 t5 t6 t7) (D_is_integral : Dn K mg "is_integral" s_is_integral ["thing"] f2 fd2) (D_is_fraction : Dn K mg "is_fraction" s_is_fraction ["thing"] f4 fd4) (D_is_chance : Dn K mg "is_chance" s_is_chance ["thing"] f5 fd5) : FnOk P w K mg base CX0 4 f fd ["thing", "many"] (spChances K) := by
  have G_is_chance : FnOk P w K mg base CX0 3 f5 fd5 ["thing"] (spChance K) := ok_is_chance D_is_chance B C D_is_integral D_is_fraction
  refine D.F.ok sc_are_chances (fun vs H Q E h => ?_) (fun cdv A outer s H vs Q E hr h => ?_)
  · obtain ⟨v, ws, rfl, _⟩ := h
    rfl
  obtain ⟨v, ws, rfl, hv, hl, hch, q⟩ := h
  have nd := sc_are_chances.nd
  refine ⟨_, (pss_cons (ps_if (PW.pt (pw_or (pt_not (pt_val (pe_callB (k_isi (K := K) rfl) (by rfl) B.isinstance (by decide +kernel) (pa_cons (pv 0) (pa_cons (pe_bltn (v := .ty "tuple") (u := .type "tuple") (by rfl) B.tuple (by decide +kernel) rfl) pa_nil))))) (pw_or1 (pt_cmpR op_ne (pe_callB (k_len (K := K) rfl) (by rfl) B.len PySem.boot_len (pa_cons (pv 0) pa_nil)) (pv 1) (nomark _))))) (pss_one (ps_ret pe_bl)) pss_nil)
      (pss_one (ps_ret (pe_callB (k_all (K := K) rfl rfl) (by rfl) B.all (by decide +kernel) (pa_cons (pe_lc (own := [("chance", 2)]) rfl nd (k_iT (K := K) rfl (pv 0)) (blkOk_by (own := [("chance", 2)]) (by kernel_rfl)) (fun _ _ _ _ _ => (pg_name (i := 2) nd rfl (.inl rfl))) (fun _ _ _ _ _ => pts_nil) (fun _ _ _ _ _ => (pe_call G_is_chance (hr.mono (by omega)) (by rfl) D_is_chance.m D_is_chance.F.kp D_is_chance.b .nil pass0 (pa_cons (pv 2) pa_nil)))) pa_nil))))), ?_⟩
  obtain ⟨b, ys, rfl, hb, tb⟩ := hv.tupE
  have ly : ys.length = ws.length := by rw [tb.len, List.length_map]
  refine ⟨_, rfl, _, _, _, _, true, rfl, .ty "tuple", tyx_tup hb, kit_ty (by decide +kernel), _, rfl, iteF ?_⟩
  refine ⟨_, rfl, b, _, rfl, .inr hb, _, rfl, rfl, _, rfl, ?_⟩
  rw [ly, decide_eq_true rfl]
  refine iteF ?_
  refine ⟨_, rfl, b, rfl, ⟨_, hb⟩, fun T hT => ?_⟩
  refine lc_it (walk_tup (K := K) (a := b) (xs := ys)) (fun i H2 => H2 T = some (.lst ((List.replicate i true).map V.bl)) ∧ Same H H2) ⟨upd_same, same_upd hT⟩ (fun i H2 _ h => Same.kt h.2 _ _ hb) ?_ ?_
  · rintro i x H0 H2 hi ⟨h2, s2⟩ ⟨rfl, e1⟩
    obtain ⟨dx, ex, tx⟩ := tb.getV e1
    obtain ⟨r, er, rfl⟩ := mapAt ex
    obtain ⟨r0, r1⟩ := hch r (List.mem_of_getElem? er)
    refine ⟨rfl, ?_⟩
    refine iteT (B := H2 T = some (.lst ((List.replicate (i + 1) true).map V.bl)) ∧ Same H H2) ?_
    refine ⟨_, rfl, x, r, rfl, tx.keep (Same.kt s2), r0, r1, _, h2, ?_, ?_, fun c o y => ?_⟩
    · rw [List.length_map, List.length_replicate]
      exact small1000 (by omega)
    · rw [upd_same, List.replicate_succ', List.map_append]
      rfl
    · rw [upd_ne (ne_of_none y hT)]
      exact s2 _ _ y
  · rintro H2 ⟨h2, s2⟩
    refine ⟨T, _, rfl, SqL.of h2, ?_⟩
    have e : ∀ n : Nat, (List.replicate n true).all id = true := fun n => by
      induction n with
      | zero => rfl
      | succ n ih =>
        rw [List.replicate_succ]
        exact ih
    rw [e]
    exact q H2 s2
end
end Tl
namespace Tl
open PySem PySem.Spec PyProof.Rows L2 RZ
/-- data that may be compared -/
structure Good (k : Nat) (d : PyData) : Prop where
  lay : d.canLay0 = true
  deep : d.depth ≤ k
  dict : d.hasDict = false
theorem Good.mono {k k' : Nat} {d : PyData} (h : Good k d) (l : k ≤ k') : Good k' d := ⟨h.lay, Nat.le_trans h.deep l, h.dict⟩
theorem good_int (k : Nat) (i : Int) : Good k (.int i) := ⟨rfl, Nat.zero_le _, rfl⟩
theorem good_all {k : Nat} : ∀ {xs : List PyData}, (∀ x ∈ xs, Good k x) → PyData.canLayAll0 xs = true ∧ PyData.depthAll xs ≤ k ∧ PyData.hasDictAll xs = false
  | [], _ => ⟨rfl, Nat.zero_le _, rfl⟩
  | x :: xs, h => by
    obtain ⟨h1, h2, h3⟩ := h x (List.mem_cons_self ..)
    obtain ⟨a1, a2, a3⟩ := good_all fun y hy => h y (List.mem_cons_of_mem _ hy)
    refine ⟨?_, ?_, ?_⟩
    · show (PyData.canLay0 x && PyData.canLayAll0 xs) = true
      rw [h1, a1]
      rfl
    · show max (PyData.depth x) (PyData.depthAll xs) ≤ k
      omega
    · show (PyData.hasDict x || PyData.hasDictAll xs) = false
      rw [h3, a3]
      rfl
theorem good_tup {k : Nat} {xs : List PyData} (h : ∀ x ∈ xs, Good k x) : Good (k + 1) (.tuple xs) := by
  obtain ⟨a1, a2, a3⟩ := good_all h
  exact ⟨a1, Nat.succ_le_succ a2, a3⟩
theorem good_ints (ns : List Int) : Good 1 (.tuple (ns.map PyData.int)) := good_tup fun x hx => by
  obtain ⟨i, _, rfl⟩ := List.mem_map.mp hx
  exact good_int 0 i
theorem good_rD (q : Rat) : Good 1 (rD q) := good_ints [q.num, (q.den : Int)]
theorem good_wdD (w : List Int) : Good 1 (wdD w) := good_ints w
theorem good_wsD (ws : List Rat) : Good 2 (wsD ws) := good_tup fun x hx => by
  obtain ⟨q, _, rfl⟩ := List.mem_map.mp hx
  exact good_rD q
theorem good_ndD : ∀ (n : Nat) (t : Nd n), Good (3 * n + 2) (ndD n t)
  | 0, _ => (good_tup (k := 0) (xs := []) fun x hx => absurd hx List.not_mem_nil).mono (by decide)
  | n + 1, qs => by
    rw [show 3 * (n + 1) + 2 = ((3 * n + 2 + 1) + 1) + 1 by omega]
    refine good_tup fun x hx => ?_
    obtain ⟨q, _, rfl⟩ := List.mem_map.mp hx
    refine good_tup fun y hy => ?_
    obtain ⟨a, _, rfl⟩ := List.mem_map.mp hy
    refine good_tup fun z hz => ?_
    simp only [List.mem_cons, List.not_mem_nil, or_false] at hz
    rcases hz with rfl | rfl | rfl
    · exact (good_wdD _).mono (by omega)
    · exact (good_wsD _).mono (by omega)
    · exact good_ndD n _
theorem Good.shaped {k : Nat} {d : PyData} (h : Good k d) (l : k ≤ 64) : SeqAt.shaped d = true := by
  show (d.canLay0 && decide (d.depth ≤ 64)) = true
  rw [h.lay, decide_eq_true (Nat.le_trans h.deep l)]
  rfl
theorem Good.refl {k : Nat} {d : PyData} (h : Good k d) : PyData.eqv d d = true := SeqAt.eqv_refl d h.lay
theorem eqv_rD (p q : Rat) : PyData.eqv (rD p) (rD q) = decide (p = q) := by
  show ((p.num == q.num) && (((p.den : Int) == (q.den : Int)) && true)) = decide (p = q)
  rw [Bool.and_true]
  by_cases h : p = q
  · subst h
    rw [beq_self_eq_true, beq_self_eq_true, decide_eq_true rfl]
    rfl
  · rw [decide_eq_false h]
    by_cases h1 : p.num = q.num
    · have h2 : (p.den : Int) ≠ (q.den : Int) := fun e => h (Rat.ext h1 (by omega))
      rw [beq_eq_false_iff_ne.mpr h2, Bool.and_false]
    · rw [beq_eq_false_iff_ne.mpr h1, Bool.false_and]
end Tl
namespace Tl
open PySem PySem.Spec PyProof.Rows L2 RZ
def isZ (ws : List Rat) : Bool := ws.all fun q => decide (q = 0)
def spNought (K : PySem.W.Frag) : Sp := fun vs H Q _ => ∃ (v : V) (ws : List Rat), vs = [v] ∧ Td K H v (wsD ws) ∧ ws.length ≤ 100 ∧ ∀ H', Same H H' → Q (.bl (isZ ws)) H'
def spWord (K : PySem.W.Frag) : Sp := fun vs H Q _ => ∃ (v : V) (r : List Int), vs = [v] ∧ Td K H v (wdD r) ∧ WordOk r ∧ ∀ H', Same H H' → Q (.bl true) H'
def spAnswer (K : PySem.W.Frag) (n : Nat) : Sp := fun vs H Q _ => ∃ (v : V) (a : An n), vs = [v, .int ((a.2.1.length : Nat) : Int)] ∧ Td K H v (anD n a) ∧ WordOk a.1 ∧ a.2.1.length ≤ 100 ∧ (∀ r ∈ a.2.1, 0 ≤ r ∧ r ≤ 1) ∧ ∀ H', Same H H' → Q (.bl true) H'
def spAsc (K : PySem.W.Frag) : Sp := fun vs H Q _ => ∃ (r : Addr) (us : List V) (ws : List (List Int)), vs = [.ref r] ∧ SqL K H r us ∧ TdAll K H us (ws.map wdD) ∧ ws.length ≤ 900 ∧ (∀ i x y, ws[i]? = some x → ws[i + 1]? = some y → HT.lexLt x y = true) ∧ ∀ H', Same H H' → Q (.bl true) H'
theorem map_at {α β : Type} {l : List α} {f : α → β} {i : Nat} {y : β} (h : (l.map f)[i]? = some y) : ∃ x, l[i]? = some x ∧ y = f x := by
  rw [List.getElem?_map] at h
  cases e : l[i]? with
  | none =>
    rw [e] at h
    cases h
  | some x =>
    rw [e] at h
    exact ⟨x, rfl, (Option.some.inj h).symm⟩
theorem all_rep : ∀ n : Nat, (List.replicate n true).all id = true
  | 0 => rfl
  | n + 1 => by
    rw [List.replicate_succ]
    exact all_rep n
theorem rep_snoc {α : Type} (x : α) (n : Nat) : List.replicate n x ++ [x] = List.replicate (n + 1) x := List.replicate_succ'.symm
section
variable {P : Program} {w : World} {K : PySem.W.Frag} {mg : Str → Option Value} {base : Heap} {aN aO : Addr} {t1 t2 t3 t4 t5 t6 t7 : Tok}
theorem ok_is_word {f f1 f2 : Addr} {fd fd1 fd2 : FuncData} (D : Dn K mg "is_word" s_is_word ["thing"] f fd) (B : Blt mg) (C : Cst K mg aN aO t1 t2 t3 t4 t5 t6 t7) (D_is_number : Dn K mg "is_number" s_is_number ["thing", "least", "most"] f1 fd1) (D_is_integral : Dn K mg "is_integral" s_is_integral ["thing"] f2 fd2) : FnOk P w K mg base CX0 3 f fd ["thing"] (spWord K) := by
  have G_is_number : FnOk P w K mg base CX0 2 f1 fd1 ["thing", "least", "most"] spNumber := ok_is_number D_is_number B D_is_integral
  refine D.F.ok sc_is_word (fun vs H Q E h => ?_) (fun cdv A outer s H vs Q E hr h => ?_)
  · obtain ⟨v, ws, rfl, _⟩ := h
    rfl
  obtain ⟨v, ws, rfl, hv, hok, q⟩ := h
  have nd := sc_is_word.nd
  refine ⟨_, (pss_cons (ps_if (PW.pt (pw_or (pt_not (pt_val (pe_callB (k_isi (K := K) rfl) (by rfl) B.isinstance (by decide +kernel) (pa_cons (pv 0) (pa_cons (pe_bltn (v := .ty "tuple") (u := .type "tuple") (by rfl) B.tuple (by decide +kernel) rfl) pa_nil))))) (pw_or1 (pt_cmpR op_gt (pe_callB (k_len (K := K) rfl) (by rfl) B.len PySem.boot_len (pa_cons (pv 0) pa_nil)) (pe_glob (v := .int _) rfl C.MOST_NUMBERS ⟨_, rfl⟩) (nomark _))))) (pss_one (ps_ret pe_bl)) pss_nil)
      (pss_one (ps_ret (pe_callB (k_all (K := K) rfl rfl) (by rfl) B.all (by decide +kernel) (pa_cons (pe_lc (own := [("number", 1)]) rfl nd (k_iT (K := K) rfl (pv 0)) (blkOk_by (own := [("number", 1)]) (by kernel_rfl)) (fun _ _ _ _ _ => (pg_name (i := 1) nd rfl (.inl rfl))) (fun _ _ _ _ _ => pts_nil) (fun _ _ _ _ _ => (pe_call G_is_number (hr.mono (by omega)) (by rfl) D_is_number.m D_is_number.F.kp D_is_number.b .nil pass0 (pa_cons (pv 1) (pa_cons pe_int (pa_cons pe_int pa_nil)))))) pa_nil))))), ?_⟩
  obtain ⟨a, xs, rfl, ha, ta⟩ := hv.tupE
  have ex := tdAll_intsE ta
  subst ex
  have l8 := hok.1
  refine ⟨_, rfl, _, _, _, _, true, rfl, .ty "tuple", tyx_tup ha, kit_ty (by decide +kernel), _, rfl, iteF ?_⟩
  refine ⟨_, rfl, a, _, rfl, .inr ha, _, _, rfl, rfl, _, rfl, ?_⟩
  rw [List.length_map, decide_eq_false (show ¬ (8 : Int) < ((ws.length : Nat) : Int) by omega)]
  refine iteF ?_
  refine ⟨_, rfl, a, rfl, ⟨_, ha⟩, fun T hT => ?_⟩
  refine lc_it (walk_tup (K := K) (a := a) (xs := ws.map V.int)) (fun i H2 => H2 T = some (.lst ((List.replicate i true).map V.bl)) ∧ Same H H2) ⟨upd_same, same_upd hT⟩ (fun i H2 _ h => Same.kt h.2 _ _ ha) ?_ ?_
  · rintro i x H0 H2 hi ⟨h2, s2⟩ ⟨rfl, e1⟩
    obtain ⟨z, ez, rfl⟩ := int_at e1
    obtain ⟨z0, z1⟩ := hok.2 z (List.mem_of_getElem? ez)
    rw [List.length_map] at hi
    refine ⟨rfl, ?_⟩
    refine iteT (B := H2 T = some (.lst ((List.replicate (i + 1) true).map V.bl)) ∧ Same H H2) ?_
    refine ⟨_, rfl, z, 0, 99, rfl, _, h2, ?_, ?_, fun c o y => ?_⟩
    · rw [List.length_map, List.length_replicate]
      exact small1000 (by omega)
    · rw [upd_same, decide_eq_true z0, decide_eq_true z1, ← rep_snoc, List.map_append]
      rfl
    · rw [upd_ne (ne_of_none y hT)]
      exact s2 _ _ y
  · rintro H2 ⟨h2, s2⟩
    refine ⟨T, _, rfl, SqL.of h2, ?_⟩
    rw [all_rep]
    exact q H2 s2
theorem ok_is_answer {n : Nat} {f f1 f2 f3 f4 f5 f6 : Addr} {fd fd1 fd2 fd3 fd4 fd5 fd6 : FuncData} (D : Dn K mg "is_answer" s_is_answer ["thing", "worlds"] f fd) (B : Blt mg) (C : Cst K mg aN aO t1 t2 t3 t4 t5 t6 t7) (D_is_number : Dn K mg "is_number" s_is_number ["thing", "least", "most"] f1 fd1) (D_is_integral : Dn K mg "is_integral" s_is_integral ["thing"] f2 fd2)
    (D_is_word : Dn K mg "is_word" s_is_word ["thing"] f3 fd3) (D_is_fraction : Dn K mg "is_fraction" s_is_fraction ["thing"] f4 fd4) (D_is_chance : Dn K mg "is_chance" s_is_chance ["thing"] f5 fd5) (D_are_chances : Dn K mg "are_chances" s_are_chances ["thing", "many"] f6 fd6) : FnOk P w K mg base CX0 5 f fd ["thing", "worlds"] (spAnswer K n) := by
  have G_is_word : FnOk P w K mg base CX0 3 f3 fd3 ["thing"] (spWord K) := ok_is_word D_is_word B C D_is_number D_is_integral
  have G_are_chances : FnOk P w K mg base CX0 4 f6 fd6 ["thing", "many"] (spChances K) := ok_are_chances D_are_chances B C D_is_integral D_is_fraction D_is_chance
  refine D.F.ok sc_is_answer (fun vs H Q E h => ?_) (fun cdv A outer s H vs Q E hr h => ?_)
  · obtain ⟨v, ws, rfl, _⟩ := h
    rfl
  obtain ⟨v, an, rfl, hv, hok, hl, hch, q⟩ := h
  have nd := sc_is_answer.nd
  refine ⟨_, (pss_cons (ps_if (PW.pt (pw_or (pt_not (pt_val (pe_callB (k_isi (K := K) rfl) (by rfl) B.isinstance (by decide +kernel) (pa_cons (pv 0) (pa_cons (pe_bltn (v := .ty "tuple") (u := .type "tuple") (by rfl) B.tuple (by decide +kernel) rfl) pa_nil))))) (pw_or (pt_cmpR op_ne (pe_callB (k_len (K := K) rfl) (by rfl) B.len PySem.boot_len (pa_cons (pv 0) pa_nil)) pe_int (nomark _)) (pw_or1 (pt_not (pt_val (pe_call G_is_word (hr.mono (by omega)) (by rfl) D_is_word.m D_is_word.F.kp D_is_word.b .nil pass0 (pa_cons (pe_ix (k_ixT (K := K) rfl) (pv 0) pe_int (fun _ _ => rfl)) pa_nil)))))))) (pss_one (ps_ret pe_bl)) pss_nil)
      (pss_one (ps_ret (pe_call G_are_chances (hr.mono (by omega)) (by rfl) D_are_chances.m D_are_chances.F.kp D_are_chances.b .nil pass0 (pa_cons (pe_ix (k_ixT (K := K) rfl) (pv 0) pe_int (fun _ _ => rfl)) (pa_cons (pv 1) pa_nil)))))), ?_⟩
  obtain ⟨a, xs, rfl, ha, ta⟩ := id hv.tupE
  obtain ⟨vw, ew, tw⟩ := ta.get (i := 0) rfl
  obtain ⟨vs, es, ts⟩ := ta.get (i := 1) rfl
  have l3 : xs.length = 3 := ta.len
  refine ⟨_, rfl, _, _, _, _, true, rfl, .ty "tuple", tyx_tup ha, kit_ty (by decide +kernel), _, rfl, iteF ?_⟩
  refine ⟨_, rfl, a, _, rfl, .inr ha, rfl, _, rfl, ?_⟩
  rw [l3]
  refine iteF ?_
  refine ⟨_, rfl, a, _, 0, vw, rfl, rfl, ha, at_of (j := 0) rfl ew, vw, an.1, rfl, tw, hok, fun H1 s1 => ⟨_, rfl, iteF ?_⟩⟩
  have ha1 := Same.kt s1 _ _ ha
  exact ⟨_, rfl, a, _, 1, vs, rfl, rfl, ha1, at_of (j := 1) rfl es, _, rfl, vs, an.2.1, rfl, ts.keep (Same.kt s1), hl, hch, fun H2 s2 => q H2 (s1.trans s2)⟩
theorem ok_is_ascending {f : Addr} {fd : FuncData} (D : Dn K mg "is_ascending" s_is_ascending ["rows"] f fd) (B : Blt mg) : FnOk P w K mg base CX0 1 f fd ["rows"] (spAsc K) := by
  refine D.F.ok sc_is_ascending (fun vs H Q E h => ?_) (fun cdv A outer s H vs Q E hr h => ?_)
  · obtain ⟨v, ws, x, rfl, _⟩ := h
    rfl
  obtain ⟨r, us, ws, rfl, hS, tS, hl, hasc, q⟩ := h
  have nd := sc_is_ascending.nd
  refine ⟨_, (pss_one (ps_ret (pe_callB (k_all (K := K) rfl rfl) (by rfl) B.all (by decide +kernel) (pa_cons (pe_lc (own := [("low", 1), ("high", 2)]) rfl nd (k_zip (K := K) rfl (by rfl) B.zip (pa_cons (pv 0) (pa_cons (pe_slice (k_slL (K := K) rfl) (pv 0) (po_some pe_int) po_none) pa_nil))) (blkOk_by (own := [("low", 1), ("high", 2)]) (by kernel_rfl)) (fun _ _ _ _ _ => (k_tup (K := K) (n := 2) rfl rfl (pgs_cons (pg_name (i := 1) nd rfl (.inl rfl)) (pgs_cons (pg_name (i := 2) nd rfl (.inl rfl)) pgs_nil)))) (fun _ _ _ _ _ => pts_nil) (fun _ _ _ _ _ => (pe_cmpR (k_ltT (K := K) rfl hr.units0) (pv 1) (pv 2) (nomark _)))) pa_nil)))), ?_⟩
  have lu : us.length = ws.length := by rw [tS.len, List.length_map]
  refine ⟨_, rfl, _, rfl, _, rfl, r, us, rfl, hS, fun p hp => ?_⟩
  have s1 : Same H (upd H p (.lst (cutV us (some 1) none))) := same_upd hp
  have ec : cutV us (some 1) none = us.drop 1 := by
    unfold cutV
    rw [show HT.sIx us.length 0 (some 1) = min 1 us.length from HT.sIx_nat us.length 0 1, HT.sIx_none]
    cases us with
    | nil => rfl
    | cons x rr =>
      rw [show min 1 (x :: rr).length = 1 by rw [List.length_cons]; omega]
      exact List.take_of_length_le (by simp)
  rw [ec] at s1 ⊢
  refine ⟨r, p, us, us.drop 1, rfl, .inl ⟨s1.seq hS, SqL.of upd_same, fun T hT => ?_⟩⟩
  generalize hH1 : upd H p (.lst (us.drop 1)) = H1 at s1 hT ⊢
  have hp1 : H1 p = some (.lst (us.drop 1)) := by
    rw [← hH1]
    exact upd_same
  refine lc_it (walk_zip (K := K) (a := r) (b := p) (xs := us) (ys := us.drop 1) (n := min us.length (us.drop 1).length) rfl) (fun i H2 => H2 T = some (.lst ((List.replicate i true).map V.bl)) ∧ Same H1 H2) ⟨upd_same, same_upd hT⟩ (fun i H2 _ h => ⟨h.2.seq (s1.seq hS), h.2.seq (SqL.of hp1)⟩) ?_ ?_
  · rintro i x H2 H3 hi ⟨h2, s2⟩ ⟨T2, x', y', rfl, n2, rfl, e1, e2⟩
    replace e2 : (us.drop 1)[i]? = some y' := e2
    rw [List.getElem?_drop, Nat.add_comm 1 i] at e2
    obtain ⟨dx, ex, tx⟩ := tS.getV e1
    obtain ⟨dy, ey, ty⟩ := tS.getV e2
    obtain ⟨wx, gx, rfl⟩ := map_at ex
    obtain ⟨wy, gy, rfl⟩ := map_at ey
    have s3 : Same H2 (upd H2 T2 (.tup [x', y'])) := same_upd n2
    have k3 : KT K H (upd H2 T2 (.tup [x', y'])) := Same.kt ((s1.trans s2).trans s3)
    obtain ⟨ax, xs, rfl, hx, sx⟩ := (tx.keep k3).tupE
    obtain ⟨ay, ys, rfl, hy, sy⟩ := (ty.keep k3).tupE
    have e3 := tdAll_intsE sx
    have e4 := tdAll_intsE sy
    subst e3
    subst e4
    refine ⟨T2, _, rfl, .inl (.inl upd_same), rfl, _, _, rfl, _, _, rfl, rfl, rfl, ?_⟩
    refine iteT (B := (upd H2 T2 (.tup [V.ref ax, V.ref ay])) T = some (.lst ((List.replicate (i + 1) true).map V.bl)) ∧ Same H1 (upd H2 T2 (.tup [V.ref ax, V.ref ay]))) ?_
    have h3 := s3 _ _ h2
    refine ⟨_, rfl, _, rfl, ax, ay, wx, wy, rfl, rfl, hx, hy, _, h3, ?_, ?_, fun c o y => ?_⟩
    · rw [List.length_map, List.length_replicate]
      exact small1000 (by omega)
    · rw [upd_same, hasc i wx wy gx gy, ← rep_snoc, List.map_append]
      rfl
    · rw [upd_ne (ne_of_none y hT)]
      exact s3 _ _ (s2 _ _ y)
  · rintro H2 ⟨h2, s2⟩
    refine ⟨T, _, rfl, SqL.of h2, ?_⟩
    rw [all_rep]
    exact q H2 (s1.trans s2)
end
end Tl
namespace Tl
open PySem PySem.Spec PyProof.Rows L2 RZ
/-- a node judged: d answers ahead of it -/
def spCkN (K : PySem.W.Frag) (n : Nat) : Sp := fun vs H Q _ => ∃ (W d : Nat) (v av : V) (pl : Addr) (ps : List V) (ahead : List Rat) (t : Nd n), vs = [v, .ref pl, av] ∧ Td K H v (ndD n t) ∧ Td K H av (wsD ahead) ∧ SqT K H pl ps ∧ ps.length = 2 * d ∧ d + n ≤ 8 ∧
  1 ≤ W ∧ W ≤ 5 ∧ ahead.length = W ∧ NdOk W n ahead t ∧ ∀ H', Same H H' → Q .non H'
def spCkQ (K : PySem.W.Frag) : Nat → Sp
  | 0 => fun _ _ _ _ => False
  | n + 1 => fun vs H Q _ => ∃ (W d : Nat) (v av : V) (pl : Addr) (ps : List V) (ahead : List Rat) (q : Qn n), vs = [v, .ref pl, av] ∧ Td K H v (qnD n q) ∧ Td K H av (wsD ahead) ∧ SqT K H pl ps ∧ ps.length = 2 * d + 1 ∧ d + (n + 1) ≤ 8 ∧
      1 ≤ W ∧ W ≤ 5 ∧ ahead.length = W ∧ QnOk W ahead q ∧ (∀ a ∈ q, NdOk W n a.2.1 a.2.2) ∧ ∀ H', Same H H' → Q .non H'
theorem small25 {n : Nat} (h : n ≤ 25) : n ≤ sizeLine := Nat.le_of_lt (small1000 (by omega))
theorem tot_whole {W n : Nat} {ahead : List Rat} {q : Qn n} (ha : ahead.length = W) (h : QnOk W ahead q) : tot W (q.map fun a => a.2.1) = ahead := by
  refine List.ext_getElem? fun j => ?_
  unfold tot
  rw [List.getElem?_map]
  by_cases hj : j < W
  · rw [List.getElem?_range hj, List.getElem?_eq_getElem (show j < ahead.length by omega)]
    show some (fsum ((q.map fun a => a.2.1).map fun r => r.getD j 0)) = some _
    have e : ((q.map fun a => a.2.1).map fun r => r.getD j 0) = col q j := by
      unfold col
      rw [List.map_map]
      rfl
    rw [e, h.whole j hj, getD_of (List.getElem?_eq_getElem (show j < ahead.length by omega))]
  · rw [List.getElem?_eq_none (by rw [List.length_range]; omega), List.getElem?_eq_none (by omega)]
    rfl
theorem tot_cols {W n : Nat} {ahead : List Rat} {q : Qn n} (h : QnOk W ahead q) (j : Nat) (hj : j < W) : ∃ D : Nat, 0 < D ∧ D < 2 ^ 1500 ∧ (∀ x ∈ q.map (fun a => a.2.1), (x.getD j 0).den ∣ D) ∧ abssum (((q.map fun a => a.2.1).map fun x => x.getD j 0).map (frN D)) < 2 ^ 1500 := by
  have z2 : 12 * LL ^ 6 < 2 ^ 1500 := by
    have := @ll_small 6 800 (by decide)
    have z3 : 12 * 2 ^ 800 < 2 ^ 1500 := by
      rw [show (1500 : Nat) = 700 + 800 from rfl, Nat.pow_add]
      exact Nat.mul_lt_mul_of_pos_right (by decide) (Nat.two_pow_pos 800)
    exact Nat.lt_of_le_of_lt (Nat.mul_le_mul_left 12 this) z3
  have d2 : ∀ r ∈ col q j, r.den ∣ LL ^ 6 ∧ 0 ≤ r ∧ r ≤ 1 := fun r hr => by
    unfold col at hr
    obtain ⟨a, ha, rfl⟩ := List.mem_map.mp hr
    have hw := h.wide a ha
    have hm := h.chs a ha (a.2.1.getD j 0) (by rw [getD_of (List.getElem?_eq_getElem (show j < a.2.1.length by omega))]; exact List.getElem_mem _)
    exact ⟨hm.2.2, hm.1, hm.2.1⟩
  have e : ((q.map fun a => a.2.1).map fun x => x.getD j 0) = col q j := by
    unfold col
    rw [List.map_map]
    rfl
  refine ⟨LL ^ 6, ll_pos 6, ll_lt1500 (by decide), fun x hx => ?_, ?_⟩
  · obtain ⟨a, ha, rfl⟩ := List.mem_map.mp hx
    exact (d2 _ (List.mem_map.mpr ⟨a, ha, rfl⟩)).1
  · rw [e]
    exact Nat.lt_of_le_of_lt (frNs_abs d2) (Nat.lt_of_le_of_lt (Nat.mul_le_mul_right _ (show (col q j).length ≤ 12 by unfold col; rw [List.length_map]; exact h.most)) z2)
section
variable {P : Program} {w : World} {K : PySem.W.Frag} {mg : Str → Option Value} {base : Heap} {aN aO : Addr} {t1 t2 t3 t4 t5 t6 t7 : Tok}
theorem ok_check_node {n : Nat} {f f1 : Addr} {fd fd1 : FuncData} (D : Dn K mg "check_node" s_check_node ["node", "place", "ahead"] f fd) (B : Blt mg) (C : Cst K mg aN aO t1 t2 t3 t4 t5 t6 t7) (D_check_question : Dn K mg "check_question" s_check_question ["question", "place", "ahead"] f1 fd1)
    (G_check_question : FnOk P w K mg base CX0 (5 + 2 * n) f1 fd1 ["question", "place", "ahead"] (spCkQ K n)) : FnOk P w K mg base CX0 (6 + 2 * n) f fd ["node", "place", "ahead"] (spCkN K n) := by
  rw [show 6 + 2 * n = (5 + 2 * n) + 1 by omega]
  refine D.F.ok sc_check_node (fun vs H Q E h => ?_) (fun cdv A outer s H vs Q E hr h => ?_)
  · obtain ⟨W, d, v, av, pl, ps, ahead, t, rfl, _⟩ := h
    rfl
  obtain ⟨W, d, v, av, pl, ps, ahead, t, rfl, hv, hav, hpl, lp, hd, hW1, hW5, hla, hok, q⟩ := h
  have nd := sc_check_node.nd
  refine ⟨_, (pss_cons (ps_if (PW.pt (pw_or (pt_not (pt_val (pe_callB (k_isi (K := K) rfl) (by rfl) B.isinstance (by decide +kernel) (pa_cons (pv 0) (pa_cons (pe_bltn (v := .ty "tuple") (u := .type "tuple") (by rfl) B.tuple (by decide +kernel) rfl) pa_nil))))) (pw_or1 (pt_cmpR op_gt (pe_callB (k_len (K := K) rfl) (by rfl) B.len PySem.boot_len (pa_cons (pv 0) pa_nil)) (pe_glob (v := .int _) rfl C.MOST_QUESTIONS ⟨_, rfl⟩) (nomark _))))) (pss_one ps_never) pss_nil)
      (pss_cons (ps_if (PW.pt (pw_and (pt_cmpR op_gt (pe_callB (k_len (K := K) rfl) (by rfl) B.len PySem.boot_len (pa_cons (pv 0) pa_nil)) pe_int (nomark _)) (pw_and1 (pt_cmpR op_ge (pe_callB (k_len (K := K) rfl) (by rfl) B.len PySem.boot_len (pa_cons (pv 1) pa_nil)) (pe_op op_mulW pe_int (pe_glob (v := .int _) rfl C.MOST_ON_A_WAY ⟨_, rfl⟩)) (nomark _))))) (pss_one ps_never) pss_nil)
      (pss_one (ps_for PassesOwn.never rfl (k_enum (K := K) rfl (by rfl) B.enumerate (pa_cons (pv 0) pa_nil)) (k_tup (K := K) (n := 2) rfl rfl (pgs_cons (pg_name (i := 3) nd rfl (.inl rfl)) (pgs_cons (pg_name (i := 4) nd rfl (.inl rfl)) pgs_nil))) (pss_one (ps_expr (pe_call G_check_question (hr.mono (by omega)) (by rfl) D_check_question.m D_check_question.F.kp D_check_question.b .nil pass0 (pa_cons (pv 4) (pa_cons (pe_op (k_cat (K := K) rfl) (pv 1) (pe_tup (pa_cons (pv 3) pa_nil))) (pa_cons (pv 2) pa_nil)))))))))), ?_⟩
  obtain ⟨ds, eds, l5, l0⟩ : ∃ ds, ndD n t = .tuple ds ∧ ds.length ≤ 5 ∧ (n = 0 → ds.length = 0) := by
    cases n with
    | zero => exact ⟨[], rfl, by decide, fun _ => rfl⟩
    | succ n => exact ⟨_, rfl, by rw [List.length_map]; exact hok.1, fun h => by cases h⟩
  have hv2 := hv
  rw [eds] at hv2
  obtain ⟨a, xs, rfl, ha, ta⟩ := hv2.tupE
  have lx := ta.len
  refine ⟨_, rfl, _, _, _, _, true, rfl, .ty "tuple", tyx_tup ha, kit_ty (by decide +kernel), _, rfl, iteF ?_⟩
  refine ⟨_, rfl, a, _, rfl, .inr ha, _, _, rfl, rfl, _, rfl, ?_⟩
  rw [decide_eq_false (show ¬ (5 : Int) < ((xs.length : Nat) : Int) by omega)]
  refine iteF ?_
  refine ⟨_, rfl, a, _, rfl, .inr ha, _, _, rfl, rfl, _, rfl, ?_⟩
  have rest : tFor (iEnumT K (tCons (tVar 0) tNil)) (gTup K 2 (gCons (gName 3) (gCons (gName 4) gNil))) (tDrop (tCall (spCkQ K n) [] E0 (tCons (tVar 4) (tCons (tOp (rCatP K) (tVar 1) (tTup (tCons (tVar 3) tNil))) (tCons (tVar 2) tNil))))) { nx := fun _ H' => Q .non H', rt := Q } [some (.ref a), some (.ref pl), some av, none, none] H := by
    refine ⟨_, rfl, a, xs, rfl, ha, for_it (walk_enumT (K := K) (a := a) (xs := xs)) (fun i σ H2 => ∃ o3 o4 : Option V, σ = [some (.ref a), some (.ref pl), some av, o3, o4] ∧ Same H H2) ⟨none, none, rfl, Same.refl _⟩ (fun i σ H2 _ h => ?_) ?_ ?_⟩
    · obtain ⟨_, _, _, s2⟩ := h
      exact Same.kt s2 _ _ ha
    · rintro i x σ H2 H3 hi ⟨o3, o4, rfl, s2⟩ ⟨T, x1, x2, rfl, nT, rfl, e1, e2⟩
      cases n with
      | zero =>
        have := l0 rfl
        omega
      | succ n =>
        cases eds
        have s3 : Same H2 (upd H2 T (.tup [x1, x2])) := same_upd nT
        cases e1
        obtain ⟨dx, ex, tx⟩ := ta.getV e2
        obtain ⟨qn, eq, rfl⟩ := map_at ex
        obtain ⟨qok, nok⟩ := hok.2 qn (List.mem_of_getElem? eq)
        refine ⟨T, _, rfl, .inl (.inl upd_same), rfl, _, _, rfl, _, _, rfl, rfl, ?_⟩
        refine ⟨_, rfl, _, rfl, _, rfl, (by show 1 ≤ sizeLine; decide), fun p np => ?_⟩
        have s4 : Same (upd H2 T (.tup [.int (i : Int), x2])) (upd (upd H2 T (.tup [.int (i : Int), x2])) p (.tup [.int (i : Int)])) := same_upd np
        have s24 := (s2.trans s3).trans s4
        refine ⟨pl, p, ps, _, rfl, rfl, Same.kt s24 _ _ hpl, .inl (.inl upd_same), by rw [lp]; exact small25 (by simp; omega), fun p2 H5 s5 q5 => ?_⟩
        have s25 := s24.trans s5
        refine ⟨_, rfl, W, d, x2, av, p2, _, ahead, qn, rfl, tx.keep (Same.kt s25), hav.keep (Same.kt s25), q5, by rw [List.length_append, lp]; rfl, by omega, hW1, hW5, hla, qok, nok, fun H6 s6 => ?_⟩
        exact ⟨_, _, rfl, s25.trans s6⟩
    · rintro σ H2 ⟨o3, o4, rfl, s2⟩
      exact q H2 s2
  refine ite2 (fun c => ?_) (fun c => ?_)
  · refine ⟨_, rfl, pl, _, rfl, .inr hpl, _, _, rfl, rfl, cmul_small (by decide) (by decide), _, _, rfl, rfl, _, rfl, ?_⟩
    have c0 : 0 < xs.length := by
      have := of_decide_eq_true c
      omega
    have n0 : n ≠ 0 := fun e => by
      have := l0 e
      omega
    rw [decide_eq_false (show ¬ ((ps.length : Nat) : Int) ≥ 2 * 8 by omega)]
    refine iteF ?_
    exact rest
  · refine iteF ?_
    exact rest
end
end Tl
namespace Tl
open PySem PySem.Spec PyProof.Rows L2 RZ
section
variable {P : Program} {w : World} {K : PySem.W.Frag} {mg : Str → Option Value} {base : Heap} {aN aO : Addr} {t1 t2 t3 t4 t5 t6 t7 : Tok}
theorem ok_check_question {n : Nat} {f f1 f2 f3 f4 : Addr} {fd fd1 fd2 fd3 fd4 : FuncData} (D : Dn K mg "check_question" s_check_question ["question", "place", "ahead"] f fd) (B : Blt mg) (C : Cst K mg aN aO t1 t2 t3 t4 t5 t6 t7) (D_check_node : Dn K mg "check_node" s_check_node ["node", "place", "ahead"] f1 fd1)
    (G_check_node : FnOk P w K mg base CX0 (6 + 2 * n) f1 fd1 ["node", "place", "ahead"] (spCkN K n)) (D_is_answer : Dn K mg "is_answer" s_is_answer ["thing", "worlds"] f2 fd2) (G_is_answer : FnOk P w K mg base CX0 5 f2 fd2 ["thing", "worlds"] (spAnswer K n))
    (D_is_ascending : Dn K mg "is_ascending" s_is_ascending ["rows"] f3 fd3) (G_is_ascending : FnOk P w K mg base CX0 1 f3 fd3 ["rows"] (spAsc K)) (D_total_weights : Dn K mg "total_weights" s_total_weights ["rows", "worlds"] f4 fd4) (G_total_weights : FnOk P w K mg base CX0 4 f4 fd4 ["rows", "worlds"] (spTotW K)) :
    FnOk P w K mg base CX0 (7 + 2 * n) f fd ["question", "place", "ahead"] (spCkQ K (n + 1)) := by
  rw [show 7 + 2 * n = (6 + 2 * n) + 1 by omega]
  refine D.F.ok sc_check_question (fun vs H Q E h => ?_) (fun cdv A outer s H vs Q E hr h => ?_)
  · obtain ⟨W, d, v, av, pl, ps, ahead, t, rfl, _⟩ := h
    rfl
  obtain ⟨W, d, v, av, pl, ps, ahead, qn, rfl, hv, hav, hpl, lp, hd, hW1, hW5, hla, qok, nok, q⟩ := h
  have nd := sc_check_question.nd
  refine ⟨_, (pss_cons (ps_if (PW.pt (pw_or (pt_not (pt_val (pe_callB (k_isi (K := K) rfl) (by rfl) B.isinstance (by decide +kernel) (pa_cons (pv 0) (pa_cons (pe_bltn (v := .ty "tuple") (u := .type "tuple") (by rfl) B.tuple (by decide +kernel) rfl) pa_nil))))) (pw_or1 (pt_not (pt_chain op_le op_le pe_int (pe_callB (k_len (K := K) rfl) (by rfl) B.len PySem.boot_len (pa_cons (pv 0) pa_nil)) (pe_glob (v := .int _) rfl C.MOST_WORDS ⟨_, rfl⟩)))))) (pss_one ps_never) pss_nil)
      (pss_cons (ps_for PassesOwn.never rfl (k_enum (K := K) rfl (by rfl) B.enumerate (pa_cons (pv 0) pa_nil)) (k_tup (K := K) (n := 2) rfl rfl (pgs_cons (pg_name (i := 3) nd rfl (.inl rfl)) (pgs_cons (pg_name (i := 4) nd rfl (.inl rfl)) pgs_nil))) (pss_one (ps_if (pt_not (pt_val (pe_call G_is_answer (hr.mono (by omega)) (by rfl) D_is_answer.m D_is_answer.F.kp D_is_answer.b .nil pass0 (pa_cons (pv 4) (pa_cons (pe_callB (k_len (K := K) rfl) (by rfl) B.len PySem.boot_len (pa_cons (pv 2) pa_nil)) pa_nil))))) (pss_one ps_never) pss_nil)))
      (pss_cons (ps_if (pt_not (pt_val (pe_call G_is_ascending (hr.mono (by omega)) (by rfl) D_is_ascending.m D_is_ascending.F.kp D_is_ascending.b .nil pass0 (pa_cons (pe_lc (own := [("answer", 4)]) rfl nd (k_iT (K := K) rfl (pv 0)) (blkOk_by (own := [("answer", 4)]) (by kernel_rfl)) (fun _ _ _ _ _ => (pg_name (i := 4) nd rfl (.inl rfl))) (fun _ _ _ _ _ => pts_nil) (fun _ _ _ _ _ => (pe_ix (k_ixT (K := K) rfl) (pv 4) pe_int (fun _ _ => rfl)))) pa_nil)))) (pss_one ps_never) pss_nil)
      (pss_cons (ps_if (pt_cmpR (k_neD (K := K) rfl hr.units) (pe_call G_total_weights (hr.mono (by omega)) (by rfl) D_total_weights.m D_total_weights.F.kp D_total_weights.b .nil pass0 (pa_cons (pe_lc (own := [("answer", 4)]) rfl nd (k_iT (K := K) rfl (pv 0)) (blkOk_by (own := [("answer", 4)]) (by kernel_rfl)) (fun _ _ _ _ _ => (pg_name (i := 4) nd rfl (.inl rfl))) (fun _ _ _ _ _ => pts_nil) (fun _ _ _ _ _ => (pe_ix (k_ixT (K := K) rfl) (pv 4) pe_int (fun _ _ => rfl)))) (pa_cons (pe_callB (k_len (K := K) rfl) (by rfl) B.len PySem.boot_len (pa_cons (pv 2) pa_nil)) pa_nil))) (pv 2) (nomark _)) (pss_one ps_never) pss_nil)
      (pss_one (ps_for PassesOwn.never rfl (k_enum (K := K) rfl (by rfl) B.enumerate (pa_cons (pv 0) pa_nil)) (k_tup (K := K) (n := 2) rfl rfl (pgs_cons (pg_name (i := 3) nd rfl (.inl rfl)) (pgs_cons (pg_name (i := 4) nd rfl (.inl rfl)) pgs_nil))) (pss_one (ps_expr (pe_call G_check_node (hr.mono (by omega)) (by rfl) D_check_node.m D_check_node.F.kp D_check_node.b .nil pass0 (pa_cons (pe_ix (k_ixT (K := K) rfl) (pv 4) pe_int (fun _ _ => rfl)) (pa_cons (pe_op (k_cat (K := K) rfl) (pv 1) (pe_tup (pa_cons (pv 3) pa_nil))) (pa_cons (pe_ix (k_ixT (K := K) rfl) (pv 4) pe_int (fun _ _ => rfl)) pa_nil)))))))))))), ?_⟩
  obtain ⟨a, xs, rfl, ha, ta⟩ := id hv.tupE
  obtain ⟨aa, axs, rfl, haa, taa⟩ := id hav.tupE
  have lx : xs.length = qn.length := by rw [ta.len, List.length_map]
  have la : axs.length = W := by rw [taa.len, List.length_map, hla]
  have o1 := qok.one
  have o12 := qok.most
  -- the answers at their places
  have at_ : ∀ {i : Nat} {x : V} {H2 : Hp}, xs[i]? = some x → Same H H2 → ∃ an, qn[i]? = some an ∧ an ∈ qn ∧ Td K H2 x (anD n an) ∧ ∃ p vw vs vt, x = .ref p ∧ SqT K H2 p [vw, vs, vt] ∧ Td K H2 vw (wdD an.1) ∧ Td K H2 vs (wsD an.2.1) ∧ Td K H2 vt (ndD n an.2.2) := by
    intro i x H2 e s2
    obtain ⟨dx, ex, tx⟩ := ta.getV e
    obtain ⟨an, ea, rfl⟩ := map_at ex
    have tx2 := tx.keep (Same.kt s2)
    obtain ⟨p, ys, rfl, hp, tp⟩ := id tx2.tupE
    cases tp with
    | cons h1 tp => cases tp with
      | cons h2 tp => cases tp with
        | cons h3 tp =>
          cases tp
          exact ⟨an, ea, List.mem_of_getElem? ea, tx2, p, _, _, _, rfl, hp, h1, h2, h3⟩
  refine ⟨_, rfl, _, _, _, _, true, rfl, .ty "tuple", tyx_tup ha, kit_ty (by decide +kernel), _, rfl, iteF ?_⟩
  refine ⟨_, rfl, a, _, rfl, .inr ha, _, _, rfl, rfl, _, rfl, ?_⟩
  rw [decide_eq_true (show (1 : Int) ≤ ((xs.length : Nat) : Int) by omega)]
  refine iteT ⟨_, _, rfl, rfl, _, rfl, ?_⟩
  rw [decide_eq_true (show ((xs.length : Nat) : Int) ≤ 12 by omega)]
  refine iteF ?_
  -- each answer
  refine ⟨_, rfl, a, xs, rfl, ha, for_it (walk_enumT (K := K) (a := a) (xs := xs)) (fun i σ H2 => ∃ o3 o4 : Option V, σ = [some (.ref a), some (.ref pl), some (.ref aa), o3, o4] ∧ Same H H2) ⟨none, none, rfl, Same.refl _⟩ (fun i σ H2 _ h => ?_) ?_ ?_⟩
  · obtain ⟨_, _, _, s2⟩ := h
    exact Same.kt s2 _ _ ha
  · rintro i x σ H2 H3 hi ⟨o3, o4, rfl, s2⟩ ⟨T, x1, x2, rfl, nT, rfl, e1, e2⟩
    have s3 : Same H2 (upd H2 T (.tup [x1, x2])) := same_upd nT
    have s23 := s2.trans s3
    obtain ⟨an, ea, ma, tan, _⟩ := at_ e2 s23
    refine ⟨T, _, rfl, .inl (.inl upd_same), rfl, _, _, rfl, _, _, rfl, rfl, ?_⟩
    refine ⟨_, rfl, _, rfl, aa, _, rfl, .inr (Same.kt s23 _ _ haa), x2, an, ?_, tan, qok.words _ ma, ?_, fun r hr => ?_, fun H4 s4 => ⟨_, rfl, iteF ⟨_, _, rfl, s23.trans s4⟩⟩⟩
    · rw [la, qok.wide _ ma]
      rfl
    · rw [qok.wide _ ma]
      omega
    · have := qok.chs _ ma r hr
      exact ⟨this.1, this.2.1⟩
  rintro σ H2 ⟨o3, o4, rfl, s2⟩
  -- ascending
  have ha2 := Same.kt s2 _ _ ha
  refine ⟨_, rfl, a, rfl, ⟨_, ha2⟩, fun T hT => ?_⟩
  refine lc_it (walk_tup (K := K) (a := a) (xs := xs)) (fun i H3 => ∃ us : List V, H3 T = some (.lst us) ∧ TdAll K H3 us ((qn.take i).map fun an => wdD an.1) ∧ Same H2 H3) ⟨[], upd_same, .nil, same_upd hT⟩ (fun i H3 _ h => ?_) ?_ ?_
  · obtain ⟨_, _, _, s3⟩ := h
    exact Same.kt s3 _ _ ha2
  · rintro i x H0 H3 hi ⟨us, h3, t3, s3⟩ ⟨rfl, e1⟩
    obtain ⟨an, ea, ma, tan, p, vw, vs, vt, rfl, hp, h1, h2, h4⟩ := at_ e1 (s2.trans s3)
    have kT : KT K H3 (upd H3 T (.lst (us ++ [vw]))) := KT.updL h3
    refine ⟨rfl, ?_⟩
    refine iteT (B := ∃ us : List V, H3 T = some (.lst us) ∧ TdAll K H3 us ((qn.take (i + 1)).map fun an => wdD an.1) ∧ Same H2 H3) ?_
    refine ⟨_, rfl, p, _, 0, vw, rfl, rfl, hp, at_of (j := 0) rfl rfl, us, h3, ?_, us ++ [vw], upd_same, ?_, fun c o y => ?_⟩
    · rw [t3.len, List.length_map, List.length_take]
      exact small1000 (by omega)
    · rw [List.take_add_one, ea, List.map_append]
      exact (t3.keep kT).app (.cons (h1.keep kT) .nil)
    · rw [upd_ne (ne_of_none y hT)]
      exact s3 _ _ y
  rintro H3 ⟨us, h3, t3, s3⟩
  rw [lx, List.take_length] at t3
  have s03 := s2.trans s3
  refine ⟨T, us, qn.map (fun an => an.1), rfl, SqL.of h3, by rw [List.map_map]; exact t3, by rw [List.length_map]; omega, ?_, fun H4 s4 => ⟨_, rfl, iteF ?_⟩⟩
  · intro i x y hx hy
    obtain ⟨ax, gx, rfl⟩ := map_at hx
    obtain ⟨ay, gy, rfl⟩ := map_at hy
    exact qok.asc i ax ay gx gy
  have s04 := s03.trans s4
  clear t3 h3 s3
  -- the weights
  have ha4 := Same.kt s04 _ _ ha
  refine ⟨_, rfl, a, rfl, ⟨_, ha4⟩, fun T2 hT2 => ?_⟩
  refine lc_it (walk_tup (K := K) (a := a) (xs := xs)) (fun i H3 => ∃ us : List V, H3 T2 = some (.lst us) ∧ TdAll K H3 us ((qn.take i).map fun an => wsD an.2.1) ∧ Same H4 H3) ⟨[], upd_same, .nil, same_upd hT2⟩ (fun i H3 _ h => ?_) ?_ ?_
  · obtain ⟨_, _, _, s3⟩ := h
    exact Same.kt s3 _ _ ha4
  · rintro i x H0 H5 hi ⟨us, h3, t3, s3⟩ ⟨rfl, e1⟩
    obtain ⟨an, ea, ma, tan, p, vw, vs, vt, rfl, hp, h1, h2, h4⟩ := at_ e1 (s04.trans s3)
    have kT : KT K H5 (upd H5 T2 (.lst (us ++ [vs]))) := KT.updL h3
    refine ⟨rfl, ?_⟩
    refine iteT (B := ∃ us : List V, H5 T2 = some (.lst us) ∧ TdAll K H5 us ((qn.take (i + 1)).map fun an => wsD an.2.1) ∧ Same H4 H5) ?_
    refine ⟨_, rfl, p, _, 1, vs, rfl, rfl, hp, at_of (j := 1) rfl rfl, us, h3, ?_, us ++ [vs], upd_same, ?_, fun c o y => ?_⟩
    · rw [t3.len, List.length_map, List.length_take]
      exact small1000 (by omega)
    · rw [List.take_add_one, ea, List.map_append]
      exact (t3.keep kT).app (.cons (h2.keep kT) .nil)
    · rw [upd_ne (ne_of_none y hT2)]
      exact s3 _ _ y
  rintro H5 ⟨us5, h5, t5, s5⟩
  rw [lx, List.take_length] at t5
  have s05 := s04.trans s5
  refine ⟨_, rfl, aa, _, rfl, .inr (Same.kt s05 _ _ haa), ?_⟩
  refine ⟨T2, us5, W, qn.map (fun an => an.2.1), by rw [la]; rfl, SqL.of h5, by rw [List.map_map]; exact t5, hW1, hW5, by rw [List.length_map]; omega, fun x hx => ?_, tot_cols qok, fun v6 H6 s6 t6 => ?_⟩
  · obtain ⟨an, ma, rfl⟩ := List.mem_map.mp hx
    exact qok.wide _ ma
  rw [tot_whole hla qok] at t6
  have s06 := s05.trans s6
  have g2 := good_wsD ahead
  refine ⟨_, rfl, wsD ahead, wsD ahead, t6.dp, (hav.keep (Same.kt s06)).dp, g2.shaped (by decide), g2.shaped (by decide), _, rfl, ?_⟩
  rw [g2.refl]
  refine iteF ?_
  clear t6 t5 h5 s5 s6 ha4 ha2 s4 s03 s2
  -- the nodes behind
  have ha6 := Same.kt s06 _ _ ha
  refine ⟨_, rfl, a, xs, rfl, ha6, for_it (walk_enumT (K := K) (a := a) (xs := xs)) (fun i σ H2 => ∃ o3 o4 : Option V, σ = [some (.ref a), some (.ref pl), some (.ref aa), o3, o4] ∧ Same H H2) ⟨_, _, rfl, s06⟩ (fun i σ H2 _ h => ?_) ?_ ?_⟩
  · obtain ⟨_, _, _, s2⟩ := h
    exact Same.kt s2 _ _ ha
  · rintro i x σ H2 H3 hi ⟨o3, o4, rfl, s2⟩ ⟨T, x1, x2, rfl, nT, rfl, e1, e2⟩
    have s3 : Same H2 (upd H2 T (.tup [x1, x2])) := same_upd nT
    cases e1
    have s23 := s2.trans s3
    obtain ⟨an, ea, ma, tan, p, vw, vs, vt, rfl, hp, h1, h2, h4⟩ := at_ e2 s23
    refine ⟨T, _, rfl, .inl (.inl upd_same), rfl, _, _, rfl, _, _, rfl, rfl, ?_⟩
    refine ⟨_, rfl, p, _, 2, vt, rfl, rfl, hp, at_of (j := 2) rfl rfl, ?_⟩
    refine ⟨_, rfl, _, rfl, (by show 1 ≤ sizeLine; decide), fun p3 np => ?_⟩
    have s4 : Same (upd H2 T (.tup [.int (i : Int), .ref p])) (upd (upd H2 T (.tup [.int (i : Int), .ref p])) p3 (.tup [.int (i : Int)])) := same_upd np
    have s24 := s23.trans s4
    refine ⟨pl, p3, ps, _, rfl, rfl, Same.kt s24 _ _ hpl, .inl (.inl upd_same), by rw [lp]; exact small25 (by simp; omega), fun p2 H5 s5 q5 => ?_⟩
    have s25 := s24.trans s5
    have k35 : KT K (upd H2 T (.tup [.int (i : Int), .ref p])) H5 := Same.kt (s4.trans s5)
    refine ⟨_, rfl, p, _, 1, vs, rfl, rfl, k35 _ _ hp, at_of (j := 1) rfl rfl, ?_⟩
    refine ⟨W, d + 1, vt, vs, p2, _, an.2.1, an.2.2, rfl, h4.keep k35, h2.keep k35, q5, by rw [List.length_append, lp]; show 2 * d + 1 + 1 = 2 * (d + 1); omega, by omega, hW1, hW5, qok.wide _ ma, nok _ ma, fun H6 s6 => ?_⟩
    exact ⟨_, _, rfl, s25.trans s6⟩
  · rintro σ H2 ⟨o3, o4, rfl, s2⟩
    exact q H2 s2
end
end Tl
namespace Tl
open PySem PySem.Spec PyProof.Rows L2 RZ
/-- a comprehension over two walks -/
theorem lc2_it {J : It} {n : Nat} {G : Hp → Prop} {Y : Nat → Hp → V → Hp → Prop} (w1 : Walk J n G Y) {wi1 : TI} {g g1 : TG} {tt tt1 : TT} {te : TE} {vs vs1 : List Nat} {σ : L2.St} {H1 : Hp} {D : Addr} {Qd : Hp → Prop} (Pv : Nat → Hp → Prop) (h0 : Pv 0 (upd H1 D (.lst []))) (hG : ∀ i H, i ≤ n → Pv i H → G H)
    (hs : ∀ i x H H', i < n → Pv i H → Y i H x H' → g x (wipe σ vs) H' fun σ2 H2 => wipe σ2 vs = wipe σ vs ∧ tt σ2 H2 fun b H3 => if b = true then wi1 σ2 H3 fun J1 H4 => ∃ (k : Nat) (G1 : Hp → Prop) (Y1 : Nat → Hp → V → Hp → Prop) (Pw : Nat → Hp → Prop), Walk J1 k G1 Y1 ∧ Pw 0 H4 ∧ (∀ j H, j ≤ k → Pw j H → G1 H) ∧ (∀ H, Pw k H → Pv (i + 1) H) ∧
        ∀ j y H H', j < k → Pw j H → Y1 j H y H' → g1 y (wipe σ2 vs1) H' fun σ3 H5 => wipe σ3 vs1 = wipe σ2 vs1 ∧ tt1 σ3 H5 fun b H6 => if b = true then te σ3 H6 fun z H7 => ∃ acc, H7 D = some (.lst acc) ∧ acc.length < sizeLine ∧ Pw (j + 1) (upd H7 D (.lst (acc ++ [z]))) else Pw (j + 1) H6 else Pv (i + 1) H3) (hd : ∀ H, Pv n H → Qd H)
    (mg1 : ∀ x σ H Q Q', (∀ σ' H', Q σ' H' → Q' σ' H') → g x σ H Q → g x σ H Q') (mt : ∀ σ H Q Q', (∀ b H', Q b H' → Q' b H') → tt σ H Q → tt σ H Q') (mw : ∀ σ H (Q Q' : It → Hp → Prop), (∀ J H', Q J H' → Q' J H') → wi1 σ H Q → wi1 σ H Q') :
    ∃ W : Nat → Nat → Hp → Prop, (∃ m, W 0 m (upd H1 D (.lst []))) ∧ ∀ i m H, W i m H →
      (J.stop i H ∧ Qd H) ∨ (J.go i H ∧ ∃ Nx : Hp → Prop, (∀ H', Nx H' → ∃ m', m' < m ∧ W (i + 1) m' H') ∧ ∀ x H', J.yld i H x H' → g x (wipe σ vs) H' fun σ2 H2 => wipe σ2 vs = wipe σ vs ∧ tt σ2 H2 fun b H3 =>
        if b = true then wi1 σ2 H3 fun J1 H4 => ∃ W1 : Nat → Nat → Hp → Prop, (∃ m, W1 0 m H4) ∧ ∀ j k H, W1 j k H →
          (J1.stop j H ∧ Nx H) ∨ (J1.go j H ∧ ∃ Nx1 : Hp → Prop, (∀ H', Nx1 H' → ∃ k', k' < k ∧ W1 (j + 1) k' H') ∧ ∀ x H', J1.yld j H x H' → g1 x (wipe σ2 vs1) H' fun σ3 H5 => wipe σ3 vs1 = wipe σ2 vs1 ∧ tt1 σ3 H5 fun b H6 =>
            if b = true then te σ3 H6 fun y H7 => ∃ acc, H7 D = some (.lst acc) ∧ acc.length < sizeLine ∧ Nx1 (upd H7 D (.lst (acc ++ [y]))) else Nx1 H6)
        else Nx H3) := by
  refine ⟨fun i m H => m = n - i ∧ i ≤ n ∧ Pv i H, ⟨n, by simp, Nat.zero_le _, h0⟩, ?_⟩
  rintro i m H ⟨rfl, hi, p⟩
  have q := hG i H hi p
  by_cases hlt : i < n
  · refine .inr ⟨w1.goes i H hlt q, Pv (i + 1), fun H' p' => ⟨n - (i + 1), by omega, rfl, hlt, p'⟩, fun x H' y => ?_⟩
    refine mg1 _ _ _ _ _ (fun σ2 H2 h => ⟨h.1, mt _ _ _ _ (fun b H3 h => ?_) h.2⟩) (hs i x H H' hlt p (w1.yields i H x H' hlt q y))
    cases b with
    | false => exact h
    | true =>
      refine mw _ _ _ _ (fun J1 H4 h => ?_) h
      obtain ⟨k, G1, Y1, Pw, v1, p0, pG, pe, ps⟩ := h
      refine ⟨fun j l H => l = k - j ∧ j ≤ k ∧ Pw j H, ⟨k, by simp, Nat.zero_le _, p0⟩, ?_⟩
      rintro j l H ⟨rfl, hj, pp⟩
      have q2 := pG j H hj pp
      by_cases hl2 : j < k
      · exact .inr ⟨v1.goes j H hl2 q2, Pw (j + 1), fun H' p' => ⟨k - (j + 1), by omega, rfl, hl2, p'⟩, fun x H' y => ps j x H H' hl2 pp (v1.yields j H x H' hl2 q2 y)⟩
      · obtain rfl : j = k := by omega
        exact .inl ⟨v1.stops H q2, pe H pp⟩
  · obtain rfl : i = n := by omega
    exact .inl ⟨w1.stops H q, hd H p⟩
def spCnt (K : PySem.W.Frag) (n : Nat) : Sp := fun vs H Q _ => ∃ (v : V) (t : Nd n), vs = [v] ∧ Td K H v (ndD n t) ∧ Q (.int ((cnt n t : Nat) : Int)) H
def spRnd (K : PySem.W.Frag) (n : Nat) : Sp := fun vs H Q _ => ∃ (v : V) (t : Nd n), vs = [v] ∧ Td K H v (ndD n t) ∧ cnt n t ≤ 10000 ∧ ∀ (r : Int) (H' : Hp), 0 ≤ r → r ≤ n → Same H H' → Q (.int r) H'
/-- the questions of a node at their places -/
theorem td_qs {K : PySem.W.Frag} {H : Hp} {n : Nat} {t : Nd n} {v : V} (h : Td K H v (ndD n t)) : ∃ (a : Addr) (xs : List V) (ds : List PyData), v = .ref a ∧ SqT K H a xs ∧ ndD n t = .tuple ds ∧ TdAll K H xs ds ∧ (n = 0 → xs = []) := by
  cases n with
  | zero =>
    obtain ⟨a, xs, e, hs, ht⟩ := Td.tupE (ds := []) h
    refine ⟨a, xs, [], e, hs, rfl, ht, fun _ => ?_⟩
    cases ht
    rfl
  | succ n =>
    obtain ⟨a, xs, e, hs, ht⟩ := Td.tupE h
    exact ⟨a, xs, _, e, hs, rfl, ht, fun z => by cases z⟩
theorem cntQ_take (n : Nat) (q : Qn n) (i : Nat) (an : An n) (h : q[i]? = some an) : cntQ n (q.take (i + 1)) = cntQ n (q.take i) + (1 + cnt n an.2.2) := by
  unfold cntQ
  rw [List.take_add_one, h, List.map_append, List.sum_append]
  rfl
theorem cnt_take (n : Nat) (qs : List (Qn n)) (i : Nat) (q : Qn n) (h : qs[i]? = some q) : cnt (n + 1) (qs.take (i + 1) : List (Qn n)) = cnt (n + 1) (qs.take i : List (Qn n)) + cntQ n q := by
  rw [List.take_add_one, h]
  exact cnt_snoc n _ q
section
variable {P : Program} {w : World} {K : PySem.W.Frag} {mg : Str → Option Value} {base : Heap} {aN aO : Addr} {t1 t2 t3 t4 t5 t6 t7 : Tok}
theorem ok_answers_in {f : Addr} {fd : FuncData} (D : Dn K mg "answers_in" s_answers_in ["node"] f fd) (B : Blt mg) : ∀ n : Nat, FnOk P w K mg base CX0 (1 + n) f fd ["node"] (spCnt K n) := by
  intro n
  have G_answers_in : n = 0 ∨ ∃ m, n = m + 1 ∧ FnOk P w K mg base CX0 n f fd ["node"] (spCnt K m) := by
    cases n with
    | zero => exact .inl rfl
    | succ m =>
      have := ok_answers_in D B m
      rw [show 1 + m = m + 1 by omega] at this
      exact .inr ⟨m, rfl, this⟩
  obtain ⟨sp0, G_answers_in, hsp⟩ : ∃ sp0, FnOk P w K mg base CX0 n f fd ["node"] sp0 ∧ (∀ m, n = m + 1 → sp0 = spCnt K m) := by
    rcases G_answers_in with h | ⟨m, h, G⟩
    · exact ⟨fun _ _ _ _ => False, ⟨fun vs H Q E h => h.elim, fun A outer s H args us vs Q E _ _ _ _ h => h.elim⟩, fun m e => by omega⟩
    · exact ⟨_, G, fun m' e => by rw [show m' = m by omega]⟩
  rw [show 1 + n = n + 1 by omega]
  refine D.F.ok sc_answers_in (fun vs H Q E h => ?_) (fun cdv A outer s H vs Q E hr h => ?_)
  · obtain ⟨v, t, rfl, _⟩ := h
    rfl
  obtain ⟨v, t, rfl, hv, q⟩ := h
  have nd := sc_answers_in.nd
  have D_answers_in := D
  refine ⟨_, (pss_cons (ps_set (i := 1) nd rfl (.inl rfl) pe_int)
      (pss_cons (ps_for PassesOwn.never rfl (k_iT (K := K) rfl (pv 0)) (pg_name (i := 2) nd rfl (.inl rfl)) (pss_one (ps_for PassesOwn.never rfl (k_iT (K := K) rfl (pv 2)) (pg_name (i := 3) nd rfl (.inl rfl)) (pss_one (ps_aug (i := 1) nd rfl (.inl rfl) (pe_op op_add pe_int (pe_call G_answers_in (hr.mono (by omega)) (by rfl) D_answers_in.m D_answers_in.F.kp D_answers_in.b .nil pass0 (pa_cons (pe_ix (k_ixT (K := K) rfl) (pv 3) pe_int (fun _ _ => rfl)) pa_nil))) ip_add)))))
      (pss_one (ps_ret (pv 1))))), ?_⟩
  obtain ⟨a, xs, ds, rfl, ha, ed, ta, l0⟩ := td_qs hv
  cases n with
  | zero =>
    have := l0 rfl
    subst this
    refine ⟨_, rfl, a, rfl, ⟨_, ha⟩, for_it (walk_tup (K := K) (a := a) (xs := [])) (fun i σ H2 => H2 = H ∧ σ = [some (.ref a), some (.int 0), none, none]) ⟨rfl, rfl⟩ (fun i σ H2 _ h => by rw [h.1]; exact ha) ?_ ?_⟩
    · rintro i x σ H2 H3 hi
      exact absurd hi (Nat.not_lt_zero _)
    · rintro σ H2 ⟨rfl, rfl⟩
      exact ⟨_, rfl, q⟩
  | succ n =>
    cases ed
    have hsp := hsp n rfl
    subst hsp
    have lx : xs.length = (show List (Qn n) from t).length := by rw [ta.len, List.length_map]
    refine ⟨_, rfl, a, rfl, ⟨_, ha⟩, for_it (walk_tup (K := K) (a := a) (xs := xs)) (fun i σ H2 => H2 = H ∧ ∃ o2 o3 : Option V, σ = [some (.ref a), some (.int ((cnt (n + 1) ((show List (Qn n) from t).take i : List (Qn n)) : Nat) : Int)), o2, o3]) ⟨rfl, none, none, rfl⟩ (fun i σ H2 _ h => by rw [h.1]; exact ha) ?_ ?_⟩
    · rintro i x σ H0 H2 hi ⟨rfl, o2, o3, rfl⟩ ⟨e0, e1⟩
      subst e0
      obtain ⟨dx, ex, tx⟩ := ta.getV e1
      obtain ⟨qn, eq, rfl⟩ := map_at ex
      obtain ⟨b, ys, rfl, hb, tb⟩ := id tx.tupE
      have ly : ys.length = qn.length := by rw [tb.len, List.length_map]
      refine ⟨_, rfl, b, rfl, ⟨_, hb⟩, for_it (walk_tup (K := K) (a := b) (xs := ys)) (fun j σ H3 => H3 = H2 ∧ ∃ o3 : Option V, σ = [some (.ref a), some (.int ((cnt (n + 1) ((show List (Qn n) from t).take i : List (Qn n)) + cntQ n (qn.take j) : Nat) : Int)), some (.ref b), o3]) ⟨rfl, _, rfl⟩ (fun j σ H3 _ h => by rw [h.1]; exact hb) ?_ ?_⟩
      · rintro j y σ H0 H3 hj ⟨rfl, o3, rfl⟩ ⟨e0, e2⟩
        subst e0
        obtain ⟨dy, ey, ty⟩ := tb.getV e2
        obtain ⟨an, ea, rfl⟩ := map_at ey
        obtain ⟨p, zs, rfl, hp, tp⟩ := id ty.tupE
        obtain ⟨vt, et, tt⟩ := tp.get (i := 2) rfl
        refine ⟨_, rfl, _, rfl, p, zs, 2, vt, rfl, rfl, hp, at_of (j := 2) rfl et, vt, an.2.2, rfl, tt, _, _, rfl, rfl, _, _, rfl, rfl, ?_⟩
        refine ⟨rfl, some (.ref p), ?_⟩
        rw [cntQ_take n qn j an ea]
        show [some (V.ref a), some (V.int (_ + (1 + ((cnt n an.2.2 : Nat) : Int)))), _, _] = _
        have e9 : (((cnt (n + 1) ((show List (Qn n) from t).take i : List (Qn n)) + cntQ n (qn.take j) : Nat) : Int)) + (1 + ((cnt n an.2.2 : Nat) : Int)) = ((cnt (n + 1) ((show List (Qn n) from t).take i : List (Qn n)) + (cntQ n (qn.take j) + (1 + cnt n an.2.2)) : Nat) : Int) := by omega
        rw [e9]
      · rintro σ H3 ⟨rfl, o3, rfl⟩
        refine ⟨rfl, some (.ref b), o3, ?_⟩
        rw [ly, List.take_length, cnt_take n _ i qn eq]
    · rintro σ H2 ⟨rfl, o2, o3, rfl⟩
      rw [lx, List.take_length]
      exact ⟨_, rfl, q⟩
end
end Tl
namespace Tl
open PySem PySem.Spec PyProof.Rows L2 RZ
theorem max_le {n : Int} : ∀ (l : List Int) (x : Int), 0 ≤ x → x ≤ n → (∀ y ∈ l, 0 ≤ y ∧ y ≤ n) → 0 ≤ l.foldl max x ∧ l.foldl max x ≤ n
  | [], x, h0, h1, _ => ⟨h0, h1⟩
  | y :: r, x, h0, h1, h => by
    obtain ⟨y0, y1⟩ := h y (List.mem_cons_self ..)
    exact max_le r (max x y) (by omega) (by omega) fun z hz => h z (List.mem_cons_of_mem _ hz)
theorem top_le {n : Int} (hn : 0 ≤ n) (l : List Int) (h : ∀ y ∈ l, 0 ≤ y ∧ y ≤ n) : 0 ≤ topOf 0 l ∧ topOf 0 l ≤ n := by
  cases l with
  | nil => exact ⟨Int.le_refl _, hn⟩
  | cons x r =>
    obtain ⟨x0, x1⟩ := h x (List.mem_cons_self ..)
    exact max_le r x x0 x1 fun z hz => h z (List.mem_cons_of_mem _ hz)
theorem cntQ_len (n : Nat) (q : Qn n) : q.length ≤ cntQ n q := by
  rw [cntQ_eq]
  omega
theorem cnt_le_of_mem {n : Nat} {q : Qn n} : ∀ {qs : List (Qn n)}, q ∈ qs → cntQ n q ≤ cnt (n + 1) qs
  | [], h => absurd h List.not_mem_nil
  | x :: r, h => by
    rw [cnt_succ, List.map_cons, List.sum_cons]
    rcases List.mem_cons.mp h with rfl | h
    · omega
    · have := cnt_le_of_mem h
      rw [cnt_succ] at this
      omega
theorem cnt_le_ans {n : Nat} {an : An n} : ∀ {q : Qn n}, an ∈ q → cnt n an.2.2 ≤ cntQ n q
  | [], h => absurd h List.not_mem_nil
  | x :: r, h => by
    unfold cntQ
    rw [List.map_cons, List.sum_cons]
    rcases List.mem_cons.mp h with rfl | h
    · omega
    · have := cnt_le_ans h
      unfold cntQ at this
      omega
theorem cnt_take_le {n : Nat} (qs : List (Qn n)) (i : Nat) : cnt (n + 1) (qs.take i : List (Qn n)) ≤ cnt (n + 1) qs := by
  have e : cnt (n + 1) (qs.take i ++ qs.drop i : List (Qn n)) = cnt (n + 1) (qs.take i : List (Qn n)) + cnt (n + 1) (qs.drop i : List (Qn n)) := by
    rw [cnt_succ, cnt_succ, cnt_succ, List.map_append, List.sum_append]
  rw [List.take_append_drop] at e
  omega
section
variable {P : Program} {w : World} {K : PySem.W.Frag} {mg : Str → Option Value} {base : Heap} {aN aO : Addr} {t1 t2 t3 t4 t5 t6 t7 : Tok}
end
end Tl
namespace Tl
open PySem PySem.Spec PyProof.Rows L2 RZ
/-- a method as it stands behind the top -/
structure Dm (K : PySem.W.Frag) (x q : Str) (st : Stmt) (ps : List Str) (f : Addr) (fd : FuncData) : Prop where
  F : Fun K x q st f fd
  b : Binds K fd ps []
/-- the class House -/
structure Hcl (K : PySem.W.Frag) (mg : Str → Option Value) (C fi fe : Addr) : Prop where
  cl : Cls K C
  nw : NoAttr K C "worlds"
  nt : NoAttr K C "tree"
  mkH : Mk K C fi
  eq : PySem.W.findIn K (.ref C) "__eq__" = some (some (.ref fe))
  eqf : PySem.W.isFn K (.ref fe) = true
  gHouse : mg "House" = some (.ref C)
  ha : PySem.W.findIn K (.ref C) "__class__" = some (some (.builtin "object.__class__"))
  hn : PySem.W.specialIn K (.builtin "object.__class__") "__get__" = some (some (.builtin "getset_descriptor.__get__"))
  htk : PySem.W.takesIn K (.builtin "object.__class__") = some true
  hm : PySem.W.mroIn K C (.type "object") = some true
def hf (W : Nat) (v : V) : List (Str × V) := putF "tree" v (putF "worlds" (.int (W : Int)) [])
theorem wt : ¬ (("worlds" : Str) = "tree") := by decide +kernel
theorem hf_eq (W : Nat) (v : V) : hf W v = ([("worlds", .int (W : Int)), ("tree", v)] : List (Str × V)) := by
  show (if ("worlds" : Str) = "tree" then [(("worlds" : Str), v)] else (("worlds" : Str), V.int (W : Int)) :: putF "tree" v []) = ([("worlds", V.int (W : Int)), ("tree", v)] : List (Str × V))
  rw [if_neg wt]
  all_goals rfl
theorem hf_w (W : Nat) (v : V) : (hf W v).lookup ("worlds" : Str) = some (.int (W : Int)) := by
  unfold hf
  rw [lookup_putF, if_neg wt, lookup_putF, if_pos rfl]
theorem hf_t (W : Nat) (v : V) : (hf W v).lookup ("tree" : Str) = some v := by
  unfold hf
  rw [lookup_putF, if_pos rfl]
theorem hf_putw (W : Nat) (v : V) (W' : Nat) : putF "worlds" (.int (W' : Int)) (hf W v) = hf W' v := by
  rw [hf_eq, hf_eq]
  show (if ("worlds" : Str) = "worlds" then (("worlds" : Str), V.int (W' : Int)) :: [(("tree" : Str), v)] else _) = _
  rw [if_pos rfl]
theorem hf_putt (W : Nat) (v v' : V) : putF "tree" v' (hf W v) = hf W v' := by
  rw [hf_eq, hf_eq]
  show (if ("worlds" : Str) = "tree" then _ else (("worlds" : Str), V.int (W : Int)) :: (if ("tree" : Str) = "tree" then [(("tree" : Str), v')] else _)) = _
  rw [if_neg wt, if_pos rfl]
/-- a house of W worlds stands at p, its tree is v -/
def HouseAt (C : Addr) (H : Hp) (p : Addr) (W : Nat) (v : V) : Prop := ∃ dx, H p = some (.ins C dx (hf W v))
theorem HouseAt.keep {C p : Addr} {H H' : Hp} {W : Nat} {v : V} (h : HouseAt C H p W v) (s : Same H H') : HouseAt C H' p W v := let ⟨dx, e⟩ := h; ⟨dx, s _ _ e⟩
/-- the tree of a right house -/
structure TreeOk (K : PySem.W.Frag) (H : Hp) (W n : Nat) (v : V) (t : Nd n) : Prop where
  td : Td K H v (ndD n t)
  ok : NdOk W n (ones W) t
  few : cnt n t ≤ 1500
  deep : n ≤ 8
  w1 : 1 ≤ W
  w5 : W ≤ 5
def spCkT (K : PySem.W.Frag) (n : Nat) : Sp := fun vs H Q _ => ∃ (W : Nat) (v : V) (t : Nd n), vs = [.int (W : Int), v] ∧ TreeOk K H W n v t ∧ ∀ H', Same H H' → Q .non H'
def spInit (K : PySem.W.Frag) (C : Addr) (n : Nat) : Sp := fun vs H Q _ => ∃ (p dx : Addr) (W : Nat) (v : V) (t : Nd n), vs = [.ref p, .int (W : Int), v] ∧ H p = some (.ins C dx []) ∧ TreeOk K H W n v t ∧ ∀ H', H' p = some (.ins C dx (hf W v)) → (∀ b o, H b = some o → b ≠ p → H' b = some o) → Q .non H'
def spMade (K : PySem.W.Frag) (C : Addr) (n : Nat) : Sp := fun vs H Q _ => ∃ (W : Nat) (v : V) (t : Nd n), vs = [.int (W : Int), v] ∧ Td K H v (ndD n t) ∧ n ≤ 12 ∧ cnt n t ≤ 3000 ∧ ∀ p H', Same H H' → HouseAt C H' p W v → Q (.ref p) H'
/-- two houses of equal worlds and trees -/
def HEq2 (K : PySem.W.Frag) (C : Addr) : Addr → Addr → Hp → Prop := fun a b H => ∃ (W : Nat) (v v' : V) (d : PyData) (k : Nat), HouseAt C H a W v ∧ HouseAt C H b W v' ∧ Td K H v d ∧ Td K H v' d ∧ Good k d ∧ k ≤ 64
section
variable {P : Program} {w : World} {K : PySem.W.Frag} {mg : Str → Option Value} {base : Heap} {aN aO : Addr} {t1 t2 t3 t4 t5 t6 t7 : Tok}
/-- both judges, by the rounds -/
theorem ok_checks {f1 f2 f3 f4 f5 f6 f7 f8 f9 g1 g2 g3 : Addr} {fd1 fd2 fd3 fd4 fd5 fd6 fd7 fd8 fd9 gd1 gd2 gd3 : FuncData} (B : Blt mg) (C : Cst K mg aN aO t1 t2 t3 t4 t5 t6 t7) (D_check_node : Dn K mg "check_node" s_check_node ["node", "place", "ahead"] f1 fd1) (D_check_question : Dn K mg "check_question" s_check_question ["question", "place", "ahead"] f2 fd2)
    (D_is_answer : Dn K mg "is_answer" s_is_answer ["thing", "worlds"] f3 fd3) (D_is_ascending : Dn K mg "is_ascending" s_is_ascending ["rows"] f4 fd4) (D_total_weights : Dn K mg "total_weights" s_total_weights ["rows", "worlds"] f5 fd5)
    (D_is_number : Dn K mg "is_number" s_is_number ["thing", "least", "most"] f6 fd6) (D_is_integral : Dn K mg "is_integral" s_is_integral ["thing"] f7 fd7) (D_is_word : Dn K mg "is_word" s_is_word ["thing"] f8 fd8) (D_is_fraction : Dn K mg "is_fraction" s_is_fraction ["thing"] f9 fd9) (D_is_chance : Dn K mg "is_chance" s_is_chance ["thing"] g1 gd1)
    (D_reduced : Dn K mg "reduced" s_reduced ["top", "bottom"] g2 gd2) (D_added : DTot K mg g3 gd3) {h1 h2 : Addr} {hd1 hd2 : FuncData} (D_total : Dn K mg "total" s_total ["fractions"] h1 hd1) (D_are_chances : Dn K mg "are_chances" s_are_chances ["thing", "many"] h2 hd2) :
    ∀ n : Nat, FnOk P w K mg base CX0 (5 + 2 * n) f2 fd2 ["question", "place", "ahead"] (spCkQ K n) ∧ FnOk P w K mg base CX0 (6 + 2 * n) f1 fd1 ["node", "place", "ahead"] (spCkN K n)
  | 0 => by
    have h0 : FnOk P w K mg base CX0 (5 + 2 * 0) f2 fd2 ["question", "place", "ahead"] (spCkQ K 0) := ⟨fun vs H Q E h => h.elim, fun A outer s H args us vs Q E _ _ _ _ h => h.elim⟩
    exact ⟨h0, ok_check_node D_check_node B C D_check_question h0⟩
  | n + 1 => by
    have ih := ok_checks B C D_check_node D_check_question D_is_answer D_is_ascending D_total_weights D_is_number D_is_integral D_is_word D_is_fraction D_is_chance D_reduced D_added D_total D_are_chances n
    have h1 : FnOk P w K mg base CX0 (5 + 2 * (n + 1)) f2 fd2 ["question", "place", "ahead"] (spCkQ K (n + 1)) := by
      have := ok_check_question D_check_question B C D_check_node ih.2 D_is_answer (ok_is_answer D_is_answer B C D_is_number D_is_integral D_is_word D_is_fraction D_is_chance D_are_chances) D_is_ascending (ok_is_ascending D_is_ascending B) D_total_weights (ok_total_weights D_total_weights B C D_reduced D_added D_total)
      rw [show 5 + 2 * (n + 1) = 7 + 2 * n by omega]
      exact this
    exact ⟨h1, ok_check_node D_check_node B C D_check_question h1⟩
theorem ok_check_tree {n : Nat} {f f1 f2 : Addr} {fd fd1 fd2 : FuncData} (D : Dn K mg "check_tree" s_check_tree ["worlds", "tree"] f fd) (B : Blt mg) (C : Cst K mg aN aO t1 t2 t3 t4 t5 t6 t7) (D_check_node : Dn K mg "check_node" s_check_node ["node", "place", "ahead"] f1 fd1) (G_check_node : FnOk P w K mg base CX0 (6 + 2 * n) f1 fd1 ["node", "place", "ahead"] (spCkN K n))
    (D_answers_in : Dn K mg "answers_in" s_answers_in ["node"] f2 fd2) : FnOk P w K mg base CX0 (7 + 2 * n) f fd ["worlds", "tree"] (spCkT K n) := by
  have G_answers_in : FnOk P w K mg base CX0 (1 + n) f2 fd2 ["node"] (spCnt K n) := ok_answers_in D_answers_in B n
  rw [show 7 + 2 * n = (6 + 2 * n) + 1 by omega]
  refine D.F.ok sc_check_tree (fun vs H Q E h => ?_) (fun cdv A outer s H vs Q E hr h => ?_)
  · obtain ⟨W, v, t, rfl, _⟩ := h
    rfl
  obtain ⟨W, v, t, rfl, T, q⟩ := h
  have nd := sc_check_tree.nd
  refine ⟨_, (pss_cons (ps_expr (pe_call G_check_node (hr.mono (by omega)) (by rfl) D_check_node.m D_check_node.F.kp D_check_node.b .nil pass0 (pa_cons (pv 1) (pa_cons (pe_tup pa_nil) (pa_cons (pe_op (k_rep (K := K) rfl) (pe_tup (pa_cons (pe_glob (v := .ref _) rfl C.ONE rfl) pa_nil)) (pv 0)) pa_nil)))))
      (pss_one (ps_if (pt_cmpR op_gt (pe_call G_answers_in (hr.mono (by omega)) (by rfl) D_answers_in.m D_answers_in.F.kp D_answers_in.b .nil pass0 (pa_cons (pv 1) pa_nil)) (pe_glob (v := .int _) rfl C.MOST_PASSED ⟨_, rfl⟩) (nomark _)) (pss_one ps_never) pss_nil))), ?_⟩
  have w1 := T.w1
  have w5 := T.w5
  refine ⟨_, rfl, Nat.zero_le _, fun p1 n1 => ⟨(by show 1 ≤ sizeLine; decide), fun p2 n2 => ?_⟩⟩
  have s2 : Same H (upd (upd H p1 (.tup [])) p2 (.tup [.ref aO])) := (same_upd n1).trans (same_upd n2)
  refine ⟨_, rfl, p2, (W : Int), _, rfl, rfl, .inl (.inl upd_same), by simp, by omega, by omega, by simp, fun pa H3 s3 q3 => ?_⟩
  have s03 := s2.trans s3
  have tO : Td K H3 (.ref aO) (rD 1) := by
    rw [rD_one]
    exact .tup (C.tO _) (tdAll_ints [1, 1])
  refine ⟨W, 0, v, .ref pa, p1, [], ones W, t, rfl, T.td.keep (Same.kt s03), ones_td tO q3, Same.kt (((same_upd n2)).trans s3) _ _ (.inl (.inl upd_same)), rfl, by have := T.deep; omega, w1, w5, by unfold ones; rw [List.length_replicate], T.ok, fun H4 s4 => ?_⟩
  have s04 := s03.trans s4
  refine ⟨_, rfl, v, t, rfl, T.td.keep (Same.kt s04), _, _, rfl, rfl, _, rfl, ?_⟩
  have few := T.few
  rw [decide_eq_false (show ¬ (1500 : Int) < ((cnt n t : Nat) : Int) by omega)]
  exact iteF (q H4 s04)
theorem ok_House_init {n : Nat} {Cc f fe f1 f2 f3 : Addr} {fd fd1 fd2 fd3 : FuncData} (D : Dm K "__init__" "House.__init__" s_House_init ["self", "worlds", "tree"] f fd) (B : Blt mg) (C : Cst K mg aN aO t1 t2 t3 t4 t5 t6 t7) (U : Hcl K mg Cc f fe) (D_check_tree : Dn K mg "check_tree" s_check_tree ["worlds", "tree"] f1 fd1) (G_check_tree : FnOk P w K mg base CX0 (7 + 2 * n) f1 fd1 ["worlds", "tree"] (spCkT K n))
    (D_is_number : Dn K mg "is_number" s_is_number ["thing", "least", "most"] f2 fd2) (D_is_integral : Dn K mg "is_integral" s_is_integral ["thing"] f3 fd3) : FnOk P w K mg base CX0 (8 + 2 * n) f fd ["self", "worlds", "tree"] (spInit K Cc n) := by
  have G_is_number : FnOk P w K mg base CX0 2 f2 fd2 ["thing", "least", "most"] spNumber := ok_is_number D_is_number B D_is_integral
  rw [show 8 + 2 * n = (7 + 2 * n) + 1 by omega]
  refine D.F.ok sc_House_init (fun vs H Q E h => ?_) (fun cdv A outer s H vs Q E hr h => ?_)
  · obtain ⟨p, dx, W, v, t, rfl, _⟩ := h
    rfl
  obtain ⟨p, dx, W, v, t, rfl, hp, T, q⟩ := h
  have nd := sc_House_init.nd
  refine ⟨_, (pss_cons (ps_if (pt_not (pt_val (pe_call G_is_number (hr.mono (by omega)) (by rfl) D_is_number.m D_is_number.F.kp D_is_number.b .nil pass0 (pa_cons (pv 1) (pa_cons pe_int (pa_cons pe_int pa_nil)))))) (pss_one ps_never) pss_nil)
      (pss_cons (ps_expr (pe_call G_check_tree (hr.mono (by omega)) (by rfl) D_check_tree.m D_check_tree.F.kp D_check_tree.b .nil pass0 (pa_cons (pv 1) (pa_cons (pv 2) pa_nil))))
      (pss_cons (ps_fld (pv 0) (pv 1) rfl)
      (pss_one (ps_fld (pv 0) (pv 2) rfl))))), ?_⟩
  have w1 := T.w1
  have w5 := T.w5
  refine ⟨_, rfl, _, _, _, rfl, _, rfl, ?_⟩
  rw [decide_eq_true (show (1 : Int) ≤ (W : Int) by omega), decide_eq_true (show (W : Int) ≤ 5 by omega)]
  refine iteF ?_
  refine ⟨_, rfl, _, rfl, W, v, t, rfl, T, fun H1 s1 => ?_⟩
  have h1 := s1 _ _ hp
  refine ⟨_, rfl, _, rfl, p, Cc, dx, [], rfl, h1, U.cl, U.nw, (by show 0 < 1000; decide), ?_⟩
  refine ⟨_, rfl, _, rfl, p, Cc, dx, _, rfl, upd_same, U.cl, U.nt, (by show 1 < 1000; decide), ?_⟩
  exact q _ upd_same fun b o e hb => by
    rw [upd_ne hb, upd_ne hb]
    exact s1 _ _ e
theorem ok_House_eq {Cc fi f : Addr} {fd : FuncData} (D : Dm K "__eq__" "House.__eq__" s_House_eq ["self", "other"] f fd) (B : Blt mg) (U : Hcl K mg Cc fi f) : FnOk P w K mg base CX0 1 f fd ["self", "other"] (spEq (HEq2 K Cc)) := by
  refine D.F.ok sc_House_eq (fun vs H Q E h => ?_) (fun cdv A outer s H vs Q E hr h => ?_)
  · obtain ⟨a, b, rfl, _⟩ := h
    rfl
  obtain ⟨a, b, rfl, ⟨W, v, v', d, k, ⟨dx, h1⟩, ⟨dy, h2⟩, e1, e2, g, hk⟩, q⟩ := h
  have nd := sc_House_eq.nd
  refine ⟨_, (pss_one (ps_ret (pe_and (pe_callB (k_isi (K := K) rfl) (by rfl) B.isinstance (by decide +kernel) (pa_cons (pv 1) (pa_cons (pe_glob (v := .ref _) rfl U.gHouse rfl) pa_nil))) (pe_and (pe_cmpR op_eq (k_fld (K := K) rfl (pv 0) rfl) (k_fld (K := K) rfl (pv 1) rfl) (nomark _)) (pe_one (pe_cmpR (k_eqD (K := K) rfl hr.units) (k_fld (K := K) rfl (pv 0) rfl) (k_fld (K := K) rfl (pv 1) rfl) (nomark _))))))), ?_⟩
  have kk : PySem.W.kitOne K (.ref Cc) (.ref Cc) = some true := by
    unfold PySem.W.kitOne
    rw [if_pos (beq_self_eq_true _)]
  refine ⟨_, rfl, _, .ref Cc, .ref Cc, .ref Cc, true, rfl, .own Cc, .base (.ins h2 U.cl U.ha U.hn U.htk U.hm), kk, _, rfl, iteT ?_⟩
  refine ⟨_, rfl, a, Cc, dx, _, _, rfl, h1, U.cl, U.nw, hf_w _ _, _, rfl, b, Cc, dy, _, _, rfl, h2, U.cl, U.nw, hf_w _ _, rfl, _, rfl, ?_⟩
  rw [decide_eq_true rfl]
  refine iteT ?_
  refine ⟨_, rfl, a, Cc, dx, _, _, rfl, h1, U.cl, U.nt, hf_t _ _, _, rfl, b, Cc, dy, _, _, rfl, h2, U.cl, U.nt, hf_t _ _, d, d, e1.dp, e2.dp, g.shaped hk, g.shaped hk, ?_⟩
  rw [g.refl]
  exact q H Ext.rfl'
end
end Tl
namespace Tl
open PySem PySem.Spec PyProof.Rows L2 RZ
/-! the house without hopeless answers -/
def hope : (n : Nat) → Nd n → Nd n
  | 0, t => t
  | n + 1, qs => (show List (Qn n) from qs).map fun q => (q.filter fun a => !isZ a.2.1).map fun a => (a.1, a.2.1, hope n a.2.2)
def hopeA (n : Nat) (a : An n) : An n := (a.1, a.2.1, hope n a.2.2)
def hopeQ (n : Nat) (q : Qn n) : Qn n := (q.filter fun a => !isZ a.2.1).map (hopeA n)
theorem hope_succ (n : Nat) (qs : List (Qn n)) : hope (n + 1) qs = (qs.map (hopeQ n) : List (Qn n)) := rfl
theorem cntQ_nil (n : Nat) : cntQ n [] = 0 := rfl
theorem cntQ_cons (n : Nat) (a : An n) (q : Qn n) : cntQ n (a :: q) = 1 + cnt n a.2.2 + cntQ n q := rfl
theorem cnt_cons (n : Nat) (q : Qn n) (qs : List (Qn n)) : cnt (n + 1) (q :: qs : List (Qn n)) = cntQ n q + cnt (n + 1) qs := rfl
theorem hopeQ_cons (n : Nat) (a : An n) (q : Qn n) : hopeQ n (a :: q) = if isZ a.2.1 = true then hopeQ n q else hopeA n a :: hopeQ n q := by
  unfold hopeQ
  rw [List.filter_cons]
  cases isZ a.2.1 <;> rfl
theorem cnt_hope : ∀ (n : Nat) (t : Nd n), cnt n (hope n t) ≤ cnt n t
  | 0, _ => Nat.le_refl _
  | n + 1, qs => by
    have hq : ∀ q : Qn n, cntQ n (hopeQ n q) ≤ cntQ n q := by
      intro q
      induction q with
      | nil => exact Nat.le_refl _
      | cons a r ih =>
        rw [hopeQ_cons, cntQ_cons]
        have := cnt_hope n a.2.2
        split
        · omega
        · rw [cntQ_cons]
          show 1 + cnt n (hope n a.2.2) + _ ≤ _
          omega
    have all : ∀ l : List (Qn n), cnt (n + 1) (l.map (hopeQ n) : List (Qn n)) ≤ cnt (n + 1) l := by
      intro l
      induction l with
      | nil => exact Nat.le_refl _
      | cons q r ih =>
        have := hq q
        rw [List.map_cons, cnt_cons, cnt_cons]
        omega
    exact all qs
theorem isZ_false {ws : List Rat} (h : isZ ws = true) {j : Nat} : ws.getD j 0 = 0 := by
  by_cases hj : j < ws.length
  · rw [getD_of (List.getElem?_eq_getElem hj)]
    unfold isZ at h
    exact of_decide_eq_true (List.all_eq_true.mp h _ (List.getElem_mem hj))
  · rw [List.getD_eq_getElem?_getD, List.getElem?_eq_none (by omega)]
    rfl
theorem isZ_of {W : Nat} {ws : List Rat} (hl : ws.length = W) (h : ∀ j, j < W → ws.getD j 0 = 0) : isZ ws = true := by
  unfold isZ
  refine List.all_eq_true.mpr fun x hx => ?_
  obtain ⟨j, hj, rfl⟩ := List.getElem_of_mem hx
  have := h j (by omega)
  rw [getD_of (List.getElem?_eq_getElem hj)] at this
  exact decide_eq_true this
theorem fsum_zero : ∀ l : List Rat, (∀ x ∈ l, x = 0) → fsum l = 0
  | [], _ => rfl
  | x :: r, h => by
    rw [fsum_cons, h x (List.mem_cons_self ..), fsum_zero r fun y hy => h y (List.mem_cons_of_mem _ hy), Rat.zero_add]
theorem col_cons {n : Nat} (a : An n) (q : Qn n) (j : Nat) : col (a :: q) j = a.2.1.getD j 0 :: col q j := rfl
theorem hope_sub {n : Nat} (j : Nat) (q : Qn n) : ∀ r ∈ col (hopeQ n q) j, r ∈ col q j := by
  intro r hr
  unfold col hopeQ at hr
  rw [List.map_map] at hr
  obtain ⟨a, ha, rfl⟩ := List.mem_map.mp hr
  exact List.mem_map.mpr ⟨a, (List.mem_filter.mp ha).1, rfl⟩
theorem hope_whole {n : Nat} (j : Nat) : ∀ q : Qn n, fsum (col (hopeQ n q) j) = fsum (col q j)
  | [] => rfl
  | a :: q => by
    rw [hopeQ_cons]
    by_cases h : isZ a.2.1 = true
    · rw [if_pos h, hope_whole j q, col_cons, fsum_cons, isZ_false h, Rat.zero_add]
    · rw [if_neg h, col_cons, col_cons, fsum_cons, fsum_cons, hope_whole j q]
      rfl
theorem lex_trans : ∀ {a b c : List Int}, HT.lexLt a b = true → HT.lexLt b c = true → HT.lexLt a c = true
  | [], [], _, h, _ => by cases h
  | [], _ :: _, [], _, h => by cases h
  | [], _ :: _, _ :: _, _, _ => rfl
  | _ :: _, [], _, h, _ => by cases h
  | _ :: _, _ :: _, [], _, h => by cases h
  | x :: xs, y :: ys, z :: zs, h1, h2 => by
    unfold HT.lexLt at h1 h2 ⊢
    by_cases e1 : x = y
    · subst e1
      rw [if_pos rfl] at h1
      by_cases e2 : x = z
      · subst e2
        rw [if_pos rfl] at h2 ⊢
        exact lex_trans h1 h2
      · rw [if_neg e2] at h2 ⊢
        exact h2
    · rw [if_neg e1] at h1
      have l1 := of_decide_eq_true h1
      by_cases e2 : y = z
      · subst e2
        rw [if_neg (by omega)]
        exact h1
      · rw [if_neg e2] at h2
        have l2 := of_decide_eq_true h2
        rw [if_neg (by omega)]
        exact decide_eq_true (by omega)
def AscP {n : Nat} (q : Qn n) : Prop := q.Pairwise fun x y => HT.lexLt x.1 y.1 = true
theorem asc_pair {n : Nat} : ∀ {q : Qn n}, (∀ i (x y : An n), q[i]? = some x → q[i + 1]? = some y → HT.lexLt x.1 y.1 = true) → AscP q
  | [], _ => List.Pairwise.nil
  | [a], _ => List.pairwise_singleton _ _
  | a :: b :: r, h => by
    have ih : AscP (b :: r) := asc_pair fun i x y hx hy => h (i + 1) x y hx hy
    have ab := h 0 a b rfl rfl
    refine List.Pairwise.cons (fun z hz => ?_) ih
    rcases List.mem_cons.mp hz with rfl | hz
    · exact ab
    · exact lex_trans ab (List.rel_of_pairwise_cons ih hz)
theorem pair_asc {n : Nat} {q : Qn n} (h : AscP q) (i : Nat) (x y : An n) (hx : q[i]? = some x) (hy : q[i + 1]? = some y) : HT.lexLt x.1 y.1 = true := by
  have h1 := (List.getElem?_eq_some_iff.mp hx)
  have h2 := (List.getElem?_eq_some_iff.mp hy)
  obtain ⟨l1, e1⟩ := h1
  obtain ⟨l2, e2⟩ := h2
  have := (List.pairwise_iff_getElem.mp h) i (i + 1) l1 l2 (by omega)
  rw [e1, e2] at this
  exact this
theorem hope_asc {n : Nat} {q : Qn n} (h : AscP q) : AscP (hopeQ n q) := by
  unfold AscP hopeQ
  rw [List.pairwise_map]
  exact List.Pairwise.filter _ h
theorem hope_ok : ∀ {W n : Nat} {ahead : List Rat} {t : Nd n}, ahead.length = W → isZ ahead = false → NdOk W n ahead t → NdOk W n ahead (hope n t)
  | _, 0, _, _, _, _, _ => trivial
  | W, n + 1, ahead, qs, hl, hz, h => by
    refine ⟨?_, ?_⟩
    · show (List.map _ _).length ≤ 5
      rw [List.length_map]
      exact h.1
    · intro q' hq'
      obtain ⟨q, hq, rfl⟩ := List.mem_map.mp hq'
      obtain ⟨ok, nok⟩ := h.2 q hq
      have mem : ∀ a' ∈ hopeQ n q, ∃ a ∈ q, isZ a.2.1 = false ∧ a' = hopeA n a := by
        intro a' ha'
        unfold hopeQ at ha'
        obtain ⟨a, ha, rfl⟩ := List.mem_map.mp ha'
        obtain ⟨h1, h2⟩ := List.mem_filter.mp ha
        exact ⟨a, h1, by simpa using h2, rfl⟩
      refine ⟨⟨?_, ?_, ?_, ?_, ?_, ?_, ?_⟩, ?_⟩
      · show 1 ≤ (hopeQ n q).length
        cases e : hopeQ n q with
        | cons a r => simp
        | nil =>
          have : isZ ahead = true := isZ_of hl fun j hj => by
            rw [← ok.whole j hj, ← hope_whole j q, e]
            rfl
          rw [hz] at this
          cases this
      · show (hopeQ n q).length ≤ 12
        unfold hopeQ
        rw [List.length_map]
        exact Nat.le_trans (List.length_filter_le _ _) ok.most
      · intro a' ha'
        obtain ⟨a, h1, h2, rfl⟩ := mem a' ha'
        exact ok.words a h1
      · exact fun i x y => pair_asc (hope_asc (asc_pair ok.asc)) i x y
      · intro a' ha'
        obtain ⟨a, h1, h2, rfl⟩ := mem a' ha'
        exact ok.wide a h1
      · intro a' ha'
        obtain ⟨a, h1, h2, rfl⟩ := mem a' ha'
        exact ok.chs a h1
      · intro j hj
        show fsum (col (hopeQ n q) j) = _
        rw [hope_whole]
        exact ok.whole j hj
      · intro a' ha'
        obtain ⟨a, h1, h2, rfl⟩ := mem a' ha'
        exact hope_ok (ok.wide a h1) h2 (nok a h1)
theorem ones_not {W : Nat} (h : 1 ≤ W) : isZ (ones W) = false := by
  cases W with
  | zero => omega
  | succ W =>
    unfold isZ ones
    rw [List.replicate_succ, List.all_cons]
    rfl
/-- without hopeless answers once more -/
theorem hope_hope : ∀ (n : Nat) (t : Nd n), hope n (hope n t) = hope n t
  | 0, _ => rfl
  | n + 1, qs => by
    have hq : ∀ q : Qn n, hopeQ n (hopeQ n q) = hopeQ n q := by
      intro q
      induction q with
      | nil => rfl
      | cons a r ih =>
        rw [hopeQ_cons]
        by_cases h : isZ a.2.1 = true
        · rw [if_pos h, ih]
        · rw [if_neg h, hopeQ_cons]
          have h2 : ¬ isZ (hopeA n a).2.1 = true := h
          rw [if_neg h2, ih]
          have e : hopeA n (hopeA n a) = hopeA n a := by
            unfold hopeA
            rw [hope_hope n a.2.2]
          rw [e]
    have all : ∀ l : List (Qn n), (l.map (hopeQ n)).map (hopeQ n) = l.map (hopeQ n) := by
      intro l
      rw [List.map_map]
      exact List.map_congr_left fun q _ => hq q
    exact all qs
end Tl
namespace Tl
open PySem PySem.Spec PyProof.Rows L2 RZ
def spHope (K : PySem.W.Frag) (n : Nat) : Sp := fun vs H Q _ => ∃ (W : Nat) (v : V) (ahead : List Rat) (t : Nd n), vs = [v] ∧ Td K H v (ndD n t) ∧ NdOk W n ahead t ∧ W ≤ 5 ∧ ∀ v' H', Same H H' → Td K H' v' (ndD n (hope n t)) → Q v' H'
theorem hopeQ_snoc {n : Nat} (q : Qn n) (i : Nat) (an : An n) (h : q[i]? = some an) : hopeQ n (q.take (i + 1)) = hopeQ n (q.take i) ++ (if isZ an.2.1 = true then [] else [hopeA n an]) := by
  unfold hopeQ
  rw [List.take_add_one, h, List.filter_append, List.map_append]
  congr 1
  show List.map (hopeA n) (List.filter _ [an]) = _
  rw [List.filter_cons]
  cases isZ an.2.1 <;> rfl
theorem hopeQ_len {n : Nat} (q : Qn n) : (hopeQ n q).length ≤ q.length := by
  unfold hopeQ
  rw [List.length_map]
  exact List.length_filter_le _ _
/-- an answer at its place -/
theorem td_an {K : PySem.W.Frag} {H : Hp} {n : Nat} {an : An n} {v : V} (h : Td K H v (anD n an)) : ∃ p vw vs vt, v = .ref p ∧ SqT K H p [vw, vs, vt] ∧ Td K H vw (wdD an.1) ∧ Td K H vs (wsD an.2.1) ∧ Td K H vt (ndD n an.2.2) := by
  obtain ⟨p, ys, rfl, hp, tp⟩ := id h.tupE
  cases tp with
  | cons h1 tp => cases tp with
    | cons h2 tp => cases tp with
      | cons h3 tp =>
        cases tp
        exact ⟨p, _, _, _, rfl, hp, h1, h2, h3⟩
section
variable {P : Program} {w : World} {K : PySem.W.Frag} {mg : Str → Option Value} {base : Heap} {aN aO : Addr} {t1 t2 t3 t4 t5 t6 t7 : Tok}
end
end Tl
namespace Tl
open PySem PySem.Spec PyProof.Rows L2 RZ
/-- how many questions -/
def nq : (n : Nat) → Nd n → Nat
  | 0, _ => 0
  | n + 1, qs => (show List (Qn n) from qs).length
/-- answers told by their numbers and by what is behind -/
def cntd : (n : Nat) → Nd n → Nd n
  | 0, t => t
  | n + 1, qs => (show List (Qn n) from qs).map fun q => q.mapIdx fun i a => ([(i : Int), (nq n a.2.2 : Int)], a.2.1, cntd n a.2.2)
def cntdA (n : Nat) (i : Nat) (a : An n) : An n := ([(i : Int), (nq n a.2.2 : Int)], a.2.1, cntd n a.2.2)
def cntdQ (n : Nat) (q : Qn n) : Qn n := q.mapIdx (cntdA n)
theorem cntdQ_snoc {n : Nat} (q : Qn n) (i : Nat) (an : An n) (h : q[i]? = some an) : cntdQ n (q.take (i + 1)) = cntdQ n (q.take i) ++ [cntdA n i an] := by
  unfold cntdQ
  have hi := (List.getElem?_eq_some_iff.mp h).1
  rw [List.take_add_one, h]
  show List.mapIdx _ (_ ++ [an]) = _
  rw [List.mapIdx_concat, List.length_take, Nat.min_eq_left (Nat.le_of_lt hi)]
theorem cnt_cntd : ∀ (n : Nat) (t : Nd n), cnt n (cntd n t) = cnt n t
  | 0, _ => rfl
  | n + 1, qs => by
    have hq : ∀ q : Qn n, cntQ n (cntdQ n q) = cntQ n q := by
      intro q
      unfold cntQ cntdQ
      congr 1
      refine List.ext_getElem? fun i => ?_
      rw [List.getElem?_map, List.getElem?_map, List.getElem?_mapIdx]
      cases q[i]? with
      | none => rfl
      | some a =>
        show some (1 + cnt n (cntd n a.2.2)) = some (1 + cnt n a.2.2)
        rw [cnt_cntd n]
    have all : ∀ l : List (Qn n), cnt (n + 1) (l.map (cntdQ n) : List (Qn n)) = cnt (n + 1) l := by
      intro l
      induction l with
      | nil => rfl
      | cons q r ih =>
        have := hq q
        rw [List.map_cons, cnt_cons, cnt_cons]
        omega
    exact all qs
theorem nq_td {K : PySem.W.Frag} {H : Hp} {n : Nat} {t : Nd n} {v : V} (h : Td K H v (ndD n t)) : ∃ (a : Addr) (xs : List V), v = .ref a ∧ SqT K H a xs ∧ xs.length = nq n t := by
  obtain ⟨a, xs, ds, rfl, ha, ed, ta, l0⟩ := td_qs h
  refine ⟨a, xs, rfl, ha, ?_⟩
  cases n with
  | zero => rw [l0 rfl]; rfl
  | succ n =>
    cases ed
    rw [ta.len, List.length_map]
    rfl
def spCntd (K : PySem.W.Frag) (n : Nat) : Sp := fun vs H Q _ => ∃ (W : Nat) (v : V) (ahead : List Rat) (t : Nd n), vs = [v] ∧ Td K H v (ndD n t) ∧ NdOk W n ahead t ∧ ∀ v' H', Same H H' → Td K H' v' (ndD n (cntd n t)) → Q v' H'
section
variable {P : Program} {w : World} {K : PySem.W.Frag} {mg : Str → Option Value} {base : Heap} {aN aO : Addr} {t1 t2 t3 t4 t5 t6 t7 : Tok}
end
end Tl
namespace Tl
open PySem PySem.Spec PyProof.Rows L2 RZ
section
variable {P : Program} {w : World} {K : PySem.W.Frag} {mg : Str → Option Value} {base : Heap} {aN aO : Addr} {t1 t2 t3 t4 t5 t6 t7 : Tok}
/-- a house and its tree -/
structure HsOk (K : PySem.W.Frag) (C : Addr) (H : Hp) (p : Addr) (W n : Nat) (t : Nd n) (v : V) : Prop where
  at_ : HouseAt C H p W v
  td : Td K H v (ndD n t)
  ok : NdOk W n (ones W) t
  few : cnt n t ≤ 1500
  deep : n ≤ 8
  w1 : 1 ≤ W
  w5 : W ≤ 5
theorem HsOk.tree {C p : Addr} {H : Hp} {W n : Nat} {t : Nd n} {v : V} (h : HsOk K C H p W n t v) : TreeOk K H W n v t := ⟨h.td, h.ok, h.few, h.deep, h.w1, h.w5⟩
theorem HsOk.keep {C p : Addr} {H H' : Hp} {W n : Nat} {t : Nd n} {v : V} (h : HsOk K C H p W n t v) (s : Same H H') : HsOk K C H' p W n t v := ⟨h.at_.keep s, h.td.keep (Same.kt s), h.ok, h.few, h.deep, h.w1, h.w5⟩
def spHopeful (K : PySem.W.Frag) (C : Addr) (n : Nat) : Sp := fun vs H Q _ => ∃ (p : Addr) (W : Nat) (t : Nd n) (v : V), vs = [.ref p] ∧ HsOk K C H p W n t v ∧ ∀ p' v' H', Same H H' → HsOk K C H' p' W n (hope n t) v' → Q (.ref p') H'
/-- the one answer with which a house begins -/
def beg (W n : Nat) (t : Nd n) : Nd (n + 1) := ([[([(nq n t : Int)], ones W, cntd n t)]] : List (Qn n))
theorem cnt_beg (W n : Nat) (t : Nd n) : cnt (n + 1) (beg W n t) = 1 + cnt n t := by
  show 1 + cnt n (cntd n t) + 0 + 0 = _
  rw [cnt_cntd]
  rfl
def spBegun (K : PySem.W.Frag) (C : Addr) (n : Nat) : Sp := fun vs H Q _ => ∃ (p : Addr) (W : Nat) (t : Nd n) (v : V), vs = [.ref p] ∧ HsOk K C H p W n t v ∧ ∀ p' v' H', Same H H' → HouseAt C H' p' W v' → Td K H' v' (ndD (n + 1) (beg W n t)) → Q (.ref p') H'
end
end Tl
namespace Tl
open PySem PySem.Spec PyProof.Rows L2 RZ
section
variable {P : Program} {w : World} {K : PySem.W.Frag} {mg : Str → Option Value} {base : Heap} {aN aO : Addr} {t1 t2 t3 t4 t5 t6 t7 : Tok}
end
end Tl
namespace Tl
open PySem PySem.Spec PyProof.Rows L2 RZ
def fq {n : Nat} (q : Qn n) : Qn n := q.filter fun a => !isZ a.2.1
theorem fq_snoc {n : Nat} (q : Qn n) (i : Nat) (an : An n) (h : q[i]? = some an) : fq (q.take (i + 1)) = fq (q.take i) ++ (if isZ an.2.1 = true then [] else [an]) := by
  unfold fq
  rw [List.take_add_one, h, List.filter_append]
  congr 1
  show List.filter _ [an] = _
  rw [List.filter_cons]
  cases isZ an.2.1 <;> rfl
theorem fq_len {n : Nat} (q : Qn n) : (fq q).length ≤ q.length := List.length_filter_le _ _
theorem hopeQ_fq {n : Nat} (q : Qn n) : hopeQ n q = (fq q).map (hopeA n) := rfl
theorem any_pos : ∀ ws : List Rat, (∀ r ∈ ws, 0 ≤ r) → (ws.map fun r => decide (0 < r.num)).any id = !isZ ws
  | [], _ => rfl
  | r :: l, h => by
    have ih := any_pos l fun x hx => h x (List.mem_cons_of_mem _ hx)
    have h0 := Rat.num_nonneg.mpr (h r (List.mem_cons_self ..))
    show (decide (0 < r.num) || ((l.map fun r => decide (0 < r.num)).any id)) = !(decide (r = 0) && isZ l)
    rw [ih]
    by_cases e : r = 0
    · subst e
      rw [decide_eq_false (show ¬ 0 < (0 : Rat).num by decide), decide_eq_true rfl]
      rfl
    · have hn : r.num ≠ 0 := fun z => e (Rat.num_eq_zero.mp z)
      rw [decide_eq_true (show 0 < r.num by omega), decide_eq_false e]
      rfl
section
variable {P : Program} {w : World} {K : PySem.W.Frag} {mg : Str → Option Value} {base : Heap} {aN aO : Addr} {t1 t2 t3 t4 t5 t6 t7 : Tok}
end
end Tl
namespace Tl
open PySem PySem.Spec PyProof.Rows L2 RZ
def key {n : Nat} (a : An n) : List Int × List Rat := (a.1, a.2.1)
theorem key_at {n m : Nat} {q : Qn n} {q' : Qn m} (e : q'.map key = q.map key) {i : Nat} {x : An m} (h : q'[i]? = some x) : ∃ y : An n, q[i]? = some y ∧ y.1 = x.1 ∧ y.2.1 = x.2.1 := by
  have h1 : (q'.map key)[i]? = some (key x) := by rw [List.getElem?_map, h]; rfl
  rw [e] at h1
  obtain ⟨y, ey, ky⟩ := map_at h1
  have k1 : x.1 = y.1 := congrArg Prod.fst ky
  have k2 : x.2.1 = y.2.1 := congrArg Prod.snd ky
  exact ⟨y, ey, k1.symm, k2.symm⟩
theorem key_col {n m : Nat} {q : Qn n} {q' : Qn m} (e : q'.map key = q.map key) (j : Nat) : col q' j = col q j := by
  have f : ∀ {k : Nat} (r : Qn k), col r j = (r.map key).map fun z => z.2.getD j 0 := fun r => by
    rw [List.map_map]
    rfl
  rw [f q', f q, e]
theorem qnOk_key {W n m : Nat} {ahead : List Rat} {q : Qn n} {q' : Qn m} (e : q'.map key = q.map key) (h : QnOk W ahead q) : QnOk W ahead q' := by
  have hl : q'.length = q.length := by
    have := congrArg List.length e
    rw [List.length_map, List.length_map] at this
    exact this
  have mem : ∀ a ∈ q', ∃ y ∈ q, y.1 = a.1 ∧ y.2.1 = a.2.1 := fun a ha => by
    obtain ⟨i, hi, rfl⟩ := List.getElem_of_mem ha
    obtain ⟨y, ey, k⟩ := key_at e (List.getElem?_eq_getElem hi)
    exact ⟨y, List.mem_of_getElem? ey, k⟩
  refine ⟨by have := h.one; omega, by have := h.most; omega, fun a ha => ?_, fun i x y hx hy => ?_, fun a ha => ?_, fun a ha => ?_, fun j hj => ?_⟩
  · obtain ⟨y, hy, k1, k2⟩ := mem a ha
    rw [← k1]
    exact h.words y hy
  · obtain ⟨x', ex, k1, _⟩ := key_at e hx
    obtain ⟨y', ey, k2, _⟩ := key_at e hy
    rw [← k1, ← k2]
    exact h.asc i x' y' ex ey
  · obtain ⟨y, hy, k1, k2⟩ := mem a ha
    rw [← k2]
    exact h.wide y hy
  · obtain ⟨y, hy, k1, k2⟩ := mem a ha
    rw [← k2]
    exact h.chs y hy
  · rw [key_col e]
    exact h.whole j hj
def zer (W : Nat) : List Rat := List.replicate W 0
theorem zer_at (W j : Nat) : (zer W).getD j 0 = 0 := by
  unfold zer
  by_cases h : j < W
  · exact getD_of (by rw [List.getElem?_replicate, if_pos h])
  · rw [List.getD_eq_getElem?_getD, List.getElem?_eq_none (by rw [List.length_replicate]; omega)]
    rfl
/-- a hopeless answer more at the end -/
theorem qnOk_more {W n : Nat} {ahead : List Rat} {q : Qn n} (h : QnOk W ahead q) (l : q.length ≤ 11) {wd : List Int} (hw : WordOk wd) {nd : Nd n} {x : An n} (hx : q[q.length - 1]? = some x) (hlt : HT.lexLt x.1 wd = true) : QnOk W ahead (q ++ [(wd, zer W, nd)]) := by
  have c : ∀ j, col (q ++ [((wd, zer W, nd) : An n)]) j = col q j ++ [0] := fun j => by
    unfold col
    rw [List.map_append]
    show _ ++ [(zer W).getD j 0] = _
    rw [zer_at]
  have o1 := h.one
  refine ⟨by rw [List.length_append]; omega, by rw [List.length_append]; show q.length + 1 ≤ 12; omega, fun a ha => ?_, fun i x' y' h1 h2 => ?_, fun a ha => ?_, fun a ha => ?_, fun j hj => ?_⟩
  · rcases List.mem_append.mp ha with z | z
    · exact h.words a z
    · rw [List.mem_singleton.mp z]
      exact hw
  · by_cases hi : i + 1 < q.length
    · rw [List.getElem?_append_left hi] at h2
      rw [List.getElem?_append_left (by omega)] at h1
      exact h.asc i x' y' h1 h2
    · have hb := (List.getElem?_eq_some_iff.mp h2).1
      rw [List.length_append] at hb
      have hb2 : i + 1 < q.length + 1 := hb
      have ei : i + 1 = q.length := by omega
      rw [ei, List.getElem?_append_right (Nat.le_refl _), Nat.sub_self] at h2
      rw [List.getElem?_append_left (by omega), show i = q.length - 1 by omega, hx] at h1
      cases h1
      cases h2
      exact hlt
  · rcases List.mem_append.mp ha with z | z
    · exact h.wide a z
    · rw [List.mem_singleton.mp z]
      show (zer W).length = W
      unfold zer
      rw [List.length_replicate]
  · rcases List.mem_append.mp ha with z | z
    · exact h.chs a z
    · rw [List.mem_singleton.mp z]
      intro r hr
      have : r = 0 := (List.mem_replicate.mp hr).2
      rw [this]
      exact ch_zero
  · rw [c, fsum_snoc, Rat.add_zero]
    exact h.whole j hj
/-- a node of one round where more may be -/
def upA (m : Nat) (a : An 0) : An m := (a.1, a.2.1, emptyNd m)
def upN (m : Nat) (qs : List (Qn 0)) : Nd (m + 1) := (qs.map fun q => q.map (upA m) : List (Qn m))
theorem upN_D (m : Nat) (qs : List (Qn 0)) : ndD (m + 1) (upN m qs) = ndD 1 (show Nd 1 from qs) := by
  show PyData.tuple _ = PyData.tuple _
  refine congrArg PyData.tuple ?_
  unfold upN
  show List.map _ (List.map _ qs) = _
  rw [List.map_map]
  refine List.map_congr_left fun q _ => ?_
  show PyData.tuple (List.map _ (List.map _ q)) = PyData.tuple _
  rw [List.map_map]
  refine congrArg PyData.tuple (List.map_congr_left fun a _ => ?_)
  show PyData.tuple [wdD a.1, wsD a.2.1, ndD m (emptyNd m)] = PyData.tuple [wdD a.1, wsD a.2.1, ndD 0 a.2.2]
  rw [ndD_empty]
  rfl
theorem upN_cnt (m : Nat) (qs : List (Qn 0)) : cnt (m + 1) (upN m qs) = cnt 1 (show Nd 1 from qs) := by
  show List.sum _ = List.sum _
  congr 1
  unfold upN
  show List.map _ (List.map _ qs) = _
  rw [List.map_map]
  refine List.map_congr_left fun q _ => ?_
  show List.sum (List.map _ (List.map _ q)) = List.sum _
  rw [List.map_map]
  congr 1
  refine List.map_congr_left fun a _ => ?_
  show 1 + cnt m (emptyNd m) = 1 + 0
  rw [cnt_empty]
theorem upN_ok {W m : Nat} {ws : List Rat} {qs : List (Qn 0)} (h : NdOk W 1 ws (show Nd 1 from qs)) : NdOk W (m + 1) ws (upN m qs) := by
  refine ⟨by show (List.map _ qs).length ≤ 5; rw [List.length_map]; exact h.1, fun q' hq' => ?_⟩
  obtain ⟨q, hq, rfl⟩ := List.mem_map.mp hq'
  refine ⟨qnOk_key (by rw [List.map_map]; rfl) (h.2 q hq).1, fun a' ha' => ?_⟩
  obtain ⟨a, ha, rfl⟩ := List.mem_map.mp ha'
  exact ndOk_empty _ _ _
end Tl
namespace Tl
open PySem PySem.Spec PyProof.Rows L2 RZ
theorem atI_neg1 {xs : List V} {v : V} (h : xs[xs.length - 1]? = some v) : atI xs (-1) = some v := by
  have hl := (List.getElem?_eq_some_iff.mp h).1
  have hne : xs ≠ [] := fun e => by subst e; exact absurd hl (Nat.not_lt_zero _)
  have e := List.dropLast_concat_getLast hne
  have g : xs.getLast hne = v := by
    rw [List.getLast_eq_getElem]
    exact (List.getElem?_eq_some_iff.mp h).2
  rw [g] at e
  rw [← e]
  exact atI_last _ _
theorem zer_td {K : PySem.W.Frag} {H : Hp} {p q : Addr} {W : Nat} (hq : Td K H (.ref q) (rD 0)) (hp : SqT K H p (List.replicate (W : Int).toNat [V.ref q]).flatten) : Td K H (.ref p) (wsD (zer W)) := by
  rw [flat_rep, Int.toNat_natCast] at hp
  refine .tup hp ?_
  unfold zer
  rw [List.map_replicate]
  exact tdAll_rep hq W
def spWH (K : PySem.W.Frag) (n : Nat) : Sp := fun vs H Q _ => ∃ (b g : Addr) (W : Nat) (v : V) (ahead : List Rat) (t : Nd n), vs = [.ref b, .int (W : Int), v] ∧ Bag H b g ∧ Td K H v (ndD n t) ∧ NdF W n ahead t ∧ 1 ≤ W ∧ W ≤ 5 ∧
  ∀ (v' : V) (t' : Nd (n + 1)) (H' : Hp), Td K H' v' (ndD (n + 1) t') → NdOk W (n + 1) ahead t' → cnt (n + 1) t' ≤ 11 * cnt n t → Bag H' b g → Frm b g H H' → Q v' H'
/-- what stands when i questions are done -/
structure WhI (K : PySem.W.Frag) (b g T : Addr) (W n : Nat) (ahead : List Rat) (qs : List (Qn n)) (H : Hp) (i : Nat) (H2 : Hp) (us : List V) (qs' : List (Qn (n + 1))) : Prop where
  len : qs'.length = i
  h : H2 T = some (.lst us)
  t : TdAll K H2 us (qs'.map (qnD (n + 1)))
  ok : ∀ q ∈ qs', QnOk W ahead q ∧ ∀ a ∈ q, NdOk W (n + 1) a.2.1 a.2.2
  c : cnt (n + 2) (qs' : List (Qn (n + 1))) ≤ 11 * cnt (n + 1) (qs.take i : List (Qn n))
  B : Bag H2 b g
  F : Frm b g H H2
theorem wh_fin {K : PySem.W.Frag} {b g T : Addr} {W n : Nat} {ahead : List Rat} {qs : List (Qn n)} {H H2 H5 : Hp} {i : Nat} {us : List V} {qs' : List (Qn (n + 1))} {qn : Qn n} {qa : Qn (n + 1)} {l : Addr} (I : WhI K b g T W n ahead qs H i H2 us qs') (eq : qs[i]? = some qn) (F5 : Frm b g H2 H5) (B5 : Bag H5 b g) (t5 : Td K H5 (.ref l) (qnD (n + 1) qa)) (o1 : QnOk W ahead qa)
    (o2 : ∀ a ∈ qa, NdOk W (n + 1) a.2.1 a.2.2) (c5 : cntQ (n + 1) qa ≤ 11 * cntQ n qn) (Tb : T ≠ b) (Tg : T ≠ g) (T0 : H T = none) : H5 T = some (.lst us) ∧ WhI K b g T W n ahead qs H (i + 1) (upd H5 T (.lst (us ++ [.ref l]))) (us ++ [.ref l]) (qs' ++ [qa]) := by
  have h5 := F5 _ _ I.h Tb Tg
  have kT : KT K H5 (upd H5 T (.lst (us ++ [.ref l]))) := KT.updL h5
  refine ⟨h5, by rw [List.length_append, I.len]; rfl, upd_same, ?_, fun q hq => ?_, ?_, B5.updN Tb Tg, (I.F.trans F5).updN T0⟩
  · rw [List.map_append]
    exact (I.t.keep ((I.B.kt F5).trans kT)).app (.cons (t5.keep kT) .nil)
  · rcases List.mem_append.mp hq with z | z
    · exact I.ok q z
    · rw [List.mem_singleton.mp z]
      exact ⟨o1, o2⟩
  · rw [cnt_snoc, cnt_take n qs i qn eq]
    have := I.c
    show cnt (n + 2) (qs' : List (Qn (n + 1))) + _ ≤ _
    omega
section
variable {P : Program} {w : World} {K : PySem.W.Frag} {mg : Str → Option Value} {base : Heap}
theorem ok_law_with_hopeless {f f1 f2 : Addr} {fd fd1 fd2 : FuncData} (D : Dn K mg "_law_with_hopeless" s_law_with_hopeless ["bag", "worlds", "node"] f fd) (B : Blt mg) (D_law_pick : Dn K mg "_law_pick" s_law_pick ["bag", "many"] f1 fd1)
    (D_law_node : Dn K mg "_law_node" s_law_node ["bag", "worlds", "ahead", "levels", "left"] f2 fd2) (G_law_node : FnOk P w K mg base CX0 8 f2 fd2 ["bag", "worlds", "ahead", "levels", "left"] (spN K 1)) : ∀ n : Nat, FnOk P w K mg base CX0 (9 + n) f fd ["bag", "worlds", "node"] (spWH K n) := by
  intro n
  have G_law_pick : FnOk P w K mg base CX0 1 f1 fd1 ["bag", "many"] spPick := ok_law_pick D_law_pick B
  obtain ⟨sp0, G_law_with_hopeless, hsp⟩ : ∃ sp0, FnOk P w K mg base CX0 (8 + n) f fd ["bag", "worlds", "node"] sp0 ∧ (∀ m, n = m + 1 → sp0 = spWH K m) := by
    cases n with
    | zero => exact ⟨fun _ _ _ _ => False, ⟨fun vs H Q E h => h.elim, fun A outer s H args us vs Q E _ _ _ _ h => h.elim⟩, fun m e => by omega⟩
    | succ m =>
      have G := ok_law_with_hopeless D B D_law_pick D_law_node G_law_node m
      rw [show 9 + m = 8 + (m + 1) by omega] at G
      exact ⟨_, G, fun m' e => by rw [show m' = m by omega]⟩
  rw [show 9 + n = (8 + n) + 1 by omega]
  refine D.F.ok sc_law_with_hopeless (fun vs H Q E h => ?_) (fun cdv A outer s H vs Q E hr h => ?_)
  · obtain ⟨b, g, W, v, ahead, t, rfl, _⟩ := h
    rfl
  obtain ⟨b, g, W, v, ahead, t, rfl, hB, hv, hok, hW1, hW5, q⟩ := h
  have nd := sc_law_with_hopeless.nd
  have D_law_with_hopeless := D
  refine ⟨_, (pss_cons (ps_set (i := 3) nd rfl (.inl rfl) (pe_lst pa_nil))
      (pss_cons (ps_for PassesOwn.never rfl (k_iT (K := K) rfl (pv 2)) (pg_name (i := 4) nd rfl (.inl rfl)) (pss_cons (ps_setLc (i := 5) (own := [("word", 6), ("weights", 7), ("behind", 8)]) rfl nd rfl rfl (sw_true rfl rfl rfl (by decide +kernel)) (k_iT (K := K) rfl (pv 4)) (blkOk_by (own := [("word", 6), ("weights", 7), ("behind", 8)]) (by kernel_rfl)) (fun _ _ _ _ _ => (k_tup (K := K) (n := 3) rfl rfl (pgs_cons (pg_name (i := 6) nd rfl (.inl rfl)) (pgs_cons (pg_name (i := 7) nd rfl (.inl rfl)) (pgs_cons (pg_name (i := 8) nd rfl (.inl rfl)) pgs_nil))))) (fun _ _ _ _ _ => pts_nil) (fun _ _ _ _ _ => (pe_tup (pa_cons (pv 6) (pa_cons (pv 7) (pa_cons (pe_call G_law_with_hopeless (hr.mono (by omega)) (by rfl) D_law_with_hopeless.m D_law_with_hopeless.F.kp D_law_with_hopeless.b .nil pass0 (pa_cons (pv 0) (pa_cons (pv 1) (pa_cons (pv 8) pa_nil)))) pa_nil))))))
      (pss_cons (ps_if (PW.pt (pw_and (pt_cmpR op_eq (pe_call G_law_pick (hr.mono (by omega)) (by rfl) D_law_pick.m D_law_pick.F.kp D_law_pick.b .nil pass0 (pa_cons (pv 0) (pa_cons pe_int pa_nil))) pe_int (nomark _)) (pw_and1 (pt_cmpR (k_ltT (K := K) rfl hr.units0) (pe_ix (k_ixT (K := K) rfl) (pe_ix (k_ixL (K := K) rfl) (pv 5) (pe_un un_neg pe_int) (fun _ _ => rfl)) pe_int (fun _ _ => rfl)) (pe_tup (pa_cons pe_int pa_nil)) (nomark _))))) (pss_cons (ps_set (i := 9) nd rfl (.inl rfl) (pe_op (k_rep (K := K) rfl) (pe_tup (pa_cons (pe_tup (pa_cons pe_int (pa_cons pe_int pa_nil))) pa_nil)) (pv 1)))
      (pss_one (ps_expr (pe_bm PySem.F.plainAttrs_list PySem.F.slot_list_append PySem.F.type_list_append mt_append (pv 5) (pa_cons (pe_tup (pa_cons (pe_tup (pa_cons pe_int (pa_cons (pe_call G_law_pick (hr.mono (by omega)) (by rfl) D_law_pick.m D_law_pick.F.kp D_law_pick.b .nil pass0 (pa_cons (pv 0) (pa_cons pe_int pa_nil))) pa_nil))) (pa_cons (pv 9) (pa_cons (pe_call G_law_node (hr.mono (by omega)) (by rfl) D_law_node.m D_law_node.F.kp D_law_node.b .nil pass0 (pa_cons (pv 0) (pa_cons (pv 1) (pa_cons (pv 9) (pa_cons pe_int (pa_cons (pe_lst (pa_cons pe_int pa_nil)) pa_nil)))))) pa_nil)))) pa_nil))))) pss_nil)
      (pss_one (ps_expr (pe_bm PySem.F.plainAttrs_list PySem.F.slot_list_append PySem.F.type_list_append mt_append (pv 3) (pa_cons (pe_callTy (k_tupOf (K := K) rfl) (by rfl) B.tuple (by decide +kernel) (pa_cons (pv 5) pa_nil)) pa_nil)))))))
      (pss_one (ps_ret (pe_callTy (k_tupOf (K := K) rfl) (by rfl) B.tuple (by decide +kernel) (pa_cons (pv 3) pa_nil)))))), ?_⟩
  obtain ⟨a, xs, ds, rfl, ha, ed, ta, l0⟩ := td_qs hv
  refine ⟨by show 0 ≤ sizeLine; decide, fun T hT => ?_⟩
  obtain ⟨Tb, Tg⟩ := hB.neNew hT
  have sT := same_upd (o := .lst []) hT
  cases n with
  | zero =>
    have := l0 rfl
    subst this
    refine ⟨_, rfl, a, rfl, ⟨_, Same.kt sT _ _ ha⟩, for_it (walk_tup (K := K) (a := a) (xs := [])) (fun i σ H2 => H2 = upd H T (.lst []) ∧ ∃ o4 o5 o6 o7 o8 o9 : Option V, σ = [some (.ref b), some (.int (W : Int)), some (.ref a), some (.ref T), o4, o5, o6, o7, o8, o9]) ⟨rfl, none, none, none, none, none, none, rfl⟩ (fun i σ H2 _ h => by rw [h.1]; exact Same.kt sT _ _ ha) ?_ ?_⟩
    · rintro i x σ H2 H3 hi
      exact absurd hi (Nat.not_lt_zero _)
    · rintro σ H2 ⟨rfl, o4, o5, o6, o7, o8, o9, rfl⟩
      refine ⟨_, rfl, T, [], rfl, SqL.of upd_same, fun l H' s' q' => q (.ref l) (emptyNd 1) H' (.tup q' .nil) (ndOk_empty _ _ _) (Nat.zero_le _) (hB.keep (sT.trans s')) (.of (sT.trans s'))⟩
  | succ n =>
    have hsp := hsp n rfl
    subst hsp
    obtain ⟨qs, hqs⟩ : ∃ qs : List (Qn n), (qs : Nd (n + 1)) = t := ⟨t, rfl⟩
    subst hqs
    cases ed
    have lx : xs.length = qs.length := by rw [ta.len, List.length_map]
    have l5 : qs.length ≤ 5 := hok.1
    refine ⟨_, rfl, a, rfl, ⟨_, Same.kt sT _ _ ha⟩, for_it (walk_tup (K := K) (a := a) (xs := xs)) (fun i σ H2 => ∃ (us : List V) (qs' : List (Qn (n + 1))) (o4 o5 o6 o7 o8 o9 : Option V), σ = [some (.ref b), some (.int (W : Int)), some (.ref a), some (.ref T), o4, o5, o6, o7, o8, o9] ∧ WhI K b g T W n ahead qs H i H2 us qs') ⟨[], [], none, none, none, none, none, none, rfl, rfl, upd_same, .nil, fun q hq => absurd hq List.not_mem_nil, Nat.zero_le _, hB.keep sT, .of sT⟩ (fun i σ H2 _ h => ?_) ?_ ?_⟩
    · obtain ⟨_, _, _, _, _, _, _, _, _, I⟩ := h
      exact hB.kt I.F _ _ ha
    · rintro i x σ H0 H2 hi ⟨us, qs', o4, o5, o6, o7, o8, o9, rfl, I⟩ ⟨rfl, e1⟩
      obtain ⟨dx, ex, tx⟩ := ta.getV e1
      obtain ⟨qn, eq, rfl⟩ := map_at ex
      obtain ⟨⟨qok, q3⟩, nok⟩ := hok.2 qn (List.mem_of_getElem? eq)
      have q1 := qok.one
      obtain ⟨p0, ys, rfl, hb, tb⟩ := id (tx.keep (hB.kt I.F)).tupE
      have ly : ys.length = qn.length := by rw [tb.len, List.length_map]
      -- the answers
      refine ⟨_, rfl, p0, rfl, ⟨_, hb⟩, fun T2 hT2 => ?_⟩
      obtain ⟨T2b, T2g⟩ := I.B.neNew hT2
      refine lc_it (walk_tup (K := K) (a := p0) (xs := ys)) (fun j H3 => ∃ (vs : List V) (qa : Qn (n + 1)), H3 T2 = some (.lst vs) ∧ TdAll K H3 vs (qa.map (anD (n + 1))) ∧ qa.map key = (qn.take j).map key ∧ (∀ a ∈ qa, NdOk W (n + 1) a.2.1 a.2.2) ∧ cntB (n + 1) qa ≤ 11 * cntB n (qn.take j) ∧ Bag H3 b g ∧ Frm b g H2 H3) ⟨[], [], upd_same, .nil, rfl, fun a h => absurd h List.not_mem_nil, Nat.zero_le _, I.B.keep (same_upd hT2), .of (same_upd hT2)⟩ (fun i H2 _ h => ?_) ?_ ?_
      · obtain ⟨_, _, _, _, _, _, _, _, F3⟩ := h
        exact I.B.kt F3 _ _ hb
      · rintro j y H0 H3 hj ⟨vs, qa, h3, t3, k3, n3, c3, B3, F3⟩ ⟨rfl, e2⟩
        obtain ⟨dy, ey, ty⟩ := tb.getV e2
        obtain ⟨an, ea, rfl⟩ := map_at ey
        have ma := List.mem_of_getElem? ea
        obtain ⟨p, vw, vz, vt, rfl, hp, tw, tz, tt⟩ := td_an (ty.keep (I.B.kt F3))
        refine ⟨p, _, rfl, hp, rfl, _, _, rfl, _, _, rfl, _, _, rfl, rfl, rfl, ?_⟩
        refine iteT (B := ∃ (vs : List V) (qa : Qn (n + 1)), H3 T2 = some (.lst vs) ∧ TdAll K H3 vs (qa.map (anD (n + 1))) ∧ qa.map key = (qn.take (j + 1)).map key ∧ (∀ a ∈ qa, NdOk W (n + 1) a.2.1 a.2.2) ∧ cntB (n + 1) qa ≤ 11 * cntB n (qn.take (j + 1)) ∧ Bag H3 b g ∧ Frm b g H2 H3) ?_
        refine ⟨_, rfl, _, rfl, _, rfl, _, rfl, _, rfl, b, g, W, vt, an.2.1, an.2.2, rfl, B3, tt, nok an ma, hW1, hW5, fun v5 t5 H5 tv5 ok5 c5 B5 F5 => ?_⟩
        refine ⟨by show 3 ≤ sizeLine; decide, fun p6 n6 => ?_⟩
        have s6 : Same H5 (upd H5 p6 (.tup [vw, vz, v5])) := same_upd n6
        have F6 := F5.trans (.of s6)
        have h6 := F6 _ _ h3 T2b T2g
        have kT : KT K (upd H5 p6 (.tup [vw, vz, v5])) (upd (upd H5 p6 (.tup [vw, vz, v5])) T2 (.lst (vs ++ [.ref p6]))) := KT.updL h6
        have kk := (B3.kt F6).trans kT
        have lqa : qa.length ≤ 3 := by
          have := congrArg List.length k3
          rw [List.length_map, List.length_map, List.length_take] at this
          omega
        refine ⟨vs, h6, ?_, vs ++ [.ref p6], qa ++ [((an.1, an.2.1, t5) : An (n + 1))], upd_same, ?_, ?_, fun a' ha' => ?_, ?_, (B5.keep s6).updN T2b T2g, (F3.trans F6).updN hT2⟩
        · rw [t3.len, List.length_map]
          exact small1000 (by omega)
        · rw [List.map_append]
          exact (t3.keep kk).app (.cons (.tup (kT _ _ (.inl (.inl upd_same))) (.cons (tw.keep kk) (.cons (tz.keep kk) (.cons (tv5.keep ((Same.kt s6).trans kT)) .nil)))) .nil)
        · rw [List.map_append, k3, List.take_add_one, ea, List.map_append]
          rfl
        · rcases List.mem_append.mp ha' with z | z
          · exact n3 a' z
          · rw [List.mem_singleton.mp z]
            exact ok5
        · rw [cntB_snoc, List.take_add_one, ea]
          show _ ≤ 11 * cntB n (_ ++ [an])
          rw [cntB_snoc]
          show cntB (n + 1) qa + cnt (n + 1) t5 ≤ _
          omega
      rintro H3 ⟨vs, qa, h3, t3, k3, n3, c3, B3, F3⟩
      rw [ly, List.take_length] at k3 c3
      have lqa : qa.length = qn.length := by
        have := congrArg List.length k3
        rw [List.length_map, List.length_map] at this
        exact this
      have lv : vs.length = qa.length := by rw [t3.len, List.length_map]
      have oka : QnOk W ahead qa := qnOk_key k3 qok
      have cqn := cntQ_eq n qn
      have cqa := cntQ_eq (n + 1) qa
      -- shall a hopeless one stand behind them
      refine ⟨_, rfl, b, g, 4, rfl, B3, by decide, by decide, fun r H4 r0 r1 B4 F4 => ?_⟩
      have h4 := F4 _ _ h3 T2b T2g
      have B24 : Frm b g H2 H4 := F3.trans F4
      have t4 := t3.keep (B3.kt F4)
      -- the answers as they are
      have plain : ∀ {l : Addr} {H5 : Hp}, Same H4 H5 → SqT K H5 l vs → H5 T = some (.lst us) ∧ WhI K b g T W n ahead qs H (i + 1) (upd H5 T (.lst (us ++ [.ref l]))) (us ++ [.ref l]) (qs' ++ [qa]) := fun s5 q5 =>
        wh_fin I eq (B24.trans (.of s5)) (B4.keep s5) (.tup q5 (t4.keep (Same.kt s5))) oka n3 (by omega) Tb Tg hT
      have lus : us.length < sizeLine := by
        rw [I.t.len, List.length_map, I.len]
        exact small1000 (by omega)
      by_cases hr0 : r = 0
      · subst hr0
        refine ⟨rfl, _, rfl, ?_⟩
        rw [dec_int, beq_self_eq_true]
        refine iteT ?_
        have hlast : qa[qa.length - 1]? = some (qa[qa.length - 1]'(by omega)) := List.getElem?_eq_getElem _
        generalize qa[qa.length - 1]'(by omega) = la at hlast
        obtain ⟨vl, el, tl⟩ := t4.get (i := qa.length - 1) (d := anD (n + 1) la) (by rw [List.getElem?_map, hlast]; rfl)
        obtain ⟨p, vw, vz, vt, rfl, hp, tw, tz, tt⟩ := td_an tl
        obtain ⟨pw, ws, rfl, hpw, tws⟩ := id tw.tupE
        have ews := tdAll_intsE tws
        subst ews
        refine ⟨_, rfl, 1, rfl, T2, vs, -1, _, rfl, rfl, SqL.of h4, atI_neg1 (by rw [lv]; exact el), p, _, 0, _, rfl, rfl, hp, at_of (j := 0) rfl rfl, (by show 1 ≤ sizeLine; decide), fun pz nz => ?_⟩
        have s5 := same_upd (o := .tup [.int 99]) nz
        refine ⟨pw, pz, la.1, [99], rfl, rfl, Same.kt s5 _ _ hpw, .inl (.inl upd_same), _, rfl, ?_⟩
        cases hlt : HT.lexLt la.1 [99] with
        | false =>
          refine iteF ?_
          refine ⟨_, rfl, .inl ⟨rfl, _, SqL.of (s5 _ _ (B24 _ _ I.h Tb Tg))⟩, ?_⟩
          refine ⟨_, rfl, T2, vs, rfl, SqL.of (s5 _ _ h4), fun l H6 s6 q6 => ?_⟩
          obtain ⟨h7, I7⟩ := plain (s5.trans s6) q6
          exact ⟨T, us, _, rfl, rfl, h7, lus, _, _, _, _, _, _, _, _, rfl, I7⟩
        | true =>
          refine iteT ?_
          refine ⟨by show 2 ≤ sizeLine; decide, fun p1 n1 => ⟨by show 1 ≤ sizeLine; decide, fun p2 n2 => ?_⟩⟩
          have s7 := (s5.trans (same_upd (o := .tup [.int 0, .int 1]) n1)).trans (same_upd (o := .tup [.ref p1]) n2)
          refine ⟨_, rfl, p2, (W : Int), _, rfl, rfl, .inl (.inl upd_same), by simp, by omega, by omega, by simp, fun pa H8 s8 q8 => ?_⟩
          have s48 := s7.trans s8
          have tz8 : Td K H8 (.ref p1) (rD 0) := by
            rw [rD_zero]
            exact .tup (Same.kt ((same_upd n2).trans s8) _ _ (.inl (.inl upd_same))) (tdAll_ints [0, 1])
          have tzs := zer_td tz8 q8
          refine ⟨_, rfl, .inl ⟨rfl, _, SqL.of (s48 _ _ h4)⟩, ?_⟩
          refine ⟨_, rfl, b, g, 9, rfl, B4.keep s48, by decide, by decide, fun r9 H9 z0 z1 B9 F9 => ?_⟩
          refine ⟨by show 2 ≤ sizeLine; decide, fun pw' nw => ?_⟩
          have s10 := same_upd (o := .tup [.int 99, .int r9]) nw
          have F10 := F9.trans (.of s10)
          have B10 := B9.keep s10
          have tw10 : SqT K (upd H9 pw' (.tup [.int 99, .int r9])) pw' [.int 99, .int r9] := .inl (.inl upd_same)
          have tz10 := tzs.keep ((B4.keep s48).kt F10)
          generalize upd H9 pw' (.tup [.int 99, .int r9]) = H10 at s10 F10 B10 tw10 tz10
          refine ⟨_, rfl, _, rfl, _, rfl, _, rfl, by show 1 ≤ sizeLine; decide, fun l nl => ?_⟩
          have s11 := same_upd (o := .lst [.int 4]) nl
          have nl2 := B10.neNew nl
          have B11 : BagL (upd H10 l (.lst [.int 4])) b g l 4 := ⟨B10.keep s11, upd_same, nl2.1, nl2.2⟩
          refine ⟨b, g, l, W, 0, .ref pa, zer W, 4, rfl, B11, tz10.keep (Same.kt s11), by unfold zer; rw [List.length_replicate], fun r hr => ?_, by omega, hW1, hW5, fun v12 t12 L12 H12 tv12 ok12 c12 low12 B12 F12 => ?_⟩
          · have : r = 0 := (List.mem_replicate.mp hr).2
            rw [this]
            exact ch_zero
          refine ⟨by show 3 ≤ sizeLine; decide, fun p13 n13 => ?_⟩
          have s13 : Same H12 (upd H12 p13 (.tup [.ref pw', .ref pa, v12])) := same_upd n13
          have F1012 : Frm b g H10 H12 := fun a o h ab ag => F12 a o (s11 a o h) ab ag (ne_of_none h nl)
          have F413 := ((Frm.of s48).trans (F10.trans F1012)).trans (Frm.of s13)
          have k1013 := ((Same.kt (K := K) s11).trans (B11.kt F12)).trans (Same.kt s13)
          have B13 := B12.B.keep s13
          have tp13 : SqT K (upd H12 p13 (.tup [.ref pw', .ref pa, v12])) p13 [.ref pw', .ref pa, v12] := .inl (.inl upd_same)
          have tv13 := tv12.keep (Same.kt s13)
          generalize upd H12 p13 (.tup [.ref pw', .ref pa, v12]) = H13 at s13 F413 k1013 B13 tp13 tv13
          have h13 := F413 _ _ h4 T2b T2g
          refine ⟨T2, vs, _, rfl, rfl, h13, ?_, ?_⟩
          · rw [lv]
            exact small1000 (by omega)
          have kT2 : KT K H13 (upd H13 T2 (.lst (vs ++ [.ref p13]))) := KT.updL h13
          have F214 : Frm b g H2 (upd H13 T2 (.lst (vs ++ [.ref p13]))) := (B24.trans F413).updN hT2
          refine ⟨_, rfl, .inl ⟨rfl, _, SqL.of (F214 _ _ I.h Tb Tg)⟩, _, rfl, T2, _, rfl, SqL.of upd_same, fun l15 H15 s15 q15 => ?_⟩
          have k1315 := kT2.trans (Same.kt s15)
          have tw15 : Td K H15 (.ref pw') (wdD [99, r9]) := .tup (k1315 _ _ (k1013 _ _ tw10)) (tdAll_ints [99, r9])
          have tn15 : Td K H15 v12 (ndD (n + 1) (upN n t12)) := by
            have e := upN_D n t12
            rw [e]
            exact tv13.keep k1315
          have tz15 : Td K H15 (.ref p13) (anD (n + 1) ([99, r9], zer W, upN n t12)) := .tup (k1315 _ _ tp13) (.cons tw15 (.cons (tz10.keep (k1013.trans k1315)) (.cons tn15 .nil)))
          have tq15 : Td K H15 (.ref l15) (qnD (n + 1) (qa ++ [(([99, r9], zer W, upN n t12) : An (n + 1))])) := by
            refine .tup q15 ?_
            rw [List.map_append]
            exact (t4.keep ((B4.kt F413).trans k1315)).app (.cons tz15 .nil)
          have wok : WordOk [99, r9] := ⟨by show 2 ≤ 8; decide, fun x hx => by
            simp only [List.mem_cons, List.not_mem_nil, or_false] at hx
            rcases hx with rfl | rfl
            · exact ⟨by decide, by decide⟩
            · exact ⟨by omega, by omega⟩⟩
          have hl9 : HT.lexLt [99] [99, r9] = true := rfl
          have lowv : lowL 1 = -5 := rfl
          obtain ⟨h16, I16⟩ := wh_fin I eq (F214.trans (.of s15)) ((B13.updN T2b T2g).keep s15) tq15 (qnOk_more oka (by omega) wok hlast (lex_trans hlt hl9)) (fun a' ha' => by
            rcases List.mem_append.mp ha' with z | z
            · exact n3 a' z
            · rw [List.mem_singleton.mp z]
              exact upN_ok ok12.ok) (by
            rw [cntQ_eq, cntB_snoc, List.length_append]
            have e9 : cnt (n + 1) (upN n t12) = cnt 1 t12 := upN_cnt n t12
            show qa.length + 1 + (cntB (n + 1) qa + cnt (n + 1) (upN n t12)) ≤ _
            rw [e9]
            rcases low12 with z | z <;> omega) Tb Tg hT
          exact ⟨T, us, _, rfl, rfl, h16, lus, _, _, _, _, _, _, _, _, rfl, I16⟩
      · refine ⟨rfl, _, rfl, ?_⟩
        rw [dec_int, beq_eq_false_iff_ne.mpr hr0]
        refine iteF ?_
        refine ⟨_, rfl, .inl ⟨rfl, _, SqL.of (B24 _ _ I.h Tb Tg)⟩, ?_⟩
        refine ⟨_, rfl, T2, vs, rfl, SqL.of h4, fun l H5 s5 q5 => ?_⟩
        obtain ⟨h6, I6⟩ := plain s5 q5
        exact ⟨T, us, _, rfl, rfl, h6, lus, _, _, _, _, _, _, _, _, rfl, I6⟩
    · rintro σ H2 ⟨us, qs', o4, o5, o6, o7, o8, o9, rfl, I⟩
      refine ⟨_, rfl, T, us, rfl, SqL.of I.h, fun l H' s' q' => q (.ref l) (qs' : List (Qn (n + 1))) H' (.tup q' (I.t.keep (Same.kt s'))) ⟨by show qs'.length ≤ 5; rw [I.len]; omega, I.ok⟩ ?_ (I.B.keep s') (I.F.trans (.of s'))⟩
      have := I.c
      rw [lx, List.take_length] at this
      exact this
end
end Tl
/-! dicts whose keys are tuples of tuples -/
namespace Tl
open PySem PySem.Spec PyProof.Rows L2 RZ
/-- the object of such a dict -/
def ndo (w : World) (d : Addr) (xs : List (NestedKey × Addr × Value)) : HO := .ext fun h => ∃ o es ep, h.get? d = some o ∧ o.ExactDict ∧ o.data = .dict es ep ∧ es.toList = xs.map (fun x => (⟨x.1.hash w, .ref x.2.1, x.2.2⟩ : DictEntry))
/-- at d a dict of at most n pairs, told by f -/
def NDc (K : PySem.W.Frag) (w : World) (H : Hp) (d : Addr) (n : Nat) (f : NestedKey → Option V) : Prop := ∃ xs : List (NestedKey × Addr × Value), H d = some (ndo w d xs) ∧ (d == sysModules) = false ∧ xs.length ≤ n ∧ (xs.map (·.1)).Nodup ∧
  (∀ x ∈ xs, Td K H (.ref x.2.1) x.1.data ∧ x.1.depth ≤ 8) ∧ ∀ k, RelO (f k) ((atKey xs k).map (·.2))
theorem NDc.keep {K : PySem.W.Frag} {w : World} {H H' : Hp} {d : Addr} {n : Nat} {f : NestedKey → Option V} (h : NDc K w H d n f) (k : KT K H H') (e : ∀ o, H d = some o → H' d = some o) : NDc K w H' d n f := by
  obtain ⟨xs, h1, h2, h3, h4, h5, h6⟩ := h
  exact ⟨xs, e _ h1, h2, h3, h4, fun x hx => ⟨(h5 x hx).1.keep k, (h5 x hx).2⟩, h6⟩
theorem NDc.mono {K : PySem.W.Frag} {w : World} {H : Hp} {d : Addr} {n m : Nat} {f : NestedKey → Option V} (h : NDc K w H d n f) (l : n ≤ m) : NDc K w H d m f := by
  obtain ⟨xs, h1, h2, h3, h4⟩ := h
  exact ⟨xs, h1, h2, Nat.le_trans h3 l, h4⟩
theorem NDc.at_ {K : PySem.W.Frag} {w : World} {H : Hp} {d : Addr} {n : Nat} {f : NestedKey → Option V} (h : NDc K w H d n f) : ∃ φ, H d = some (.ext φ) := let ⟨_, h1, _⟩ := h; ⟨_, h1⟩
section
variable {X : Cx} {pins : List (Addr × Obj)} {σ : L2.St} {H : Hp} {s : Shared}
mutual
theorem nested_is (I : Inv X pins σ H s) : ∀ (k : NestedKey) (v : V) (u : Value), Td X.K H v k.data → RelV v u → NestedIs s.heap k u
  | .none, _, u, h, r => by
    cases h
    cases (show u = Value.none from r)
    exact .none
  | .num i, _, u, h, r => by
    cases h
    obtain ⟨t, rfl⟩ := r
    exact .int i t
  | .text x, _, u, h, r => by
    cases h
    obtain ⟨t, rfl⟩ := r
    exact .text x t
  | .tup ks, _, u, h, r => by
    cases h with
    | tup hs ha =>
      rename_i a xs
      cases (show u = Value.ref a from r)
      obtain ⟨its, rv, ⟨o, h1, h2, n, h3⟩, _⟩ := I.tuple hs
      exact .tup h1 h2 h3 (by simpa using nested_all I ks xs its ha rv)
theorem nested_all (I : Inv X pins σ H s) : ∀ (ks : List NestedKey) (vs : List V) (us : List Value), TdAll X.K H vs (NestedKey.datas ks) → Vals vs us → NestedAll s.heap ks us
  | [], _, us, h, r => by
    cases h
    cases r
    exact .nil
  | k :: ks, _, us, h, r => by
    cases h with
    | cons h1 h2 =>
      cases r with
      | cons r1 r2 => exact .cons (nested_is I k _ _ h1 r1) (nested_all I ks _ _ h2 r2)
end
theorem NDc.of (I : Inv X pins σ H s) {d : Addr} {n : Nat} {f : NestedKey → Option V} (D : NDc X.K X.w H d n f) : ∃ xs, s.heap.DictOfH (nestedKind X.prog X.w) d xs ∧ H d = some (ndo X.w d xs) ∧ (d == sysModules) = false ∧ xs.length ≤ n ∧ (xs.map (·.1)).Nodup ∧ (∀ x ∈ xs, Td X.K H (.ref x.2.1) x.1.data ∧ x.1.depth ≤ 8) ∧ ∀ k, RelO (f k) ((atKey xs k).map (·.2)) := by
  obtain ⟨xs, h1, h2, h3, h4, h5, h6⟩ := D
  obtain ⟨⟨o, es, ep, e1, e2, e3, e4⟩, _⟩ := (show ObjOk X.prog X.w H s.heap d (ndo X.w d xs) from I.hok d _ h1)
  exact ⟨xs, ⟨o, es, ep, e1, e2, e3, e4, fun x hx => ⟨nested_is I _ _ _ (h5 x hx).1 rfl, (h5 x hx).2⟩, h4⟩, h1, h2, h3, h4, h5, h6⟩
theorem ndo_ok {P : Program} {w : World} {H : Hp} {h : Heap} {d : Addr} {xs : List (NestedKey × Addr × Value)} (e : ∃ o es ep, h.get? d = some o ∧ o.ExactDict ∧ o.data = .dict es ep ∧ es.toList = xs.map (fun x => (⟨x.1.hash w, .ref x.2.1, x.2.2⟩ : DictEntry))) : ObjOk P w H h d (ndo w d xs) := by
  refine ⟨e, ?_, fun h1 h2 q k => ?_⟩
  · obtain ⟨o, _, _, e1, _⟩ := e
    exact ⟨o, e1⟩
  · obtain ⟨o, es, ep, e1, e2⟩ := q
    exact ⟨o, es, ep, k _ e1, e2⟩
end
theorem atKey_nil {k : NestedKey} : atKey ([] : List (NestedKey × Addr × Value)) k = none := rfl
theorem atKey_cons (x : NestedKey × Addr × Value) (r : List (NestedKey × Addr × Value)) (k : NestedKey) : atKey (x :: r) k = if x.1 = k then some x.2 else atKey r k := by
  unfold atKey
  rw [List.find?_cons]
  by_cases e : x.1 = k
  · rw [if_pos e, decide_eq_true e]
    rfl
  · rw [if_neg e, decide_eq_false e]
theorem atKey_snoc (r : List (NestedKey × Addr × Value)) (x : NestedKey × Addr × Value) (k : NestedKey) : atKey (r ++ [x]) k = (atKey r k).or (if x.1 = k then some x.2 else none) := by
  induction r with
  | nil =>
    rw [List.nil_append, atKey_cons, atKey_nil]
    rfl
  | cons y r ih =>
    rw [List.cons_append, atKey_cons, atKey_cons, ih]
    by_cases e : y.1 = k
    · rw [if_pos e, if_pos e]
      rfl
    · rw [if_neg e, if_neg e]
theorem atKey_put (k : NestedKey) (v : Value) (j : NestedKey) : ∀ r : List (NestedKey × Addr × Value), (atKey (r.map (putAt k v)) j).map (·.2) = if j = k then (atKey r j).map (fun _ => v) else (atKey r j).map (·.2)
  | [] => by
    rw [List.map_nil, atKey_nil]
    split <;> rfl
  | x :: r => by
    have ih := atKey_put k v j r
    rw [List.map_cons, atKey_cons, atKey_cons]
    have e1 : (putAt k v x).1 = x.1 := by unfold putAt; split <;> rfl
    rw [e1]
    by_cases e : x.1 = j
    · rw [if_pos e, if_pos e]
      by_cases f : j = k
      · rw [if_pos f]
        unfold putAt
        rw [if_pos (e.trans f)]
        rfl
      · rw [if_neg f]
        unfold putAt
        rw [if_neg (fun z => f (e.symm.trans z))]
    · rw [if_neg e, if_neg e]
      exact ih
theorem atKey_stored (r : List (NestedKey × Addr × Value)) (k : NestedKey) (b : Addr) (v : Value) (j : NestedKey) : (atKey (storedH r k b v) j).map (·.2) = if j = k then some v else (atKey r j).map (·.2) := by
  cases h : atKey r k with
  | none =>
    rw [storedH_new h, atKey_snoc]
    by_cases e : j = k
    · rw [if_pos e, e, h]
      show Option.map _ (if k = k then _ else _) = _
      rw [if_pos rfl]
      rfl
    · rw [if_neg e]
      show Option.map _ ((atKey r j).or (if k = j then _ else _)) = _
      rw [if_neg (fun z => e z.symm), Option.or_none]
  | some p =>
    rw [storedH_old h, atKey_put]
    by_cases e : j = k
    · rw [if_pos e, if_pos e, e, h]
      rfl
    · rw [if_neg e, if_neg e]
theorem stored_keys (r : List (NestedKey × Addr × Value)) (k : NestedKey) (b : Addr) (v : Value) (x : NestedKey × Addr × Value) (h : x ∈ storedH r k b v) : (∃ y ∈ r, x.1 = y.1 ∧ x.2.1 = y.2.1) ∨ (x.1 = k ∧ x.2.1 = b) := by
  cases e : atKey r k with
  | none =>
    rw [storedH_new e] at h
    rcases List.mem_append.mp h with h | h
    · exact .inl ⟨x, h, rfl, rfl⟩
    · rw [List.mem_singleton.mp h]
      exact .inr ⟨rfl, rfl⟩
  | some p =>
    rw [storedH_old e] at h
    obtain ⟨y, hy, rfl⟩ := List.mem_map.mp h
    refine .inl ⟨y, hy, ?_, ?_⟩ <;> (unfold putAt; split <;> rfl)
theorem stored_len (r : List (NestedKey × Addr × Value)) (k : NestedKey) (b : Addr) (v : Value) : (storedH r k b v).length ≤ r.length + 1 := by
  cases e : atKey r k with
  | none =>
    rw [storedH_new e, List.length_append]
    exact Nat.le_refl _
  | some p =>
    rw [storedH_old e, List.length_map]
    omega
/-! the rules -/
def tDNewN (K : PySem.W.Frag) (w : World) : TE := fun _ H Q => ∀ p H', H p = none → Same H H' → NDc K w H' p 0 (fun _ => none) → Q (.ref p) H'
def tDGetN (K : PySem.W.Frag) (w : World) (td ty : TE) : TE := fun σ H Q => td σ H fun x H1 => ty σ H1 fun y H2 => ∃ d n f k v, x = .ref d ∧ NDc K w H2 d n f ∧ Td K H2 y (NestedKey.data k) ∧ (∃ b, y = .ref b) ∧ k.depth ≤ 8 ∧ f k = some v ∧ Q v H2
def sDPutN (K : PySem.W.Frag) (w : World) (td ty tv : TE) : TS := fun D σ H => tv σ H fun v H1 => td σ H1 fun x H2 => ty σ H2 fun y H3 => ∃ d n f k, x = .ref d ∧ NDc K w H3 d n f ∧ n ≤ 100000 ∧ Td K H3 y (NestedKey.data k) ∧ (∃ b, y = .ref b) ∧ k.depth ≤ 8 ∧
  ∀ H4, (∀ a o, H3 a = some o → a ≠ d → H4 a = some o) → KT K H3 H4 → NDc K w H4 d (n + 1) (fun j => if j = k then some v else f j) → D.nx σ H4
theorem ext_tup {φ : Heap → Prop} {xs : List V} : HO.ext φ ≠ .tup xs := fun z => by cases z
section
variable {X : Cx} {K : PySem.W.Frag} {w : World} (hK : X.K = K) (hw : X.w = w)
include hK hw
theorem k_dnewN {pos : Pos} : PE X (.Dict [] [] pos) (tDNewN K w) := by
  subst hK hw
  constructor
  intro pins s σ H Q I want
  have n0 := I.hok.fresh (Nat.le_refl s.heap.objs.size)
  have big : (s.heap.objs.size == sysModules) = false := beq_eq_false_iff_ne.mpr (Ne.symm (Nat.ne_of_lt I.big))
  refine wpAny_Dict_empty ⟨.ref s.heap.objs.size, _, I.laid (a := s.heap.objs.size) (o := ndo X.w s.heap.objs.size []) (t' := s.toks) (fun _ _ q => Heap.get?_push_of_some _ q) (Nat.le_refl _) ?_, rfl, want _ _ n0 (same_upd n0) ⟨[], upd_same, big, Nat.le_refl _, List.nodup_nil, fun x hx => absurd hx List.not_mem_nil, fun k => ?_⟩⟩
  · exact ndo_ok ⟨_, #[], 0, Heap.get?_push_size _ rfl, ⟨rfl, rfl, rfl⟩, rfl, rfl⟩
  · exact True.intro
theorem k_dgetN {o i : Expr} {td ty : TE} {pos : Pos} (hu : X.A.units + 64 < cLine) (eo : PE X o td) (ei : PE X i ty) (hs : NoSl i) : PE X (.Subscript o i pos) (tDGetN K w td ty) := by
  subst hK hw
  constructor
  intro pins s σ H Q I want
  refine subD_of PySem.F.slot_dict_getitem.lookup hs (thn (eo.run pins s σ H _ I want) fun u sa za => ?_)
  obtain ⟨x, Ha, Ia, rx, want⟩ := za
  refine thn (ei.run pins sa σ Ha _ Ia want) fun iv sb zb => ?_
  obtain ⟨y, Hb, Ib, ry, d, n, f, k, v, rfl, D, tk, ⟨b, rfl⟩, hd, hf, want⟩ := zb
  cases (show u = Value.ref d from rx)
  cases (show iv = Value.ref b from ry)
  obtain ⟨xs, dd, h1, h2, h3, h4, h5, h6⟩ := D.of Ib
  obtain ⟨w', hw', rw'⟩ := RelO.some_of (v := v) (o := (atKey xs k).map (·.2)) (by rw [← hf]; exact h6 k)
  obtain ⟨p, hp, hp2⟩ := Option.map_eq_some_iff.mp hw'
  refine ⟨dd.typeIs, wpAny_getItem_heap (knd := nestedKind X.prog X.w) (k := k) ?_ ⟨nested_is Ib k _ _ tk rfl, hd⟩ dd hp ?_⟩
  · show X.A.in1.units + 8 < cLine
    have : X.A.in1.units = X.A.units + 1 := rfl
    omega
  · rw [hp2]
    exact ⟨v, Hb, Ib.tok _, rw', want⟩
theorem k_dputN {o i value : Expr} {td ty tv : TE} {pos pos' : Pos} (hu : X.A.units + 64 < cLine) (eo : PE X o td) (ei : PE X i ty) (ev : PE X value tv) (hs : swapsWith value (some (.Subscript o i pos')) pos.line X.env = pure false) :
    PS X (.Assign [.Subscript o i pos'] value pos) (sDPutN K w td ty tv) := by
  subst hK hw
  constructor
  intro pins s σ H D I want
  refine wpAny_Assign_Subscript (thn (ev.run pins s σ H _ I want) fun r sa za => ?_) hs
  obtain ⟨v, Ha, Ia, rv, want⟩ := za
  refine thn (eo.run pins sa σ Ha _ Ia want) fun u sb zb => ?_
  obtain ⟨x, Hb, Ib, rx, want⟩ := zb
  refine thn (ei.run pins sb σ Hb _ Ib want) fun iv sc zc => ?_
  obtain ⟨y, Hc, Ic, ry, d, n, f, k, rfl, ND, hn, tk, ⟨b, rfl⟩, hd, want⟩ := zc
  cases (show u = Value.ref d from rx)
  cases (show iv = Value.ref b from ry)
  obtain ⟨xs, dd, h1, h2, h3, h4, h5, h6⟩ := ND.of Ic
  have hz : xs.length ≤ sizeLine := by rw [sizeLine_eq]; omega
  refine wpAny_setItem_heap (knd := nestedKind X.prog X.w) (k := k) (hsz := hz) ?_ ⟨nested_is Ic k _ _ tk rfl, hd⟩ dd fun h' dd' hsb => ?_
  · show X.A.in1.units + 8 < cLine
    have : X.A.in1.units = X.A.units + 1 := rfl
    omega
  obtain ⟨q, es, ep, q1, q2, q3, q4, q5, q6⟩ := dd'
  have Id := d_write (t' := sc.toks + (nestedKind X.prog X.w).draws k) (ob := ndo X.w d (storedH xs k b r)) Ic (by rw [h1]; exact True.intro) hsb ⟨q, q1⟩ (ndo_ok ⟨q, es, ep, q1, q2, q3, q4⟩)
  have kt : KT X.K Hc (upd Hc d (ndo X.w d (storedH xs k b r))) := fun a ys z => by
    rcases z with (z | ⟨oo, z⟩) | z
    · exact .inl (.inl (by rw [upd_ne (ne_of z h1 (fun e => by cases e))]; exact z))
    · exact .inl (.inr ⟨oo, by rw [upd_ne (ne_of z h1 (fun e => by cases e))]; exact z⟩)
    · exact .inr z
  refine ⟨σ, _, Id, want _ (fun a oo z ne => by rw [upd_ne ne]; exact z) kt ⟨storedH xs k b r, upd_same, h2, ?_, q6, fun x hx => ?_, fun j => ?_⟩⟩
  · have := stored_len xs k b r
    omega
  · rcases stored_keys xs k b r x hx with ⟨y, hy, e1, e2⟩ | ⟨e1, e2⟩
    · rw [e1, e2]
      exact ⟨(h5 y hy).1.keep kt, (h5 y hy).2⟩
    · rw [e1, e2]
      exact ⟨tk.keep kt, hd⟩
  · rw [atKey_stored]
    show RelO (if j = k then some v else f j) _
    by_cases e : j = k
    · rw [if_pos e, if_pos e]
      exact rv
    · rw [if_neg e, if_neg e]
      exact h6 j
end
end Tl
/-! zip of three tuples -/
namespace Tl
open PySem PySem.Spec PyProof.Rows L2 RZ
/-- three tuples side by side, the items in new triples -/
def ItzT3 (K : PySem.W.Frag) (a b c : Addr) : It :=
  ⟨fun i H => ∃ (xs ys zs : List V) (x y z : V), SqT K H a xs ∧ SqT K H b ys ∧ SqT K H c zs ∧ xs[i]? = some x ∧ ys[i]? = some y ∧ zs[i]? = some z,
   fun i H v H' => ∃ T x y z, v = .ref T ∧ H T = none ∧ H' = upd H T (.tup [x, y, z]) ∧ (∀ xs, SqT K H a xs → xs[i]? = some x) ∧ (∀ ys, SqT K H b ys → ys[i]? = some y) ∧ ∀ zs, SqT K H c zs → zs[i]? = some z,
   fun i H => ∃ xs ys zs : List V, SqT K H a xs ∧ SqT K H b ys ∧ SqT K H c zs ∧ i = min (min xs.length ys.length) zs.length⟩
def Y3 (xs ys zs : Nat → Option V) : Nat → Hp → V → Hp → Prop := fun i H v H' => ∃ T x y z, v = .ref T ∧ H T = none ∧ H' = upd H T (.tup [x, y, z]) ∧ xs i = some x ∧ ys i = some y ∧ zs i = some z
theorem turn_zipT3 {P : Program} {w : World} {K : PySem.W.Frag} {elts : List Expr} {kk : Nat} {tpos : Pos} (N a b c : Addr) (la : a < N) (lb : b < N) (lc : c < N) :
    Turn P w K (.Tuple elts kk tpos) (ItzT3 K a b c) [(N + 5 : Nat), (N + 3 : Nat), (N + 4 : Nat), N, (N + 1 : Nat), (N + 2 : Nat)] (N + 5 : Nat) (fun i h => IsZip h (N + 5 : Nat) (N + 3 : Nat) (N + 4 : Nat) .none ∧ IsTupOf3 h (N + 3 : Nat) (.ref N) (.ref (N + 1 : Nat)) (.ref (N + 2 : Nat)) ∧ (∃ a1 a2 a3, IsTupOf3 h (N + 4 : Nat) a1 a2 a3) ∧ h.IsTupleIter N a i ∧ h.IsTupleIter (N + 1 : Nat) b i ∧ h.IsTupleIter (N + 2 : Nat) c i) where
  mem := List.mem_cons_self
  obj := by
    rintro i h ⟨g1, g2, ⟨a1, a2, a3, g3⟩, ⟨o1, e1, _, d1⟩, ⟨o2, e2, _, d2⟩, ⟨o3, e3, _, d3⟩⟩ q hq
    simp only [List.mem_cons, List.not_mem_nil, or_false] at hq
    rcases hq with z | z | z | z | z | z
    · rw [z]; exact ⟨_, g1, fun v y => nomatch y⟩
    · rw [z]; exact ⟨_, g2, fun v y => nomatch y⟩
    · rw [z]; exact ⟨_, g3, fun v y => nomatch y⟩
    · rw [z]; exact ⟨o1, e1, fun v y => by rw [d1] at y; cases y⟩
    · rw [z]; exact ⟨o2, e2, fun v y => by rw [d2] at y; cases y⟩
    · rw [z]; exact ⟨o3, e3, fun v y => by rw [d3] at y; cases y⟩
  keep := by
    rintro i h h' ⟨g1, g2, ⟨a1, a2, a3, g3⟩, i1, i2, i3⟩ k
    exact ⟨k _ (by simp) _ g1, k _ (by simp) _ g2, ⟨a1, a2, a3, k _ (by simp) _ g3⟩, i1.at fun o y => k _ (by simp) o y, i2.at fun o y => k _ (by simp) o y, i3.at fun o y => k _ (by simp) o y⟩
  item := by
    intro X hP hw hK hcalm i pins s σ H E I hf st hg
    subst hP hw hK
    obtain ⟨g1, g2, g3, i1, i2, i3⟩ := st
    obtain ⟨xs, ys, zs, x, y, z, q1, q2, q3, e1, e2, e3⟩ := hg
    obtain ⟨us1, rv1, p1, _⟩ := I.tuple q1
    obtain ⟨us2, rv2, p2, _⟩ := I.tuple q2
    obtain ⟨us3, rv3, p3, _⟩ := I.tuple q3
    obtain ⟨u1, f1, r1⟩ := rv1.get e1
    obtain ⟨u2, f2, r2⟩ := rv2.get e2
    obtain ⟨u3, f3, r3⟩ := rv3.get e3
    have n1 : i < us1.toArray.size := by rw [List.size_toArray]; exact (List.getElem?_eq_some_iff.mp f1).1
    have n2 : i < us2.toArray.size := by rw [List.size_toArray]; exact (List.getElem?_eq_some_iff.mp f2).1
    have n3 : i < us3.toArray.size := by rw [List.size_toArray]; exact (List.getElem?_eq_some_iff.mp f3).1
    have D1 := Draws.tuple (prog := X.prog) (w := X.w) (A := X.A.in1) (I.ok.hd hcalm) N a (Nat.ne_of_lt la) us1.toArray
    have D2 := Draws.tuple (prog := X.prog) (w := X.w) (A := X.A.in1) (I.ok.hd hcalm) (N + 1 : Nat) b (Nat.ne_of_lt (Nat.lt_succ_of_lt lb)) us2.toArray
    have D3 := Draws.tuple (prog := X.prog) (w := X.w) (A := X.A.in1) (I.ok.hd hcalm) (N + 2 : Nat) c (Nat.ne_of_lt (Nat.lt_succ_of_lt (Nat.lt_succ_of_lt lc))) us3.toArray
    have one : ∀ {t : Addr}, t < N → ∀ q ∈ [t], q < N := fun h q hq => by rw [List.mem_singleton.mp hq]; exact h
    have G := GoesN.zip3 (elts := elts) (x1 := kk) (pos := tpos) (zip_sep3 (one la) (one lb) (one lc)) D1 D2 D3
    refine G.goes i s (fun v s2 => ∃ x H', Inv X pins σ H' s2 ∧ RelV x v ∧ (ItzT3 X.K a b c).yld i H x H' ∧ _ ∧ ∀ q ∈ [(N + 5 : Nat), (N + 3 : Nat), (N + 4 : Nat), N, (N + 1 : Nat), (N + 2 : Nat)], H' q = none) E (by omega) ⟨g1, g2, g3, ⟨i1, p1⟩, ⟨i2, p2⟩, ⟨i3, p3⟩⟩ fun v h' tk hY st' hk htk => ?_
    obtain ⟨T, v1, v2, v3, rfl, hT, w1, w2, w3, hTt⟩ := hY
    have e1' : us1[i]? = some v1 := by simpa using w1
    have e2' : us2[i]? = some v2 := by simpa using w2
    have e3' : us3[i]? = some v3 := by simpa using w3
    rw [f1] at e1'
    rw [f2] at e2'
    rw [f3] at e3'
    cases e1'
    cases e2'
    cases e3'
    obtain ⟨k1, k2, k3, ⟨k4, _⟩, ⟨k5, _⟩, ⟨k6, _⟩⟩ := st'
    have new : ObjOk X.prog X.w (upd H T (.tup [x, y, z])) h' T (.tup [x, y, z]) := ⟨by show 3 ≤ sizeLine; decide, [u1, u2, u3], .cons r1 (.cons r2 (.cons r3 .nil)), hTt⟩
    have hlt : ∀ q ∈ [(N + 5 : Nat), (N + 3 : Nat), (N + 4 : Nat), N, (N + 1 : Nat), (N + 2 : Nat)], q < s.heap.objs.size := fun q hq => by
      simp only [List.mem_cons, List.not_mem_nil, or_false] at hq
      obtain ⟨a1, a2, a3, g3⟩ := g3
      rcases hq with z | z | z | z | z | z
      · rw [z]; exact Heap.lt_size g1
      · rw [z]; exact Heap.lt_size g2
      · rw [z]; exact Heap.lt_size g3
      · rw [z]; obtain ⟨_, y, _⟩ := i1; exact Heap.lt_size y
      · rw [z]; obtain ⟨_, y, _⟩ := i2; exact Heap.lt_size y
      · rw [z]; obtain ⟨_, y, _⟩ := i3; exact Heap.lt_size y
    refine ⟨.ref T, upd H T (.tup [x, y, z]), I.turnedNew (t' := tk) (ch := [(N + 5 : Nat), (N + 3 : Nat), (N + 4 : Nat), N, (N + 1 : Nat), (N + 2 : Nat)]) (fun q o hq e => hk q o (fun m => hq ?_) e) hf hT new, rfl, ⟨T, x, y, z, rfl, I.hok.fresh hT, rfl, fun l hl => ?_, fun l hl => ?_, fun l hl => ?_⟩, ⟨k1, k2, k3, k4, k5, k6⟩, fun q hq => ?_⟩
    · simp only [List.mem_cons, List.not_mem_nil, or_false] at m ⊢
      rcases m with m | m | m | m | m
      · exact .inl m
      · exact .inr (.inr (.inl m))
      · exact .inr (.inr (.inr (.inl m)))
      · exact .inr (.inr (.inr (.inr (.inl m))))
      · exact .inr (.inr (.inr (.inr (.inr m))))
    · rw [I.tuple_inj hl q1]
      exact e1
    · rw [I.tuple_inj hl q2]
      exact e2
    · rw [I.tuple_inj hl q3]
      exact e3
    · rw [upd_ne (Nat.ne_of_lt (Nat.lt_of_lt_of_le (hlt q hq) hT))]
      exact (hf q hq).1
  done := by
    intro X hP hw hK hcalm i pins s σ H E I hf st hg
    subst hP hw hK
    obtain ⟨g1, g2, g3, i1, i2, i3⟩ := st
    obtain ⟨xs, ys, zs, q1, q2, q3, hi⟩ := hg
    obtain ⟨us1, rv1, p1, _⟩ := I.tuple q1
    obtain ⟨us2, rv2, p2, _⟩ := I.tuple q2
    obtain ⟨us3, rv3, p3, _⟩ := I.tuple q3
    have D1 := Draws.tuple (prog := X.prog) (w := X.w) (A := X.A.in1) (I.ok.hd hcalm) N a (Nat.ne_of_lt la) us1.toArray
    have D2 := Draws.tuple (prog := X.prog) (w := X.w) (A := X.A.in1) (I.ok.hd hcalm) (N + 1 : Nat) b (Nat.ne_of_lt (Nat.lt_succ_of_lt lb)) us2.toArray
    have D3 := Draws.tuple (prog := X.prog) (w := X.w) (A := X.A.in1) (I.ok.hd hcalm) (N + 2 : Nat) c (Nat.ne_of_lt (Nat.lt_succ_of_lt (Nat.lt_succ_of_lt lc))) us3.toArray
    have one : ∀ {t : Addr}, t < N → ∀ q ∈ [t], q < N := fun h q hq => by rw [List.mem_singleton.mp hq]; exact h
    have G := GoesN.zip3 (elts := elts) (x1 := kk) (pos := tpos) (zip_sep3 (one la) (one lb) (one lc)) D1 D2 D3
    have hn : i = min (min us1.toArray.size us2.toArray.size) us3.toArray.size := by
      rw [hi, rv1.length, rv2.length, rv3.length, List.size_toArray, List.size_toArray, List.size_toArray]
    rw [hn] at i1 i2 i3
    refine G.stops s (fun s1 => Inv X pins σ H s1) E ⟨g1, g2, g3, ⟨i1, p1⟩, ⟨i2, p2⟩, ⟨i3, p3⟩⟩ fun h' tk hk htk => ?_
    refine I.turnedL (t' := tk) (ch := [(N + 5 : Nat), (N + 3 : Nat), (N + 4 : Nat), N, (N + 1 : Nat), (N + 2 : Nat)]) (fun q o hq e => hk q o (fun m => hq ?_) e) hf
    simp only [List.mem_cons, List.not_mem_nil, or_false] at m ⊢
    rcases m with m | m | m | m | m
    · exact .inl m
    · exact .inr (.inr (.inl m))
    · exact .inr (.inr (.inr (.inl m)))
    · exact .inr (.inr (.inr (.inr (.inl m))))
    · exact .inr (.inr (.inr (.inr (.inr m))))
  self := fun A i s Q E st h => wpAny_pyIter_zip st.1 h
def iZip3 (K : PySem.W.Frag) (ta : TA) : TI := fun σ H R => ta σ H fun vs H1 => ∃ a b c xs ys zs, vs = [.ref a, .ref b, .ref c] ∧ SqT K H1 a xs ∧ SqT K H1 b ys ∧ SqT K H1 c zs ∧ R (ItzT3 K a b c) H1
section
variable {X : Cx} {K : PySem.W.Frag} (hK : X.K = K)
include hK
theorem k_zip3 {e1 e2 e3 : Expr} {ta : TA} {p pos tpos : Pos} {elts : List Expr} {kk : Nat} (hg : Gl X "zip") (hm : X.mg "zip" = none) (ha : PA X [e1, e2, e3] ta)
    (hs : starEach [e1, e2, e3] X.env = (false, eval e1 X.env) :: starEach [e2, e3] X.env := by rfl) (hpl : (backTo pos (starEach [e2, e3] X.env)).any (·.1) = false := by rfl) :
    PI X (.Tuple elts kk tpos) (.Call (.Name "zip" p) [e1, e2, e3] [] pos) (iZip3 K ta) := by
  subst hK
  constructor
  intro pins s σ H R I want
  refine Call_ (ld_blt I hg hm PyProof.Rows.boot_zip (PyProof.Rows.callWith_type1 (thn (ha.run pos pins s σ H _ I want) fun us sa za => ?_) hs hpl))
  obtain ⟨vs, Ha, Ia, rs, a, b, c, xs, ys, zs, rfl, qa, qb, qc, want⟩ := za
  obtain ⟨u1, u2, u3, rfl, r1, r2, r3⟩ : ∃ u1 u2 u3, us = [u1, u2, u3] ∧ RelV (.ref a) u1 ∧ RelV (.ref b) u2 ∧ RelV (.ref c) u3 := by
    cases rs with
    | cons r1 rs =>
      cases rs with
      | cons r2 rs =>
        cases rs with
        | cons r3 rs =>
          cases rs
          exact ⟨_, _, _, rfl, r1, r2, r3⟩
  cases r1
  cases r2
  cases r3
  obtain ⟨us1, rv1, p1, _⟩ := Ia.tuple qa
  obtain ⟨us2, rv2, p2, _⟩ := Ia.tuple qb
  obtain ⟨us3, rv3, p3, _⟩ := Ia.tuple qc
  obtain ⟨o1, h1, _⟩ := id p1
  obtain ⟨o2, h2, _⟩ := id p2
  obtain ⟨o3, h3, _⟩ := id p3
  refine zip_begins3 (begins_tuple a us1.toArray) (begins_tuple b us2.toArray) (begins_tuple c us3.toArray) p1 p2 p3 fun h' gz gT gO g1 g2 g3 hsz hk => wpAny_pyIter_zip gz ?_
  have Ib : Inv X pins σ Ha { sa with heap := h' } := Ia.kept (t' := sa.toks) hk
  refine ⟨_, _, _, _, Ha, rfl, Ib, turn_zipT3 sa.heap.objs.size a b c (Heap.lt_size h1) (Heap.lt_size h2) (Heap.lt_size h3), ⟨gz, gT, ⟨_, _, _, gO⟩, ⟨_, g1, rfl, rfl⟩, ⟨_, g2, rfl, rfl⟩, ⟨_, g3, rfl, rfl⟩⟩, fun q hq => ?_, want⟩
  have hle : sa.heap.objs.size ≤ q := by
    simp only [List.mem_cons, List.not_mem_nil, or_false] at hq
    rcases hq with z | z | z | z | z | z
    · rw [z]; exact Nat.le_add_right _ _
    · rw [z]; exact Nat.le_add_right _ _
    · rw [z]; exact Nat.le_add_right _ _
    · rw [z]; exact Nat.le_refl _
    · rw [z]; exact Nat.le_add_right _ _
    · rw [z]; exact Nat.le_add_right _ _
  exact Ia.fpOk hle (Ia.hok.fresh hle)
end
theorem walk_zip3 {K : PySem.W.Frag} {a b c : Addr} {xs ys zs : List V} {n : Nat} (h1 : xs.length = n) (h2 : ys.length = n) (h3 : zs.length = n) : Walk (ItzT3 K a b c) n (fun H => SqT K H a xs ∧ SqT K H b ys ∧ SqT K H c zs) (Y3 (fun i => xs[i]?) (fun i => ys[i]?) (fun i => zs[i]?)) := by
  refine ⟨fun i _ hi q => ⟨xs, ys, zs, xs[i]'(by omega), ys[i]'(by omega), zs[i]'(by omega), q.1, q.2.1, q.2.2, List.getElem?_eq_getElem _, List.getElem?_eq_getElem _, List.getElem?_eq_getElem _⟩, fun _ q => ⟨xs, ys, zs, q.1, q.2.1, q.2.2, by omega⟩, fun i H v H' _ q y => ?_⟩
  obtain ⟨T, x, y, z, e1, e2, e3, f1, f2, f3⟩ := y
  exact ⟨T, x, y, z, e1, e2, e3, f1 xs q.1, f2 ys q.2.1, f3 zs q.2.2⟩
end Tl
namespace Tl
open PySem PySem.Spec PyProof.Rows L2 RZ
/-! ### fractions of bounded size -/
def Bd (r : Rat) (m : Nat) : Prop := -(m : Rat) ≤ r ∧ r ≤ (m : Rat)
theorem le2 {a b c d : Rat} (h1 : a ≤ b) (h2 : c ≤ d) : a + c ≤ b + d := Rat.le_trans (Rat.add_le_add_right.mpr h1) (Rat.add_le_add_left.mpr h2)
theorem bd_add {r s : Rat} {m n : Nat} (h : Bd r m) (k : Bd s n) : Bd (r + s) (m + n) := by
  unfold Bd
  rw [Rat.natCast_add, Rat.neg_add]
  exact ⟨le2 h.1 k.1, le2 h.2 k.2⟩
theorem bd_mono {r : Rat} {m n : Nat} (h : Bd r m) (l : m ≤ n) : Bd r n := by
  have z : (m : Rat) ≤ (n : Rat) := Rat.natCast_le_natCast.mpr l
  exact ⟨Rat.le_trans (Rat.neg_le_neg z) h.1, Rat.le_trans h.2 z⟩
theorem bd_zero {m : Nat} : Bd 0 m := by
  have z : (0 : Rat) ≤ (m : Rat) := Rat.natCast_nonneg
  exact ⟨by have := Rat.neg_le_neg z; rw [Rat.neg_zero] at this; exact this, z⟩
theorem bd_mul {c r : Rat} {m : Nat} (h0 : 0 ≤ c) (h1 : c ≤ 1) (h : Bd r m) : Bd (c * r) m := by
  have z : (0 : Rat) ≤ (m : Rat) := Rat.natCast_nonneg
  have e1 : c * (m : Rat) ≤ m := by
    have := Rat.mul_le_mul_of_nonneg_right h1 z
    rw [Rat.one_mul] at this
    exact this
  have u := Rat.mul_le_mul_of_nonneg_left h.2 h0
  have l := Rat.mul_le_mul_of_nonneg_left h.1 h0
  rw [Rat.mul_neg] at l
  exact ⟨Rat.le_trans (Rat.neg_le_neg e1) l, Rat.le_trans u e1⟩
theorem bd_ch {e : Nat} {r : Rat} (h : Ch e r) : Bd r 1 := by
  have z : (((1 : Nat) : Rat)) = 1 := rfl
  refine ⟨?_, by rw [z]; exact h.2.1⟩
  rw [z]
  exact Rat.le_trans (by decide) h.1
theorem bd_num {r : Rat} {m : Nat} (h : Bd r m) : r.num.natAbs ≤ m * r.den := by
  have a := (Rat.le_iff _ _).mp h.1
  have b := (Rat.le_iff _ _).mp h.2
  rw [Rat.neg_num, Rat.neg_den, Rat.num_natCast, Rat.den_natCast] at a
  rw [Rat.num_natCast, Rat.den_natCast] at b
  have c : ((m * r.den : Nat) : Int) = (m : Int) * (r.den : Int) := Int.natCast_mul _ _
  rw [Int.neg_mul] at a
  omega
/-- the bottom divides the k-th power, at most m either way -/
def Fd (k m : Nat) (r : Rat) : Prop := r.den ∣ LL ^ k ∧ Bd r m
theorem add_den_dvd {a b : Rat} {D : Nat} (h1 : a.den ∣ D) (h2 : b.den ∣ D) (hD : 0 < D) : (a + b).den ∣ D := by
  rw [← fr_frN hD h1, ← fr_frN hD h2, fr_add hD]
  exact mk_den_dvd hD
theorem Fd.add {k m n : Nat} {r s : Rat} (h : Fd k m r) (g : Fd k n s) : Fd k (m + n) (r + s) := ⟨add_den_dvd h.1 g.1 (ll_pos k), bd_add h.2 g.2⟩
theorem Fd.mono {k k' m m' : Nat} {r : Rat} (h : Fd k m r) (l : k ≤ k') (l' : m ≤ m') : Fd k' m' r := ⟨Nat.dvd_trans h.1 (ll_mono l), bd_mono h.2 l'⟩
theorem Fd.mul {e k m : Nat} {c r : Rat} (hc : Ch e c) (h : Fd k m r) : Fd (e + k) m (c * r) := by
  refine ⟨Nat.dvd_trans (mul_den_dvd _ _) ?_, bd_mul hc.1 hc.2.1 h.2⟩
  rw [Nat.pow_add]
  exact Nat.mul_dvd_mul hc.2.2 h.1
theorem Ch.prod {e f : Nat} {c d : Rat} (hc : Ch e c) (hd : Ch f d) : Ch (e + f) (c * d) := by
  refine ⟨Rat.mul_nonneg hc.1 hd.1, ?_, ?_⟩
  · have := Rat.mul_le_mul_of_nonneg_left hd.2.1 hc.1
    rw [Rat.mul_one] at this
    exact Rat.le_trans this hc.2.1
  · rw [Nat.pow_add]
    exact Nat.dvd_trans (mul_den_dvd _ _) (Nat.mul_dvd_mul hc.2.2 hd.2.2)
theorem fd_zero {k m : Nat} : Fd k m 0 := ⟨Nat.one_dvd _, bd_zero⟩
theorem Ch.fd {e : Nat} {r : Rat} (h : Ch e r) : Fd e 1 r := ⟨h.2.2, bd_ch h⟩
theorem Fd.den {k m : Nat} {r : Rat} (h : Fd k m r) : r.den ≤ LL ^ k := Nat.le_of_dvd (ll_pos k) h.1
theorem Fd.num {k m : Nat} {r : Rat} (h : Fd k m r) : r.num.natAbs ≤ m * LL ^ k := Nat.le_trans (bd_num h.2) (Nat.mul_le_mul_left m h.den)
theorem ll_big {k m : Nat} (hk : k ≤ 15) (hm : m ≤ 2 ^ 100) : m * LL ^ k < 2 ^ 1500 := by
  have a : LL ^ k ≤ 2 ^ 1335 := ll_small (by omega)
  have b := Nat.mul_le_mul hm a
  rw [← Nat.pow_add] at b
  exact Nat.lt_of_le_of_lt b (Nat.pow_lt_pow_right (by decide) (by decide))
theorem Fd.sm {k m : Nat} {r : Rat} (h : Fd k m r) (hk : k ≤ 15) (hm : m ≤ 2 ^ 100) : Sm r := by
  refine ⟨?_, Nat.lt_of_le_of_lt h.num (ll_big hk hm)⟩
  have := ll_big (m := 1) hk (Nat.one_le_two_pow)
  rw [Nat.one_mul] at this
  exact Nat.lt_of_le_of_lt h.den this
theorem fd_sum {k m : Nat} : ∀ {rs : List Rat}, (∀ r ∈ rs, Fd k m r) → Fd k (rs.length * m) (fsum rs)
  | [], _ => fd_zero
  | r :: rs, h => by
    rw [fsum_cons, List.length_cons, Nat.add_mul, Nat.one_mul, Nat.add_comm]
    exact (h r (List.mem_cons_self ..)).add (fd_sum fun x hx => h x (List.mem_cons_of_mem _ hx))
theorem frN_absM {D m : Nat} {r : Rat} (h : r.den ∣ D) (hb : Bd r m) : (frN D r).natAbs ≤ m * D := by
  have n1 := bd_num hb
  unfold frN
  rw [Int.natAbs_mul, Int.natAbs_natCast]
  have := Nat.mul_le_mul_right (D / r.den) n1
  rw [Nat.mul_assoc, Nat.mul_div_cancel' h] at this
  exact this
theorem frNs_absM {D m : Nat} : ∀ {rs : List Rat}, (∀ r ∈ rs, r.den ∣ D ∧ Bd r m) → abssum (rs.map (frN D)) ≤ rs.length * (m * D)
  | [], _ => by
    rw [List.length_nil, Nat.zero_mul]
    exact Nat.le_refl 0
  | r :: rs, h => by
    rw [List.map_cons, abssum_cons, List.length_cons, Nat.add_mul, Nat.one_mul]
    obtain ⟨a, b⟩ := h r (List.mem_cons_self ..)
    have := frN_absM a b
    have := frNs_absM fun x hx => h x (List.mem_cons_of_mem _ hx)
    omega
/-- a sum of such fractions, as total wants it -/
theorem tot_fd {k m : Nat} {rs : List Rat} (h : ∀ r ∈ rs, Fd k m r) (hk : k ≤ 14) (hm : rs.length * m ≤ 2 ^ 100) : ((rs.map (frN (LL ^ k))).map (fr (LL ^ k)) = rs) ∧ 0 < LL ^ k ∧ LL ^ k < 2 ^ 1500 ∧ abssum (rs.map (frN (LL ^ k))) < 2 ^ 1500 := by
  refine ⟨frs_frN (ll_pos k) fun r hr => (h r hr).1, ll_pos k, ll_lt1500 (by omega), Nat.lt_of_le_of_lt (frNs_absM h) ?_⟩
  rw [← Nat.mul_assoc]
  exact ll_big (by omega) hm
/-! ### tables -/
def Tb : Nat → Type
  | 0 => Unit
  | n + 1 => List (Rat × List (List Rat × Tb n))
abbrev Rw (n : Nat) : Type := List Rat × Tb n
abbrev Ask (n : Nat) : Type := Rat × List (Rw n)
def tbD : (n : Nat) → Tb n → PyData
  | 0, _ => .tuple []
  | n + 1, xs => .tuple ((show List (Ask n) from xs).map fun x => .tuple [rD x.1, .tuple (x.2.map fun r => .tuple [wsD r.1, tbD n r.2])])
def rwD (n : Nat) (r : Rw n) : PyData := .tuple [wsD r.1, tbD n r.2]
def rwsD (n : Nat) (rs : List (Rw n)) : PyData := .tuple (rs.map (rwD n))
def askD (n : Nat) (x : Ask n) : PyData := .tuple [rD x.1, rwsD n x.2]
theorem tbD_succ (n : Nat) (xs : List (Ask n)) : tbD (n + 1) xs = .tuple (xs.map (askD n)) := rfl
structure PaysOk (W : Nat) (ps : List Rat) : Prop where
  len : ps.length = W
  fd : ∀ p ∈ ps, Fd 1 4 p
/-- two lists of one length, place by place -/
inductive Al {α β : Type} (R : α → β → Prop) : List α → List β → Prop
  | nil : Al R [] []
  | cons {a : α} {b : β} {as : List α} {bs : List β} : R a b → Al R as bs → Al R (a :: as) (b :: bs)
theorem Al.len {α β : Type} {R : α → β → Prop} : ∀ {as : List α} {bs : List β}, Al R as bs → as.length = bs.length
  | _, _, .nil => rfl
  | _, _, .cons _ t => congrArg (· + 1) (Al.len t)
theorem Al.get {α β : Type} {R : α → β → Prop} : ∀ {as : List α} {bs : List β} {i : Nat} {a : α}, Al R as bs → as[i]? = some a → ∃ b, bs[i]? = some b ∧ R a b
  | _, _, _, _, .nil, e => by simp at e
  | _, _, 0, _, .cons h _, e => by
    simp at e
    subst e
    exact ⟨_, rfl, h⟩
  | _, _, i + 1, a, .cons _ t, e => by
    obtain ⟨b, h1, h2⟩ := Al.get (i := i) (a := a) t (by simpa using e)
    exact ⟨b, by simpa using h1, h2⟩
theorem Al.imp {α β : Type} {R S : α → β → Prop} (h : ∀ a b, R a b → S a b) : ∀ {as : List α} {bs : List β}, Al R as bs → Al S as bs
  | _, _, .nil => .nil
  | _, _, .cons x t => .cons (h _ _ x) (Al.imp h t)
theorem Al.snoc {α β : Type} {R : α → β → Prop} {a : α} {b : β} (h : R a b) : ∀ {as : List α} {bs : List β}, Al R as bs → Al R (as ++ [a]) (bs ++ [b])
  | _, _, .nil => .cons h .nil
  | _, _, .cons x t => .cons x (Al.snoc h t)
theorem Al.of {α β : Type} {R : α → β → Prop} : ∀ {as : List α} {bs : List β}, as.length = bs.length → (∀ (i : Nat) (a : α) (b : β), as[i]? = some a → bs[i]? = some b → R a b) → Al R as bs
  | [], [], _, _ => .nil
  | [], _ :: _, e, _ => by simp at e
  | _ :: _, [], e, _ => by simp at e
  | a :: as, b :: bs, e, h => .cons (h 0 a b rfl rfl) (Al.of (by simpa using e) fun i x y h1 h2 => h (i + 1) x y (by simpa using h1) (by simpa using h2))
/-- a table for a node -/
def TbOk (W : Nat) : (n : Nat) → Nd n → Tb n → Prop
  | 0, _, _ => True
  | n + 1, qs, xs => (∀ x ∈ (show List (Ask n) from xs), Ch 1 x.1) ∧ fsum ((show List (Ask n) from xs).map (·.1)) ≤ 1 ∧ Al (fun (q : Qn n) (x : Ask n) => Al (fun (a : An n) (r : Rw n) => PaysOk W r.1 ∧ TbOk W n a.2.2 r.2) q x.2) qs xs
/-! ### what is paid -/
def dot3 : List Rat → List Rat → List Rat → List Rat
  | p :: ps, w :: ws, y :: ys => p * w * y :: dot3 ps ws ys
  | _, _, _ => []
def payF (prior ws ps : List Rat) : Rat := fsum (dot3 prior ws ps)
def paidT (prior : List Rat) : (n : Nat) → Nd n → Tb n → Rat
  | 0, _, _ => 0
  | n + 1, qs, xs => fsum (List.zipWith (fun (q : Qn n) (x : Ask n) => x.1 * fsum (List.zipWith (fun (a : An n) (r : Rw n) => payF prior a.2.1 r.1 + paidT prior n a.2.2 r.2) q x.2)) qs xs)
def paidA (prior : List Rat) (n : Nat) (a : An n) (r : Rw n) : Rat := payF prior a.2.1 r.1 + paidT prior n a.2.2 r.2
def paidQ (prior : List Rat) (n : Nat) (q : Qn n) (x : Ask n) : Rat := x.1 * fsum (List.zipWith (paidA prior n) q x.2)
theorem paidT_succ (prior : List Rat) (n : Nat) (qs : List (Qn n)) (xs : List (Ask n)) : paidT prior (n + 1) qs xs = fsum (List.zipWith (paidQ prior n) qs xs) := rfl
theorem dot3_len : ∀ {W : Nat} {a b c : List Rat}, a.length = W → b.length = W → c.length = W → (dot3 a b c).length = W
  | 0, [], [], [], _, _, _ => rfl
  | W + 1, x :: a, y :: b, z :: c, h1, h2, h3 => congrArg (· + 1) (dot3_len (W := W) (by simpa using h1) (by simpa using h2) (by simpa using h3))
theorem dot3_at : ∀ {a b c : List Rat} {i : Nat} {x y z : Rat}, a[i]? = some x → b[i]? = some y → c[i]? = some z → (dot3 a b c)[i]? = some (x * y * z)
  | [], _, _, _, _, _, _, h, _, _ => by simp at h
  | _ :: _, [], _, _, _, _, _, _, h, _ => by simp at h
  | _ :: _, _ :: _, [], _, _, _, _, _, _, h => by simp at h
  | x :: a, y :: b, z :: c, 0, _, _, _, h1, h2, h3 => by
    cases h1
    cases h2
    cases h3
    rfl
  | x :: a, y :: b, z :: c, i + 1, x', y', z', h1, h2, h3 => by
    have := dot3_at (a := a) (b := b) (c := c) (i := i) (x := x') (y := y') (z := z') (by simpa using h1) (by simpa using h2) (by simpa using h3)
    simpa [dot3] using this
theorem dot3_mem {a b c : List Rat} {r : Rat} (h : r ∈ dot3 a b c) : ∃ x ∈ a, ∃ y ∈ b, ∃ z ∈ c, r = x * y * z := by
  induction a generalizing b c with
  | nil => exact absurd h (by simp [dot3])
  | cons x a ih =>
    cases b with
    | nil => exact absurd h (by simp [dot3])
    | cons y b =>
      cases c with
      | nil => exact absurd h (by simp [dot3])
      | cons z c =>
        rcases List.mem_cons.mp h with rfl | h
        · exact ⟨x, List.mem_cons_self .., y, List.mem_cons_self .., z, List.mem_cons_self .., rfl⟩
        · obtain ⟨x', h1, y', h2, z', h3, e⟩ := ih h
          exact ⟨x', List.mem_cons_of_mem _ h1, y', List.mem_cons_of_mem _ h2, z', List.mem_cons_of_mem _ h3, e⟩
/-- a prior -/
structure PriorOk (W : Nat) (p : List Rat) : Prop where
  len : p.length = W
  ch : ∀ r ∈ p, Ch 1 r
  one : fsum p = 1
theorem dot3_fd {W : Nat} {p ws ps : List Rat} (hp : PriorOk W p) (hw : ∀ r ∈ ws, Ch 6 r) (hy : ∀ r ∈ ps, Fd 1 4 r) : ∀ r ∈ dot3 p ws ps, Fd 8 4 r := fun r hr => by
  obtain ⟨x, hx, y, hy', z, hz, rfl⟩ := dot3_mem hr
  exact Fd.mul ((hp.ch x hx).prod (hw y hy')) (hy z hz)
theorem payF_fd {W : Nat} {p ws ps : List Rat} (hp : PriorOk W p) (h5 : W ≤ 5) (hl : ws.length = W) (hw : ∀ r ∈ ws, Ch 6 r) (hy : PaysOk W ps) : Fd 8 20 (payF p ws ps) := by
  have z := fd_sum (dot3_fd hp hw hy.fd)
  rw [dot3_len hp.len hl hy.len] at z
  exact z.mono (Nat.le_refl _) (by omega)
/-- how much at most -/
def MB : Nat → Nat
  | 0 => 0
  | n + 1 => 60 * (20 + MB n)
theorem mb_le : ∀ n, n ≤ 9 → MB n ≤ 2 ^ 70 := by
  intro n h
  have h' : ∀ k : Fin 10, MB k.val ≤ 2 ^ 70 := by decide +kernel
  exact h' ⟨n, by omega⟩
theorem zip_fd {α β : Type} {f : α → β → Rat} {R : α → β → Prop} {k m : Nat} (h : ∀ a b, R a b → Fd k m (f a b)) : ∀ {as : List α} {bs : List β}, Al R as bs → ∀ r ∈ List.zipWith f as bs, Fd k m r
  | _, _, .nil, r, hr => by simp at hr
  | _, _, .cons x t, r, hr => by
    rw [List.zipWith_cons_cons] at hr
    rcases List.mem_cons.mp hr with rfl | hr
    · exact h _ _ x
    · exact zip_fd h t r hr
theorem zip_len {α β γ : Type} {f : α → β → γ} {R : α → β → Prop} : ∀ {as : List α} {bs : List β}, Al R as bs → (List.zipWith f as bs).length = as.length
  | _, _, .nil => rfl
  | _, _, .cons _ t => by
    rw [List.zipWith_cons_cons, List.length_cons, List.length_cons, zip_len t]
theorem zip_at {α β γ : Type} {f : α → β → γ} {as : List α} {bs : List β} {i : Nat} {a : α} {b : β} (h1 : as[i]? = some a) (h2 : bs[i]? = some b) : (List.zipWith f as bs)[i]? = some (f a b) := by
  rw [List.getElem?_zipWith, h1, h2]
theorem Al.mem {α β : Type} {R : α → β → Prop} {as : List α} {bs : List β} (h : Al R as bs) : Al (fun a b => a ∈ as ∧ b ∈ bs ∧ R a b) as bs := Al.of h.len fun i a b h1 h2 => by
  obtain ⟨b', e1, e2⟩ := h.get h1
  rw [h2] at e1
  cases e1
  exact ⟨List.mem_of_getElem? h1, List.mem_of_getElem? h2, e2⟩
/-- what each part is worth: in bounds -/
theorem paidA_fd0 {W : Nat} {prior : List Rat} (hp : PriorOk W prior) (h5 : W ≤ 5) {n : Nat} (ih : ∀ (ahead : List Rat) (t : Nd n) (tb : Tb n), NdOk W n ahead t → TbOk W n t tb → Fd (8 + n) (MB n) (paidT prior n t tb)) {ahead : List Rat} {q : Qn n} {rs : List (Rw n)} (qok : QnOk W ahead q) (nok : ∀ a ∈ q, NdOk W n a.2.1 a.2.2) (hal : Al (fun (a : An n) (r : Rw n) => PaysOk W r.1 ∧ TbOk W n a.2.2 r.2) q rs) : ∀ z ∈ List.zipWith (paidA prior n) q rs, Fd (8 + n) (20 + MB n) z := by
  refine zip_fd (fun a r ⟨ha, _, hpay, htb⟩ => ?_) hal.mem
  have f1 := payF_fd hp h5 (qok.wide a ha) (qok.chs a ha) hpay
  have f2 := ih _ _ _ (nok a ha) htb
  exact (f1.mono (by omega) (Nat.le_refl _)).add f2
theorem paidQ_fd0 {W : Nat} {prior : List Rat} (hp : PriorOk W prior) (h5 : W ≤ 5) {n : Nat} (ih : ∀ (ahead : List Rat) (t : Nd n) (tb : Tb n), NdOk W n ahead t → TbOk W n t tb → Fd (8 + n) (MB n) (paidT prior n t tb)) {ahead : List Rat} {qs : List (Qn n)} {xs : List (Ask n)} (ok : NdOk W (n + 1) ahead qs) (c1 : ∀ x ∈ xs, Ch 1 x.1) (al : Al (fun (q : Qn n) (x : Ask n) => Al (fun (a : An n) (r : Rw n) => PaysOk W r.1 ∧ TbOk W n a.2.2 r.2) q x.2) qs xs) : ∀ z ∈ List.zipWith (paidQ prior n) qs xs, Fd (8 + (n + 1)) (12 * (20 + MB n)) z := by
  refine zip_fd (fun q x ⟨hq, hx, hal⟩ => ?_) al.mem
  have s := fd_sum (paidA_fd0 hp h5 ih (ok.2 q hq).1 (ok.2 q hq).2 hal)
  rw [zip_len hal] at s
  have o12 := (ok.2 q hq).1.most
  have := Fd.mul (c1 x hx) (s.mono (Nat.le_refl _) (Nat.mul_le_mul_right _ o12))
  exact this.mono (by omega) (Nat.le_refl _)
theorem paid_fd {W : Nat} {prior : List Rat} (hp : PriorOk W prior) (h5 : W ≤ 5) : ∀ (n : Nat) (ahead : List Rat) (t : Nd n) (tb : Tb n), NdOk W n ahead t → TbOk W n t tb → Fd (8 + n) (MB n) (paidT prior n t tb)
  | 0, _, _, _, _, _ => fd_zero
  | n + 1, ahead, qs, xs, ok, tok => by
    show Fd (8 + (n + 1)) (MB (n + 1)) (fsum (List.zipWith (paidQ prior n) (show List (Qn n) from qs) (show List (Ask n) from xs)))
    have z := fd_sum (paidQ_fd0 hp h5 (paid_fd hp h5 n) ok tok.1 tok.2.2)
    rw [zip_len tok.2.2] at z
    refine z.mono (Nat.le_refl _) ?_
    have l5 : (show List (Qn n) from qs).length ≤ 5 := ok.1
    show (show List (Qn n) from qs).length * (12 * (20 + MB n)) ≤ 60 * (20 + MB n)
    have := Nat.mul_le_mul_right (12 * (20 + MB n)) l5
    omega
theorem paidA_fd {W : Nat} {prior : List Rat} (hp : PriorOk W prior) (h5 : W ≤ 5) {n : Nat} {ahead : List Rat} {q : Qn n} {rs : List (Rw n)} (qok : QnOk W ahead q) (nok : ∀ a ∈ q, NdOk W n a.2.1 a.2.2) (hal : Al (fun (a : An n) (r : Rw n) => PaysOk W r.1 ∧ TbOk W n a.2.2 r.2) q rs) : ∀ z ∈ List.zipWith (paidA prior n) q rs, Fd (8 + n) (20 + MB n) z := paidA_fd0 hp h5 (paid_fd hp h5 n) qok nok hal
theorem paidQ_fd {W : Nat} {prior : List Rat} (hp : PriorOk W prior) (h5 : W ≤ 5) {n : Nat} {ahead : List Rat} {qs : List (Qn n)} {xs : List (Ask n)} (ok : NdOk W (n + 1) ahead qs) (c1 : ∀ x ∈ xs, Ch 1 x.1) (al : Al (fun (q : Qn n) (x : Ask n) => Al (fun (a : An n) (r : Rw n) => PaysOk W r.1 ∧ TbOk W n a.2.2 r.2) q x.2) qs xs) : ∀ z ∈ List.zipWith (paidQ prior n) qs xs, Fd (8 + (n + 1)) (12 * (20 + MB n)) z := paidQ_fd0 hp h5 (paid_fd hp h5 n) ok c1 al
end Tl
namespace Tl
open PySem PySem.Spec PyProof.Rows L2 RZ
def spMul (K : PySem.W.Frag) : Sp := fun vs H Q _ => ∃ (x y : V) (p q : Rat), vs = [x, y] ∧ Td K H x (rD p) ∧ Td K H y (rD q) ∧ Sm p ∧ Sm q ∧ ∀ v H', Same H H' → Td K H' v (rD (p * q)) → Q v H'
def spFractions (K : PySem.W.Frag) : Sp := fun vs H Q _ => ∃ (v : V) (ws : List Rat), vs = [v, .int ((ws.length : Nat) : Int)] ∧ Td K H v (wsD ws) ∧ ws.length ≤ 100 ∧ ∀ H', Same H H' → Q (.bl true) H'
def spPrior (K : PySem.W.Frag) : Sp := fun vs H Q _ => ∃ (v : V) (p : List Rat) (W : Nat), vs = [v, .int (W : Int)] ∧ Td K H v (wsD p) ∧ PriorOk W p ∧ W ≤ 5 ∧ ∀ H', Same H H' → Q (.bl true) H'
def spTbl (K : PySem.W.Frag) (n : Nat) : Sp := fun vs H Q _ => ∃ (W : Nat) (v u : V) (ahead : List Rat) (t : Nd n) (tb : Tb n), vs = [v, u, .int (W : Int)] ∧ Td K H v (tbD n tb) ∧ Td K H u (ndD n t) ∧ W ≤ 5 ∧ NdOk W n ahead t ∧ TbOk W n t tb ∧ ∀ H', Same H H' → Q (.bl true) H'
def spPaying (K : PySem.W.Frag) (n : Nat) : Sp := fun vs H Q _ => ∃ (W : Nat) (v u : V) (a : An n) (r : Rw n), vs = [v, u, .int (W : Int)] ∧ Td K H v (rwD n r) ∧ Td K H u (anD n a) ∧ W ≤ 5 ∧ NdOk W n a.2.1 a.2.2 ∧ PaysOk W r.1 ∧ TbOk W n a.2.2 r.2 ∧ ∀ H', Same H H' → Q (.bl true) H'
def spAsking (K : PySem.W.Frag) : Nat → Sp
  | 0 => fun _ _ _ _ => False
  | n + 1 => fun vs H Q _ => ∃ (W : Nat) (v u : V) (q : Qn n) (x : Ask n), vs = [v, u, .int (W : Int)] ∧ Td K H v (askD n x) ∧ Td K H u (qnD n q) ∧ W ≤ 5 ∧ q.length ≤ 12 ∧ Ch 1 x.1 ∧ (∀ a ∈ q, NdOk W n a.2.1 a.2.2) ∧ Al (fun (a : An n) (r : Rw n) => PaysOk W r.1 ∧ TbOk W n a.2.2 r.2) q x.2 ∧ ∀ H', Same H H' → Q (.bl true) H'
def spPF (K : PySem.W.Frag) : Sp := fun vs H Q _ => ∃ (W : Nat) (vp vw vy : V) (prior ws ps : List Rat), vs = [vp, vw, vy] ∧ Td K H vp (wsD prior) ∧ Td K H vw (wsD ws) ∧ Td K H vy (wsD ps) ∧ PriorOk W prior ∧ W ≤ 5 ∧ ws.length = W ∧ (∀ r ∈ ws, Ch 6 r) ∧ PaysOk W ps ∧ ∀ v H', Same H H' → Td K H' v (rD (payF prior ws ps)) → Q v H'
def spPA (K : PySem.W.Frag) (n : Nat) : Sp := fun vs H Q _ => ∃ (W : Nat) (vp v u : V) (prior ahead : List Rat) (t : Nd n) (tb : Tb n), vs = [vp, v, u] ∧ Td K H vp (wsD prior) ∧ Td K H v (ndD n t) ∧ Td K H u (tbD n tb) ∧ PriorOk W prior ∧ W ≤ 5 ∧ NdOk W n ahead t ∧ TbOk W n t tb ∧ n ≤ 6 ∧ ∀ r H', Same H H' → Td K H' r (rD (paidT prior n t tb)) → Q r H'
theorem td_inj {K : PySem.W.Frag} {H : Hp} {a : Addr} (h : SqT K H a [.int 1, .int 1]) : Td K H (.ref a) (rD 1) := by
  rw [rD_one]
  exact .tup h (tdAll_ints [1, 1])
theorem rat_le_one {q : Rat} (h : q ≤ 1) : q.num ≤ (q.den : Int) := by
  have a := (Rat.le_iff q 1).mp h
  have c : (1 : Rat).num = 1 := rfl
  have d : (1 : Rat).den = 1 := rfl
  rw [c, d] at a
  omega
section
variable {P : Program} {w : World} {K : PySem.W.Frag} {mg : Str → Option Value} {base : Heap} {aN aO : Addr} {t1 t2 t3 t4 t5 t6 t7 : Tok}
theorem ok_multiplied {f f1 : Addr} {fd fd1 : FuncData} (D : Dn K mg "multiplied" s_multiplied ["first", "second"] f fd) (B : Blt mg) (C : Cst K mg aN aO t1 t2 t3 t4 t5 t6 t7) (D_reduced : Dn K mg "reduced" s_reduced ["top", "bottom"] f1 fd1) : FnOk P w K mg base CX0 2 f fd ["first", "second"] (spMul K) := by
  have G_reduced : FnOk P w K mg base CX0 1 f1 fd1 ["top", "bottom"] (spReduced K) := ok_reduced D_reduced B C
  refine D.F.ok sc_multiplied (fun vs H Q E h => ?_) (fun cdv A outer s H vs Q E hr h => ?_)
  · obtain ⟨x, y, p, q, rfl, _⟩ := h
    rfl
  obtain ⟨x, y, p, q, rfl, hx, hy, z1, z2, k⟩ := h
  have nd := sc_multiplied.nd
  refine ⟨_, (pss_one (ps_ret (pe_call G_reduced (hr.mono (by omega)) (by rfl) D_reduced.m D_reduced.F.kp D_reduced.b .nil pass0 (pa_cons (pe_op op_mulW (pe_ix (k_ixT (K := K) rfl) (pv 0) pe_int (fun _ _ => rfl)) (pe_ix (k_ixT (K := K) rfl) (pv 1) pe_int (fun _ _ => rfl))) (pa_cons (pe_op op_mulW (pe_ix (k_ixT (K := K) rfl) (pv 0) pe_int (fun _ _ => rfl)) (pe_ix (k_ixT (K := K) rfl) (pv 1) pe_int (fun _ _ => rfl))) pa_nil))))), ?_⟩
  obtain ⟨a, rfl, ha⟩ := hx.rE
  obtain ⟨b, rfl, hb⟩ := hy.rE
  have i0 : atI [V.int p.num, .int (p.den : Int)] 0 = some (.int p.num) := at_of (j := 0) rfl rfl
  have i1 : atI [V.int p.num, .int (p.den : Int)] 1 = some (.int (p.den : Int)) := at_of (j := 1) rfl rfl
  have j0 : atI [V.int q.num, .int (q.den : Int)] 0 = some (.int q.num) := at_of (j := 0) rfl rfl
  have j1 : atI [V.int q.num, .int (q.den : Int)] 1 = some (.int (q.den : Int)) := at_of (j := 1) rfl rfl
  have hp0 : 0 < p.den := Nat.pos_of_ne_zero p.den_nz
  have hq0 : 0 < q.den := Nat.pos_of_ne_zero q.den_nz
  have dp : ((p.den : Int)).natAbs < 2 ^ 1500 := by rw [Int.natAbs_natCast]; exact z1.1
  have dq : ((q.den : Int)).natAbs < 2 ^ 1500 := by rw [Int.natAbs_natCast]; exact z2.1
  have c1 : CMulW p.num q.num := wide_mul z1.2 z2.2 (by decide) (by decide) (by decide)
  have c3 : CMulW (p.den : Int) (q.den : Int) := wide_mul dp dq (by decide) (by decide) (by decide)
  refine ⟨_, rfl, a, _, 0, _, rfl, rfl, ha, i0, _, rfl, b, _, 0, _, rfl, rfl, hb, j0, _, _, rfl, rfl, c1, _, rfl, a, _, 1, _, rfl, rfl, ha, i1, _, rfl, b, _, 1, _, rfl, rfl, hb, j1, _, _, rfl, rfl, c3, ?_⟩
  refine ⟨p.num * q.num, p.den * q.den, by rw [Int.natCast_mul]; rfl, Nat.mul_pos hp0 hq0, ?_, fun v H' s' hv => k v H' s' ?_⟩
  · have z := Nat.mul_lt_mul'' z1.1 z2.1
    rw [← Nat.pow_add] at z
    exact Nat.lt_trans z (Nat.pow_lt_pow_right (by decide) (by decide))
  · rw [← Rat.mkRat_mul_mkRat, rat_mk, rat_mk] at hv
    exact hv
theorem ok_are_fractions {f f2 f4 : Addr} {fd fd2 fd4 : FuncData} (D : Dn K mg "are_fractions" s_are_fractions ["thing", "many"] f fd) (B : Blt mg) (C : Cst K mg aN aO t1 t2 t3 t4 t5 t6 t7) (D_is_integral : Dn K mg "is_integral" s_is_integral ["thing"] f2 fd2) (D_is_fraction : Dn K mg "is_fraction" s_is_fraction ["thing"] f4 fd4) : FnOk P w K mg base CX0 3 f fd ["thing", "many"] (spFractions K) := by
  have G_is_fraction : FnOk P w K mg base CX0 2 f4 fd4 ["thing"] (spFraction K) := ok_is_fraction D_is_fraction B C D_is_integral
  refine D.F.ok sc_are_fractions (fun vs H Q E h => ?_) (fun cdv A outer s H vs Q E hr h => ?_)
  · obtain ⟨v, ws, rfl, _⟩ := h
    rfl
  obtain ⟨v, ws, rfl, hv, hl, q⟩ := h
  have nd := sc_are_fractions.nd
  refine ⟨_, (pss_cons (ps_if (PW.pt (pw_or (pt_not (pt_val (pe_callB (k_isi (K := K) rfl) (by rfl) B.isinstance (by decide +kernel) (pa_cons (pv 0) (pa_cons (pe_bltn (v := .ty "tuple") (u := .type "tuple") (by rfl) B.tuple (by decide +kernel) rfl) pa_nil))))) (pw_or1 (pt_cmpR op_ne (pe_callB (k_len (K := K) rfl) (by rfl) B.len PySem.boot_len (pa_cons (pv 0) pa_nil)) (pv 1) (nomark _))))) (pss_one (ps_ret pe_bl)) pss_nil)
      (pss_one (ps_ret (pe_callB (k_all (K := K) rfl rfl) (by rfl) B.all (by decide +kernel) (pa_cons (pe_lc (own := [("fraction", 2)]) rfl nd (k_iT (K := K) rfl (pv 0)) (blkOk_by (own := [("fraction", 2)]) (by kernel_rfl)) (fun _ _ _ _ _ => (pg_name (i := 2) nd rfl (.inl rfl))) (fun _ _ _ _ _ => pts_nil) (fun _ _ _ _ _ => (pe_call G_is_fraction (hr.mono (by omega)) (by rfl) D_is_fraction.m D_is_fraction.F.kp D_is_fraction.b .nil pass0 (pa_cons (pv 2) pa_nil)))) pa_nil))))), ?_⟩
  obtain ⟨b, ys, rfl, hb, tb⟩ := hv.tupE
  have ly : ys.length = ws.length := by rw [tb.len, List.length_map]
  refine ⟨_, rfl, _, _, _, _, true, rfl, .ty "tuple", tyx_tup hb, kit_ty (by decide +kernel), _, rfl, iteF ?_⟩
  refine ⟨_, rfl, b, _, rfl, .inr hb, _, rfl, rfl, _, rfl, ?_⟩
  rw [ly, decide_eq_true rfl]
  refine iteF ?_
  refine ⟨_, rfl, b, rfl, ⟨_, hb⟩, fun T hT => ?_⟩
  refine lc_it (walk_tup (K := K) (a := b) (xs := ys)) (fun i H2 => H2 T = some (.lst ((List.replicate i true).map V.bl)) ∧ Same H H2) ⟨upd_same, same_upd hT⟩ (fun i H2 _ h => Same.kt h.2 _ _ hb) ?_ ?_
  · rintro i x H0 H2 hi ⟨h2, s2⟩ ⟨rfl, e1⟩
    obtain ⟨dx, ex, tx⟩ := tb.getV e1
    obtain ⟨r, er, rfl⟩ := mapAt ex
    refine ⟨rfl, ?_⟩
    refine iteT (B := H2 T = some (.lst ((List.replicate (i + 1) true).map V.bl)) ∧ Same H H2) ?_
    refine ⟨_, rfl, x, r, rfl, tx.keep (Same.kt s2), _, h2, ?_, ?_, fun c o y => ?_⟩
    · rw [List.length_map, List.length_replicate]
      exact small1000 (by omega)
    · rw [upd_same, ← rep_snoc, List.map_append]
      rfl
    · rw [upd_ne (ne_of_none y hT)]
      exact s2 _ _ y
  · rintro H2 ⟨h2, s2⟩
    refine ⟨T, _, rfl, SqL.of h2, ?_⟩
    rw [all_rep]
    exact q H2 s2
theorem ok_is_prior {f f1 f2 f3 f4 f5 f6 f7 : Addr} {fd fd1 fd2 fd3 fd4 fd5 fd6 fd7 : FuncData} (D : Dn K mg "is_prior" s_is_prior ["thing", "worlds"] f fd) (B : Blt mg) (C : Cst K mg aN aO t1 t2 t3 t4 t5 t6 t7) (D_is_integral : Dn K mg "is_integral" s_is_integral ["thing"] f1 fd1) (D_is_fraction : Dn K mg "is_fraction" s_is_fraction ["thing"] f2 fd2) (D_is_chance : Dn K mg "is_chance" s_is_chance ["thing"] f3 fd3)
    (D_are_chances : Dn K mg "are_chances" s_are_chances ["thing", "many"] f4 fd4) (D_total : Dn K mg "total" s_total ["fractions"] f5 fd5) (D_reduced : Dn K mg "reduced" s_reduced ["top", "bottom"] f6 fd6) (D_added : DTot K mg f7 fd7) : FnOk P w K mg base CX0 5 f fd ["thing", "worlds"] (spPrior K) := by
  have G_are_chances : FnOk P w K mg base CX0 4 f4 fd4 ["thing", "many"] (spChances K) := ok_are_chances D_are_chances B C D_is_integral D_is_fraction D_is_chance
  have G_total : FnOk P w K mg base CX0 3 f5 fd5 ["fractions"] (spTotal K) := ok_total D_total B C D_reduced D_added
  refine D.F.ok sc_is_prior (fun vs H Q E h => ?_) (fun cdv A outer s H vs Q E hr h => ?_)
  · obtain ⟨v, p, W, rfl, _⟩ := h
    rfl
  obtain ⟨v, p, W, rfl, hv, hp, h5, q⟩ := h
  have nd := sc_is_prior.nd
  refine ⟨_, (pss_one (ps_ret (pe_and (pe_call G_are_chances (hr.mono (by omega)) (by rfl) D_are_chances.m D_are_chances.F.kp D_are_chances.b .nil pass0 (pa_cons (pv 0) (pa_cons (pv 1) pa_nil))) (pe_one (pe_cmpR (k_eqD (K := K) rfl hr.units) (pe_call G_total (hr.mono (by omega)) (by rfl) D_total.m D_total.F.kp D_total.b .nil pass0 (pa_cons (pv 0) pa_nil)) (pe_glob (v := .ref _) rfl C.ONE rfl) (nomark _)))))), ?_⟩
  have lp := hp.len
  refine ⟨_, rfl, _, rfl, v, p, by rw [lp]; rfl, hv, by omega, fun r hr => ⟨(hp.ch r hr).1, (hp.ch r hr).2.1⟩, fun H1 s1 => ⟨_, rfl, iteT ?_⟩⟩
  obtain ⟨a, xs, rfl, ha, ta⟩ := (hv.keep (Same.kt s1)).tupE
  obtain ⟨e, d0, d1, ab⟩ := tot_fd (k := 1) (m := 1) (fun r hr => (hp.ch r hr).fd) (by decide) (by rw [lp]; omega)
  refine ⟨_, rfl, a, xs, LL ^ 1, p.map (frN (LL ^ 1)), rfl, .inr ha, by rw [e]; exact ta, d0, d1, ab, by rw [List.length_map, lp]; omega, fun v2 H2 s2 tv => ?_⟩
  rw [e, hp.one] at tv
  have tO := td_inj (C.tO H2)
  refine ⟨rD 1, rD 1, tv.dp, tO.dp, (good_rD 1).shaped (by decide), (good_rD 1).shaped (by decide), ?_⟩
  rw [(good_rD 1).refl]
  exact q H2 (s1.trans s2)
theorem ok_is_paying {n : Nat} {f f1 f2 f3 f4 : Addr} {fd fd1 fd2 fd3 fd4 : FuncData} (D : Dn K mg "is_paying" s_is_paying ["thing", "answer", "worlds"] f fd) (B : Blt mg) (C : Cst K mg aN aO t1 t2 t3 t4 t5 t6 t7) (D_is_integral : Dn K mg "is_integral" s_is_integral ["thing"] f1 fd1) (D_is_fraction : Dn K mg "is_fraction" s_is_fraction ["thing"] f2 fd2) (D_are_fractions : Dn K mg "are_fractions" s_are_fractions ["thing", "many"] f3 fd3)
    (D_is_table : Dn K mg "is_table" s_is_table ["thing", "node", "worlds"] f4 fd4) (G_is_table : FnOk P w K mg base CX0 (5 + 3 * n) f4 fd4 ["thing", "node", "worlds"] (spTbl K n)) : FnOk P w K mg base CX0 (6 + 3 * n) f fd ["thing", "answer", "worlds"] (spPaying K n) := by
  have G_are_fractions : FnOk P w K mg base CX0 3 f3 fd3 ["thing", "many"] (spFractions K) := ok_are_fractions D_are_fractions B C D_is_integral D_is_fraction
  rw [show 6 + 3 * n = (5 + 3 * n) + 1 by omega]
  refine D.F.ok sc_is_paying (fun vs H Q E h => ?_) (fun cdv A outer s H vs Q E hr h => ?_)
  · obtain ⟨W, v, u, a, r, rfl, _⟩ := h
    rfl
  obtain ⟨W, v, u, an, r, rfl, hv, hu, h5, nok, pok, tok, q⟩ := h
  have nd := sc_is_paying.nd
  refine ⟨_, (pss_cons (ps_if (PW.pt (pw_or (pt_not (pt_val (pe_callB (k_isi (K := K) rfl) (by rfl) B.isinstance (by decide +kernel) (pa_cons (pv 0) (pa_cons (pe_bltn (v := .ty "tuple") (u := .type "tuple") (by rfl) B.tuple (by decide +kernel) rfl) pa_nil))))) (pw_or1 (pt_cmpR op_ne (pe_callB (k_len (K := K) rfl) (by rfl) B.len PySem.boot_len (pa_cons (pv 0) pa_nil)) pe_int (nomark _))))) (pss_one (ps_ret pe_bl)) pss_nil)
      (pss_one (ps_ret (pe_and (pe_call G_are_fractions (hr.mono (by omega)) (by rfl) D_are_fractions.m D_are_fractions.F.kp D_are_fractions.b .nil pass0 (pa_cons (pe_ix (k_ixT (K := K) rfl) (pv 0) pe_int (fun _ _ => rfl)) (pa_cons (pv 2) pa_nil))) (pe_one (pe_call G_is_table (hr.mono (by omega)) (by rfl) D_is_table.m D_is_table.F.kp D_is_table.b .nil pass0 (pa_cons (pe_ix (k_ixT (K := K) rfl) (pv 0) pe_int (fun _ _ => rfl)) (pa_cons (pe_ix (k_ixT (K := K) rfl) (pv 1) pe_int (fun _ _ => rfl)) (pa_cons (pv 2) pa_nil))))))))), ?_⟩
  obtain ⟨a, xs, rfl, ha, ta⟩ := id hv.tupE
  obtain ⟨b, ys, rfl, hb, tb⟩ := id hu.tupE
  have l2 : xs.length = 2 := ta.len
  obtain ⟨v0, e0, t0⟩ := ta.get (i := 0) rfl
  obtain ⟨v1, e1, t1'⟩ := ta.get (i := 1) rfl
  obtain ⟨u2, f2, t2'⟩ := tb.get (i := 2) rfl
  refine ⟨_, rfl, _, _, _, _, true, rfl, .ty "tuple", tyx_tup ha, kit_ty (by decide +kernel), _, rfl, iteF ?_⟩
  refine ⟨_, rfl, a, _, rfl, .inr ha, rfl, _, rfl, ?_⟩
  rw [l2]
  refine iteF ?_
  have lr := pok.len
  refine ⟨_, rfl, a, _, 0, v0, rfl, rfl, ha, at_of (j := 0) rfl e0, _, rfl, v0, r.1, by rw [lr]; rfl, t0, by omega, fun H1 s1 => ⟨_, rfl, iteT ?_⟩⟩
  have ha1 := Same.kt s1 _ _ ha
  have hb1 := Same.kt s1 _ _ hb
  exact ⟨_, rfl, a, _, 1, v1, rfl, rfl, ha1, at_of (j := 1) rfl e1, _, rfl, b, _, 2, u2, rfl, rfl, hb1, at_of (j := 2) rfl f2, _, rfl, W, v1, u2, an.2.1, an.2.2, r.2, rfl, t1'.keep (Same.kt s1), t2'.keep (Same.kt s1), h5, nok, tok, fun H2 s2 => q H2 (s1.trans s2)⟩
theorem ok_is_asking {n : Nat} {f f1 f2 f3 f4 : Addr} {fd fd1 fd2 fd3 fd4 : FuncData} (D : Dn K mg "is_asking" s_is_asking ["thing", "question", "worlds"] f fd) (B : Blt mg) (C : Cst K mg aN aO t1 t2 t3 t4 t5 t6 t7) (D_is_integral : Dn K mg "is_integral" s_is_integral ["thing"] f1 fd1) (D_is_fraction : Dn K mg "is_fraction" s_is_fraction ["thing"] f2 fd2) (D_is_chance : Dn K mg "is_chance" s_is_chance ["thing"] f3 fd3)
    (D_is_paying : Dn K mg "is_paying" s_is_paying ["thing", "answer", "worlds"] f4 fd4) (G_is_paying : FnOk P w K mg base CX0 (6 + 3 * n) f4 fd4 ["thing", "answer", "worlds"] (spPaying K n)) : FnOk P w K mg base CX0 (7 + 3 * n) f fd ["thing", "question", "worlds"] (spAsking K (n + 1)) := by
  have G_is_chance : FnOk P w K mg base CX0 3 f3 fd3 ["thing"] (spChance K) := ok_is_chance D_is_chance B C D_is_integral D_is_fraction
  rw [show 7 + 3 * n = (6 + 3 * n) + 1 by omega]
  refine D.F.ok sc_is_asking (fun vs H Q E h => ?_) (fun cdv A outer s H vs Q E hr h => ?_)
  · obtain ⟨W, v, u, a, r, rfl, _⟩ := h
    rfl
  obtain ⟨W, v, u, qn, x, rfl, hv, hu, h5, h12, hc, nok, al, q⟩ := h
  have nd := sc_is_asking.nd
  refine ⟨_, (pss_cons (ps_if (PW.pt (pw_or (pt_not (pt_val (pe_callB (k_isi (K := K) rfl) (by rfl) B.isinstance (by decide +kernel) (pa_cons (pv 0) (pa_cons (pe_bltn (v := .ty "tuple") (u := .type "tuple") (by rfl) B.tuple (by decide +kernel) rfl) pa_nil))))) (pw_or (pt_cmpR op_ne (pe_callB (k_len (K := K) rfl) (by rfl) B.len PySem.boot_len (pa_cons (pv 0) pa_nil)) pe_int (nomark _)) (pw_or1 (pt_not (pt_val (pe_call G_is_chance (hr.mono (by omega)) (by rfl) D_is_chance.m D_is_chance.F.kp D_is_chance.b .nil pass0 (pa_cons (pe_ix (k_ixT (K := K) rfl) (pv 0) pe_int (fun _ _ => rfl)) pa_nil)))))))) (pss_one (ps_ret pe_bl)) pss_nil)
      (pss_cons (ps_set (i := 3) nd rfl (.inl rfl) (pe_ix (k_ixT (K := K) rfl) (pv 0) pe_int (fun _ _ => rfl)))
      (pss_cons (ps_if (PW.pt (pw_or (pt_not (pt_val (pe_callB (k_isi (K := K) rfl) (by rfl) B.isinstance (by decide +kernel) (pa_cons (pv 3) (pa_cons (pe_bltn (v := .ty "tuple") (u := .type "tuple") (by rfl) B.tuple (by decide +kernel) rfl) pa_nil))))) (pw_or1 (pt_cmpR op_ne (pe_callB (k_len (K := K) rfl) (by rfl) B.len PySem.boot_len (pa_cons (pv 3) pa_nil)) (pe_callB (k_len (K := K) rfl) (by rfl) B.len PySem.boot_len (pa_cons (pv 1) pa_nil)) (nomark _))))) (pss_one (ps_ret pe_bl)) pss_nil)
      (pss_one (ps_ret (pe_callB (k_all (K := K) rfl rfl) (by rfl) B.all (by decide +kernel) (pa_cons (pe_lc (own := [("row", 4), ("answer", 5)]) rfl nd (k_zip (K := K) rfl (by rfl) B.zip (pa_cons (pv 3) (pa_cons (pv 1) pa_nil))) (blkOk_by (own := [("row", 4), ("answer", 5)]) (by kernel_rfl)) (fun _ _ _ _ _ => (k_tup (K := K) (n := 2) rfl rfl (pgs_cons (pg_name (i := 4) nd rfl (.inl rfl)) (pgs_cons (pg_name (i := 5) nd rfl (.inl rfl)) pgs_nil)))) (fun _ _ _ _ _ => pts_nil) (fun _ _ _ _ _ => (pe_call G_is_paying (hr.mono (by omega)) (by rfl) D_is_paying.m D_is_paying.F.kp D_is_paying.b .nil pass0 (pa_cons (pv 4) (pa_cons (pv 5) (pa_cons (pv 2) pa_nil)))))) pa_nil))))))), ?_⟩
  obtain ⟨a, xs, rfl, ha, ta⟩ := id hv.tupE
  obtain ⟨b, ys, rfl, hb, tb⟩ := id hu.tupE
  have l2 : xs.length = 2 := ta.len
  obtain ⟨v0, e0, t0⟩ := ta.get (i := 0) rfl
  obtain ⟨v1, e1, t1'⟩ := ta.get (i := 1) rfl
  obtain ⟨c, zs, rfl, hzc, tz⟩ := id t1'.tupE
  have lz : zs.length = x.2.length := by rw [tz.len, List.length_map]
  have ly : ys.length = qn.length := by rw [tb.len, List.length_map]
  have lal := al.len
  refine ⟨_, rfl, _, _, _, _, true, rfl, .ty "tuple", tyx_tup ha, kit_ty (by decide +kernel), _, rfl, iteF ?_⟩
  refine ⟨_, rfl, a, _, rfl, .inr ha, rfl, _, rfl, ?_⟩
  rw [l2]
  refine iteF ?_
  refine ⟨_, rfl, a, _, 0, v0, rfl, rfl, ha, at_of (j := 0) rfl e0, v0, x.1, rfl, t0, hc.1, hc.2.1, _, rfl, iteF ?_⟩
  refine ⟨_, rfl, a, _, 1, _, rfl, rfl, ha, at_of (j := 1) rfl e1, ?_⟩
  refine ⟨_, rfl, _, _, _, _, true, rfl, .ty "tuple", tyx_tup hzc, kit_ty (by decide +kernel), _, rfl, iteF ?_⟩
  refine ⟨_, rfl, c, _, rfl, .inr hzc, _, rfl, b, _, rfl, .inr hb, rfl, _, rfl, ?_⟩
  rw [lz, ly, lal, decide_eq_true rfl]
  refine iteF ?_
  refine ⟨_, rfl, _, rfl, c, b, zs, ys, rfl, .inr ⟨hzc, hb, fun T hT => ?_⟩⟩
  refine lc_it (walk_zipT (K := K) (a := c) (b := b) (xs := zs) (ys := ys) (n := qn.length) (by omega)) (fun i H2 => H2 T = some (.lst ((List.replicate i true).map V.bl)) ∧ Same H H2) ⟨upd_same, same_upd hT⟩ (fun i H2 _ h => ⟨Same.kt h.2 _ _ hzc, Same.kt h.2 _ _ hb⟩) ?_ ?_
  · rintro i y H2 H3 hi ⟨h2, s2⟩ ⟨T2, x', y', rfl, n2, rfl, g1, g2⟩
    obtain ⟨dx, ex, tx⟩ := tz.getV g1
    obtain ⟨dy, ey, ty⟩ := tb.getV g2
    obtain ⟨r, er, rfl⟩ := mapAt ex
    obtain ⟨an, ea, rfl⟩ := mapAt ey
    obtain ⟨r', er', pok, tok⟩ := al.get ea
    rw [er] at er'
    cases er'
    have s3 : Same H2 (upd H2 T2 (.tup [x', y'])) := same_upd n2
    refine ⟨T2, _, rfl, .inl (.inl upd_same), rfl, _, _, rfl, _, _, rfl, rfl, ?_⟩
    refine ⟨rfl, ?_⟩
    refine iteT (B := (upd H2 T2 (.tup [x', y'])) T = some (.lst ((List.replicate (i + 1) true).map V.bl)) ∧ Same H (upd H2 T2 (.tup [x', y']))) ?_
    have k3 := Same.kt (K := K) (s2.trans s3)
    refine ⟨_, rfl, _, rfl, _, rfl, W, x', y', an, r, rfl, tx.keep k3, ty.keep k3, h5, nok an (List.mem_of_getElem? ea), pok, tok, fun H4 s4 => ?_⟩
    refine ⟨_, s4 _ _ (s3 _ _ h2), ?_, ?_, fun c o z => ?_⟩
    · rw [List.length_map, List.length_replicate]
      exact small1000 (by omega)
    · rw [upd_same, ← rep_snoc, List.map_append]
      rfl
    · rw [upd_ne (ne_of_none z hT)]
      exact s4 _ _ (s3 _ _ (s2 _ _ z))
  · rintro H2 ⟨h2, s2⟩
    refine ⟨T, _, rfl, SqL.of h2, ?_⟩
    rw [all_rep]
    exact q H2 s2
theorem ok_is_table {n : Nat} {f f1 f2 f3 f4 : Addr} {fd fd1 fd2 fd3 fd4 : FuncData} (D : Dn K mg "is_table" s_is_table ["thing", "node", "worlds"] f fd) (B : Blt mg) (C : Cst K mg aN aO t1 t2 t3 t4 t5 t6 t7) (D_total : Dn K mg "total" s_total ["fractions"] f1 fd1) (D_reduced : Dn K mg "reduced" s_reduced ["top", "bottom"] f2 fd2) (D_added : DTot K mg f3 fd3)
    (D_is_asking : Dn K mg "is_asking" s_is_asking ["thing", "question", "worlds"] f4 fd4) (G_is_asking : FnOk P w K mg base CX0 (4 + 3 * n) f4 fd4 ["thing", "question", "worlds"] (spAsking K n)) : FnOk P w K mg base CX0 (5 + 3 * n) f fd ["thing", "node", "worlds"] (spTbl K n) := by
  have G_total : FnOk P w K mg base CX0 3 f1 fd1 ["fractions"] (spTotal K) := ok_total D_total B C D_reduced D_added
  rw [show 5 + 3 * n = (4 + 3 * n) + 1 by omega]
  refine D.F.ok sc_is_table (fun vs H Q E h => ?_) (fun cdv A outer s H vs Q E hr h => ?_)
  · obtain ⟨W, v, u, ah, t, tb, rfl, _⟩ := h
    rfl
  obtain ⟨W, v, u, ahead, t, tb, rfl, hv, hu, h5, nok, tok, q⟩ := h
  have nd := sc_is_table.nd
  refine ⟨_, (pss_cons (ps_if (PW.pt (pw_or (pt_not (pt_val (pe_callB (k_isi (K := K) rfl) (by rfl) B.isinstance (by decide +kernel) (pa_cons (pv 0) (pa_cons (pe_bltn (v := .ty "tuple") (u := .type "tuple") (by rfl) B.tuple (by decide +kernel) rfl) pa_nil))))) (pw_or1 (pt_cmpR op_ne (pe_callB (k_len (K := K) rfl) (by rfl) B.len PySem.boot_len (pa_cons (pv 0) pa_nil)) (pe_callB (k_len (K := K) rfl) (by rfl) B.len PySem.boot_len (pa_cons (pv 1) pa_nil)) (nomark _))))) (pss_one (ps_ret pe_bl)) pss_nil)
      (pss_cons (ps_if (pt_not (pt_val (pe_callB (k_all (K := K) rfl rfl) (by rfl) B.all (by decide +kernel) (pa_cons (pe_lc (own := [("asking", 3), ("question", 4)]) rfl nd (k_zip (K := K) rfl (by rfl) B.zip (pa_cons (pv 0) (pa_cons (pv 1) pa_nil))) (blkOk_by (own := [("asking", 3), ("question", 4)]) (by kernel_rfl)) (fun _ _ _ _ _ => (k_tup (K := K) (n := 2) rfl rfl (pgs_cons (pg_name (i := 3) nd rfl (.inl rfl)) (pgs_cons (pg_name (i := 4) nd rfl (.inl rfl)) pgs_nil)))) (fun _ _ _ _ _ => pts_nil) (fun _ _ _ _ _ => (pe_call G_is_asking (hr.mono (by omega)) (by rfl) D_is_asking.m D_is_asking.F.kp D_is_asking.b .nil pass0 (pa_cons (pv 3) (pa_cons (pv 4) (pa_cons (pv 2) pa_nil)))))) pa_nil)))) (pss_one (ps_ret pe_bl)) pss_nil)
      (pss_cons (ps_asg (pe_call G_total (hr.mono (by omega)) (by rfl) D_total.m D_total.F.kp D_total.b .nil pass0 (pa_cons (pe_lc (own := [("asking", 3)]) rfl nd (k_iT (K := K) rfl (pv 0)) (blkOk_by (own := [("asking", 3)]) (by kernel_rfl)) (fun _ _ _ _ _ => (pg_name (i := 3) nd rfl (.inl rfl))) (fun _ _ _ _ _ => pts_nil) (fun _ _ _ _ _ => (pe_ix (k_ixT (K := K) rfl) (pv 3) pe_int (fun _ _ => rfl)))) pa_nil)) (k_tup (K := K) (n := 2) rfl rfl (pgs_cons (pg_name (i := 5) nd rfl (.inl rfl)) (pgs_cons (pg_name (i := 6) nd rfl (.inl rfl)) pgs_nil))))
      (pss_one (ps_ret (pe_cmpR op_le (pv 5) (pv 6) (nomark _))))))), ?_⟩
  obtain ⟨a, b, xs, ys, rfl, rfl, ha, hb, cs, lx, ly, hcs, hsum, l5, each⟩ : ∃ (a b : Addr) (xs ys : List V), v = .ref a ∧ u = .ref b ∧ SqT K H a xs ∧ SqT K H b ys ∧ ∃ cs : List Rat, xs.length = cs.length ∧ ys.length = cs.length ∧ (∀ c ∈ cs, Ch 1 c) ∧ fsum cs ≤ 1 ∧ cs.length ≤ 5 ∧
      ∀ (i : Nat) (x y : V), xs[i]? = some x → ys[i]? = some y → (∃ (p : Addr) (y0 yr : V) (c : Rat), x = .ref p ∧ cs[i]? = some c ∧ SqT K H p [y0, yr] ∧ Td K H y0 (rD c)) ∧ ∀ (H2 : Hp) (Q' : VK) (E' : XK), Same H H2 → (∀ H3, Same H2 H3 → Q' (.bl true) H3) → spAsking K n [x, y, .int (W : Int)] H2 Q' E' := by
    cases n with
    | zero =>
      obtain ⟨a, xs, rfl, ha, ta⟩ := id hv.tupE
      obtain ⟨b, ys, rfl, hb, tb'⟩ := id hu.tupE
      cases ta
      cases tb'
      exact ⟨a, b, [], [], rfl, rfl, ha, hb, [], rfl, rfl, fun c hc => absurd hc List.not_mem_nil, by decide, by decide, fun i x y h => by simp at h⟩
    | succ n =>
      obtain ⟨c1, c2, al⟩ := tok
      have hv2 : Td K H v (.tuple ((show List (Ask n) from tb).map (askD n))) := hv
      have hu2 : Td K H u (.tuple ((show List (Qn n) from t).map (qnD n))) := hu
      obtain ⟨a, xs, rfl, ha, ta⟩ := hv2.tupE
      obtain ⟨b, ys, rfl, hb, tb'⟩ := hu2.tupE
      have lal := al.len
      have lx : xs.length = (show List (Ask n) from tb).length := by rw [ta.len, List.length_map]
      have ly : ys.length = (show List (Qn n) from t).length := by rw [tb'.len, List.length_map]
      refine ⟨a, b, xs, ys, rfl, rfl, ha, hb, (show List (Ask n) from tb).map (·.1), by rw [List.length_map, lx], by rw [List.length_map, ly]; exact lal, fun c hc => ?_, c2, by rw [List.length_map]; exact Nat.le_trans (Nat.le_of_eq lal.symm) nok.1, fun i x y h1 h2 => ?_⟩
      · obtain ⟨z, hz, rfl⟩ := List.mem_map.mp hc
        exact c1 z hz
      · obtain ⟨dx, ex, tx⟩ := ta.getV h1
        obtain ⟨dy, ey, ty⟩ := tb'.getV h2
        obtain ⟨xa, exa, rfl⟩ := mapAt ex
        obtain ⟨qq, eq, rfl⟩ := mapAt ey
        obtain ⟨xa', exa', alq⟩ := al.get eq
        have exa'' : (show List (Ask n) from tb)[i]? = some xa' := exa'
        rw [exa] at exa''
        cases exa''
        obtain ⟨qok, nk⟩ := nok.2 qq (List.mem_of_getElem? eq)
        constructor
        · obtain ⟨p, zs, rfl, hp, tz⟩ := id tx.tupE
          cases tz with
          | cons z1 z2 =>
            cases z2 with
            | cons z2 z3 =>
              cases z3
              exact ⟨p, _, _, xa.1, rfl, by rw [List.getElem?_map, exa]; rfl, hp, z1⟩
        · intro H2 Q' E' s2 q'
          exact ⟨W, x, y, qq, xa, rfl, tx.keep (Same.kt s2), ty.keep (Same.kt s2), h5, qok.most, c1 xa (List.mem_of_getElem? exa), nk, alq, q'⟩
  refine ⟨_, rfl, _, _, _, _, true, rfl, .ty "tuple", tyx_tup ha, kit_ty (by decide +kernel), _, rfl, iteF ?_⟩
  refine ⟨_, rfl, a, _, rfl, .inr ha, _, rfl, b, _, rfl, .inr hb, rfl, _, rfl, ?_⟩
  rw [lx, ly, decide_eq_true rfl]
  refine iteF ?_
  refine ⟨_, rfl, _, rfl, a, b, xs, ys, rfl, .inr ⟨ha, hb, fun T hT => ?_⟩⟩
  refine lc_it (walk_zipT (K := K) (a := a) (b := b) (xs := xs) (ys := ys) (n := cs.length) (by omega)) (fun i H2 => H2 T = some (.lst ((List.replicate i true).map V.bl)) ∧ Same H H2) ⟨upd_same, same_upd hT⟩ (fun i H2 _ h => ⟨Same.kt h.2 _ _ ha, Same.kt h.2 _ _ hb⟩) ?_ ?_
  · rintro i y H2 H3 hi ⟨h2, s2⟩ ⟨T2, x', y', rfl, n2, rfl, g1, g2⟩
    have s3 : Same H2 (upd H2 T2 (.tup [x', y'])) := same_upd n2
    refine ⟨T2, _, rfl, .inl (.inl upd_same), rfl, _, _, rfl, _, _, rfl, rfl, ?_⟩
    refine ⟨rfl, ?_⟩
    refine iteT (B := (upd H2 T2 (.tup [x', y'])) T = some (.lst ((List.replicate (i + 1) true).map V.bl)) ∧ Same H (upd H2 T2 (.tup [x', y']))) ?_
    refine ⟨_, rfl, _, rfl, _, rfl, (each i x' y' g1 g2).2 _ _ _ (s2.trans s3) fun H4 s4 => ?_⟩
    refine ⟨_, s4 _ _ (s3 _ _ h2), ?_, ?_, fun c o z => ?_⟩
    · rw [List.length_map, List.length_replicate]
      exact small1000 (by omega)
    · rw [upd_same, ← rep_snoc, List.map_append]
      rfl
    · rw [upd_ne (ne_of_none z hT)]
      exact s4 _ _ (s3 _ _ (s2 _ _ z))
  rintro H2 ⟨h2, s2⟩
  refine ⟨T, _, rfl, SqL.of h2, ?_⟩
  rw [all_rep]
  refine ⟨_, rfl, iteF ?_⟩
  -- the chances
  have ha2 := Same.kt s2 _ _ ha
  refine ⟨_, rfl, a, rfl, ⟨_, ha2⟩, fun T3 hT3 => ?_⟩
  refine lc_it (walk_tup (K := K) (a := a) (xs := xs)) (fun i H3 => ∃ us : List V, H3 T3 = some (.lst us) ∧ TdAll K H3 us ((cs.take i).map rD) ∧ Same H2 H3) ⟨[], upd_same, .nil, same_upd hT3⟩ (fun i H3 _ h => ?_) ?_ ?_
  · obtain ⟨_, _, _, s3⟩ := h
    exact Same.kt s3 _ _ ha2
  · rintro i x H0 H3 hi ⟨us, h3, t3, s3⟩ ⟨rfl, g1⟩
    have hi2 : i < ys.length := by omega
    obtain ⟨⟨p, y0, yr, c, rfl, ec, hp, tc⟩, _⟩ := each i x ys[i] g1 (List.getElem?_eq_getElem hi2)
    have s23 := s2.trans s3
    have kT : KT K H3 (upd H3 T3 (.lst (us ++ [y0]))) := KT.updL h3
    refine ⟨rfl, ?_⟩
    refine iteT (B := ∃ us : List V, H3 T3 = some (.lst us) ∧ TdAll K H3 us ((cs.take (i + 1)).map rD) ∧ Same H2 H3) ?_
    refine ⟨_, rfl, p, _, 0, y0, rfl, rfl, Same.kt s23 _ _ hp, at_of (j := 0) rfl rfl, us, h3, ?_, us ++ [y0], upd_same, ?_, fun z o e => ?_⟩
    · rw [t3.len, List.length_map, List.length_take]
      exact small1000 (by omega)
    · rw [List.take_add_one, ec, List.map_append]
      exact (t3.keep kT).app (.cons (tc.keep ((Same.kt s23).trans kT)) .nil)
    · rw [upd_ne (ne_of_none e hT3)]
      exact s3 _ _ e
  rintro H3 ⟨us, h3, t3, s3⟩
  rw [lx, List.take_length] at t3
  obtain ⟨e, d0, d1, ab⟩ := tot_fd (k := 1) (m := 1) (fun r hr => (hcs r hr).fd) (by decide) (by omega)
  refine ⟨T3, us, LL ^ 1, cs.map (frN (LL ^ 1)), rfl, .inl (SqL.of h3), by rw [e]; exact t3, d0, d1, ab, by rw [List.length_map]; omega, fun v2 H4 s4 tv => ?_⟩
  rw [e] at tv
  obtain ⟨p, rfl, hp⟩ := tv.rE
  refine ⟨p, _, rfl, hp, rfl, _, _, rfl, _, _, rfl, rfl, ?_⟩
  refine ⟨_, rfl, _, rfl, _, _, rfl, rfl, ?_⟩
  show Q (.bl (decide ((fsum cs).num ≤ ((fsum cs).den : Int)))) H4
  rw [decide_eq_true (rat_le_one hsum)]
  exact q H4 ((s2.trans s3).trans s4)
end
end Tl
namespace Tl
open PySem PySem.Spec PyProof.Rows L2 RZ
def tsD (n : Nat) (prior : List Rat) (tb : Tb n) : PyData := .tuple [wsD prior, tbD n tb]
def spTest (K : PySem.W.Frag) (C : Addr) (n : Nat) : Sp := fun vs H Q _ => ∃ (p : Addr) (u v : V) (W : Nat) (t : Nd n) (prior : List Rat) (tb : Tb n), vs = [.ref p, u] ∧ HsOk K C H p W n t v ∧ Td K H u (tsD n prior tb) ∧ PriorOk W prior ∧ TbOk W n t tb ∧ ∀ H', Same H H' → Q (.bl true) H'
def spCkTest (K : PySem.W.Frag) (C : Addr) (n : Nat) : Sp := fun vs H Q _ => ∃ (p : Addr) (u v : V) (W : Nat) (t : Nd n) (prior : List Rat) (tb : Tb n), vs = [.ref p, u] ∧ HsOk K C H p W n t v ∧ Td K H u (tsD n prior tb) ∧ PriorOk W prior ∧ TbOk W n t tb ∧ ∀ H', Same H H' → Q .non H'
def spPaid (K : PySem.W.Frag) (C : Addr) (n : Nat) : Sp := fun vs H Q _ => ∃ (p : Addr) (u v : V) (W : Nat) (t : Nd n) (prior : List Rat) (tb : Tb n), vs = [.ref p, u] ∧ HsOk K C H p W n t v ∧ Td K H u (tsD n prior tb) ∧ PriorOk W prior ∧ TbOk W n t tb ∧ n ≤ 6 ∧ ∀ r H', Same H H' → Td K H' r (rD (paidT prior n t tb)) → Q r H'
theorem td_two {K : PySem.W.Frag} {H : Hp} {v : V} {d e : PyData} (h : Td K H v (.tuple [d, e])) : ∃ p x y, v = .ref p ∧ SqT K H p [x, y] ∧ Td K H x d ∧ Td K H y e := by
  obtain ⟨p, xs, rfl, hp, t⟩ := h.tupE
  cases t with
  | cons t1 t =>
    cases t with
    | cons t2 t =>
      cases t
      exact ⟨p, _, _, rfl, hp, t1, t2⟩
theorem take_zip_succ {α β γ : Type} {f : α → β → γ} {as : List α} {bs : List β} {i : Nat} {a : α} {b : β} (h1 : as[i]? = some a) (h2 : bs[i]? = some b) : (List.zipWith f as bs).take (i + 1) = (List.zipWith f as bs).take i ++ [f a b] := by
  rw [List.take_add_one, zip_at h1 h2]
  rfl
section
variable {P : Program} {w : World} {K : PySem.W.Frag} {mg : Str → Option Value} {base : Heap} {aN aO : Addr} {t1 t2 t3 t4 t5 t6 t7 : Tok}
theorem ok_tables {f1 f2 f3 f4 f5 f6 f7 f8 f9 g1 : Addr} {fd1 fd2 fd3 fd4 fd5 fd6 fd7 fd8 fd9 gd1 : FuncData} (B : Blt mg) (C : Cst K mg aN aO t1 t2 t3 t4 t5 t6 t7) (D_is_integral : Dn K mg "is_integral" s_is_integral ["thing"] f1 fd1) (D_is_fraction : Dn K mg "is_fraction" s_is_fraction ["thing"] f2 fd2) (D_is_chance : Dn K mg "is_chance" s_is_chance ["thing"] f3 fd3)
    (D_are_fractions : Dn K mg "are_fractions" s_are_fractions ["thing", "many"] f4 fd4) (D_total : Dn K mg "total" s_total ["fractions"] f5 fd5) (D_reduced : Dn K mg "reduced" s_reduced ["top", "bottom"] f6 fd6) (D_added : DTot K mg f7 fd7)
    (D_is_paying : Dn K mg "is_paying" s_is_paying ["thing", "answer", "worlds"] f8 fd8) (D_is_asking : Dn K mg "is_asking" s_is_asking ["thing", "question", "worlds"] f9 fd9) (D_is_table : Dn K mg "is_table" s_is_table ["thing", "node", "worlds"] g1 gd1) :
    ∀ n : Nat, FnOk P w K mg base CX0 (4 + 3 * n) f9 fd9 ["thing", "question", "worlds"] (spAsking K n) ∧ FnOk P w K mg base CX0 (5 + 3 * n) g1 gd1 ["thing", "node", "worlds"] (spTbl K n)
  | 0 => by
    have h0 : FnOk P w K mg base CX0 (4 + 3 * 0) f9 fd9 ["thing", "question", "worlds"] (spAsking K 0) := ⟨fun vs H Q E h => h.elim, fun A outer s H args us vs Q E _ _ _ _ h => h.elim⟩
    exact ⟨h0, ok_is_table D_is_table B C D_total D_reduced D_added D_is_asking h0⟩
  | n + 1 => by
    have ih := ok_tables B C D_is_integral D_is_fraction D_is_chance D_are_fractions D_total D_reduced D_added D_is_paying D_is_asking D_is_table n
    have h1 : FnOk P w K mg base CX0 (4 + 3 * (n + 1)) f9 fd9 ["thing", "question", "worlds"] (spAsking K (n + 1)) := by
      rw [show 4 + 3 * (n + 1) = 7 + 3 * n by omega]
      exact ok_is_asking D_is_asking B C D_is_integral D_is_fraction D_is_chance D_is_paying (ok_is_paying D_is_paying B C D_is_integral D_is_fraction D_are_fractions D_is_table ih.2)
    exact ⟨h1, ok_is_table D_is_table B C D_total D_reduced D_added D_is_asking h1⟩
theorem ok_is_test {n : Nat} {Cc fi fe f f1 f2 : Addr} {fd fd1 fd2 : FuncData} (D : Dn K mg "is_test" s_is_test ["house", "thing"] f fd) (B : Blt mg) (U : Hcl K mg Cc fi fe) (D_is_prior : Dn K mg "is_prior" s_is_prior ["thing", "worlds"] f1 fd1) (G_is_prior : FnOk P w K mg base CX0 5 f1 fd1 ["thing", "worlds"] (spPrior K))
    (D_is_table : Dn K mg "is_table" s_is_table ["thing", "node", "worlds"] f2 fd2) (G_is_table : FnOk P w K mg base CX0 (5 + 3 * n) f2 fd2 ["thing", "node", "worlds"] (spTbl K n)) : FnOk P w K mg base CX0 (6 + 3 * n) f fd ["house", "thing"] (spTest K Cc n) := by
  rw [show 6 + 3 * n = (5 + 3 * n) + 1 by omega]
  refine D.F.ok sc_is_test (fun vs H Q E h => ?_) (fun cdv A outer s H vs Q E hr h => ?_)
  · obtain ⟨p, u, v, W, t, pr, tb, rfl, _⟩ := h
    rfl
  obtain ⟨p, u, v, W, t, prior, tb, rfl, hs, hu, hp, tok, q⟩ := h
  have nd := sc_is_test.nd
  refine ⟨_, (pss_cons (ps_if (PW.pt (pw_or (pt_not (pt_val (pe_callB (k_isi (K := K) rfl) (by rfl) B.isinstance (by decide +kernel) (pa_cons (pv 1) (pa_cons (pe_bltn (v := .ty "tuple") (u := .type "tuple") (by rfl) B.tuple (by decide +kernel) rfl) pa_nil))))) (pw_or1 (pt_cmpR op_ne (pe_callB (k_len (K := K) rfl) (by rfl) B.len PySem.boot_len (pa_cons (pv 1) pa_nil)) pe_int (nomark _))))) (pss_one (ps_ret pe_bl)) pss_nil)
      (pss_one (ps_ret (pe_and (pe_call G_is_prior (hr.mono (by omega)) (by rfl) D_is_prior.m D_is_prior.F.kp D_is_prior.b .nil pass0 (pa_cons (pe_ix (k_ixT (K := K) rfl) (pv 1) pe_int (fun _ _ => rfl)) (pa_cons (k_fld (K := K) rfl (pv 0) rfl) pa_nil))) (pe_one (pe_call G_is_table (hr.mono (by omega)) (by rfl) D_is_table.m D_is_table.F.kp D_is_table.b .nil pass0 (pa_cons (pe_ix (k_ixT (K := K) rfl) (pv 1) pe_int (fun _ _ => rfl)) (pa_cons (k_fld (K := K) rfl (pv 0) rfl) (pa_cons (k_fld (K := K) rfl (pv 0) rfl) pa_nil))))))))), ?_⟩
  obtain ⟨a, v0, v1, rfl, ha, t0, t1'⟩ := td_two hu
  obtain ⟨d, ed⟩ := id hs.at_
  refine ⟨_, rfl, _, _, _, _, true, rfl, .ty "tuple", tyx_tup ha, kit_ty (by decide +kernel), _, rfl, iteF ?_⟩
  refine ⟨_, rfl, a, _, rfl, .inr ha, rfl, _, rfl, iteF ?_⟩
  refine ⟨_, rfl, a, _, 0, v0, rfl, rfl, ha, at_of (j := 0) rfl rfl, _, rfl, p, Cc, d, _, _, rfl, ed, U.cl, U.nw, hf_w _ _, v0, prior, W, rfl, t0, hp, hs.w5, fun H1 s1 => ⟨_, rfl, iteT ?_⟩⟩
  have hs1 := hs.keep s1
  obtain ⟨d, ed⟩ := id hs1.at_
  exact ⟨_, rfl, a, _, 1, v1, rfl, rfl, Same.kt s1 _ _ ha, at_of (j := 1) rfl rfl, _, rfl, p, Cc, d, _, _, rfl, ed, U.cl, U.nt, hf_t _ _, _, rfl, p, Cc, d, _, _, rfl, ed, U.cl, U.nw, hf_w _ _, W, v1, v, ones W, t, tb, rfl, t1'.keep (Same.kt s1), hs1.td, hs.w5, hs.ok, tok, fun H2 s2 => q H2 (s1.trans s2)⟩
theorem ok_check_test {n : Nat} {Cc f f1 : Addr} {fd fd1 : FuncData} (D : Dn K mg "check_test" s_check_test ["house", "thing"] f fd) (D_is_test : Dn K mg "is_test" s_is_test ["house", "thing"] f1 fd1) (G_is_test : FnOk P w K mg base CX0 (6 + 3 * n) f1 fd1 ["house", "thing"] (spTest K Cc n)) : FnOk P w K mg base CX0 (7 + 3 * n) f fd ["house", "thing"] (spCkTest K Cc n) := by
  rw [show 7 + 3 * n = (6 + 3 * n) + 1 by omega]
  refine D.F.ok sc_check_test (fun vs H Q E h => ?_) (fun cdv A outer s H vs Q E hr h => ?_)
  · obtain ⟨p, u, v, W, t, pr, tb, rfl, _⟩ := h
    rfl
  obtain ⟨p, u, v, W, t, prior, tb, rfl, hs, hu, hp, tok, q⟩ := h
  have nd := sc_check_test.nd
  refine ⟨_, (pss_one (ps_if (pt_not (pt_val (pe_call G_is_test (hr.mono (by omega)) (by rfl) D_is_test.m D_is_test.F.kp D_is_test.b .nil pass0 (pa_cons (pv 0) (pa_cons (pv 1) pa_nil))))) (pss_one ps_never) pss_nil)), ?_⟩
  exact ⟨_, rfl, _, rfl, p, u, v, W, t, prior, tb, rfl, hs, hu, hp, tok, fun H1 s1 => ⟨_, rfl, iteF (q H1 s1)⟩⟩
theorem ok_paid_for {f f1 f2 f3 f4 : Addr} {fd fd1 fd2 fd3 fd4 : FuncData} (D : Dn K mg "paid_for" s_paid_for ["prior", "weights", "pays"] f fd) (B : Blt mg) (C : Cst K mg aN aO t1 t2 t3 t4 t5 t6 t7) (D_total : Dn K mg "total" s_total ["fractions"] f1 fd1) (D_reduced : Dn K mg "reduced" s_reduced ["top", "bottom"] f2 fd2) (D_added : DTot K mg f3 fd3)
    (D_multiplied : Dn K mg "multiplied" s_multiplied ["first", "second"] f4 fd4) : FnOk P w K mg base CX0 4 f fd ["prior", "weights", "pays"] (spPF K) := by
  have G_total : FnOk P w K mg base CX0 3 f1 fd1 ["fractions"] (spTotal K) := ok_total D_total B C D_reduced D_added
  have G_multiplied : FnOk P w K mg base CX0 2 f4 fd4 ["first", "second"] (spMul K) := ok_multiplied D_multiplied B C D_reduced
  refine D.F.ok sc_paid_for (fun vs H Q E h => ?_) (fun cdv A outer s H vs Q E hr h => ?_)
  · obtain ⟨W, vp, vw, vy, prior, ws, ps, rfl, _⟩ := h
    rfl
  obtain ⟨W, vp, vw, vy, prior, ws, ps, rfl, tp, tw, ty, hp, h5, hlw, hw, hy, q⟩ := h
  have nd := sc_paid_for.nd
  refine ⟨_, (pss_one (ps_ret (pe_call G_total (hr.mono (by omega)) (by rfl) D_total.m D_total.F.kp D_total.b .nil pass0 (pa_cons (pe_lc (own := [("chance", 3), ("weight", 4), ("pay", 5)]) rfl nd (k_zip3 (K := K) rfl (by rfl) B.zip (pa_cons (pv 0) (pa_cons (pv 1) (pa_cons (pv 2) pa_nil)))) (blkOk_by (own := [("chance", 3), ("weight", 4), ("pay", 5)]) (by kernel_rfl)) (fun _ _ _ _ _ => (k_tup (K := K) (n := 3) rfl rfl (pgs_cons (pg_name (i := 3) nd rfl (.inl rfl)) (pgs_cons (pg_name (i := 4) nd rfl (.inl rfl)) (pgs_cons (pg_name (i := 5) nd rfl (.inl rfl)) pgs_nil))))) (fun _ _ _ _ _ => pts_nil) (fun _ _ _ _ _ => (pe_call G_multiplied (hr.mono (by omega)) (by rfl) D_multiplied.m D_multiplied.F.kp D_multiplied.b .nil pass0 (pa_cons (pe_call G_multiplied (hr.mono (by omega)) (by rfl) D_multiplied.m D_multiplied.F.kp D_multiplied.b .nil pass0 (pa_cons (pv 3) (pa_cons (pv 4) pa_nil))) (pa_cons (pv 5) pa_nil))))) pa_nil)))), ?_⟩
  obtain ⟨a, xs, rfl, ha, ta⟩ := tp.tupE
  obtain ⟨b, ys, rfl, hb, tb⟩ := tw.tupE
  obtain ⟨c, zs, rfl, hc, tc⟩ := ty.tupE
  have lx : xs.length = W := by rw [ta.len, List.length_map, hp.len]
  have ly : ys.length = W := by rw [tb.len, List.length_map, hlw]
  have lz : zs.length = W := by rw [tc.len, List.length_map, hy.len]
  have ld := dot3_len hp.len hlw hy.len
  refine ⟨_, rfl, _, rfl, _, rfl, a, b, c, xs, ys, zs, rfl, ha, hb, hc, fun T hT => ?_⟩
  refine lc_it (walk_zip3 (K := K) (a := a) (b := b) (c := c) lx ly lz) (fun i H2 => ∃ us : List V, H2 T = some (.lst us) ∧ TdAll K H2 us (((dot3 prior ws ps).take i).map rD) ∧ Same H H2) ⟨[], upd_same, .nil, same_upd hT⟩ (fun i H2 _ h => ?_) ?_ ?_
  · obtain ⟨_, _, _, s2⟩ := h
    exact ⟨Same.kt s2 _ _ ha, Same.kt s2 _ _ hb, Same.kt s2 _ _ hc⟩
  · rintro i x H2 H3 hi ⟨us, h2, t2, s2⟩ ⟨T2, x', y', z', rfl, n2, rfl, g1, g2, g3⟩
    obtain ⟨dx, ex, tx⟩ := ta.getV g1
    obtain ⟨dy, ey, ty⟩ := tb.getV g2
    obtain ⟨dz, ez, tz⟩ := tc.getV g3
    obtain ⟨r1, er1, rfl⟩ := mapAt ex
    obtain ⟨r2, er2, rfl⟩ := mapAt ey
    obtain ⟨r3, er3, rfl⟩ := mapAt ez
    have c1 := hp.ch r1 (List.mem_of_getElem? er1)
    have c2 := hw r2 (List.mem_of_getElem? er2)
    have c3 := hy.fd r3 (List.mem_of_getElem? er3)
    have s3 : Same H2 (upd H2 T2 (.tup [x', y', z'])) := same_upd n2
    have k3 := Same.kt (K := K) (s2.trans s3)
    refine ⟨T2, _, rfl, .inl (.inl upd_same), rfl, _, _, rfl, _, _, rfl, _, _, rfl, rfl, ?_⟩
    refine ⟨rfl, ?_⟩
    refine iteT (B := ∃ us : List V, (upd H2 T2 (.tup [x', y', z'])) T = some (.lst us) ∧ TdAll K (upd H2 T2 (.tup [x', y', z'])) us (((dot3 prior ws ps).take (i + 1)).map rD) ∧ Same H (upd H2 T2 (.tup [x', y', z']))) ?_
    refine ⟨_, rfl, _, rfl, x', y', r1, r2, rfl, tx.keep k3, ty.keep k3, c1.sm (by decide), c2.sm (by decide), fun v1 H4 s4 tv1 => ?_⟩
    refine ⟨_, rfl, v1, z', r1 * r2, r3, rfl, tv1, tz.keep (k3.trans (Same.kt s4)), (c1.prod c2).sm (by decide), c3.sm (by decide) (by decide), fun v H5 s5 tv => ?_⟩
    have s45 := s4.trans s5
    have h5' := s45 _ _ (s3 _ _ h2)
    have kT : KT K H5 (upd H5 T (.lst (us ++ [v]))) := KT.updL h5'
    refine ⟨us, h5', ?_, us ++ [v], upd_same, ?_, fun c o z => ?_⟩
    · rw [t2.len, List.length_map, List.length_take]
      exact small1000 (by omega)
    · rw [List.take_add_one, dot3_at er1 er2 er3, List.map_append]
      exact (t2.keep ((Same.kt (s3.trans s45)).trans kT)).app (.cons (tv.keep kT) .nil)
    · rw [upd_ne (ne_of_none z hT)]
      exact s45 _ _ (s3 _ _ (s2 _ _ z))
  · rintro H2 ⟨us, h2, t2, s2⟩
    rw [show (dot3 prior ws ps).take W = dot3 prior ws ps from List.take_of_length_le (by omega)] at t2
    obtain ⟨e, d0, d1, ab⟩ := tot_fd (dot3_fd hp hw hy.fd) (by decide) (by rw [ld]; omega)
    refine ⟨T, us, LL ^ 8, (dot3 prior ws ps).map (frN (LL ^ 8)), rfl, .inl (SqL.of h2), by rw [e]; exact t2, d0, d1, ab, by rw [List.length_map, ld]; omega, fun v H3 s3 tv => ?_⟩
    rw [e] at tv
    exact q v H3 (s2.trans s3) tv
theorem ok_paid_at {f f1 f2 f3 f4 f5 : Addr} {fd fd1 fd2 fd3 fd4 fd5 : FuncData} (D : Dn K mg "paid_at" s_paid_at ["prior", "node", "table"] f fd) (B : Blt mg) (C : Cst K mg aN aO t1 t2 t3 t4 t5 t6 t7) (D_total : Dn K mg "total" s_total ["fractions"] f1 fd1) (D_reduced : Dn K mg "reduced" s_reduced ["top", "bottom"] f2 fd2) (D_added : DTot K mg f3 fd3) {fA : Addr} {fdA : FuncData} (D_add : Dn K mg "added" s_added ["first", "second"] fA fdA)
    (D_multiplied : Dn K mg "multiplied" s_multiplied ["first", "second"] f4 fd4) (D_paid_for : Dn K mg "paid_for" s_paid_for ["prior", "weights", "pays"] f5 fd5) : ∀ n : Nat, FnOk P w K mg base CX0 (5 + n) f fd ["prior", "node", "table"] (spPA K n) := by
  intro n
  have G_total : FnOk P w K mg base CX0 3 f1 fd1 ["fractions"] (spTotal K) := ok_total D_total B C D_reduced D_added
  have G_added : FnOk P w K mg base CX0 2 fA fdA ["first", "second"] (spAdded K) := ok_added D_add B C D_reduced
  have G_multiplied : FnOk P w K mg base CX0 2 f4 fd4 ["first", "second"] (spMul K) := ok_multiplied D_multiplied B C D_reduced
  have G_paid_for : FnOk P w K mg base CX0 4 f5 fd5 ["prior", "weights", "pays"] (spPF K) := ok_paid_for D_paid_for B C D_total D_reduced D_added D_multiplied
  obtain ⟨sp0, G_paid_at, hsp⟩ : ∃ sp0, FnOk P w K mg base CX0 (4 + n) f fd ["prior", "node", "table"] sp0 ∧ (∀ m, n = m + 1 → sp0 = spPA K m) := by
    cases n with
    | zero => exact ⟨fun _ _ _ _ => False, ⟨fun vs H Q E h => h.elim, fun A outer s H args us vs Q E _ _ _ _ h => h.elim⟩, fun m e => by omega⟩
    | succ m =>
      have G := ok_paid_at D B C D_total D_reduced D_added D_add D_multiplied D_paid_for m
      rw [show 5 + m = 4 + (m + 1) by omega] at G
      exact ⟨_, G, fun m' e => by rw [show m' = m by omega]⟩
  rw [show 5 + n = (4 + n) + 1 by omega]
  refine D.F.ok sc_paid_at (fun vs H Q E h => ?_) (fun cdv A outer s H vs Q E hr h => ?_)
  · obtain ⟨W, vp, v, u, prior, ah, t, tb, rfl, _⟩ := h
    rfl
  obtain ⟨W, vp, v, u, prior, ahead, t, tb, rfl, tp, tv, tu, hp, h5, nok, tok, h6, q⟩ := h
  have nd := sc_paid_at.nd
  have D_paid_at := D
  have D_added := D_add
  refine ⟨_, (pss_cons (ps_set (i := 3) nd rfl (.inl rfl) (pe_lst pa_nil))
      (pss_cons (ps_for PassesOwn.never rfl (k_zip (K := K) rfl (by rfl) B.zip (pa_cons (pv 1) (pa_cons (pv 2) pa_nil))) (k_tup (K := K) (n := 2) rfl rfl (pgs_cons (pg_name (i := 4) nd rfl (.inl rfl)) (pgs_cons (k_tup (K := K) (n := 2) rfl rfl (pgs_cons (pg_name (i := 5) nd rfl (.inl rfl)) (pgs_cons (pg_name (i := 6) nd rfl (.inl rfl)) pgs_nil))) pgs_nil))) (pss_cons (ps_setLc (i := 7) (own := [("answer", 8), ("row", 9)]) rfl nd rfl rfl (sw_true rfl rfl rfl (by decide +kernel)) (k_zip (K := K) rfl (by rfl) B.zip (pa_cons (pv 4) (pa_cons (pv 6) pa_nil))) (blkOk_by (own := [("answer", 8), ("row", 9)]) (by kernel_rfl)) (fun _ _ _ _ _ => (k_tup (K := K) (n := 2) rfl rfl (pgs_cons (pg_name (i := 8) nd rfl (.inl rfl)) (pgs_cons (pg_name (i := 9) nd rfl (.inl rfl)) pgs_nil)))) (fun _ _ _ _ _ => pts_nil) (fun _ _ _ _ _ => (pe_call G_added (hr.mono (by omega)) (by rfl) D_added.m D_added.F.kp D_added.b .nil pass0 (pa_cons (pe_call G_paid_for (hr.mono (by omega)) (by rfl) D_paid_for.m D_paid_for.F.kp D_paid_for.b .nil pass0 (pa_cons (pv 0) (pa_cons (pe_ix (k_ixT (K := K) rfl) (pv 8) pe_int (fun _ _ => rfl)) (pa_cons (pe_ix (k_ixT (K := K) rfl) (pv 9) pe_int (fun _ _ => rfl)) pa_nil)))) (pa_cons (pe_call G_paid_at (hr.mono (by omega)) (by rfl) D_paid_at.m D_paid_at.F.kp D_paid_at.b .nil pass0 (pa_cons (pv 0) (pa_cons (pe_ix (k_ixT (K := K) rfl) (pv 8) pe_int (fun _ _ => rfl)) (pa_cons (pe_ix (k_ixT (K := K) rfl) (pv 9) pe_int (fun _ _ => rfl)) pa_nil)))) pa_nil)))))
      (pss_one (ps_expr (pe_bm PySem.F.plainAttrs_list PySem.F.slot_list_append PySem.F.type_list_append mt_append (pv 3) (pa_cons (pe_call G_multiplied (hr.mono (by omega)) (by rfl) D_multiplied.m D_multiplied.F.kp D_multiplied.b .nil pass0 (pa_cons (pv 5) (pa_cons (pe_call G_total (hr.mono (by omega)) (by rfl) D_total.m D_total.F.kp D_total.b .nil pass0 (pa_cons (pv 7) pa_nil)) pa_nil))) pa_nil))))))
      (pss_one (ps_ret (pe_call G_total (hr.mono (by omega)) (by rfl) D_total.m D_total.F.kp D_total.b .nil pass0 (pa_cons (pv 3) pa_nil)))))), ?_⟩
  refine ⟨by show 0 ≤ sizeLine; decide, fun T hT => ?_⟩
  have sT := same_upd (o := .lst []) hT
  cases n with
  | zero =>
    obtain ⟨a, xs, rfl, ha, ta⟩ := tv.tupE
    obtain ⟨b, ys, rfl, hb, tb'⟩ := tu.tupE
    cases ta
    cases tb'
    refine ⟨_, rfl, _, rfl, a, b, [], [], rfl, .inr ⟨Same.kt sT _ _ ha, Same.kt sT _ _ hb, for_it (walk_zipT (K := K) (a := a) (b := b) (xs := []) (ys := []) (n := 0) rfl) (fun i σ H2 => H2 = upd H T (.lst []) ∧ ∃ o4 o5 o6 o7 o8 o9 : Option V, σ = [some vp, some (.ref a), some (.ref b), some (.ref T), o4, o5, o6, o7, o8, o9]) ⟨rfl, none, none, none, none, none, none, rfl⟩ (fun i σ H2 _ h => by rw [h.1]; exact ⟨Same.kt sT _ _ ha, Same.kt sT _ _ hb⟩) ?_ ?_⟩⟩
    · rintro i x σ H2 H3 hi
      exact absurd hi (Nat.not_lt_zero _)
    · rintro σ H2 ⟨rfl, o4, o5, o6, o7, o8, o9, rfl⟩
      refine ⟨_, rfl, T, [], 1, [], rfl, .inl (SqL.of upd_same), .nil, by decide, Nat.one_lt_two_pow (by decide), Nat.two_pow_pos 1500, by decide, fun r H3 s3 tr => q r H3 (sT.trans s3) tr⟩
  | succ m =>
    have esp := hsp m rfl
    subst esp
    obtain ⟨c1, c2, al⟩ := tok
    have tv2 : Td K H v (.tuple ((show List (Qn m) from t).map (qnD m))) := tv
    have tu2 : Td K H u (.tuple ((show List (Ask m) from tb).map (askD m))) := tu
    obtain ⟨a, xs, rfl, ha, ta⟩ := tv2.tupE
    obtain ⟨b, ys, rfl, hb, tbb⟩ := tu2.tupE
    have lal := al.len
    have lx : xs.length = (show List (Qn m) from t).length := by rw [ta.len, List.length_map]
    have ly : ys.length = (show List (Ask m) from tb).length := by rw [tbb.len, List.length_map]
    have l5 : (show List (Qn m) from t).length ≤ 5 := nok.1
    have lal2 : (show List (Qn m) from t).length = (show List (Ask m) from tb).length := lal
    have lzw : (List.zipWith (paidQ prior m) (show List (Qn m) from t) (show List (Ask m) from tb)).length = (show List (Qn m) from t).length := by rw [List.length_zipWith]; omega
    have fdQ : ∀ z ∈ List.zipWith (paidQ prior m) (show List (Qn m) from t) (show List (Ask m) from tb), Fd (8 + (m + 1)) (12 * (20 + MB m)) z := paidQ_fd hp h5 nok c1 al
    have mb := mb_le m (by omega)
    refine ⟨_, rfl, _, rfl, a, b, xs, ys, rfl, .inr ⟨Same.kt sT _ _ ha, Same.kt sT _ _ hb, for_it (walk_zipT (K := K) (a := a) (b := b) (xs := xs) (ys := ys) (n := (show List (Qn m) from t).length) (by omega)) (fun i σ H2 => ∃ (us : List V) (o4 o5 o6 o7 o8 o9 : Option V), σ = [some vp, some (.ref a), some (.ref b), some (.ref T), o4, o5, o6, o7, o8, o9] ∧ H2 T = some (.lst us) ∧ TdAll K H2 us (((List.zipWith (paidQ prior m) (show List (Qn m) from t) (show List (Ask m) from tb)).take i).map rD) ∧ Same H H2) ⟨[], none, none, none, none, none, none, rfl, upd_same, .nil, sT⟩ (fun i σ H2 _ h => ?_) ?_ ?_⟩⟩
    · obtain ⟨_, _, _, _, _, _, _, _, _, _, s2⟩ := h
      exact ⟨Same.kt s2 _ _ ha, Same.kt s2 _ _ hb⟩
    · rintro i z σ H2 H3 hi ⟨us, o4, o5, o6, o7, o8, o9, rfl, h2, t2, s2⟩ ⟨T2, x', y', rfl, n2, rfl, g1, g2⟩
      obtain ⟨dx, ex, tx⟩ := ta.getV g1
      obtain ⟨dy, ey, ty⟩ := tbb.getV g2
      obtain ⟨qn, eq, rfl⟩ := mapAt ex
      obtain ⟨xa, exa, rfl⟩ := mapAt ey
      obtain ⟨xa', exa', alq⟩ := al.get eq
      have exa'' : (show List (Ask m) from tb)[i]? = some xa' := exa'
      rw [exa] at exa''
      cases exa''
      obtain ⟨qok, nk⟩ := nok.2 qn (List.mem_of_getElem? eq)
      have lq := alq.len
      have q12 := qok.most
      have s3 : Same H2 (upd H2 T2 (.tup [x', y'])) := same_upd n2
      have s03 := s2.trans s3
      have h3 := s3 _ _ h2
      have t3 := t2.keep (Same.kt s3)
      have e2 : SqT K (upd H2 T2 (.tup [x', y'])) T2 [x', y'] := .inl (.inl upd_same)
      have tx3 := tx.keep (Same.kt s03)
      have ty3 := ty.keep (Same.kt s03)
      generalize upd H2 T2 (.tup [x', y']) = H3 at s3 s03 h3 t3 e2 tx3 ty3 ⊢
      obtain ⟨px, vc, vr, rfl, hpx, tc, tr⟩ := td_two ty3
      refine ⟨T2, _, rfl, e2, rfl, _, _, rfl, _, _, rfl, px, _, rfl, hpx, rfl, _, _, rfl, _, _, rfl, rfl, rfl, ?_⟩
      obtain ⟨qa, qas, rfl, hqa, tqa⟩ := id tx3.tupE
      obtain ⟨ra, ras, rfl, hra, tra⟩ := id tr.tupE
      have lqa : qas.length = qn.length := by rw [tqa.len, List.length_map]
      have lra : ras.length = xa.2.length := by rw [tra.len, List.length_map]
      refine ⟨_, rfl, _, rfl, qa, ra, qas, ras, rfl, .inr ⟨hqa, hra, fun T3 hT3 => ?_⟩⟩
      have fdA := paidA_fd hp h5 qok nk alq
      have lzA : (List.zipWith (paidA prior m) qn xa.2).length = qn.length := by rw [List.length_zipWith]; omega
      refine lc_it (walk_zipT (K := K) (a := qa) (b := ra) (xs := qas) (ys := ras) (n := qn.length) (by omega)) (fun j H4 => ∃ ws : List V, H4 T3 = some (.lst ws) ∧ TdAll K H4 ws (((List.zipWith (paidA prior m) qn xa.2).take j).map rD) ∧ Same H3 H4) ⟨[], upd_same, .nil, same_upd hT3⟩ (fun j H4 _ h => ?_) ?_ ?_
      · obtain ⟨_, _, _, s4⟩ := h
        exact ⟨Same.kt s4 _ _ hqa, Same.kt s4 _ _ hra⟩
      · rintro j z H4 H5 hj ⟨ws, h4, t4, s4⟩ ⟨T4, x', y', rfl, n4, rfl, g3, g4⟩
        obtain ⟨dx, ex, tx⟩ := tqa.getV g3
        obtain ⟨dy, ey, ty⟩ := tra.getV g4
        obtain ⟨an, ea, rfl⟩ := mapAt ex
        obtain ⟨rw', er, rfl⟩ := mapAt ey
        obtain ⟨rw2, er2, pok, tok2⟩ := alq.get ea
        rw [er] at er2
        cases er2
        have ma := List.mem_of_getElem? ea
        have s5 : Same H4 (upd H4 T4 (.tup [x', y'])) := same_upd n4
        have s35 := s4.trans s5
        have h5' := s5 _ _ h4
        have e5 : SqT K (upd H4 T4 (.tup [x', y'])) T4 [x', y'] := .inl (.inl upd_same)
        have t5 := t4.keep (Same.kt s5)
        have tx5 := tx.keep (Same.kt s35)
        have ty5 := ty.keep (Same.kt s35)
        generalize upd H4 T4 (.tup [x', y']) = H5 at s5 s35 h5' e5 t5 tx5 ty5 ⊢
        obtain ⟨pa, va, vw, vt, rfl, hpa, _, tw, tt⟩ := td_an tx5
        obtain ⟨pr, vy, vb, rfl, hpr, tyy, tbb'⟩ := td_two ty5
        refine ⟨T4, _, rfl, e5, rfl, _, _, rfl, _, _, rfl, rfl, ?_⟩
        refine ⟨rfl, ?_⟩
        refine iteT (B := ∃ ws : List V, H5 T3 = some (.lst ws) ∧ TdAll K H5 ws (((List.zipWith (paidA prior m) qn xa.2).take (j + 1)).map rD) ∧ Same H3 H5) ?_
        have tp5 := tp.keep (Same.kt (s03.trans s35))
        refine ⟨_, rfl, _, rfl, pa, _, 1, vw, rfl, rfl, hpa, at_of (j := 1) rfl rfl, _, rfl, pr, _, 0, vy, rfl, rfl, hpr, at_of (j := 0) rfl rfl, W, vp, vw, vy, prior, an.2.1, rw'.1, rfl, tp5, tw, tyy, hp, h5, qok.wide an ma, qok.chs an ma, pok, fun v1 H6 s6 tv1 => ?_⟩
        have k6 := Same.kt (K := K) s6
        refine ⟨_, rfl, _, rfl, pa, _, 2, vt, rfl, rfl, k6 _ _ hpa, at_of (j := 2) rfl rfl, _, rfl, pr, _, 1, vb, rfl, rfl, k6 _ _ hpr, at_of (j := 1) rfl rfl, W, vp, vt, vb, prior, an.2.1, an.2.2, rw'.2, rfl, tp5.keep k6, tt.keep k6, tbb'.keep k6, hp, h5, nk an ma, tok2, by omega, fun v2 H7 s7 tv2 => ?_⟩
        have f1 := payF_fd hp h5 (qok.wide an ma) (qok.chs an ma) pok
        have f2 := paid_fd hp h5 m an.2.1 an.2.2 rw'.2 (nk an ma) tok2
        refine ⟨v1, v2, _, _, rfl, tv1.keep (Same.kt s7), tv2, f1.sm (by decide) (by decide), f2.sm (by omega) (Nat.le_trans mb (Nat.pow_le_pow_right (by decide) (by decide))), fun v H8 s8 tv => ?_⟩
        have s58 := (s6.trans s7).trans s8
        have h8 := s58 _ _ h5'
        have kT : KT K H8 (upd H8 T3 (.lst (ws ++ [v]))) := KT.updL h8
        refine ⟨ws, h8, ?_, ws ++ [v], upd_same, ?_, fun c o z => ?_⟩
        · rw [t5.len, List.length_map, List.length_take]
          exact small1000 (by omega)
        · rw [take_zip_succ ea er, List.map_append]
          exact (t5.keep ((Same.kt s58).trans kT)).app (.cons (tv.keep kT) .nil)
        · rw [upd_ne (ne_of_none z hT3)]
          exact s58 _ _ (s35 _ _ z)
      · rintro H4 ⟨ws, h4, t4, s4⟩
        rw [show (List.zipWith (paidA prior m) qn xa.2).take qn.length = List.zipWith (paidA prior m) qn xa.2 from List.take_of_length_le (by omega)] at t4
        have h3' := s4 _ _ h3
        have mb2 : (List.zipWith (paidA prior m) qn xa.2).length * (20 + MB m) ≤ 2 ^ 100 := by
          rw [lzA]
          exact Nat.le_trans (Nat.mul_le_mul_right _ q12) (by omega)
        obtain ⟨e, d0, d1, ab⟩ := tot_fd fdA (by omega) mb2
        refine ⟨_, rfl, .inl ⟨rfl, _, SqL.of h3'⟩, _, rfl, _, rfl, T3, ws, LL ^ (8 + m), _, rfl, .inl (SqL.of h4), by rw [e]; exact t4, d0, d1, ab, by rw [List.length_map, lzA]; omega, fun v5 H5 s5 tv5 => ?_⟩
        rw [e] at tv5
        have ft := fd_sum fdA
        have cx := c1 xa (List.mem_of_getElem? exa)
        refine ⟨vc, v5, xa.1, _, rfl, tc.keep (Same.kt (s4.trans s5)), tv5, cx.sm (by decide), ft.sm (by omega) mb2, fun v6 H6 s6 tv6 => ?_⟩
        have s36 := (s4.trans s5).trans s6
        have h6' := s36 _ _ h3
        have kT : KT K H6 (upd H6 T (.lst (us ++ [v6]))) := KT.updL h6'
        refine ⟨T, _, _, rfl, rfl, h6', ?_, us ++ [v6], _, _, _, _, _, _, rfl, upd_same, ?_, fun c o z => ?_⟩
        · rw [t3.len, List.length_map, List.length_take]
          exact small1000 (by omega)
        · rw [take_zip_succ eq exa, List.map_append]
          exact (t3.keep ((Same.kt s36).trans kT)).app (.cons (tv6.keep kT) .nil)
        · rw [upd_ne (ne_of_none z hT)]
          exact s36 _ _ (s03 _ _ z)
    · rintro σ H2 ⟨us, o4, o5, o6, o7, o8, o9, rfl, h2, t2, s2⟩
      rw [show (List.zipWith (paidQ prior m) (show List (Qn m) from t) (show List (Ask m) from tb)).take (show List (Qn m) from t).length = List.zipWith (paidQ prior m) (show List (Qn m) from t) (show List (Ask m) from tb) from List.take_of_length_le (by omega)] at t2
      obtain ⟨e, d0, d1, ab⟩ := tot_fd fdQ (by omega) (by rw [lzw]; exact Nat.le_trans (Nat.mul_le_mul l5 (Nat.le_refl _)) (by omega))
      refine ⟨_, rfl, T, us, LL ^ (8 + (m + 1)), _, rfl, .inl (SqL.of h2), by rw [e]; exact t2, d0, d1, ab, by rw [List.length_map, lzw]; omega, fun r H3 s3 tr => ?_⟩
      rw [e] at tr
      exact q r H3 (s2.trans s3) tr
theorem ok_paid {n : Nat} {Cc fi fe f f1 f2 : Addr} {fd fd1 fd2 : FuncData} (D : Dn K mg "paid" s_paid ["house", "test"] f fd) (U : Hcl K mg Cc fi fe) (D_check_test : Dn K mg "check_test" s_check_test ["house", "thing"] f1 fd1) (G_check_test : FnOk P w K mg base CX0 (7 + 3 * n) f1 fd1 ["house", "thing"] (spCkTest K Cc n))
    (D_paid_at : Dn K mg "paid_at" s_paid_at ["prior", "node", "table"] f2 fd2) (G_paid_at : FnOk P w K mg base CX0 (5 + n) f2 fd2 ["prior", "node", "table"] (spPA K n)) : FnOk P w K mg base CX0 (8 + 3 * n) f fd ["house", "test"] (spPaid K Cc n) := by
  rw [show 8 + 3 * n = (7 + 3 * n) + 1 by omega]
  refine D.F.ok sc_paid (fun vs H Q E h => ?_) (fun cdv A outer s H vs Q E hr h => ?_)
  · obtain ⟨p, u, v, W, t, pr, tb, rfl, _⟩ := h
    rfl
  obtain ⟨p, u, v, W, t, prior, tb, rfl, hs, hu, hp, tok, h6, q⟩ := h
  have nd := sc_paid.nd
  refine ⟨_, (pss_cons (ps_expr (pe_call G_check_test (hr.mono (by omega)) (by rfl) D_check_test.m D_check_test.F.kp D_check_test.b .nil pass0 (pa_cons (pv 0) (pa_cons (pv 1) pa_nil))))
      (pss_cons (ps_asg (pv 1) (k_tup (K := K) (n := 2) rfl rfl (pgs_cons (pg_name (i := 2) nd rfl (.inl rfl)) (pgs_cons (pg_name (i := 3) nd rfl (.inl rfl)) pgs_nil))))
      (pss_one (ps_ret (pe_call G_paid_at (hr.mono (by omega)) (by rfl) D_paid_at.m D_paid_at.F.kp D_paid_at.b .nil pass0 (pa_cons (pv 2) (pa_cons (k_fld (K := K) rfl (pv 0) rfl) (pa_cons (pv 3) pa_nil)))))))), ?_⟩
  refine ⟨_, rfl, _, rfl, p, u, v, W, t, prior, tb, rfl, hs, hu, hp, tok, fun H1 s1 => ?_⟩
  have hs1 := hs.keep s1
  obtain ⟨a, v0, v1, rfl, ha, t0, t1'⟩ := td_two (hu.keep (Same.kt s1))
  obtain ⟨d, ed⟩ := id hs1.at_
  refine ⟨_, rfl, a, _, rfl, ha, rfl, _, _, rfl, _, _, rfl, rfl, ?_⟩
  exact ⟨_, rfl, _, rfl, p, Cc, d, _, _, rfl, ed, U.cl, U.nt, hf_t _ _, _, rfl, W, v0, v, v1, prior, ones W, t, tb, rfl, t0, hs1.td, t1', hp, hs.w5, hs.ok, tok, h6, fun r H2 s2 tr => q r H2 (s1.trans s2) tr⟩
end
end Tl
namespace Tl
open PySem PySem.Spec PyProof.Rows L2 RZ
/-! ### what the law draws for a test -/
theorem shares_ch {m : Nat} {rs : List Rat} (h : IsShares m rs) (hm : m ≤ 12) : ∀ r ∈ rs, Ch 1 r := by
  obtain ⟨ps, h1, h2, h3, rfl⟩ := h
  intro r hr
  obtain ⟨p, hp, rfl⟩ := List.mem_map.mp hr
  refine ch_share h2 (by omega) ?_
  have : ∀ (l : List Nat) (x : Nat), x ∈ l → x ≤ l.sum := fun l => by
    induction l with
    | nil =>
      intro x h
      exact absurd h List.not_mem_nil
    | cons y r ih =>
      intro x h
      rcases List.mem_cons.mp h with rfl | h
      · show x ≤ x + r.sum
        omega
      · have := ih x h
        show x ≤ y + r.sum
        omega
  exact this ps p hp
theorem shares_sum {m : Nat} {rs : List Rat} (h : IsShares m rs) : fsum rs = 1 ∧ rs.length = m ∧ ∀ i, fsum (rs.take i) ≤ 1 := by
  obtain ⟨ps, h1, h2, h3, rfl⟩ := h
  refine ⟨by rw [fsum_mk _ h2, mk_same _ h2], by rw [List.length_map, h1], fun i => ?_⟩
  rw [← List.map_take, fsum_mk _ h2]
  refine mk_le_one _ _ h2 ?_
  have e : (ps.take i ++ ps.drop i).sum = (ps.take i).sum + (ps.drop i).sum := List.sum_append
  rw [List.take_append_drop] at e
  omega
theorem shares_prior {W : Nat} {rs : List Rat} (h : IsShares W rs) (h5 : W ≤ 5) : PriorOk W rs := ⟨(shares_sum h).2.1, shares_ch h (by omega), (shares_sum h).1⟩
theorem pay_fd {t : Int} {b : Nat} (h1 : -4 ≤ t) (h2 : t ≤ 4) (b1 : 1 ≤ b) (b3 : b ≤ 3) : Fd 1 4 (mkRat t b) := by
  have hb : 0 < b := b1
  refine ⟨?_, ?_⟩
  · rw [Nat.pow_one]
    exact Nat.dvd_trans (mk_den_dvd hb) (ll_dvd b hb (by omega))
  · have dp : (1 : Int) ≤ ((mkRat t b).den : Int) := by
      have := Nat.pos_of_ne_zero (mkRat t b).den_nz
      omega
    have nl : (mkRat t b).num.natAbs ≤ 4 := by
      rw [(mkRat_parts t b hb).1]
      exact Nat.le_trans (Int.natAbs_ediv_le_natAbs _ _) (by omega)
    constructor
    · refine (Rat.le_iff _ _).mpr ?_
      rw [Rat.neg_num, Rat.neg_den, Rat.num_natCast, Rat.den_natCast]
      show -(4 : Int) * ((mkRat t b).den : Int) ≤ (mkRat t b).num * 1
      omega
    · refine (Rat.le_iff _ _).mpr ?_
      rw [Rat.num_natCast, Rat.den_natCast]
      show (mkRat t b).num * 1 ≤ 4 * ((mkRat t b).den : Int)
      omega
def spPlus (K : PySem.W.Frag) : Sp := fun vs H Q _ => ∃ (x y : V) (p q : Rat), vs = [x, y] ∧ Td K H x (rD p) ∧ Td K H y (rD q) ∧ Sm p ∧ Sm q ∧ ∀ v H', Same H H' → Td K H' v (rD (p + q)) → Q v H'
def spTab (K : PySem.W.Frag) (n : Nat) : Sp := fun vs H Q _ => ∃ (b g : Addr) (W : Nat) (v : V) (ahead : List Rat) (t : Nd n), vs = [.ref b, .int (W : Int), v] ∧ Bag H b g ∧ Td K H v (ndD n t) ∧ NdOk W n ahead t ∧ 1 ≤ W ∧ W ≤ 5 ∧
  ∀ (v' : V) (tb : Tb n) (H' : Hp), Td K H' v' (tbD n tb) → TbOk W n t tb → Bag H' b g → Frm b g H H' → Q v' H'
def spTst (K : PySem.W.Frag) (n : Nat) : Sp := fun vs H Q _ => ∃ (b g : Addr) (W : Nat) (v : V) (ahead : List Rat) (t : Nd n), vs = [.ref b, .int (W : Int), v] ∧ Bag H b g ∧ Td K H v (ndD n t) ∧ NdOk W n ahead t ∧ 1 ≤ W ∧ W ≤ 5 ∧
  ∀ (v' : V) (prior : List Rat) (tb : Tb n) (H' : Hp), Td K H' v' (tsD n prior tb) → PriorOk W prior → TbOk W n t tb → Bag H' b g → Frm b g H H' → Q v' H'
theorem Sm.big {q : Rat} (h : Sm q) : q.den < 2 ^ 2000 ∧ q.num.natAbs < 2 ^ 2000 := by
  have z : 2 ^ 1500 < 2 ^ 2000 := Nat.pow_lt_pow_right (by decide) (by decide)
  exact ⟨Nat.lt_trans h.1 z, Nat.lt_trans h.2 z⟩
section
variable {P : Program} {w : World} {K : PySem.W.Frag} {mg : Str → Option Value} {base : Heap}
theorem ok_law_plus {f f1 f2 : Addr} {fd fd1 fd2 : FuncData} (D : Dn K mg "_law_plus" s_law_plus ["one", "other"] f fd) (B : Blt mg) (D_law_low : Dn K mg "_law_low" s_law_low ["top", "bottom"] f1 fd1) (D_law_common : Dn K mg "_law_common" s_law_common ["one", "other"] f2 fd2) : FnOk P w K mg base CX0 3 f fd ["one", "other"] (spPlus K) := by
  have G_law_low : FnOk P w K mg base CX0 2 f1 fd1 ["top", "bottom"] (spLow K) := ok_law_low D_law_low B D_law_common
  refine D.F.ok sc_law_plus (fun vs H Q E h => ?_) (fun cdv A outer s H vs Q E hr h => ?_)
  · obtain ⟨x, y, p, q, rfl, _⟩ := h
    rfl
  obtain ⟨x, y, p, q, rfl, hx, hy, z1, z2, k⟩ := h
  have nd := sc_law_plus.nd
  refine ⟨_, (pss_one (ps_ret (pe_call G_law_low (hr.mono (by omega)) (by rfl) D_law_low.m D_law_low.F.kp D_law_low.b .nil pass0 (pa_cons (pe_op op_add (pe_op op_mulW (pe_ix (k_ixT (K := K) rfl) (pv 0) pe_int (fun _ _ => rfl)) (pe_ix (k_ixT (K := K) rfl) (pv 1) pe_int (fun _ _ => rfl))) (pe_op op_mulW (pe_ix (k_ixT (K := K) rfl) (pv 1) pe_int (fun _ _ => rfl)) (pe_ix (k_ixT (K := K) rfl) (pv 0) pe_int (fun _ _ => rfl)))) (pa_cons (pe_op op_mulW (pe_ix (k_ixT (K := K) rfl) (pv 0) pe_int (fun _ _ => rfl)) (pe_ix (k_ixT (K := K) rfl) (pv 1) pe_int (fun _ _ => rfl))) pa_nil))))), ?_⟩
  obtain ⟨a, rfl, ha⟩ := hx.rE
  obtain ⟨b, rfl, hb⟩ := hy.rE
  have i0 : atI [V.int p.num, .int (p.den : Int)] 0 = some (.int p.num) := at_of (j := 0) rfl rfl
  have i1 : atI [V.int p.num, .int (p.den : Int)] 1 = some (.int (p.den : Int)) := at_of (j := 1) rfl rfl
  have j0 : atI [V.int q.num, .int (q.den : Int)] 0 = some (.int q.num) := at_of (j := 0) rfl rfl
  have j1 : atI [V.int q.num, .int (q.den : Int)] 1 = some (.int (q.den : Int)) := at_of (j := 1) rfl rfl
  have hp0 : 0 < p.den := Nat.pos_of_ne_zero p.den_nz
  have hq0 : 0 < q.den := Nat.pos_of_ne_zero q.den_nz
  have dp : ((p.den : Int)).natAbs < 2 ^ 1500 := by rw [Int.natAbs_natCast]; exact z1.1
  have dq : ((q.den : Int)).natAbs < 2 ^ 1500 := by rw [Int.natAbs_natCast]; exact z2.1
  have c1 : CMulW p.num (q.den : Int) := wide_mul z1.2 dq (by decide) (by decide) (by decide)
  have c2 : CMulW q.num (p.den : Int) := wide_mul z2.2 dp (by decide) (by decide) (by decide)
  have c3 : CMulW (p.den : Int) (q.den : Int) := wide_mul dp dq (by decide) (by decide) (by decide)
  refine ⟨_, rfl, a, _, 0, _, rfl, rfl, ha, i0, _, rfl, b, _, 1, _, rfl, rfl, hb, j1, _, _, rfl, rfl, c1, _, rfl, b, _, 0, _, rfl, rfl, hb, j0, _, rfl, a, _, 1, _, rfl, rfl, ha, i1, _, _, rfl, rfl, c2, _, _, rfl, rfl,
    _, rfl, a, _, 1, _, rfl, rfl, ha, i1, _, rfl, b, _, 1, _, rfl, rfl, hb, j1, _, _, rfl, rfl, c3, ?_⟩
  refine ⟨p.num * q.den + q.num * p.den, p.den * q.den, by rw [Int.natCast_mul]; rfl, Nat.mul_pos hp0 hq0, ?_, fun v H' s' hv => k v H' s' ?_⟩
  · have z := Nat.mul_lt_mul'' z1.1 z2.1
    rw [← Nat.pow_add] at z
    exact Nat.lt_trans z (Nat.pow_lt_pow_right (by decide) (by decide))
  · rw [← Rat.mkRat_add_mkRat _ _ p.den_nz q.den_nz, rat_mk, rat_mk] at hv
    exact hv
theorem ok_law_table {f f1 f2 f3 f4 : Addr} {fd fd1 fd2 fd3 fd4 : FuncData} (D : Dn K mg "_law_table" s_law_table ["bag", "worlds", "node"] f fd) (B : Blt mg) (D_law_low : Dn K mg "_law_low" s_law_low ["top", "bottom"] f1 fd1) (D_law_common : Dn K mg "_law_common" s_law_common ["one", "other"] f2 fd2)
    (D_law_pick : Dn K mg "_law_pick" s_law_pick ["bag", "many"] f3 fd3) (D_law_shares : Dn K mg "_law_shares" s_law_shares ["bag", "many", "least"] f4 fd4) : ∀ n : Nat, FnOk P w K mg base CX0 (4 + n) f fd ["bag", "worlds", "node"] (spTab K n) := by
  intro n
  have G_law_low : FnOk P w K mg base CX0 2 f1 fd1 ["top", "bottom"] (spLow K) := ok_law_low D_law_low B D_law_common
  have G_law_pick : FnOk P w K mg base CX0 1 f3 fd3 ["bag", "many"] spPick := ok_law_pick D_law_pick B
  have G_law_shares : FnOk P w K mg base CX0 3 f4 fd4 ["bag", "many", "least"] (spShares K) := ok_law_shares D_law_shares B D_law_low D_law_common D_law_pick
  obtain ⟨sp0, G_law_table, hsp⟩ : ∃ sp0, FnOk P w K mg base CX0 (3 + n) f fd ["bag", "worlds", "node"] sp0 ∧ (∀ m, n = m + 1 → sp0 = spTab K m) := by
    cases n with
    | zero => exact ⟨fun _ _ _ _ => False, ⟨fun vs H Q E h => h.elim, fun A outer s H args us vs Q E _ _ _ _ h => h.elim⟩, fun m e => by omega⟩
    | succ m =>
      have G := ok_law_table D B D_law_low D_law_common D_law_pick D_law_shares m
      rw [show 4 + m = 3 + (m + 1) by omega] at G
      exact ⟨_, G, fun m' e => by rw [show m' = m by omega]⟩
  rw [show 4 + n = (3 + n) + 1 by omega]
  refine D.F.ok sc_law_table (fun vs H Q E h => ?_) (fun cdv A outer s H vs Q E hr h => ?_)
  · obtain ⟨b, g, W, v, ahead, t, rfl, _⟩ := h
    rfl
  obtain ⟨b, g, W, v, ahead, t, rfl, hB, hv, hok, hW1, hW5, q⟩ := h
  have nd := sc_law_table.nd
  have D_law_table := D
  refine ⟨_, (pss_cons (ps_par (i := 3) (j := 4) rfl nd rfl rfl (by decide) rfl rfl (pa_cons (pe_lst pa_nil) (pa_cons (pe_call G_law_shares (hr.mono (by omega)) (by rfl) D_law_shares.m D_law_shares.F.kp D_law_shares.b .nil pass0 (pa_cons (pv 0) (pa_cons (pe_op op_add (pe_callB (k_len (K := K) rfl) (by rfl) B.len PySem.boot_len (pa_cons (pv 2) pa_nil)) pe_int) (pa_cons pe_int pa_nil)))) pa_nil)) (by rfl))
      (pss_cons (ps_for PassesOwn.never rfl (k_enum (K := K) rfl (by rfl) B.enumerate (pa_cons (pv 2) pa_nil)) (k_tup (K := K) (n := 2) rfl rfl (pgs_cons (pg_name (i := 5) nd rfl (.inl rfl)) (pgs_cons (pg_name (i := 6) nd rfl (.inl rfl)) pgs_nil))) (pss_cons (ps_set (i := 7) nd rfl (.inl rfl) (pe_lst pa_nil))
      (pss_cons (ps_for PassesOwn.never rfl (k_iT (K := K) rfl (pv 6)) (k_tup (K := K) (n := 3) rfl rfl (pgs_cons (pg_name (i := 8) nd rfl (.inl rfl)) (pgs_cons (pg_name (i := 9) nd rfl (.inl rfl)) (pgs_cons (pg_name (i := 10) nd rfl (.inl rfl)) pgs_nil)))) (pss_cons (ps_setLc (i := 11) (own := [("world", 12)]) rfl nd rfl rfl (sw_true rfl rfl rfl (by decide +kernel)) (pi_range1 (by rfl) B.range (pa_cons (pv 1) pa_nil)) (blkOk_by (own := [("world", 12)]) (by kernel_rfl)) (fun _ _ _ _ _ => (pg_name (i := 12) nd rfl (.inl rfl))) (fun _ _ _ _ _ => pts_nil) (fun _ _ _ _ _ => (pe_call G_law_low (hr.mono (by omega)) (by rfl) D_law_low.m D_law_low.F.kp D_law_low.b .nil pass0 (pa_cons (pe_op op_sub (pe_call G_law_pick (hr.mono (by omega)) (by rfl) D_law_pick.m D_law_pick.F.kp D_law_pick.b .nil pass0 (pa_cons (pv 0) (pa_cons pe_int pa_nil))) pe_int) (pa_cons (pe_op op_add pe_int (pe_call G_law_pick (hr.mono (by omega)) (by rfl) D_law_pick.m D_law_pick.F.kp D_law_pick.b .nil pass0 (pa_cons (pv 0) (pa_cons pe_int pa_nil)))) pa_nil)))))
      (pss_one (ps_expr (pe_bm PySem.F.plainAttrs_list PySem.F.slot_list_append PySem.F.type_list_append mt_append (pv 7) (pa_cons (pe_tup (pa_cons (pe_callTy (k_tupOf (K := K) rfl) (by rfl) B.tuple (by decide +kernel) (pa_cons (pv 11) pa_nil)) (pa_cons (pe_call G_law_table (hr.mono (by omega)) (by rfl) D_law_table.m D_law_table.F.kp D_law_table.b .nil pass0 (pa_cons (pv 0) (pa_cons (pv 1) (pa_cons (pv 10) pa_nil)))) pa_nil))) pa_nil))))))
      (pss_one (ps_expr (pe_bm PySem.F.plainAttrs_list PySem.F.slot_list_append PySem.F.type_list_append mt_append (pv 3) (pa_cons (pe_tup (pa_cons (pe_ix (k_ixL (K := K) rfl) (pv 4) (pv 5) (fun _ _ => rfl)) (pa_cons (pe_callTy (k_tupOf (K := K) rfl) (by rfl) B.tuple (by decide +kernel) (pa_cons (pv 7) pa_nil)) pa_nil))) pa_nil)))))))
      (pss_one (ps_ret (pe_callTy (k_tupOf (K := K) rfl) (by rfl) B.tuple (by decide +kernel) (pa_cons (pv 3) pa_nil)))))), ?_⟩
  obtain ⟨a, xs, ds, rfl, ha, ed, ta, l0⟩ := td_qs hv
  have l5 : xs.length ≤ 5 := by
    rw [ta.len]
    cases n with
    | zero =>
      have e : ndD 0 t = .tuple [] := rfl
      rw [e] at ed
      cases ed
      decide
    | succ n =>
      have e : ndD (n + 1) t = .tuple ((show List (Qn n) from t).map (qnD n)) := rfl
      rw [e] at ed
      cases ed
      rw [List.length_map]
      exact hok.1
  refine ⟨by show 0 ≤ sizeLine; decide, fun T hT => ?_⟩
  obtain ⟨Tb', Tg⟩ := hB.neNew hT
  have sT := same_upd (o := .lst []) hT
  refine ⟨_, rfl, _, rfl, a, xs, rfl, .inr (Same.kt sT _ _ ha), _, _, rfl, rfl, b, g, xs.length + 1, 0, rfl, hB.keep sT, by omega, by omega, by decide, by decide, fun C cs cus H1 hsh hC tC nC B1 F1 => ?_⟩
  refine ⟨_, _, rfl, ?_⟩
  have hT1 : H1 T = some (.lst []) := F1 _ _ upd_same Tb' Tg
  obtain ⟨Cb, Cg⟩ := (hB.keep sT).neNew nC
  have CT : C ≠ T := fun e => by
    rw [e, upd_same] at nC
    cases nC
  have nC0 : H C = none := by
    rw [upd_ne CT] at nC
    exact nC
  have F01 : Frm b g H H1 := (Frm.of sT).trans F1
  obtain ⟨hs1, hsl, hsp'⟩ := shares_sum hsh
  have hch := shares_ch hsh (by omega)
  have lcu : cus.length = xs.length + 1 := by rw [tC.len, List.length_map, hsl]
  clear F1 nC
  cases n with
  | zero =>
    have := l0 rfl
    subst this
    refine ⟨_, rfl, a, [], rfl, hB.kt F01 _ _ ha, for_it (walk_enumT (K := K) (a := a) (xs := [])) (fun i σ H2 => H2 = H1 ∧ ∃ o5 o6 o7 o8 o9 o10 o11 o12 : Option V, σ = [some (.ref b), some (.int (W : Int)), some (.ref a), some (.ref T), some (.ref C), o5, o6, o7, o8, o9, o10, o11, o12]) ⟨rfl, none, none, none, none, none, none, none, none, rfl⟩ (fun i σ H2 _ h => by rw [h.1]; exact hB.kt F01 _ _ ha) ?_ ?_⟩
    · rintro i x σ H2 H3 hi
      exact absurd hi (Nat.not_lt_zero _)
    · rintro σ H2 ⟨rfl, o5, o6, o7, o8, o9, o10, o11, o12, rfl⟩
      refine ⟨_, rfl, T, [], rfl, SqL.of hT1, fun l H' s' q' => q (.ref l) () H' (.tup q' .nil) trivial (B1.keep s') (F01.trans (.of s'))⟩
  | succ n =>
    have hsp := hsp n rfl
    subst hsp
    obtain ⟨qs, hqs⟩ : ∃ qs : List (Qn n), (qs : Nd (n + 1)) = t := ⟨t, rfl⟩
    subst hqs
    cases ed
    have lx : xs.length = qs.length := by rw [ta.len, List.length_map]
    refine ⟨_, rfl, a, xs, rfl, hB.kt F01 _ _ ha, for_it (walk_enumT (K := K) (a := a) (xs := xs)) (fun i σ H2 => ∃ (us : List V) (ys : List (Ask n)) (o5 o6 o7 o8 o9 o10 o11 o12 : Option V), σ = [some (.ref b), some (.int (W : Int)), some (.ref a), some (.ref T), some (.ref C), o5, o6, o7, o8, o9, o10, o11, o12] ∧ H2 T = some (.lst us) ∧ TdAll K H2 us (ys.map (askD n)) ∧ Al (fun (q : Qn n) (x : Ask n) => Al (fun (a : An n) (r : Rw n) => PaysOk W r.1 ∧ TbOk W n a.2.2 r.2) q x.2) (qs.take i) ys ∧ ys.map (·.1) = cs.take i ∧ Bag H2 b g ∧ Frm b g H H2 ∧ Frm b g H1 (upd H2 T (.lst [])))
      ⟨[], [], none, none, none, none, none, none, none, none, rfl, hT1, .nil, .nil, rfl, B1, F01, fun c o e n1 n2 => by
        by_cases z : c = T
        · subst z
          rw [hT1] at e
          rw [upd_same]
          exact e
        · rw [upd_ne z]
          exact e⟩ (fun i σ H2 _ h => ?_) ?_ ?_⟩
    · obtain ⟨_, _, _, _, _, _, _, _, _, _, _, _, _, _, _, _, F2, _⟩ := h
      exact hB.kt F2 _ _ ha
    · rintro i x σ H2 H3 hi ⟨us, ys, o5, o6, o7, o8, o9, o10, o11, o12, rfl, h2, t2, al, ech, B2, F2, G2⟩ ⟨T2, x1, x2, rfl, n2, rfl, e1, e2⟩
      cases e1
      obtain ⟨dx, ex, tx⟩ := ta.getV e2
      obtain ⟨qn, eq, rfl⟩ := map_at ex
      obtain ⟨qok, nok⟩ := hok.2 qn (List.mem_of_getElem? eq)
      have q12 := qok.most
      have s3 : Same H2 (upd H2 T2 (.tup [.int (i : Int), x2])) := same_upd n2
      have TT2 : T ≠ T2 := ne_of_none h2 n2
      have h3 := s3 _ _ h2
      have t3 := t2.keep (Same.kt s3)
      have B3 := B2.keep s3
      have F3 := F2.trans (.of s3)
      have tx3 := tx.keep (hB.kt F3)
      have hC2 : H2 C = some (.lst cus) := by
        have := G2 _ _ hC Cb Cg
        rw [upd_ne CT] at this
        exact this
      have hC3 := s3 _ _ hC2
      have tC3 : TdAll K (upd H2 T2 (.tup [.int (i : Int), x2])) cus (cs.map rD) := by
        have k1 : KT K H1 (upd H2 T (.lst [])) := B1.kt G2
        have k2 : KT K (upd H2 T (.lst [])) H2 := fun c zs z => by
          have ne : ∀ {o : HO}, (upd H2 T (.lst [])) c = some o → (∀ ws, o ≠ .lst ws) → c ≠ T := fun {o} y y2 e => by
            rw [e, upd_same] at y
            exact y2 _ (Option.some.inj y).symm
          rcases z with (z | ⟨o, z⟩) | z
          · have nc := ne z (fun ws y => by cases y)
            rw [upd_ne nc] at z
            exact .inl (.inl z)
          · have nc := ne z (fun ws y => by cases y)
            rw [upd_ne nc] at z
            exact .inl (.inr ⟨o, z⟩)
          · exact .inr z
        exact ((tC.keep k1).keep k2).keep (Same.kt s3)
      have e3 : SqT K (upd H2 T2 (.tup [.int (i : Int), x2])) T2 [.int (i : Int), x2] := .inl (.inl upd_same)
      generalize upd H2 T2 (.tup [.int (i : Int), x2]) = H3 at s3 h3 t3 B3 F3 tx3 hC3 tC3 e3 ⊢
      refine ⟨T2, _, rfl, e3, rfl, _, _, rfl, _, _, rfl, rfl, ?_⟩
      -- rows = []
      refine ⟨by show 0 ≤ sizeLine; decide, fun R hR => ?_⟩
      obtain ⟨Rb, Rg⟩ := B3.neNew hR
      have RT : T ≠ R := ne_of_none h3 hR
      have RC : C ≠ R := ne_of_none hC3 hR
      have sR := same_upd (o := .lst []) hR
      obtain ⟨p0, ys0, rfl, hp0, tp0⟩ := id tx3.tupE
      have ly0 : ys0.length = qn.length := by rw [tp0.len, List.length_map]
      refine ⟨_, rfl, p0, rfl, ⟨_, Same.kt sR _ _ hp0⟩, for_it (walk_tup (K := K) (a := p0) (xs := ys0)) (fun j σ H4 => ∃ (ws : List V) (rs : List (Rw n)) (o8 o9 o10 o11 o12 : Option V), σ = [some (.ref b), some (.int (W : Int)), some (.ref a), some (.ref T), some (.ref C), some (.int (i : Int)), some (.ref p0), some (.ref R), o8, o9, o10, o11, o12] ∧ H4 R = some (.lst ws) ∧ TdAll K H4 ws (rs.map (rwD n)) ∧ Al (fun (a : An n) (r : Rw n) => PaysOk W r.1 ∧ TbOk W n a.2.2 r.2) (qn.take j) rs ∧ Bag H4 b g ∧ Frm b g H3 H4)
        ⟨[], [], _, _, _, _, _, rfl, upd_same, .nil, .nil, B3.keep sR, .of sR⟩ (fun j σ H4 _ h => ?_) ?_ ?_⟩
      · obtain ⟨_, _, _, _, _, _, _, _, _, _, _, _, F4⟩ := h
        exact B3.kt F4 _ _ hp0
      · rintro j y σ H0 H4 hj ⟨ws, rs, o8', o9', o10', o11', o12', rfl, h4, t4, al4, B4, F4⟩ ⟨rfl, e4⟩
        obtain ⟨dy, ey, ty⟩ := tp0.getV e4
        obtain ⟨an, ea, rfl⟩ := map_at ey
        have ma := List.mem_of_getElem? ea
        obtain ⟨p, vw, vz, vt, rfl, hp, tw, tz, tt⟩ := td_an (ty.keep (B3.kt F4))
        refine ⟨p, _, rfl, hp, rfl, _, _, rfl, _, _, rfl, _, _, rfl, rfl, ?_⟩
        -- pays
        refine ⟨_, rfl, _, rfl, by omega, by omega, fun S hS => ?_⟩
        obtain ⟨Sb, Sg⟩ := B4.neNew hS
        have sS := same_upd (o := .lst []) hS
        refine lc_range (lo := 0) (n := W) (fun k H5 => ∃ (zs : List V) (ps : List Rat), H5 S = some (.lst zs) ∧ TdAll K H5 zs (ps.map rD) ∧ ps.length = k ∧ (∀ p ∈ ps, Fd 1 4 p) ∧ Bag H5 b g ∧ Frm b g H4 H5) ⟨[], [], upd_same, .nil, rfl, fun p h => absurd h List.not_mem_nil, B4.keep sS, .of sS⟩ ?_ ?_
        · rintro k H5 hk ⟨zs, ps, h5, t5, l5', f5, B5, F5⟩
          refine ⟨rfl, ?_⟩
          refine iteT (B := ∃ (zs : List V) (ps : List Rat), H5 S = some (.lst zs) ∧ TdAll K H5 zs (ps.map rD) ∧ ps.length = k + 1 ∧ (∀ p ∈ ps, Fd 1 4 p) ∧ Bag H5 b g ∧ Frm b g H4 H5) ?_
          refine ⟨_, rfl, b, g, 9, rfl, B5, by decide, by decide, fun r1 H6 r10 r11 B6 F6 => ⟨_, _, rfl, rfl, _, rfl, b, g, 3, rfl, B6, by decide, by decide, fun r2 H7 r20 r21 B7 F7 => ⟨_, _, rfl, rfl, ?_⟩⟩⟩
          obtain ⟨N, eN⟩ : ∃ N : Nat, 1 + r2 = (N : Int) := ⟨(1 + r2).toNat, by omega⟩
          refine ⟨r1 - 4, N, congrArg (fun z => [V.int (r1 - 4), V.int z]) eN, by omega, ?_, fun v H8 s8 tv => ?_⟩
          · exact Nat.lt_of_le_of_lt (show N ≤ 2 ^ 2 by omega) (Nat.pow_lt_pow_right (by decide) (by decide))
          have F58 : Frm b g H5 H8 := (F6.trans F7).trans (.of s8)
          have h8 := F58 _ _ h5 Sb Sg
          have kT : KT K H8 (upd H8 S (.lst (zs ++ [v]))) := KT.updL h8
          refine ⟨zs, h8, ?_, zs ++ [v], ps ++ [mkRat (r1 - 4) N], upd_same, ?_, by rw [List.length_append, l5']; rfl, fun p hp => ?_, (B7.keep s8).updN Sb Sg, (F5.trans F58).updN hS⟩
          · rw [t5.len, List.length_map]
            exact small1000 (by omega)
          · rw [List.map_append]
            exact (t5.keep ((B5.kt F58).trans kT)).app (.cons (tv.keep kT) .nil)
          · rcases List.mem_append.mp hp with z | z
            · exact f5 p z
            · rw [List.mem_singleton.mp z]
              exact pay_fd (by omega) (by omega) (by omega) (by omega)
        rintro H5 ⟨zs, ps, h5, t5, l5', f5, B5, F5⟩
        have h4' := F5 _ _ h4 Rb Rg
        refine ⟨_, rfl, .inl ⟨rfl, _, SqL.of h4'⟩, _, rfl, S, zs, rfl, SqL.of h5, fun wt H6 s6 q6 => ?_⟩
        have tps : Td K H6 (.ref wt) (wsD ps) := .tup q6 (t5.keep (Same.kt s6))
        have F46 := F5.trans (.of s6)
        refine ⟨_, rfl, _, rfl, _, rfl, b, g, W, vt, an.2.1, an.2.2, rfl, B5.keep s6, tt.keep (B4.kt F46), nok an ma, hW1, hW5, fun v7 tb7 H7 tv7 ok7 B7 F7 => ?_⟩
        refine ⟨by show 2 ≤ sizeLine; decide, fun p8 n8 => ?_⟩
        have s8 : Same H7 (upd H7 p8 (.tup [.ref wt, v7])) := same_upd n8
        have F48 := (F46.trans F7).trans (.of s8)
        have h8 := F48 _ _ h4 Rb Rg
        have kT : KT K (upd H7 p8 (.tup [.ref wt, v7])) (upd (upd H7 p8 (.tup [.ref wt, v7])) R (.lst (ws ++ [.ref p8]))) := KT.updL h8
        have kk := (B4.kt F48).trans kT
        refine ⟨R, ws, _, rfl, rfl, h8, ?_, ws ++ [.ref p8], rs ++ [(ps, tb7)], _, _, _, _, _, rfl, upd_same, ?_, ?_, (B7.keep s8).updN Rb Rg, (F4.trans F48).updN hR⟩
        · rw [t4.len, List.length_map, ← al4.len, List.length_take]
          exact small1000 (by omega)
        · rw [List.map_append]
          refine (t4.keep kk).app (.cons (.tup (kT _ _ (.inl (.inl upd_same))) (.cons ?_ (.cons (tv7.keep ((Same.kt s8).trans kT)) .nil))) .nil)
          exact tps.keep ((((B5.keep s6).kt F7).trans (Same.kt s8)).trans kT)
        · rw [List.take_add_one, ea]
          exact Al.snoc ⟨⟨l5', f5⟩, ok7⟩ al4
      · rintro σ H4 ⟨ws, rs, o8', o9', o10', o11', o12', rfl, h4, t4, al4, B4, F4⟩
        rw [ly0, List.take_length] at al4
        have hT4 := F4 _ _ h3 Tb' Tg
        have hC4 := F4 _ _ hC3 Cb Cg
        have ic : i < cs.length := by omega
        have ec : cs[i]? = some cs[i] := List.getElem?_eq_getElem ic
        obtain ⟨vc, evc, tvc⟩ := (tC3.keep (B3.kt F4)).get (i := i) (d := rD cs[i]) (by rw [List.getElem?_map, ec]; rfl)
        refine ⟨_, rfl, .inl ⟨rfl, _, SqL.of hT4⟩, _, rfl, _, rfl, C, cus, (i : Int), vc, rfl, rfl, SqL.of hC4, atI_nat evc, _, rfl, R, ws, rfl, SqL.of h4, fun rt H5 s5 q5 => ?_⟩
        refine ⟨by show 2 ≤ sizeLine; decide, fun p6 n6 => ?_⟩
        have s6 : Same H5 (upd H5 p6 (.tup [vc, .ref rt])) := same_upd n6
        have s46 := s5.trans s6
        have F36 := F4.trans (.of s46)
        have h6 := F36 _ _ h3 Tb' Tg
        have kT : KT K (upd H5 p6 (.tup [vc, .ref rt])) (upd (upd H5 p6 (.tup [vc, .ref rt])) T (.lst (us ++ [.ref p6]))) := KT.updL h6
        have kk := (B3.kt F36).trans kT
        have k46 := (Same.kt (K := K) s46).trans kT
        have lys : ys.length ≤ 5 := by
          have := al.len
          rw [List.length_take] at this
          omega
        refine ⟨T, us, _, rfl, rfl, h6, ?_, us ++ [.ref p6], ys ++ [(cs[i], rs)], _, _, _, _, _, _, _, _, rfl, upd_same, ?_, ?_, ?_, (B4.keep s46).updN Tb' Tg, (F3.trans F36).updN hT, fun c o e n1 n2 => ?_⟩
        · rw [t3.len, List.length_map]
          exact small1000 (by omega)
        · rw [List.map_append]
          refine (t3.keep kk).app (.cons (.tup (kT _ _ (.inl (.inl upd_same))) (.cons (tvc.keep k46) (.cons (.tup (((Same.kt s6).trans kT) _ _ q5) (t4.keep k46)) .nil))) .nil)
        · rw [List.take_add_one, eq]
          exact Al.snoc (R := fun (q : Qn n) (x : Ask n) => Al (fun (a : An n) (r : Rw n) => PaysOk W r.1 ∧ TbOk W n a.2.2 r.2) q x.2) (a := qn) (b := (cs[i], rs)) al4 al
        · rw [List.map_append, ech, List.take_add_one, ec]
          rfl
        · by_cases z : c = T
          · subst z
            rw [upd_same]
            have := G2 _ _ e n1 n2
            rw [upd_same] at this
            exact this
          · have y := G2 _ _ e n1 n2
            rw [upd_ne z] at y
            rw [upd_ne z, upd_ne z]
            exact F36 _ _ (s3 _ _ y) n1 n2
    · rintro σ H2 ⟨us, ys, o5, o6, o7, o8, o9, o10, o11, o12, rfl, h2, t2, al, ech, B2, F2, G2⟩
      rw [lx, List.take_length] at al
      refine ⟨_, rfl, T, us, rfl, SqL.of h2, fun l H3 s3 q3 => ?_⟩
      refine q (.ref l) ys H3 (.tup q3 (t2.keep (Same.kt s3))) ⟨fun x hx => ?_, ?_, al⟩ (B2.keep s3) (F2.trans (.of s3))
      · have m : x.1 ∈ cs.take xs.length := by
          rw [← ech]
          exact List.mem_map.mpr ⟨x, hx, rfl⟩
        exact hch _ (List.mem_of_mem_take m)
      · show fsum (ys.map (·.1)) ≤ 1
        rw [ech]
        exact hsp' _
end
end Tl
namespace Tl
open PySem PySem.Spec PyProof.Rows L2 RZ
/-- of one shape, with the same words -/
def Shp : (n : Nat) → Nd n → Nd n → Prop
  | 0, _, _ => True
  | n + 1, qs, qs' => Al (fun (q q' : Qn n) => Al (fun (a a' : An n) => a.1 = a'.1 ∧ Shp n a.2.2 a'.2.2) q q') qs qs'
theorem Al.join {α β γ : Type} {R : α → β → Prop} {S : α → γ → Prop} {T : β → γ → Prop} {as : List α} {bs : List β} {cs : List γ} (h : Al R as bs) (g : Al S as cs) (f : ∀ a b c, R a b → S a c → T b c) : Al T bs cs := Al.of (by rw [← h.len, g.len]) fun i b c h1 h2 => by
  have la := h.len
  have hi : i < as.length := by
    have := (List.getElem?_eq_some_iff.mp h1).1
    omega
  have ea : as[i]? = some as[i] := List.getElem?_eq_getElem hi
  obtain ⟨b', e1, r⟩ := h.get ea
  obtain ⟨c', e2, s⟩ := g.get ea
  rw [h1] at e1
  rw [h2] at e2
  cases e1
  cases e2
  exact f _ _ _ r s
theorem tbOk_shp {W : Nat} : ∀ {n : Nat} {t t' : Nd n} {tb : Tb n}, Shp n t t' → TbOk W n t tb → TbOk W n t' tb
  | 0, _, _, _, _, _ => trivial
  | n + 1, qs, qs', xs, sh, ok => ⟨ok.1, ok.2.1, Al.join sh ok.2.2 fun q q' x h1 h2 => Al.join h1 h2 fun a a' r k1 k2 => ⟨k2.1, tbOk_shp k1.2 k2.2⟩⟩
theorem cnt_shp : ∀ {n : Nat} {t t' : Nd n}, Shp n t t' → cnt n t = cnt n t'
  | 0, _, _, _ => rfl
  | n + 1, qs, qs', sh => by
    have one : ∀ {q q' : Qn n}, Al (fun (a a' : An n) => a.1 = a'.1 ∧ Shp n a.2.2 a'.2.2) q q' → cntQ n q = cntQ n q' := fun {q q'} h => by
      induction h with
      | nil => rfl
      | cons h _ ih =>
        rw [cntQ_cons, cntQ_cons, ih, cnt_shp h.2]
    have all : ∀ {l l' : List (Qn n)}, Al (fun (q q' : Qn n) => Al (fun (a a' : An n) => a.1 = a'.1 ∧ Shp n a.2.2 a'.2.2) q q') l l' → cnt (n + 1) (l : Nd (n + 1)) = cnt (n + 1) (l' : Nd (n + 1)) := fun {l l'} h => by
      induction h with
      | nil => rfl
      | cons h _ ih => rw [cnt_cons, cnt_cons, ih, one h]
    exact all sh
/-- other weights in a right question -/
theorem rw_ok {W n m e : Nat} {ahead0 ahead : List Rat} {ds : List (List Rat)} {q : Qn n} {q' : Qn n} (ok : QnOk W ahead0 q) (hl : q'.length = q.length) (hd : ds.length = W) (ha : ahead.length = W) (hS : ∀ d ∈ ds, IsShares q.length d) (hA : ∀ r ∈ ahead, Ch e r) (he : e + 1 ≤ 6)
    (h : ∀ (i : Nat) (a' : An n), q'[i]? = some a' → ∃ a : An n, q[i]? = some a ∧ a'.1 = a.1 ∧ a'.2.1 = wk W ahead ds i) : QnOk W ahead q' ∧ (∀ a ∈ q', ∀ r ∈ a.2.1, Ch (e + 1) r) := by
  have o1 := ok.one
  have o12 := ok.most
  have dj : ∀ j, j < W → IsShares q.length (ds.getD j []) := fun j hj => by
    have hj2 : j < ds.length := by omega
    rw [getD_of (List.getElem?_eq_getElem hj2)]
    exact hS _ (List.getElem_mem hj2)
  have aj : ∀ j, j < W → Ch e (ahead.getD j 0) := fun j hj => mem_getD0 hA (by omega)
  have chw : ∀ a ∈ q', ∀ r ∈ a.2.1, Ch (e + 1) r := by
    intro a hm' r hr
    obtain ⟨i, hi, rfl⟩ := List.getElem_of_mem hm'
    obtain ⟨_, _, _, ew⟩ := h i _ (List.getElem?_eq_getElem hi)
    rw [ew] at hr
    unfold wk at hr
    obtain ⟨j, hj, rfl⟩ := List.mem_map.mp hr
    have hj := List.mem_range.mp hj
    obtain ⟨p, s, s0, s1, ps, e1⟩ := share_at (dj j hj) (show i < q.length by omega)
    rw [e1]
    exact (aj j hj).mul s0 (by omega) ps
  have colj : ∀ j, j < W → col q' j = (ds.getD j []).map fun x => ahead.getD j 0 * x := by
    intro j hj
    have lj : (ds.getD j []).length = q.length := by
      obtain ⟨ps, h1, _, _, e1⟩ := dj j hj
      rw [e1, List.length_map, h1]
    refine List.ext_getElem? fun i => ?_
    unfold col
    rw [List.getElem?_map, List.getElem?_map]
    by_cases hi : i < q.length
    · have g1 : q'[i]? = some (q'[i]'(by omega)) := List.getElem?_eq_getElem (by omega)
      have g2 : (ds.getD j [])[i]? = some ((ds.getD j [])[i]'(by omega)) := List.getElem?_eq_getElem (by omega)
      rw [g1, g2]
      obtain ⟨_, _, _, e3⟩ := h i _ g1
      show some ((q'[i]'(by omega)).2.1.getD j 0) = some (ahead.getD j 0 * ((ds.getD j [])[i]'(by omega)))
      rw [e3, wk_at hj, getD_of g2]
    · rw [List.getElem?_eq_none (by omega), List.getElem?_eq_none (by omega)]
      rfl
  refine ⟨⟨by omega, by omega, ?_, ?_, ?_, ?_, ?_⟩, chw⟩
  · intro a hm'
    obtain ⟨i, hi, rfl⟩ := List.getElem_of_mem hm'
    obtain ⟨a0, e0, ew, _⟩ := h i _ (List.getElem?_eq_getElem hi)
    rw [ew]
    exact ok.words _ (List.mem_of_getElem? e0)
  · intro i x y hx hy
    obtain ⟨x0, ex, kx, _⟩ := h i _ hx
    obtain ⟨y0, ey, ky, _⟩ := h (i + 1) _ hy
    rw [kx, ky]
    exact ok.asc i x0 y0 ex ey
  · intro a hm'
    obtain ⟨i, hi, rfl⟩ := List.getElem_of_mem hm'
    obtain ⟨_, _, _, ew⟩ := h i _ (List.getElem?_eq_getElem hi)
    rw [ew]
    unfold wk
    rw [List.length_map, List.length_range]
  · exact fun a h1 r h2 => (chw a h1 r h2).mono he
  · intro j hj
    rw [colj j hj]
    exact shares_col (dj j hj) _
def spRW (K : PySem.W.Frag) (n : Nat) : Sp := fun vs H Q _ => ∃ (b g : Addr) (W e : Nat) (v av : V) (ahead0 ahead : List Rat) (t : Nd n), vs = [.ref b, .int (W : Int), v, av] ∧ Bag H b g ∧ Td K H v (ndD n t) ∧ Td K H av (wsD ahead) ∧ ahead.length = W ∧ (∀ r ∈ ahead, Ch e r) ∧ e + n ≤ 6 ∧ NdOk W n ahead0 t ∧ 1 ≤ W ∧ W ≤ 5 ∧
  ∀ (v' : V) (t' : Nd n) (H' : Hp), Td K H' v' (ndD n t') → NdOk W n ahead t' → Shp n t t' → Bag H' b g → Frm b g H H' → Q v' H'
theorem Bag.nw {b g p : Addr} {H H' : Hp} (f : Frm b g H H') (h : H' p = none) (h1 : p ≠ b) (h2 : p ≠ g) : H p = none := by
  cases e : H p with
  | none => rfl
  | some o =>
    rw [f p o e h1 h2] at h
    cases h
section
variable {P : Program} {w : World} {K : PySem.W.Frag} {mg : Str → Option Value} {base : Heap}
theorem ok_law_test {n : Nat} {f f1 f2 f3 f4 f5 : Addr} {fd fd1 fd2 fd3 fd4 fd5 : FuncData} (D : Dn K mg "_law_test" s_law_test ["bag", "worlds", "tree"] f fd) (B : Blt mg) (D_law_low : Dn K mg "_law_low" s_law_low ["top", "bottom"] f1 fd1) (D_law_common : Dn K mg "_law_common" s_law_common ["one", "other"] f2 fd2)
    (D_law_pick : Dn K mg "_law_pick" s_law_pick ["bag", "many"] f3 fd3) (D_law_shares : Dn K mg "_law_shares" s_law_shares ["bag", "many", "least"] f4 fd4) (D_law_table : Dn K mg "_law_table" s_law_table ["bag", "worlds", "node"] f5 fd5) : FnOk P w K mg base CX0 (5 + n) f fd ["bag", "worlds", "tree"] (spTst K n) := by
  have G_law_shares : FnOk P w K mg base CX0 3 f4 fd4 ["bag", "many", "least"] (spShares K) := ok_law_shares D_law_shares B D_law_low D_law_common D_law_pick
  have G_law_table : FnOk P w K mg base CX0 (4 + n) f5 fd5 ["bag", "worlds", "node"] (spTab K n) := ok_law_table D_law_table B D_law_low D_law_common D_law_pick D_law_shares n
  rw [show 5 + n = (4 + n) + 1 by omega]
  refine D.F.ok sc_law_test (fun vs H Q E h => ?_) (fun cdv A outer s H vs Q E hr h => ?_)
  · obtain ⟨b, g, W, v, ahead, t, rfl, _⟩ := h
    rfl
  obtain ⟨b, g, W, v, ahead, t, rfl, hB, hv, hok, hW1, hW5, q⟩ := h
  have nd := sc_law_test.nd
  refine ⟨_, (pss_one (ps_ret (pe_tup (pa_cons (pe_callTy (k_tupOf (K := K) rfl) (by rfl) B.tuple (by decide +kernel) (pa_cons (pe_call G_law_shares (hr.mono (by omega)) (by rfl) D_law_shares.m D_law_shares.F.kp D_law_shares.b .nil pass0 (pa_cons (pv 0) (pa_cons (pv 1) (pa_cons pe_int pa_nil)))) pa_nil)) (pa_cons (pe_call G_law_table (hr.mono (by omega)) (by rfl) D_law_table.m D_law_table.F.kp D_law_table.b .nil pass0 (pa_cons (pv 0) (pa_cons (pv 1) (pa_cons (pv 2) pa_nil)))) pa_nil))))), ?_⟩
  refine ⟨_, rfl, _, rfl, b, g, W, 0, rfl, hB, hW1, by omega, by decide, by decide, fun C cs cus H1 hsh hC tC nC B1 F1 => ⟨C, cus, rfl, SqL.of hC, fun wt H2 s2 q2 => ?_⟩⟩
  have F2 := F1.trans (.of s2)
  have B2 := B1.keep s2
  have tp : Td K H2 (.ref wt) (wsD cs) := .tup q2 (tC.keep (Same.kt s2))
  refine ⟨_, rfl, _, rfl, _, rfl, b, g, W, v, ahead, t, rfl, B2, hv.keep (hB.kt F2), hok, hW1, hW5, fun v3 tb H3 tv3 ok3 B3 F3 => ⟨by show 2 ≤ sizeLine; decide, fun p np => ?_⟩⟩
  have s4 := same_upd (o := .tup [.ref wt, v3]) np
  exact q (.ref p) cs tb _ (.tup (.inl (.inl upd_same)) (.cons (tp.keep ((B2.kt F3).trans (Same.kt s4))) (.cons (tv3.keep (Same.kt s4)) .nil))) (shares_prior hsh hW5) ok3 (B3.keep s4) ((F2.trans F3).trans (.of s4))
theorem ok_law_reweighted {f f1 f2 f3 f4 f5 : Addr} {fd fd1 fd2 fd3 fd4 fd5 : FuncData} (D : Dn K mg "_law_reweighted" s_law_reweighted ["bag", "worlds", "node", "ahead"] f fd) (B : Blt mg) (D_law_low : Dn K mg "_law_low" s_law_low ["top", "bottom"] f1 fd1) (D_law_common : Dn K mg "_law_common" s_law_common ["one", "other"] f2 fd2)
    (D_law_pick : Dn K mg "_law_pick" s_law_pick ["bag", "many"] f3 fd3) (D_law_shares : Dn K mg "_law_shares" s_law_shares ["bag", "many", "least"] f4 fd4) (D_law_times : Dn K mg "_law_times" s_law_times ["one", "other"] f5 fd5) : ∀ n : Nat, FnOk P w K mg base CX0 (4 + n) f fd ["bag", "worlds", "node", "ahead"] (spRW K n) := by
  intro n
  have G_law_shares : FnOk P w K mg base CX0 3 f4 fd4 ["bag", "many", "least"] (spShares K) := ok_law_shares D_law_shares B D_law_low D_law_common D_law_pick
  have G_law_times : FnOk P w K mg base CX0 3 f5 fd5 ["one", "other"] (spTimes K) := ok_law_times D_law_times B D_law_low D_law_common
  obtain ⟨sp0, G_law_reweighted, hsp⟩ : ∃ sp0, FnOk P w K mg base CX0 (3 + n) f fd ["bag", "worlds", "node", "ahead"] sp0 ∧ (∀ m, n = m + 1 → sp0 = spRW K m) := by
    cases n with
    | zero => exact ⟨fun _ _ _ _ => False, ⟨fun vs H Q E h => h.elim, fun A outer s H args us vs Q E _ _ _ _ h => h.elim⟩, fun m e => by omega⟩
    | succ m =>
      have G := ok_law_reweighted D B D_law_low D_law_common D_law_pick D_law_shares D_law_times m
      rw [show 4 + m = 3 + (m + 1) by omega] at G
      exact ⟨_, G, fun m' e => by rw [show m' = m by omega]⟩
  rw [show 4 + n = (3 + n) + 1 by omega]
  refine D.F.ok sc_law_reweighted (fun vs H Q E h => ?_) (fun cdv A outer s H vs Q E hr h => ?_)
  · obtain ⟨b, g, W, e, v, av, ah0, ah, t, rfl, _⟩ := h
    rfl
  obtain ⟨b, g, W, e, v, av, ahead0, ahead, t, rfl, hB, hv, hav, hla, hch, he, hok, hW1, hW5, q⟩ := h
  have nd := sc_law_reweighted.nd
  have D_law_reweighted := D
  refine ⟨_, (pss_cons (ps_set (i := 4) nd rfl (.inl rfl) (pe_lst pa_nil))
      (pss_cons (ps_for PassesOwn.never rfl (k_iT (K := K) rfl (pv 2)) (pg_name (i := 5) nd rfl (.inr rfl)) (pss_cons (ps_set (i := 6) nd rfl (.inr rfl) (pe_lc (own := [("world", 7)]) rfl nd (pi_range1 (by rfl) B.range (pa_cons (pv 1) pa_nil)) (blkOk_by (own := [("world", 7)]) (by kernel_rfl)) (fun _ _ _ _ _ => (pg_name (i := 7) nd rfl (.inl rfl))) (fun _ _ _ _ _ => pts_nil) (fun _ _ _ _ _ => (pe_call G_law_shares (hr.mono (by omega)) (by rfl) D_law_shares.m D_law_shares.F.kp D_law_shares.b .nil pass0 (pa_cons (pv 0) (pa_cons (pe_callB (k_len (K := K) rfl) (by rfl) B.len PySem.boot_len (pa_cons (pv 5) pa_nil)) (pa_cons pe_int pa_nil)))))))
      (pss_cons (ps_set (i := 8) nd rfl (.inl rfl) (pe_lst pa_nil))
      (pss_cons (ps_for PassesOwn.never rfl (k_enum (K := K) rfl (by rfl) B.enumerate (pa_cons (pv 5) pa_nil)) (k_tup (K := K) (n := 2) rfl rfl (pgs_cons (pg_name (i := 9) nd rfl (.inr rfl)) (pgs_cons (k_tup (K := K) (n := 3) rfl rfl (pgs_cons (pg_name (i := 10) nd rfl (.inl rfl)) (pgs_cons (pg_name (i := 11) nd rfl (.inl rfl)) (pgs_cons (pg_name (i := 12) nd rfl (.inl rfl)) pgs_nil)))) pgs_nil))) (pss_cons (ps_set (i := 13) nd rfl (.inl rfl) (pe_callTy (k_tupOf (K := K) rfl) (by rfl) B.tuple (by decide +kernel) (pa_cons (pe_lc (own := [("world", 7)]) rfl nd (pi_range1 (by rfl) B.range (pa_cons (pv 1) pa_nil)) (blkOk_by (own := [("world", 7)]) (by kernel_rfl)) (fun _ _ _ _ _ => (pg_name (i := 7) nd rfl (.inl rfl))) (fun _ _ _ _ _ => pts_nil) (fun _ _ _ _ _ => (pe_call G_law_times (hr.mono (by omega)) (by rfl) D_law_times.m D_law_times.F.kp D_law_times.b .nil pass0 (pa_cons (pe_ix (k_ixT (K := K) rfl) (pv 3) (pv 7) (fun _ _ => rfl)) (pa_cons (pe_ix (k_ixL (K := K) rfl) (pe_ix (k_ixL (K := K) rfl) (pv 6) (pv 7) (fun _ _ => rfl)) (pv 9) (fun _ _ => rfl)) pa_nil))))) pa_nil)))
      (pss_one (ps_expr (pe_bm PySem.F.plainAttrs_list PySem.F.slot_list_append PySem.F.type_list_append mt_append (pv 8) (pa_cons (pe_tup (pa_cons (pv 10) (pa_cons (pv 13) (pa_cons (pe_call G_law_reweighted (hr.mono (by omega)) (by rfl) D_law_reweighted.m D_law_reweighted.F.kp D_law_reweighted.b .nil pass0 (pa_cons (pv 0) (pa_cons (pv 1) (pa_cons (pv 12) (pa_cons (pv 13) pa_nil))))) pa_nil)))) pa_nil))))))
      (pss_one (ps_expr (pe_bm PySem.F.plainAttrs_list PySem.F.slot_list_append PySem.F.type_list_append mt_append (pv 4) (pa_cons (pe_callTy (k_tupOf (K := K) rfl) (by rfl) B.tuple (by decide +kernel) (pa_cons (pv 8) pa_nil)) pa_nil))))))))
      (pss_one (ps_ret (pe_callTy (k_tupOf (K := K) rfl) (by rfl) B.tuple (by decide +kernel) (pa_cons (pv 4) pa_nil)))))), ?_⟩
  obtain ⟨a, xs, dd, rfl, ha, ed, ta, l0⟩ := td_qs hv
  refine ⟨by show 0 ≤ sizeLine; decide, fun T hT => ?_⟩
  obtain ⟨Tb', Tg⟩ := hB.neNew hT
  have sT := same_upd (o := .lst []) hT
  cases n with
  | zero =>
    have := l0 rfl
    subst this
    refine ⟨_, rfl, a, rfl, ⟨_, Same.kt sT _ _ ha⟩, for_it (walk_tup (K := K) (a := a) (xs := [])) (fun i σ H2 => H2 = upd H T (.lst []) ∧ ∃ o5 o6 o7 o8 o9 o10 o11 o12 o13 : Option V, σ = [some (.ref b), some (.int (W : Int)), some (.ref a), some av, some (.ref T), o5, o6, o7, o8, o9, o10, o11, o12, o13]) ⟨rfl, none, none, none, none, none, none, none, none, none, rfl⟩ (fun i σ H2 _ h => by rw [h.1]; exact Same.kt sT _ _ ha) ?_ ?_⟩
    · rintro i x σ H2 H3 hi
      exact absurd hi (Nat.not_lt_zero _)
    · rintro σ H2 ⟨rfl, o5, o6, o7, o8, o9, o10, o11, o12, o13, rfl⟩
      refine ⟨_, rfl, T, [], rfl, SqL.of upd_same, fun l H' s' q' => q (.ref l) () H' (.tup q' .nil) trivial trivial (hB.keep (sT.trans s')) (.of (sT.trans s'))⟩
  | succ n =>
    have hsp := hsp n rfl
    subst hsp
    obtain ⟨qs, hqs⟩ : ∃ qs : List (Qn n), (qs : Nd (n + 1)) = t := ⟨t, rfl⟩
    subst hqs
    cases ed
    have lx : xs.length = qs.length := by rw [ta.len, List.length_map]
    have l5 : qs.length ≤ 5 := hok.1
    refine ⟨_, rfl, a, rfl, ⟨_, Same.kt sT _ _ ha⟩, for_it (walk_tup (K := K) (a := a) (xs := xs)) (fun i σ H2 => ∃ (us : List V) (qs' : List (Qn n)) (o5 o6 o7 o8 o9 o10 o11 o12 o13 : Option V), σ = [some (.ref b), some (.int (W : Int)), some (.ref a), some av, some (.ref T), o5, o6, o7, o8, o9, o10, o11, o12, o13] ∧ H2 T = some (.lst us) ∧ TdAll K H2 us (qs'.map (qnD n)) ∧
        Al (fun (q q' : Qn n) => Al (fun (a a' : An n) => a.1 = a'.1 ∧ Shp n a.2.2 a'.2.2) q q') (qs.take i) qs' ∧ (∀ q' ∈ qs', QnOk W ahead q' ∧ ∀ a ∈ q', NdOk W n a.2.1 a.2.2) ∧ Bag H2 b g ∧ Frm b g H H2) ⟨[], [], none, none, none, none, none, none, none, none, none, rfl, upd_same, .nil, .nil, fun q hq => absurd hq List.not_mem_nil, hB.keep sT, .of sT⟩ (fun i σ H2 _ h => ?_) ?_ ?_⟩
    · obtain ⟨_, _, _, _, _, _, _, _, _, _, _, _, _, _, _, _, _, F2⟩ := h
      exact hB.kt F2 _ _ ha
    · rintro i x σ H0 H2 hi ⟨us, qs', o5, o6, o7, o8, o9, o10, o11, o12, o13, rfl, h2, t2, al, ok2, B2, F2⟩ ⟨rfl, e1⟩
      obtain ⟨dx, ex, tx⟩ := ta.getV e1
      obtain ⟨qn, eq, rfl⟩ := map_at ex
      obtain ⟨qok, nok⟩ := hok.2 qn (List.mem_of_getElem? eq)
      have q1 := qok.one
      have q12 := qok.most
      have tx2 := tx.keep (hB.kt F2)
      have hav2 := hav.keep (hB.kt F2)
      obtain ⟨p0, ys0, rfl, hp0, tp0⟩ := id tx2.tupE
      have ly0 : ys0.length = qn.length := by rw [tp0.len, List.length_map]
      -- rows
      refine ⟨_, rfl, _, rfl, by omega, by omega, fun R hR => ?_⟩
      obtain ⟨Rb, Rg⟩ := B2.neNew hR
      refine lc_range (lo := 0) (n := W) (fun k H3 => ∃ ds : List (List Rat), ds.length = k ∧ RowsAt K b g g (fun _ => False) H3 R ds ∧ (∀ d ∈ ds, IsShares qn.length d) ∧ Bag H3 b g ∧ Frm b g H2 H3)
        ⟨[], rfl, ⟨Rb, Rg, Rg, (fun z => z), [], upd_same, rfl, fun i r d e1 _ => by simp at e1⟩, fun d h => absurd h List.not_mem_nil, B2.updN Rb Rg, (Frm.refl b g H2).updN hR⟩ ?_ ?_
      · rintro k H3 hk ⟨ds, hd, hRows, hS, B3, F3⟩
        refine ⟨rfl, ?_⟩
        refine iteT (B := ∃ ds : List (List Rat), ds.length = k + 1 ∧ RowsAt K b g g (fun _ => False) H3 R ds ∧ (∀ d ∈ ds, IsShares qn.length d) ∧ Bag H3 b g ∧ Frm b g H2 H3) ?_
        refine ⟨_, rfl, _, rfl, p0, ys0, rfl, .inr (B2.kt F3 _ _ hp0), b, g, qn.length, 0, by rw [ly0]; rfl, B3, by omega, by omega, by decide, by decide, fun ρ d us2 H5 hI h5 t5 fr B5 F5 => ?_⟩
        have nρ := B3.neNew fr
        have F5l : Frl b g g H3 H5 := .ofF F5
        obtain ⟨_, _, _, _, rs, h1, h2', h3⟩ := hRows.keep (B3.kt F5) F5l
        have ρR : ρ ≠ R := fun z => by
          obtain ⟨_, _, _, _, rs', h1', _⟩ := hRows
          rw [z, h1'] at fr
          cases fr
        have kR : KT K H5 (upd H5 R (.lst (rs.map V.ref ++ [V.ref ρ]))) := KT.updL h1
        have lrs : rs.length ≤ 5 := by omega
        refine ⟨_, h1, by rw [List.length_map]; exact small1000 (by omega), ds ++ [d], by rw [List.length_append, hd]; rfl, ⟨Rb, Rg, Rg, (fun z => z), rs ++ [ρ], by rw [upd_same, List.map_append]; rfl, by rw [List.length_append, List.length_append, h2']; rfl, ?_⟩, ?_, B5.updN Rb Rg, (F3.trans F5).updN hR⟩
        · intro j ρ' d' e1 e2
          by_cases hj : j < rs.length
          · rw [List.getElem?_append_left hj] at e1
            rw [List.getElem?_append_left (by omega)] at e2
            obtain ⟨nR, m1, m2, m3, us', u1, u2⟩ := h3 j ρ' d' e1 e2
            exact ⟨nR, m1, m2, m3, us', by rw [upd_ne nR.1]; exact u1, u2.keep kR⟩
          · have ej : j = rs.length := by
              have := (List.getElem?_eq_some_iff.mp e1).1
              rw [List.length_append] at this
              simp at this
              omega
            subst ej
            rw [List.getElem?_append_right (Nat.le_refl _), Nat.sub_self] at e1
            rw [h2', List.getElem?_append_right (Nat.le_refl _), Nat.sub_self] at e2
            cases e1
            cases e2
            exact ⟨⟨ρR, fun z => z⟩, nρ.1, nρ.2, nρ.2, us2, by rw [upd_ne ρR]; exact h5, t5.keep kR⟩
        · intro d' hd'
          rcases List.mem_append.mp hd' with h | h
          · exact hS d' h
          · rw [List.mem_singleton.mp h]
            exact hI
      rintro H3 ⟨ds, hd, hRows, hS, B3, F3⟩
      have h3T := F3 _ _ h2 Tb' Tg
      have hp03 := B2.kt F3 _ _ hp0
      have tp03 := tp0.keep (B2.kt F3)
      have hav3 := hav2.keep (B2.kt F3)
      -- answers = []
      refine ⟨by show 0 ≤ sizeLine; decide, fun A hA => ?_⟩
      obtain ⟨Ab, Ag⟩ := B3.neNew hA
      have sA := same_upd (o := .lst []) hA
      have RA : R ≠ A := fun z => by
        obtain ⟨_, _, _, _, rs, h1, _⟩ := hRows
        rw [z, hA] at h1
        cases h1
      have TA : T ≠ A := ne_of_none h3T hA
      refine ⟨_, rfl, p0, ys0, rfl, Same.kt sA _ _ hp03, for_it (walk_enumT (K := K) (a := p0) (xs := ys0)) (fun j σ H4 => ∃ (ws : List V) (qa : Qn n) (o7 o9 o10 o11 o12 o13 : Option V), σ = [some (.ref b), some (.int (W : Int)), some (.ref a), some av, some (.ref T), some (.ref p0), some (.ref R), o7, some (.ref A), o9, o10, o11, o12, o13] ∧ H4 A = some (.lst ws) ∧ TdAll K H4 ws (qa.map (anD n)) ∧
          Al (fun (a a' : An n) => a.1 = a'.1 ∧ Shp n a.2.2 a'.2.2) (qn.take j) qa ∧ (∀ (i : Nat) (a' : An n), qa[i]? = some a' → a'.2.1 = wk W ahead ds i ∧ NdOk W n a'.2.1 a'.2.2) ∧ RowsAt K b g g (fun x => x = A) H4 R ds ∧ Bag H4 b g ∧ Frm b g H3 H4)
        ⟨[], [], _, _, _, _, _, _, rfl, upd_same, .nil, .nil, fun i a' h => by simp at h, (hRows.avoid hA).keep (Same.kt sA) (.of sA), B3.keep sA, .of sA⟩ (fun j σ H4 _ h => ?_) ?_ ?_⟩
      · obtain ⟨_, _, _, _, _, _, _, _, _, _, _, _, _, _, _, F4⟩ := h
        exact B3.kt F4 _ _ hp03
      · rintro j y σ H4 H5 hj ⟨ws, qa, o7', o9', o10', o11', o12', o13', rfl, h4, t4, al4, hw4, hR4, B4, F4⟩ ⟨T2, x1, x2, rfl, n2, rfl, e3, e4⟩
        cases e3
        obtain ⟨dy, ey, ty⟩ := tp03.getV e4
        obtain ⟨an, ea, rfl⟩ := map_at ey
        have ma := List.mem_of_getElem? ea
        have jl : j < qn.length := by omega
        have s5 : Same H4 (upd H4 T2 (.tup [.int (j : Int), x2])) := same_upd n2
        have F5 := F4.trans (.of s5)
        have B5 := B4.keep s5
        have h5 := s5 _ _ h4
        have t5 := t4.keep (Same.kt s5)
        have hR5 := hR4.keep (Same.kt s5) (.of s5)
        have tan := ty.keep (B3.kt F5)
        have e5 : SqT K (upd H4 T2 (.tup [.int (j : Int), x2])) T2 [.int (j : Int), x2] := .inl (.inl upd_same)
        generalize upd H4 T2 (.tup [.int (j : Int), x2]) = H5 at s5 F5 B5 h5 t5 hR5 tan e5 ⊢
        obtain ⟨pa, vw, vz, vt, rfl, hpa, tw, tz, tt⟩ := td_an tan
        refine ⟨T2, _, rfl, e5, rfl, _, _, rfl, _, _, rfl, pa, _, rfl, hpa, rfl, _, _, rfl, _, _, rfl, _, _, rfl, rfl, rfl, ?_⟩
        -- there
        refine ⟨_, rfl, _, rfl, by omega, by omega, fun S hS' => ?_⟩
        have hav5 := hav3.keep (B3.kt F5)
        obtain ⟨aA, aX, rfl, aS, aT⟩ := id hav5.tupE
        refine lc_range (lo := 0) (n := W) (fun k H8 => ∃ vs : List V, H8 S = some (.lst vs) ∧ TdAll K H8 vs (((wk W ahead ds j).take k).map rD) ∧ Same H5 H8) ⟨[], upd_same, .nil, same_upd hS'⟩ ?_ ?_
        · rintro k H8 hk ⟨vs, h8, t8, s8⟩
          refine ⟨rfl, ?_⟩
          refine iteT (B := ∃ vs : List V, H8 S = some (.lst vs) ∧ TdAll K H8 vs (((wk W ahead ds j).take (k + 1)).map rD) ∧ Same H5 H8) ?_
          have ak : ahead[k]? = some ahead[k] := List.getElem?_eq_getElem (by omega)
          obtain ⟨va, eva, tva⟩ := aT.get (i := k) (d := rD ahead[k]) (by rw [List.getElem?_map, ak]; rfl)
          obtain ⟨_, _, _, _, rs, h1, h2', h3⟩ := hR5.keep (Same.kt s8) (.of s8)
          have rk : rs[k]? = some rs[k] := List.getElem?_eq_getElem (by omega)
          have dk : ds[k]? = some ds[k] := List.getElem?_eq_getElem (by omega)
          obtain ⟨_, _, _, _, us', u1, u2⟩ := h3 k _ _ rk dk
          have hIk := hS _ (List.getElem_mem (show k < ds.length by omega))
          obtain ⟨ps, c1, c2, c3, c4⟩ := id hIk
          have lk : ds[k].length = qn.length := by rw [c4, List.length_map, c1]
          have di : ds[k][j]? = some (ds[k][j]'(by omega)) := List.getElem?_eq_getElem _
          obtain ⟨vb, evb, tvb⟩ := u2.get (i := j) (d := rD (ds[k][j]'(by omega))) (by rw [List.getElem?_map, di]; rfl)
          have hk0 : (0 : Int) + (k : Int) = ((k : Nat) : Int) := by omega
          have ca := hch _ (List.getElem_mem (show k < ahead.length by omega))
          have cb : Ch 1 (ds[k][j]'(by omega)) := shares_ch hIk q12 _ (List.getElem_mem _)
          have z1 : LL ^ e < 2 ^ 2000 := pow_lt2000 (by omega)
          have z2 : LL ^ 1 < 2 ^ 2000 := pow_lt2000 (by decide)
          refine ⟨_, rfl, _, rfl, aA, aX, _, va, rfl, by rw [hk0], Same.kt s8 _ _ aS, atI_nat eva, ?_⟩
          refine ⟨_, rfl, _, rfl, R, _, _, _, rfl, by rw [hk0], SqL.of h1, atI_nat (by rw [List.getElem?_map, rk]; rfl), _, rfl, rs[k], us', (j : Int), vb, rfl, rfl, SqL.of u1, atI_nat evb, ?_⟩
          refine ⟨va, vb, _, _, rfl, tva.keep (Same.kt s8), tvb, Nat.lt_of_le_of_lt ca.den z1, Nat.lt_of_le_of_lt cb.den z2, Nat.lt_of_le_of_lt ca.num z1, Nat.lt_of_le_of_lt cb.num z2, fun v H9 s9 tv => ?_⟩
          have h9 := s9 _ _ h8
          have kw : KT K H9 (upd H9 S (.lst (vs ++ [v]))) := KT.updL h9
          refine ⟨vs, h9, ?_, vs ++ [v], upd_same, ?_, fun c o z => ?_⟩
          · rw [t8.len, List.length_map, List.length_take]
            exact small1000 (by omega)
          · have ewk : (wk W ahead ds j)[k]? = some (ahead[k] * (ds[k][j]'(by omega))) := by
              unfold wk
              rw [List.getElem?_map, List.getElem?_range hk]
              show some (ahead.getD k 0 * (ds.getD k []).getD j 0) = some (ahead[k] * (ds[k][j]'(by omega)))
              rw [getD_of ak, getD_of dk, getD_of di]
            rw [List.take_add_one, ewk, List.map_append]
            exact (t8.keep ((Same.kt s9).trans kw)).app (.cons (tv.keep kw) .nil)
          · rw [upd_ne (ne_of_none z hS')]
            exact s9 _ _ (s8 _ _ z)
        rintro H8 ⟨vs, h8, t8, s8⟩
        have lw : (wk W ahead ds j).length = W := by
          unfold wk
          rw [List.length_map, List.length_range]
        rw [List.take_of_length_le (by omega)] at t8
        refine ⟨S, vs, rfl, SqL.of h8, fun wt H9 s9 q9 => ?_⟩
        have s59 := s8.trans s9
        have twt : Td K H9 (.ref wt) (wsD (wk W ahead ds j)) := .tup q9 (t8.keep (Same.kt s9))
        have h9 := s59 _ _ h5
        have chk : ∀ r ∈ wk W ahead ds j, Ch (e + 1) r := by
          intro r hr'
          unfold wk at hr'
          obtain ⟨k, hk, rfl⟩ := List.mem_map.mp hr'
          have hk := List.mem_range.mp hk
          have hk2 : k < ds.length := by omega
          rw [getD_of (List.getElem?_eq_getElem hk2)]
          obtain ⟨p, s, s0, s1, ps, e1⟩ := share_at (hS _ (List.getElem_mem hk2)) jl
          rw [e1]
          exact (mem_getD0 hch (by omega)).mul s0 (by omega) ps
        have B9 := B5.keep s59
        refine ⟨_, rfl, .inl ⟨rfl, _, SqL.of h9⟩, _, rfl, _, rfl, _, rfl, _, rfl, _, rfl, _, rfl, b, g, W, e + 1, vt, .ref wt, an.2.1, wk W ahead ds j, an.2.2, rfl, B9, tt.keep (Same.kt s59), twt, lw, chk, by omega, nok an ma, hW1, hW5, fun v10 t10 H10 tv10 ok10 sh10 B10 F10 => ?_⟩
        refine ⟨by show 3 ≤ sizeLine; decide, fun p11 n11 => ?_⟩
        have s11 : Same H10 (upd H10 p11 (.tup [vw, .ref wt, v10])) := same_upd n11
        have F511 : Frm b g H5 (upd H10 p11 (.tup [vw, .ref wt, v10])) := ((Frm.of s59).trans F10).trans (.of s11)
        have h11 := F511 _ _ h5 Ab Ag
        have kT : KT K (upd H10 p11 (.tup [vw, .ref wt, v10])) (upd (upd H10 p11 (.tup [vw, .ref wt, v10])) A (.lst (ws ++ [.ref p11]))) := KT.updL h11
        have kk := (B5.kt F511).trans kT
        have k911 := (((B9.kt (K := K) F10).trans (Same.kt s11)).trans kT)
        have lqa : qa.length = j := by
          rw [← al4.len, List.length_take]
          omega
        refine ⟨A, ws, _, rfl, rfl, h11, ?_, ws ++ [.ref p11], qa ++ [((an.1, wk W ahead ds j, t10) : An n)], _, _, _, _, _, _, rfl, upd_same, ?_, ?_, fun i a' hi' => ?_, ?_, (B10.keep s11).updN Ab Ag, (F5.trans F511).updN hA⟩
        · rw [t5.len, List.length_map, lqa]
          exact small1000 (by omega)
        · rw [List.map_append]
          exact (t5.keep kk).app (.cons (.tup (kT _ _ (.inl (.inl upd_same))) (.cons (tw.keep kk) (.cons (twt.keep k911) (.cons (tv10.keep ((Same.kt s11).trans kT)) .nil)))) .nil)
        · rw [List.take_add_one, ea]
          exact Al.snoc (R := fun (a a' : An n) => a.1 = a'.1 ∧ Shp n a.2.2 a'.2.2) (a := an) (b := (an.1, wk W ahead ds j, t10)) ⟨rfl, sh10⟩ al4
        · by_cases hl : i < qa.length
          · rw [List.getElem?_append_left hl] at hi'
            exact hw4 i a' hi'
          · have ei : i = qa.length := by
              have := (List.getElem?_eq_some_iff.mp hi').1
              rw [List.length_append] at this
              simp at this
              omega
            subst ei
            rw [List.getElem?_append_right (Nat.le_refl _), Nat.sub_self] at hi'
            cases hi'
            exact ⟨by rw [lqa], ok10⟩
        · obtain ⟨_, _, _, _, rs, h1, h2', h3⟩ := hR5.keep (B5.kt F511) (.ofF F511)
          refine ⟨Rb, Rg, Rg, RA, rs, by rw [upd_ne RA]; exact h1, h2', fun j r d e1 e2 => ?_⟩
          obtain ⟨m0, m1, m2, m3, us', u1, u2⟩ := h3 j r d e1 e2
          exact ⟨m0, m1, m2, m3, us', by rw [upd_ne m0.2]; exact u1, u2.keep kT⟩
      · rintro σ H4 ⟨ws, qa, o7', o9', o10', o11', o12', o13', rfl, h4, t4, al4, hw4, hR4, B4, F4⟩
        rw [ly0, List.take_length] at al4
        have hT4 := F4 _ _ h3T Tb' Tg
        have lqa : qa.length = qn.length := al4.len.symm
        obtain ⟨qok', chq⟩ := rw_ok (m := 0) qok lqa hd hla hS hch (by omega) (fun i a' h => by
          have hi2 : i < qn.length := by
            have := (List.getElem?_eq_some_iff.mp h).1
            omega
          obtain ⟨a'', e1, e2, _⟩ := al4.get (List.getElem?_eq_getElem hi2)
          rw [h] at e1
          cases e1
          exact ⟨_, List.getElem?_eq_getElem hi2, e2.symm, (hw4 i a' h).1⟩)
        refine ⟨_, rfl, .inl ⟨rfl, _, SqL.of hT4⟩, _, rfl, A, ws, rfl, SqL.of h4, fun vt H5 s5 q5 => ?_⟩
        have F35 := F4.trans (.of s5)
        have h5 := F35 _ _ h3T Tb' Tg
        have kT : KT K H5 (upd H5 T (.lst (us ++ [.ref vt]))) := KT.updL h5
        have F25 := F3.trans F35
        have kk := (B2.kt (K := K) F25).trans kT
        have lqs' : qs'.length ≤ 5 := by
          have := al.len
          rw [List.length_take] at this
          omega
        refine ⟨T, us, _, rfl, rfl, h5, ?_, us ++ [.ref vt], qs' ++ [qa], _, _, _, _, _, _, _, _, _, rfl, upd_same, ?_, ?_, fun q' hq' => ?_, (B4.keep s5).updN Tb' Tg, (F2.trans F25).updN hT⟩
        · rw [t2.len, List.length_map]
          exact small1000 (by omega)
        · rw [List.map_append]
          exact (t2.keep kk).app (.cons (.tup (kT _ _ q5) (t4.keep ((Same.kt s5).trans kT))) .nil)
        · rw [List.take_add_one, eq]
          exact Al.snoc (R := fun (q q' : Qn n) => Al (fun (a a' : An n) => a.1 = a'.1 ∧ Shp n a.2.2 a'.2.2) q q') (a := qn) (b := qa) al4 al
        · rcases List.mem_append.mp hq' with z | z
          · exact ok2 q' z
          · rw [List.mem_singleton.mp z]
            refine ⟨qok', fun a' ha' => ?_⟩
            obtain ⟨i, hi', rfl⟩ := List.getElem_of_mem ha'
            exact (hw4 i _ (List.getElem?_eq_getElem hi')).2
    · rintro σ H2 ⟨us, qs', o5, o6, o7, o8, o9, o10, o11, o12, o13, rfl, h2, t2, al, ok2, B2, F2⟩
      rw [lx, List.take_length] at al
      have lq' : qs'.length = qs.length := al.len.symm
      refine ⟨_, rfl, T, us, rfl, SqL.of h2, fun l H3 s3 q3 => ?_⟩
      exact q (.ref l) qs' H3 (.tup q3 (t2.keep (Same.kt s3))) ⟨by show qs'.length ≤ 5; omega, ok2⟩ al (B2.keep s3) (F2.trans (.of s3))
end
end Tl
namespace Tl
open PySem PySem.Spec PyProof.Rows L2 RZ
/-- at some number of rounds -/
def anyS (N : Nat) (sp : Nat → Sp) : Sp := fun vs H Q E => ∃ n, n ≤ N ∧ sp n vs H Q E
/-- a choice of two values: what is known of it either way -/
def tIfE (t : TT) (ta tb : TE) : TE := fun σ H Q => ∃ R : VK, (∀ v H', R v H' → Q v H') ∧ tIf t ta tb σ H R
theorem pe_ifExpE {X : Cx} {c a b : Expr} {pos : Pos} {tA : TT} {ta tb : TE} (hc : PT X c tA) (ha : PE X a ta) (hb : PE X b tb) : PE X (.IfExp c a b pos) (tIfE tA ta tb) := by
  refine ⟨fun pins s σ H Q I h => ?_⟩
  obtain ⟨R, hm, h'⟩ := h
  refine wpAny_mono ((pe_ifExp hc ha hb).run pins s σ H R I h') (fun u s' z => ?_) fun _ _ x => x
  obtain ⟨v, H', I', r, q⟩ := z
  exact ⟨v, H', I', r, hm v H' q⟩
def spHs (K : PySem.W.Frag) : Sp := fun vs H Q _ => ∃ (b g : Addr) (n A : Nat), vs = [.ref b, .int ((n + 1 : Nat) : Int), .int (A : Int)] ∧ Bag H b g ∧ n ≤ 3 ∧ A ≤ 20 ∧
  ∀ (p : Addr) (W : Nat) (v : V) (m : Nat) (t : Nd m) (H' : Hp), 1 ≤ W → W ≤ 3 → m ≤ 5 → SqT K H' p [.int (W : Int), v] → Td K H' v (ndD m t) → NdOk W m (ones W) t → cnt m t ≤ 1500 → Bag H' b g → Frm b g H H' → Q (.ref p) H'
/-! equal fractions are the same -/
theorem shown_int {i : Int} (h : i.natAbs < 2 ^ 1500) : decide (i.natAbs.log2 < 1920) = true ∧ decide ((PyData.shown (.int i)).length ≤ 1502) = true := by
  have hl : i.natAbs.log2 < 1501 := by
    by_cases h0 : i.natAbs = 0
    · rw [h0]
      decide
    · exact (Nat.log2_lt h0).mpr (Nat.lt_trans h (Nat.pow_lt_pow_right (by decide) (by decide)))
  refine ⟨decide_eq_true (by omega), decide_eq_true ?_⟩
  have := int_text_length_le (a := i) (k := 1501) (by decide) hl
  have e : (PyData.shown (.int i)).length = (toString i).length := by
    show (Str.ofString (toString i)).length = _
    exact PySem.ofString_length _
  omega
theorem shown_rD {r : Rat} (h : Sm r) : (rD r).showable = true ∧ (rD r).shown.length ≤ sizeLine := by
  obtain ⟨a1, a2⟩ := shown_int h.2
  obtain ⟨b1, b2⟩ := shown_int (i := (r.den : Int)) (by rw [Int.natAbs_natCast]; exact h.1)
  constructor
  · show (decide (r.num.natAbs.log2 < 1920) && (decide (((r.den : Int)).natAbs.log2 < 1920) && true)) = true
    rw [a1, b1]
    rfl
  · have lv : (rD r).leavesShort 1502 = true := by
      show (decide ((PyData.shown (.int r.num)).length ≤ 1502) && (decide ((PyData.shown (.int (r.den : Int))).length ≤ 1502) && true)) = true
      rw [a2, b2]
      rfl
    have := PyData.shown_le_bulk 1502 (by decide) (rD r) lv
    have bk : (rD r).bulk ≤ 4 := Nat.le_of_ble_eq_true rfl
    rw [sizeLine_eq]
    omega
def spIsF (K : PySem.W.Frag) : Sp := fun vs H Q _ => ∃ (x y : V) (r : Rat), vs = [x, y] ∧ Td K H x (rD r) ∧ Td K H y (rD r) ∧ Sm r ∧ Q (.bl true) H
/-! ### the paths -/
def pairD (x : Nat × Nat) : PyData := .tuple [.int (x.1 : Int), .int (x.2 : Int)]
def pathD (p : List (Nat × Nat)) : PyData := .tuple (p.map pairD)
abbrev Pt : Type := List (Nat × Nat) × List Rat × PyData
def ptD (x : Pt) : PyData := .tuple [pathD x.1, wsD x.2.1, x.2.2]
def pthQ (n : Nat) (rec_ : Nd n → List (Nat × Nat) → List Pt) (pre : List (Nat × Nat)) (i : Nat) : Nat → Qn n → List Pt
  | _, [] => []
  | j, a :: r => ((pre ++ [(i, j)], a.2.1, ndD n a.2.2) :: rec_ a.2.2 (pre ++ [(i, j)])) ++ pthQ n rec_ pre i (j + 1) r
def pthN (n : Nat) (rec_ : Nd n → List (Nat × Nat) → List Pt) (pre : List (Nat × Nat)) : Nat → List (Qn n) → List Pt
  | _, [] => []
  | i, q :: r => pthQ n rec_ pre i 0 q ++ pthN n rec_ pre (i + 1) r
def pths : (n : Nat) → Nd n → List (Nat × Nat) → List Pt
  | 0, _, _ => []
  | n + 1, qs, pre => pthN n (pths n) pre 0 (show List (Qn n) from qs)
theorem pthQ_snoc (n : Nat) (rec_ : Nd n → List (Nat × Nat) → List Pt) (pre : List (Nat × Nat)) (i : Nat) (a : An n) : ∀ (j : Nat) (q : Qn n), pthQ n rec_ pre i j (q ++ [a]) = pthQ n rec_ pre i j q ++ ((pre ++ [(i, j + q.length)], a.2.1, ndD n a.2.2) :: rec_ a.2.2 (pre ++ [(i, j + q.length)]))
  | j, [] => by
    show (_ ++ []) = [] ++ _
    rw [List.append_nil, List.nil_append]
    rfl
  | j, x :: r => by
    show (_ ++ pthQ n rec_ pre i (j + 1) (r ++ [a])) = (_ ++ pthQ n rec_ pre i (j + 1) r) ++ _
    rw [pthQ_snoc n rec_ pre i a (j + 1) r, List.append_assoc, show j + 1 + r.length = j + (x :: r).length by rw [List.length_cons]; omega]
theorem pthN_snoc (n : Nat) (rec_ : Nd n → List (Nat × Nat) → List Pt) (pre : List (Nat × Nat)) (q : Qn n) : ∀ (i : Nat) (l : List (Qn n)), pthN n rec_ pre i (l ++ [q]) = pthN n rec_ pre i l ++ pthQ n rec_ pre (i + l.length) 0 q
  | i, [] => by
    show (_ ++ []) = [] ++ _
    rw [List.append_nil, List.nil_append]
    rfl
  | i, x :: r => by
    show (_ ++ pthN n rec_ pre (i + 1) (r ++ [q])) = (_ ++ pthN n rec_ pre (i + 1) r) ++ _
    rw [pthN_snoc n rec_ pre q (i + 1) r, List.append_assoc, show i + 1 + r.length = i + (x :: r).length by rw [List.length_cons]; omega]
theorem pths_len : ∀ (n : Nat) (t : Nd n) (pre : List (Nat × Nat)), (pths n t pre).length = cnt n t
  | 0, _, _ => rfl
  | n + 1, qs, pre => by
    have hq : ∀ (i j : Nat) (q : Qn n), (pthQ n (pths n) pre i j q).length = cntQ n q := by
      intro i j q
      induction q generalizing j with
      | nil => rfl
      | cons a r ih =>
        show (_ ++ pthQ n (pths n) pre i (j + 1) r).length = _
        rw [List.length_append, List.length_cons, pths_len n, ih, cntQ_cons]
        omega
    have hn : ∀ (i : Nat) (l : List (Qn n)), (pthN n (pths n) pre i l).length = cnt (n + 1) (l : Nd (n + 1)) := by
      intro i l
      induction l generalizing i with
      | nil => rfl
      | cons q r ih =>
        show (_ ++ pthN n (pths n) pre (i + 1) r).length = _
        rw [List.length_append, hq, ih, cnt_cons]
    exact hn 0 _
theorem pthQ_le (n : Nat) (pre : List (Nat × Nat)) (i : Nat) (q : Qn n) (j : Nat) : (pthQ n (pths n) pre i 0 (q.take j)).length ≤ cntQ n q := by
  have hq : ∀ (j0 : Nat) (q : Qn n), (pthQ n (pths n) pre i j0 q).length = cntQ n q := by
    intro j0 q
    induction q generalizing j0 with
    | nil => rfl
    | cons a r ih =>
      show (_ ++ pthQ n (pths n) pre i (j0 + 1) r).length = _
      rw [List.length_append, List.length_cons, pths_len n, ih, cntQ_cons]
      omega
  rw [hq]
  have e : cntQ n (q.take j ++ q.drop j) = cntQ n (q.take j) + cntQ n (q.drop j) := by
    unfold cntQ
    rw [List.map_append, List.sum_append]
  rw [List.take_append_drop] at e
  omega
def spPths (K : PySem.W.Frag) (n : Nat) : Sp := fun vs H Q _ => ∃ (v vp : V) (t : Nd n) (pre : List (Nat × Nat)), vs = [v, vp] ∧ Td K H v (ndD n t) ∧ Td K H vp (pathD pre) ∧ pre.length + n ≤ 100 ∧ n ≤ 20 ∧ cnt n t ≤ 3000 ∧
  ∀ r us H', Same H H' → H' r = some (.lst us) → TdAll K H' us ((pths n t pre).map ptD) → Q (.ref r) H'
section
variable {P : Program} {w : World} {K : PySem.W.Frag} {mg : Str → Option Value} {base : Heap}
theorem FnOk.anyS {f : Addr} {fd : FuncData} {ps : List Str} {N k : Nat} {sp : Nat → Sp} {lv : Nat → Nat} (h : ∀ n, FnOk P w K mg base CX0 (lv n) f fd ps (sp n)) (hk : ∀ n, n ≤ N → lv n ≤ k) : FnOk P w K mg base CX0 k f fd ps (Tl.anyS N sp) :=
  ⟨fun vs H Q E ⟨n, _, q⟩ => (h n).len vs H Q E q, fun A outer s H args us vs Q E hr e0 hb rv ⟨n, hn, q⟩ => ((h n).mono (hk n hn)).run A outer s H args us vs Q E hr e0 hb rv q⟩
theorem ok_law_isF {f : Addr} {fd : FuncData} (D : Dn K mg "_law_is" s_law_is ["found", "due"] f fd) (B : Blt mg) : FnG P w K mg base CX0 1 f fd ["found", "due"] (spIsF K) := by
  refine okG D.F sc_law_is (fun vs H Q E h => ?_) (fun cdv A outer s H vs Q E hr hgu h => ?_)
  · obtain ⟨x, y, r, rfl, _⟩ := h
    rfl
  obtain ⟨x, y, r, rfl, tx, ty, sm, q⟩ := h
  have nd := sc_law_is.nd
  refine ⟨_, (pss_one (ps_ret (pe_and (pe_cmpR (k_eqD (K := K) rfl hr.units) (pv 0) (pv 1) (nomark _)) (pe_one (pe_cmpR op_eq (pe_callB (k_repr (K := K) rfl hr.units hgu) (by rfl) B.repr (by decide +kernel) (pa_cons (pv 0) pa_nil)) (pe_callB (k_repr (K := K) rfl hr.units hgu) (by rfl) B.repr (by decide +kernel) (pa_cons (pv 1) pa_nil)) (nomark _)))))), ?_⟩
  have gd := good_rD r
  obtain ⟨h1, h2⟩ := shown_rD sm
  obtain ⟨a, rfl, ha⟩ := id tx.rE
  obtain ⟨b, rfl, hb⟩ := id ty.rE
  refine ⟨_, rfl, _, rfl, rD r, rD r, tx.dp, ty.dp, gd.shaped (by decide), gd.shaped (by decide), ?_⟩
  rw [gd.refl]
  refine ⟨_, rfl, iteT ?_⟩
  refine ⟨_, rfl, a, rD r, rfl, tx.dp, h1, gd.dict, Nat.le_trans gd.deep (by decide), h2, _, rfl, b, rD r, rfl, ty.dp, h1, gd.dict, Nat.le_trans gd.deep (by decide), h2, rfl, ?_⟩
  rw [decide_eq_true rfl]
  exact q
theorem ok_law_house {f f1 f2 f3 : Addr} {fd fd1 fd2 fd3 : FuncData} (D : Dn K mg "_law_house" s_law_house ["bag", "levels", "answers"] f fd) (B : Blt mg) (D_law_pick : Dn K mg "_law_pick" s_law_pick ["bag", "many"] f1 fd1)
    (D_law_tree : Dn K mg "_law_tree" s_law_tree ["bag", "worlds", "levels", "answers"] f2 fd2) (G_law_tree : FnOk P w K mg base CX0 30 f2 fd2 ["bag", "worlds", "levels", "answers"] (anyS 3 (spTree K)))
    (D_law_with_hopeless : Dn K mg "_law_with_hopeless" s_law_with_hopeless ["bag", "worlds", "node"] f3 fd3) (G_law_with_hopeless : FnOk P w K mg base CX0 30 f3 fd3 ["bag", "worlds", "node"] (anyS 4 (spWH K))) : FnOk P w K mg base CX0 31 f fd ["bag", "levels", "answers"] (spHs K) := by
  have G_law_pick : FnOk P w K mg base CX0 1 f1 fd1 ["bag", "many"] spPick := ok_law_pick D_law_pick B
  refine D.F.ok sc_law_house (fun vs H Q E h => ?_) (fun cdv A outer s H vs Q E hr h => ?_)
  · obtain ⟨b, g, n, A, rfl, _⟩ := h
    rfl
  obtain ⟨b, g, n, A', rfl, hB, hn, hA, q⟩ := h
  have nd := sc_law_house.nd
  refine ⟨_, (pss_cons (ps_set (i := 3) nd rfl (.inl rfl) (pe_op op_add pe_int (pe_call G_law_pick (hr.mono (by omega)) (by rfl) D_law_pick.m D_law_pick.F.kp D_law_pick.b .nil pass0 (pa_cons (pv 0) (pa_cons pe_int pa_nil)))))
      (pss_cons (ps_set (i := 4) nd rfl (.inl rfl) (pe_call G_law_tree (hr.mono (by omega)) (by rfl) D_law_tree.m D_law_tree.F.kp D_law_tree.b .nil pass0 (pa_cons (pv 0) (pa_cons (pv 3) (pa_cons (pv 1) (pa_cons (pv 2) pa_nil))))))
      (pss_one (ps_ret (pe_tup (pa_cons (pv 3) (pa_cons (pe_ifExpE (pt_cmpR op_eq (pe_call G_law_pick (hr.mono (by omega)) (by rfl) D_law_pick.m D_law_pick.F.kp D_law_pick.b .nil pass0 (pa_cons (pv 0) (pa_cons pe_int pa_nil))) pe_int (nomark _)) (pe_call G_law_with_hopeless (hr.mono (by omega)) (by rfl) D_law_with_hopeless.m D_law_with_hopeless.F.kp D_law_with_hopeless.b .nil pass0 (pa_cons (pv 0) (pa_cons (pv 3) (pa_cons (pv 4) pa_nil)))) (pv 4)) pa_nil))))))), ?_⟩
  refine ⟨_, rfl, b, g, 3, rfl, hB, by decide, by decide, fun r H1 r0 r1 B1 F1 => ⟨_, _, rfl, rfl, ?_⟩⟩
  obtain ⟨W, eW⟩ : ∃ W : Nat, 1 + r = (W : Int) := ⟨(1 + r).toNat, by omega⟩
  have w1 : 1 ≤ W := by omega
  have w3 : W ≤ 3 := by omega
  show gName 3 (V.int (1 + r)) _ _ _
  rw [eW]
  refine ⟨_, rfl, _, rfl, _, rfl, _, rfl, n, hn, b, g, W, A', rfl, B1, by omega, w1, by omega, fun v t H2 tv ok cn B2 F2 => ?_⟩
  have F12 := F1.trans F2
  refine ⟨_, rfl, fun v' H3 => ∃ (m : Nat) (t' : Nd m), m ≤ 5 ∧ Td K H3 v' (ndD m t') ∧ NdOk W m (ones W) t' ∧ cnt m t' ≤ 1500 ∧ Bag H3 b g ∧ Frm b g H H3, fun v' H3 h => ?_, ?_⟩
  · obtain ⟨m, t', m5, tv', ok', c', B3, F3⟩ := h
    refine ⟨by show 2 ≤ sizeLine; decide, fun p np => ?_⟩
    have s4 := same_upd (o := .tup [.int (W : Int), v']) np
    exact q p W v' m t' _ w1 w3 m5 (.inl (.inl upd_same)) (tv'.keep (Same.kt s4)) ok' c' (B3.keep s4) (F3.trans (.of s4))
  · refine ⟨_, rfl, b, g, 3, rfl, B2, by decide, by decide, fun r2 H3 r20 r21 B3 F3 => ⟨rfl, _, rfl, ?_⟩⟩
    have F13 := F12.trans F3
    have tv3 := tv.keep (B2.kt F3)
    refine ite2 (fun c => ?_) (fun c => ?_)
    · refine ⟨_, rfl, _, rfl, _, rfl, n + 1, by omega, b, g, W, v, ones W, t, rfl, B3, tv3, ok, w1, by omega, fun v' t' H4 tv' ok' c' B4 F4 => ?_⟩
      have c6 : cnt (n + 2) t' ≤ 11 * cnt (n + 1) t := c'
      exact ⟨n + 2, t', by omega, tv', ok', by omega, B4, F13.trans F4⟩
    · exact ⟨_, rfl, n + 1, t, by omega, tv3, ok.ok, by omega, B3, F13⟩
theorem ok_law_paths {f : Addr} {fd : FuncData} (D : Dn K mg "_law_paths" s_law_paths ["node", "path"] f fd) (B : Blt mg) : ∀ n : Nat, FnOk P w K mg base CX0 (1 + n) f fd ["node", "path"] (spPths K n) := by
  intro n
  obtain ⟨sp0, G_law_paths, hsp⟩ : ∃ sp0, FnOk P w K mg base CX0 n f fd ["node", "path"] sp0 ∧ (∀ m, n = m + 1 → sp0 = spPths K m) := by
    cases n with
    | zero => exact ⟨fun _ _ _ _ => False, ⟨fun vs H Q E h => h.elim, fun A outer s H args us vs Q E _ _ _ _ h => h.elim⟩, fun m e => by omega⟩
    | succ m =>
      have G := ok_law_paths D B m
      rw [show 1 + m = m + 1 by omega] at G
      exact ⟨_, G, fun m' e => by rw [show m' = m by omega]⟩
  rw [show 1 + n = n + 1 by omega]
  refine D.F.ok sc_law_paths (fun vs H Q E h => ?_) (fun cdv A outer s H vs Q E hr h => ?_)
  · obtain ⟨v, vp, t, pre, rfl, _⟩ := h
    rfl
  obtain ⟨v, vp, t, pre, rfl, hv, hvp, lp, ln, lc, q⟩ := h
  have nd := sc_law_paths.nd
  have D_law_paths := D
  refine ⟨_, (pss_cons (ps_set (i := 2) nd rfl (.inl rfl) (pe_lst pa_nil))
      (pss_cons (ps_for PassesOwn.never rfl (k_enum (K := K) rfl (by rfl) B.enumerate (pa_cons (pv 0) pa_nil)) (k_tup (K := K) (n := 2) rfl rfl (pgs_cons (pg_name (i := 3) nd rfl (.inl rfl)) (pgs_cons (pg_name (i := 4) nd rfl (.inl rfl)) pgs_nil))) (pss_one (ps_for PassesOwn.never rfl (k_enum (K := K) rfl (by rfl) B.enumerate (pa_cons (pv 4) pa_nil)) (k_tup (K := K) (n := 2) rfl rfl (pgs_cons (pg_name (i := 5) nd rfl (.inl rfl)) (pgs_cons (k_tup (K := K) (n := 3) rfl rfl (pgs_cons (pg_name (i := 6) nd rfl (.inl rfl)) (pgs_cons (pg_name (i := 7) nd rfl (.inl rfl)) (pgs_cons (pg_name (i := 8) nd rfl (.inl rfl)) pgs_nil)))) pgs_nil))) (pss_cons (ps_expr (pe_bm PySem.F.plainAttrs_list PySem.F.slot_list_append PySem.F.type_list_append mt_append (pv 2) (pa_cons (pe_tup (pa_cons (pe_op (k_cat (K := K) rfl) (pv 1) (pe_tup (pa_cons (pe_tup (pa_cons (pv 3) (pa_cons (pv 5) pa_nil))) pa_nil))) (pa_cons (pv 7) (pa_cons (pv 8) pa_nil)))) pa_nil)))
      (pss_one (ps_set (i := 2) nd rfl (.inl rfl) (pe_op op_cat (pv 2) (pe_call G_law_paths (hr.mono (by omega)) (by rfl) D_law_paths.m D_law_paths.F.kp D_law_paths.b .nil pass0 (pa_cons (pv 8) (pa_cons (pe_op (k_cat (K := K) rfl) (pv 1) (pe_tup (pa_cons (pe_tup (pa_cons (pv 3) (pa_cons (pv 5) pa_nil))) pa_nil))) pa_nil))))))))))
      (pss_one (ps_ret (pv 2))))), ?_⟩
  obtain ⟨a, xs, ds, rfl, ha, ed, ta, l0⟩ := td_qs hv
  obtain ⟨pp, pxs, rfl, hpp, tpp⟩ := hvp.tupE
  have lpx : pxs.length = pre.length := by rw [tpp.len, List.length_map]
  refine ⟨by show 0 ≤ sizeLine; decide, fun T hT => ?_⟩
  have sT := same_upd (o := .lst []) hT
  cases n with
  | zero =>
    have := l0 rfl
    subst this
    refine ⟨_, rfl, a, [], rfl, Same.kt sT _ _ ha, for_it (walk_enumT (K := K) (a := a) (xs := [])) (fun i σ H2 => H2 = upd H T (.lst []) ∧ ∃ o3 o4 o5 o6 o7 o8 : Option V, σ = [some (.ref a), some (.ref pp), some (.ref T), o3, o4, o5, o6, o7, o8]) ⟨rfl, none, none, none, none, none, none, rfl⟩ (fun i σ H2 _ h => by rw [h.1]; exact Same.kt sT _ _ ha) ?_ ?_⟩
    · rintro i x σ H2 H3 hi
      exact absurd hi (Nat.not_lt_zero _)
    · rintro σ H2 ⟨rfl, o3, o4, o5, o6, o7, o8, rfl⟩
      exact ⟨_, rfl, q T [] _ sT upd_same .nil⟩
  | succ n =>
    have hsp := hsp n rfl
    subst hsp
    obtain ⟨qs, hqs⟩ : ∃ qs : List (Qn n), (qs : Nd (n + 1)) = t := ⟨t, rfl⟩
    subst hqs
    cases ed
    have lx : xs.length = qs.length := by rw [ta.len, List.length_map]
    have lall := pths_len (n + 1) (qs : Nd (n + 1)) pre
    have lim : ∀ (i : Nat) (qn : Qn n) (j : Nat), qs[i]? = some qn → (pthN n (pths n) pre 0 (qs.take i) ++ pthQ n (pths n) pre i 0 (qn.take j)).length ≤ 3000 := by
      intro i qn j eq
      have e1 := pthN_snoc n (pths n) pre qn 0 (qs.take i)
      have e2 : qs.take i ++ [qn] = qs.take (i + 1) := by
        rw [List.take_add_one, eq]
        rfl
      have hi : i < qs.length := (List.getElem?_eq_some_iff.mp eq).1
      have e3 : cnt (n + 1) (qs.take (i + 1) : Nd (n + 1)) ≤ cnt (n + 1) (qs : Nd (n + 1)) := by
        have e : cnt (n + 1) ((qs.take (i + 1) ++ qs.drop (i + 1) : List (Qn n)) : Nd (n + 1)) = cnt (n + 1) (qs.take (i + 1) : Nd (n + 1)) + cnt (n + 1) (qs.drop (i + 1) : Nd (n + 1)) := by
          rw [cnt_succ, cnt_succ, cnt_succ, List.map_append, List.sum_append]
        rw [List.take_append_drop] at e
        omega
      have e4 := pths_len (n + 1) (qs.take (i + 1) : Nd (n + 1)) pre
      have e5 : pths (n + 1) (qs.take (i + 1) : Nd (n + 1)) pre = pthN n (pths n) pre 0 (qs.take i) ++ pthQ n (pths n) pre (0 + (qs.take i).length) 0 qn := by
        rw [← e1, e2]
        rfl
      rw [e5, List.length_append] at e4
      have e6 := pthQ_le n pre i qn j
      have e7 : (pthQ n (pths n) pre (0 + (qs.take i).length) 0 qn).length = cntQ n qn := by
        have := pthQ_le n pre (0 + (qs.take i).length) qn qn.length
        rw [List.take_length] at this
        have hq : ∀ (i j0 : Nat) (q : Qn n), (pthQ n (pths n) pre i j0 q).length = cntQ n q := by
          intro i j0 q
          induction q generalizing j0 with
          | nil => rfl
          | cons a r ih =>
            show (_ ++ pthQ n (pths n) pre i (j0 + 1) r).length = _
            rw [List.length_append, List.length_cons, pths_len n, ih, cntQ_cons]
            omega
        exact hq _ _ _
      rw [List.length_append]
      have : cnt (n + 1) (qs : Nd (n + 1)) ≤ 3000 := lc
      omega
    refine ⟨_, rfl, a, xs, rfl, Same.kt sT _ _ ha, for_it (walk_enumT (K := K) (a := a) (xs := xs)) (fun i σ H2 => ∃ (T2 : Addr) (us : List V) (o3 o4 o5 o6 o7 o8 : Option V), σ = [some (.ref a), some (.ref pp), some (.ref T2), o3, o4, o5, o6, o7, o8] ∧ H T2 = none ∧ H2 T2 = some (.lst us) ∧ TdAll K H2 us ((pthN n (pths n) pre 0 (qs.take i)).map ptD) ∧ Same H H2) ⟨T, [], none, none, none, none, none, none, rfl, hT, upd_same, .nil, sT⟩ (fun i σ H2 _ h => ?_) ?_ ?_⟩
    · obtain ⟨_, _, _, _, _, _, _, _, _, _, _, _, s2⟩ := h
      exact Same.kt s2 _ _ ha
    · rintro i x σ H2 H3 hi ⟨T2, us, o3, o4, o5, o6, o7, o8, rfl, n0, h2, t2, s2⟩ ⟨T3, x1, x2, rfl, n3, rfl, e1, e2⟩
      cases e1
      obtain ⟨dx, ex, tx⟩ := ta.getV e2
      obtain ⟨qn, eq, rfl⟩ := map_at ex
      have s3 : Same H2 (upd H2 T3 (.tup [.int (i : Int), x2])) := same_upd n3
      have s03 := s2.trans s3
      have h3 := s3 _ _ h2
      have t3 := t2.keep (Same.kt s3)
      have tx3 := tx.keep (Same.kt s03)
      have e3 : SqT K (upd H2 T3 (.tup [.int (i : Int), x2])) T3 [.int (i : Int), x2] := .inl (.inl upd_same)
      generalize upd H2 T3 (.tup [.int (i : Int), x2]) = H3 at s3 s03 h3 t3 tx3 e3 ⊢
      refine ⟨T3, _, rfl, e3, rfl, _, _, rfl, _, _, rfl, rfl, ?_⟩
      obtain ⟨p0, ys, rfl, hp0, tp0⟩ := id tx3.tupE
      have ly : ys.length = qn.length := by rw [tp0.len, List.length_map]
      refine ⟨_, rfl, p0, ys, rfl, hp0, for_it (walk_enumT (K := K) (a := p0) (xs := ys)) (fun j σ H4 => ∃ (T4 : Addr) (ws : List V) (o5 o6 o7 o8 : Option V), σ = [some (.ref a), some (.ref pp), some (.ref T4), some (.int (i : Int)), some (.ref p0), o5, o6, o7, o8] ∧ H T4 = none ∧ H4 T4 = some (.lst ws) ∧ TdAll K H4 ws ((pthN n (pths n) pre 0 (qs.take i) ++ pthQ n (pths n) pre i 0 (qn.take j)).map ptD) ∧ Same H H4 ∧ KT K H3 H4) ⟨T2, us, _, _, _, _, rfl, n0, h3, by show TdAll K H3 us ((_ ++ []).map ptD); rw [List.append_nil]; exact t3, s03, KT.refl H3⟩ (fun j σ H4 _ h => ?_) ?_ ?_⟩
      · obtain ⟨_, _, _, _, _, _, _, _, _, _, _, k4⟩ := h
        exact k4 _ _ hp0
      · rintro j y σ H4 H5 hj ⟨T4, ws, o5', o6', o7', o8', rfl, n4, h4, t4, s4, k4⟩ ⟨T5, y1, y2, rfl, n5, rfl, g1, g2⟩
        cases g1
        obtain ⟨dy, ey, ty⟩ := tp0.getV g2
        obtain ⟨an, ea, rfl⟩ := map_at ey
        have s5 : Same H4 (upd H4 T5 (.tup [.int (j : Int), y2])) := same_upd n5
        have s05 := s4.trans s5
        have h5 := s5 _ _ h4
        have t5 := t4.keep (Same.kt s5)
        have tan := ty.keep (k4.trans (Same.kt s5))
        have k5 := k4.trans (Same.kt s5)
        have e5 : SqT K (upd H4 T5 (.tup [.int (j : Int), y2])) T5 [.int (j : Int), y2] := .inl (.inl upd_same)
        generalize upd H4 T5 (.tup [.int (j : Int), y2]) = H5 at s5 s05 h5 t5 tan k5 e5 ⊢
        obtain ⟨pa, vw, vz, vt, rfl, hpa, tw, tz, tt⟩ := td_an tan
        refine ⟨T5, _, rfl, e5, rfl, _, _, rfl, _, _, rfl, pa, _, rfl, hpa, rfl, _, _, rfl, _, _, rfl, _, _, rfl, rfl, rfl, ?_⟩
        -- found.append(..)
        refine ⟨_, rfl, .inl ⟨rfl, _, SqL.of h5⟩, _, rfl, _, rfl, _, rfl, by show 2 ≤ sizeLine; decide, fun p1 n1 => ⟨by show 1 ≤ sizeLine; decide, fun p2 n2 => ?_⟩⟩
        have s56 := (same_upd (o := .tup [.int (i : Int), .int (j : Int)]) n1).trans (same_upd (o := .tup [.ref p1]) n2)
        have tp1 : Td K (upd (upd H5 p1 (.tup [.int (i : Int), .int (j : Int)])) p2 (.tup [.ref p1])) (.ref p1) (pairD (i, j)) := .tup (Same.kt (same_upd n2) _ _ (.inl (.inl upd_same))) (.cons (.int _) (.cons (.int _) .nil))
        refine ⟨pp, p2, pxs, _, rfl, rfl, Same.kt (s05.trans s56) _ _ hpp, .inl (.inl upd_same), by rw [lpx]; exact Nat.le_of_lt (small1000 (by simp; omega)), fun p3 H6 s6 q6 => ?_⟩
        have s06 := s05.trans (s56.trans s6)
        have s566 := s56.trans s6
        have tpath : Td K H6 (.ref p3) (pathD (pre ++ [(i, j)])) := by
          unfold pathD
          rw [List.map_append]
          exact .tup q6 ((tpp.keep (Same.kt s06)).app (.cons (tp1.keep (Same.kt s6)) .nil))
        refine ⟨_, rfl, _, rfl, by show 3 ≤ sizeLine; decide, fun p4 n7 => ?_⟩
        have s7 := same_upd (o := .tup [.ref p3, vz, vt]) n7
        have s57 := s566.trans s7
        have h7 := s57 _ _ h5
        have kT : KT K (upd H6 p4 (.tup [.ref p3, vz, vt])) (upd (upd H6 p4 (.tup [.ref p3, vz, vt])) T4 (.lst (ws ++ [.ref p4]))) := KT.updL h7
        have lw : ws.length ≤ 3000 := by
          rw [t5.len, List.length_map]
          exact lim i qn j eq
        refine ⟨T4, ws, _, rfl, rfl, h7, by rw [sizeLine_eq]; omega, ?_⟩
        have s08 : Same H (upd (upd H6 p4 (.tup [.ref p3, vz, vt])) T4 (.lst (ws ++ [.ref p4]))) := fun c o z => by
          rw [upd_ne (ne_of_none z n4)]
          exact (s06.trans s7) _ _ z
        have k58 : KT K H5 (upd (upd H6 p4 (.tup [.ref p3, vz, vt])) T4 (.lst (ws ++ [.ref p4]))) := (Same.kt s57).trans kT
        have h8 : upd (upd H6 p4 (.tup [.ref p3, vz, vt])) T4 (.lst (ws ++ [.ref p4])) T4 = some (.lst (ws ++ [.ref p4])) := upd_same
        have t8 : TdAll K (upd (upd H6 p4 (.tup [.ref p3, vz, vt])) T4 (.lst (ws ++ [.ref p4]))) (ws ++ [.ref p4]) (((pthN n (pths n) pre 0 (qs.take i) ++ pthQ n (pths n) pre i 0 (qn.take j)) ++ [((pre ++ [(i, j)], an.2.1, ndD n an.2.2) : Pt)]).map ptD) := by
          rw [List.map_append]
          refine (t5.keep k58).app (.cons (.tup (kT _ _ (.inl (.inl upd_same))) (.cons (tpath.keep ((Same.kt s7).trans kT)) (.cons (tz.keep k58) (.cons (tt.keep k58) .nil)))) .nil)
        have tt8 := tt.keep k58
        have k8 := k5.trans k58
        generalize upd (upd H6 p4 (.tup [.ref p3, vz, vt])) T4 (.lst (ws ++ [.ref p4])) = H8 at s08 k58 h8 t8 tt8 k8 ⊢
        clear kT s7 s57 h7 n7 tpath s06 s566 q6 s6 tp1 s56 n1 n2
        -- found = found + _law_paths(..)
        refine ⟨_, rfl, _, rfl, _, rfl, _, rfl, _, rfl, by show 2 ≤ sizeLine; decide, fun p1 n1 => ⟨by show 1 ≤ sizeLine; decide, fun p2 n2 => ?_⟩⟩
        have s56 := (same_upd (o := .tup [.int (i : Int), .int (j : Int)]) n1).trans (same_upd (o := .tup [.ref p1]) n2)
        have tp1 : Td K (upd (upd H8 p1 (.tup [.int (i : Int), .int (j : Int)])) p2 (.tup [.ref p1])) (.ref p1) (pairD (i, j)) := .tup (Same.kt (same_upd n2) _ _ (.inl (.inl upd_same))) (.cons (.int _) (.cons (.int _) .nil))
        refine ⟨pp, p2, pxs, _, rfl, rfl, Same.kt (s08.trans s56) _ _ hpp, .inl (.inl upd_same), by rw [lpx]; exact Nat.le_of_lt (small1000 (by simp; omega)), fun p3 H9 s9 q9 => ?_⟩
        have s09 := s08.trans (s56.trans s9)
        have s89 := s56.trans s9
        have tpath : Td K H9 (.ref p3) (pathD (pre ++ [(i, j)])) := by
          unfold pathD
          rw [List.map_append]
          exact .tup q9 ((tpp.keep (Same.kt s09)).app (.cons (tp1.keep (Same.kt s9)) .nil))
        have hcn : cnt n an.2.2 ≤ 3000 := Nat.le_trans (Nat.le_trans (cnt_le_ans (List.mem_of_getElem? ea)) (cnt_le_of_mem (List.mem_of_getElem? eq))) lc
        refine ⟨vt, .ref p3, an.2.2, pre ++ [(i, j)], rfl, tt8.keep (Same.kt s89), tpath, by rw [List.length_append]; show pre.length + 1 + n ≤ 100; omega, by omega, hcn, fun r us9 H10 s10 h10 t10 => ?_⟩
        have s810 := s89.trans s10
        have h8' := s810 _ _ h8
        have lim2 := lim i qn (j + 1) eq
        have eT : qn.take (j + 1) = qn.take j ++ [an] := by
          rw [List.take_add_one, ea]
          rfl
        have jl : (qn.take j).length = j := by
          rw [List.length_take]
          have := (List.getElem?_eq_some_iff.mp ea).1
          omega
        have eP : pthN n (pths n) pre 0 (qs.take i) ++ pthQ n (pths n) pre i 0 (qn.take (j + 1)) = ((pthN n (pths n) pre 0 (qs.take i) ++ pthQ n (pths n) pre i 0 (qn.take j)) ++ [((pre ++ [(i, j)], an.2.1, ndD n an.2.2) : Pt)]) ++ pths n an.2.2 (pre ++ [(i, j)]) := by
          rw [eT, pthQ_snoc, jl, Nat.zero_add]
          simp only [List.append_assoc, List.cons_append, List.nil_append]
        have tall := (t8.keep (Same.kt s810)).app t10
        rw [← List.map_append, ← eP] at tall
        have ltot : (ws ++ [V.ref p4]).length + us9.length ≤ 3000 := by
          have := tall.len
          rw [List.length_map] at this
          rw [← List.length_append, this]
          exact lim2
        refine ⟨T4, r, _, us9, rfl, rfl, h8', h10, by rw [sizeLine_eq]; omega, fun p11 n11 => ?_⟩
        have s11 := same_upd (o := .lst ((ws ++ [V.ref p4]) ++ us9)) n11
        exact ⟨p11, _, _, _, _, _, rfl, (s08.trans s810).free n11, upd_same, tall.keep (Same.kt s11), (s08.trans s810).trans s11, (k8.trans (Same.kt s810)).trans (Same.kt s11)⟩
      · rintro σ H4 ⟨T4, ws, o5', o6', o7', o8', rfl, n4, h4, t4, s4, k4⟩
        rw [ly, List.take_length] at t4
        have eT : qs.take (i + 1) = qs.take i ++ [qn] := by
          rw [List.take_add_one, eq]
          rfl
        have il : (qs.take i).length = i := by
          rw [List.length_take]
          have := (List.getElem?_eq_some_iff.mp eq).1
          omega
        refine ⟨T4, ws, _, _, _, _, _, _, rfl, n4, h4, ?_, s4⟩
        rw [eT, pthN_snoc, il, Nat.zero_add]
        exact t4
    · rintro σ H2 ⟨T2, us, o3, o4, o5, o6, o7, o8, rfl, n0, h2, t2, s2⟩
      rw [lx, List.take_length] at t2
      exact ⟨_, rfl, q T2 us H2 s2 h2 t2⟩
end
end Tl
namespace Tl
open PySem PySem.Spec PyProof.Rows L2 RZ
/-! ### keys of paths and worlds -/
def pairK (x : Nat × Nat) : NestedKey := .tup [.num (x.1 : Int), .num (x.2 : Int)]
def keyP (p : List (Nat × Nat)) (k : Nat) : NestedKey := .tup [.tup (p.map pairK), .num (k : Int)]
theorem datas_pairs : ∀ p : List (Nat × Nat), NestedKey.datas (p.map pairK) = p.map pairD
  | [] => rfl
  | x :: r => by
    show NestedKey.data (pairK x) :: NestedKey.datas (r.map pairK) = pairD x :: r.map pairD
    rw [datas_pairs r]
    rfl
theorem keyP_data (p : List (Nat × Nat)) (k : Nat) : (keyP p k).data = .tuple [pathD p, .int (k : Int)] := by
  show PyData.tuple [.tuple (NestedKey.datas (p.map pairK)), .int (k : Int)] = _
  rw [datas_pairs]
  rfl
theorem depth_pairs : ∀ p : List (Nat × Nat), NestedKey.depthAll (p.map pairK) ≤ 1
  | [] => Nat.zero_le _
  | x :: r => by
    show max (NestedKey.depth (pairK x)) (NestedKey.depthAll (r.map pairK)) ≤ 1
    exact Nat.max_le.mpr ⟨Nat.le_refl 1, depth_pairs r⟩
theorem keyP_depth (p : List (Nat × Nat)) (k : Nat) : (keyP p k).depth ≤ 8 := by
  have := depth_pairs p
  show max (NestedKey.depthAll (p.map pairK) + 1) (max 0 0) + 1 ≤ 8
  omega
theorem pairK_inj : ∀ {p q : List (Nat × Nat)}, p.map pairK = q.map pairK → p = q
  | [], [], _ => rfl
  | [], _ :: _, h => by simp at h
  | _ :: _, [], h => by simp at h
  | (a, b) :: p, (c, e) :: q, h => by
    rw [List.map_cons, List.map_cons] at h
    injection h with h1 h2
    unfold pairK at h1
    injection h1 with h1
    injection h1 with h3 h4
    injection h3 with h3
    injection h4 with h4 _
    injection h4 with h4
    have e1 : a = c := by have : (a : Int) = (c : Int) := h3; omega
    have e2 : b = e := by have : (b : Int) = (e : Int) := h4; omega
    rw [pairK_inj h2, e1, e2]
theorem keyP_inj {p q : List (Nat × Nat)} {k j : Nat} (h : keyP p k = keyP q j) : p = q ∧ k = j := by
  unfold keyP at h
  injection h with h
  injection h with h1 h2
  injection h1 with h1
  injection h2 with h2 _
  injection h2 with h2
  exact ⟨pairK_inj h1, by omega⟩
/-! ### what stands at a path of a table -/
def look : (n : Nat) → Tb n → Rat → List (Nat × Nat) → Option (Rat × List Rat)
  | 0, _, _, _ => none
  | _ + 1, _, _, [] => none
  | n + 1, xs, ah, x :: rest => ((show List (Ask n) from xs)[x.1]?).bind fun (k : Ask n) => (k.2[x.2]?).bind fun (r : Rw n) => if rest = [] then some (ah * k.1, r.1) else look n r.2 (ah * k.1) rest
theorem look_nil : ∀ {n : Nat} {t : Tb n} {ah : Rat}, look n t ah [] = none
  | 0, _, _ => rfl
  | _ + 1, _, _ => rfl
theorem look_cons {n : Nat} {xs : List (Ask n)} {ah : Rat} {x : Nat × Nat} {rest : List (Nat × Nat)} : look (n + 1) xs ah (x :: rest) = (xs[x.1]?).bind fun (k : Ask n) => (k.2[x.2]?).bind fun (r : Rw n) => if rest = [] then some (ah * k.1, r.1) else look n r.2 (ah * k.1) rest := rfl
theorem look_at {n : Nat} {xs : List (Ask n)} {ah : Rat} {q a : Nat} {rest : List (Nat × Nat)} {k : Ask n} {r : Rw n} (h1 : xs[q]? = some k) (h2 : k.2[a]? = some r) : look (n + 1) xs ah ((q, a) :: rest) = if rest = [] then some (ah * k.1, r.1) else look n r.2 (ah * k.1) rest := by
  rw [look_cons]
  show (xs[q]?).bind _ = _
  rw [h1]
  show (k.2[a]?).bind _ = _
  rw [h2]
  rfl
theorem look_some {n : Nat} {xs : List (Ask n)} {ah : Rat} {q a : Nat} {rest : List (Nat × Nat)} (h : (look (n + 1) xs ah ((q, a) :: rest)).isSome = true) : ∃ k r, xs[q]? = some k ∧ k.2[a]? = some r := by
  rw [look_cons] at h
  cases e : xs[q]? with
  | none =>
    rw [show xs[((q, a) : Nat × Nat).1]? = xs[q]? from rfl, e] at h
    cases h
  | some k =>
    rw [show xs[((q, a) : Nat × Nat).1]? = xs[q]? from rfl, e] at h
    cases e2 : k.2[a]? with
    | none =>
      rw [show (some k).bind _ = (k.2[a]?).bind _ from rfl, e2] at h
      cases h
    | some r => exact ⟨k, r, rfl, e2⟩
/-- how many rows -/
def sz : (n : Nat) → Tb n → Nat
  | 0, _ => 0
  | n + 1, xs => ((show List (Ask n) from xs).map fun x => (x.2.map fun r => 1 + sz n r.2).sum).sum
def szR (n : Nat) (r : Rw n) : Nat := 1 + sz n r.2
def szQ (n : Nat) (x : Ask n) : Nat := (x.2.map (szR n)).sum
theorem sz_succ (n : Nat) (xs : List (Ask n)) : sz (n + 1) xs = (xs.map (szQ n)).sum := rfl
def TbV (W : Nat) : (n : Nat) → Tb n → Prop
  | 0, _ => True
  | n + 1, xs => ∀ x ∈ (show List (Ask n) from xs), Ch 1 x.1 ∧ ∀ r ∈ x.2, PaysOk W r.1 ∧ TbV W n r.2
/-- a part of the stack -/
structure SE where
  pre : List (Nat × Nat)
  ah : Rat
  m : Nat
  tb : Tb m
def seD (e : SE) : PyData := .tuple [pathD e.pre, rD e.ah, tbD e.m e.tb]
def Ssz (es : List SE) : Nat := (es.map fun e => sz e.m e.tb).sum
theorem ssz_snoc (es : List SE) (e : SE) : Ssz (es ++ [e]) = Ssz es + sz e.m e.tb := by
  unfold Ssz
  rw [List.map_append, List.sum_append]
  rfl
structure SeOk (W N : Nat) (tb0 : Tb N) (e : SE) : Prop where
  tv : TbV W e.m e.tb
  ch : Ch e.pre.length e.ah
  len : e.pre.length + e.m ≤ 6
  lk : ∀ rest y, look e.m e.tb e.ah rest = some y → look N tb0 1 (e.pre ++ rest) = some y
def InE (e : SE) (p : List (Nat × Nat)) : Prop := ∃ rest, p = e.pre ++ rest ∧ (look e.m e.tb e.ah rest).isSome = true
def PS_ (es : List SE) (p : List (Nat × Nat)) (_ : Nat) : Prop := ∃ e ∈ es, InE e p
def PL_ (es : List SE) (e : SE) (cond : Nat → Nat → List (Nat × Nat) → Nat → Prop) (p : List (Nat × Nat)) (k : Nat) : Prop := PS_ es p k ∨ ∃ q a rest, p = e.pre ++ (q, a) :: rest ∧ (look e.m e.tb e.ah ((q, a) :: rest)).isSome = true ∧ cond q a rest k
def numV (prior : List Rat) (h : Rat) (ps : List Rat) (k : Nat) : Rat := h * prior.getD k 0 * ps.getD k 0
/-- all that stands at right paths is in the dict, or pending -/
def Gd (K : PySem.W.Frag) (W N : Nat) (tb0 : Tb N) (prior : List Rat) (H : Hp) (f : NestedKey → Option V) (Pd : List (Nat × Nat) → Nat → Prop) : Prop := ∀ p h ps, look N tb0 1 p = some (h, ps) → ∀ k, k < W → (∃ v, f (keyP p k) = some v ∧ Td K H v (rD (numV prior h ps k))) ∨ Pd p k
theorem Gd.keep {K : PySem.W.Frag} {W N : Nat} {tb0 : Tb N} {prior : List Rat} {H H' : Hp} {f : NestedKey → Option V} {Pd : List (Nat × Nat) → Nat → Prop} (g : Gd K W N tb0 prior H f Pd) (k : KT K H H') : Gd K W N tb0 prior H' f Pd := fun p h ps e j hj => by
  rcases g p h ps e j hj with ⟨v, h1, h2⟩ | z
  · exact .inl ⟨v, h1, h2.keep k⟩
  · exact .inr z
theorem Gd.imp {K : PySem.W.Frag} {W N : Nat} {tb0 : Tb N} {prior : List Rat} {H : Hp} {f : NestedKey → Option V} {Pd Pd' : List (Nat × Nat) → Nat → Prop} (g : Gd K W N tb0 prior H f Pd) (i : ∀ p k, k < W → Pd p k → Pd' p k) : Gd K W N tb0 prior H f Pd' := fun p h ps e j hj => by
  rcases g p h ps e j hj with z | z
  · exact .inl z
  · exact .inr (i p j hj z)
theorem Gd.put {K : PySem.W.Frag} {W N : Nat} {tb0 : Tb N} {prior : List Rat} {H H' : Hp} {f : NestedKey → Option V} {Pd : List (Nat × Nat) → Nat → Prop} {p0 : List (Nat × Nat)} {k0 : Nat} {h0 : Rat} {ps0 : List Rat} {v : V} (g : Gd K W N tb0 prior H f (fun p k => Pd p k ∨ (p = p0 ∧ k = k0))) (kt : KT K H H') (hl : look N tb0 1 p0 = some (h0, ps0)) (tv : Td K H' v (rD (numV prior h0 ps0 k0))) : Gd K W N tb0 prior H' (fun j => if j = keyP p0 k0 then some v else f j) Pd := fun p h ps e k hk => by
  by_cases z : keyP p k = keyP p0 k0
  · obtain ⟨rfl, rfl⟩ := keyP_inj z
    rw [hl] at e
    cases e
    exact .inl ⟨v, if_pos rfl, tv⟩
  · rcases g p h ps e k hk with ⟨u, h1, h2⟩ | y | ⟨rfl, rfl⟩
    · exact .inl ⟨u, (if_neg z).trans h1, h2.keep kt⟩
    · exact .inr y
    · exact absurd rfl z
structure Num (K : PySem.W.Frag) (w : World) (W N : Nat) (tb0 : Tb N) (prior : List Rat) (H0 : Hp) (d l : Addr) (es : List SE) (rem x : Nat) (Pd : List (Nat × Nat) → Nat → Prop) (H : Hp) : Prop where
  sm : Same H0 H
  st : ∃ us, H l = some (.lst us) ∧ TdAll K H us (es.map seD)
  dc : ∃ f n, NDc K w H d n f ∧ n + x + 3 * (Ssz es + rem) ≤ 4500 ∧ Gd K W N tb0 prior H f Pd
  ok : ∀ e ∈ es, SeOk W N tb0 e
section
variable {K : PySem.W.Frag} {w : World} {W N : Nat} {tb0 : Tb N} {prior : List Rat} {H0 H H' : Hp} {d l : Addr} {es : List SE} {rem x rem' x' : Nat} {Pd Pd' : List (Nat × Nat) → Nat → Prop}
theorem Num.keep (h : Num K w W N tb0 prior H0 d l es rem x Pd H) (s : Same H H') : Num K w W N tb0 prior H0 d l es rem x Pd H' := by
  obtain ⟨h1, ⟨us, h2, h3⟩, ⟨f, n, h4, h5, h6⟩, h7⟩ := h
  exact ⟨h1.trans s, ⟨us, s _ _ h2, h3.keep (Same.kt s)⟩, ⟨f, n, h4.keep (Same.kt s) fun o e => s _ _ e, h5, h6.keep (Same.kt s)⟩, h7⟩
theorem Num.imp (h : Num K w W N tb0 prior H0 d l es rem x Pd H) (a : x' + 3 * rem' ≤ x + 3 * rem) (i : ∀ p k, k < W → Pd p k → Pd' p k) : Num K w W N tb0 prior H0 d l es rem' x' Pd' H := by
  obtain ⟨h1, h2, ⟨f, n, h4, h5, h6⟩, h7⟩ := h
  exact ⟨h1, h2, ⟨f, n, h4, by omega, h6.imp i⟩, h7⟩
/-- another list at l -/
theorem Num.list {us : List V} {es' : List SE} (h : Num K w W N tb0 prior H0 d l es rem x Pd H) (n0 : H0 l = none) (t : TdAll K H us (es'.map seD)) (ok : ∀ e ∈ es', SeOk W N tb0 e) (a : x' + 3 * (Ssz es' + rem') ≤ x + 3 * (Ssz es + rem)) (i : ∀ p k, k < W → Pd p k → Pd' p k) : Num K w W N tb0 prior H0 d l es' rem' x' Pd' (upd H l (.lst us)) := by
  obtain ⟨h1, ⟨us0, h2, h3⟩, ⟨f, n, h4, h5, h6⟩, h7⟩ := h
  have kt : KT K H (upd H l (.lst us)) := KT.updL h2
  obtain ⟨φ, hd⟩ := h4.at_
  have ne : d ≠ l := ne_of hd h2 (fun e => by cases e)
  exact ⟨fun c o z => by rw [upd_ne (ne_of_none z n0)]; exact h1 _ _ z, ⟨us, upd_same, t.keep kt⟩, ⟨f, n, h4.keep kt fun o e => by rw [upd_ne ne]; exact e, by omega, (h6.imp i).keep kt⟩, ok⟩
end
theorem sum_drop {α : Type} {g : α → Nat} {l : List α} {i : Nat} {a : α} (h : l[i]? = some a) : ((l.drop i).map g).sum = g a + ((l.drop (i + 1)).map g).sum := by
  obtain ⟨hi, e⟩ := List.getElem?_eq_some_iff.mp h
  rw [List.drop_eq_getElem_cons hi, e, List.map_cons, List.sum_cons]
theorem TdAll.snocE {K : PySem.W.Frag} {H : Hp} : ∀ {us : List V} {ds : List PyData} {d : PyData}, TdAll K H us (ds ++ [d]) → ∃ us' v, us = us' ++ [v] ∧ TdAll K H us' ds ∧ Td K H v d
  | _, [], _, .cons h .nil => ⟨[], _, rfl, .nil, h⟩
  | _, _ :: ds, d, .cons h t => by
    obtain ⟨us', v, rfl, h1, h2⟩ := TdAll.snocE (ds := ds) (d := d) t
    exact ⟨_ :: us', v, rfl, .cons h h1, h2⟩
theorem snoc_or {α : Type} (l : List α) (h : 0 < l.length) : ∃ l' a, l = l' ++ [a] := ⟨l.dropLast, l.getLast (fun e => by rw [e] at h; exact absurd h (Nat.lt_irrefl 0)), (List.dropLast_concat_getLast _).symm⟩
/-! from one state to the next -/
section
variable {es : List SE} {pre : List (Nat × Nat)} {ah : Rat} {n : Nat} {xs : List (Ask n)}
theorem pend_pop {e : SE} {p : List (Nat × Nat)} {k : Nat} (h : PS_ (es ++ [e]) p k) : PL_ es e (fun q _ _ _ => 0 ≤ q) p k := by
  obtain ⟨e', he, h⟩ := h
  rcases List.mem_append.mp he with he | he
  · exact .inl ⟨e', he, h⟩
  · rw [List.mem_singleton.mp he] at h
    obtain ⟨rest, e1, e2⟩ := h
    cases rest with
    | nil =>
      rw [look_nil] at e2
      cases e2
    | cons x rest => exact .inr ⟨x.1, x.2, rest, e1, e2, Nat.zero_le _⟩
theorem pend_q0 {i : Nat} {e : SE} {p : List (Nat × Nat)} {k : Nat} (h : PL_ es e (fun q _ _ _ => i ≤ q) p k) : PL_ es e (fun q a _ _ => i < q ∨ (q = i ∧ 0 ≤ a)) p k := by
  rcases h with h | ⟨q, a, rest, e1, e2, e3⟩
  · exact .inl h
  · exact .inr ⟨q, a, rest, e1, e2, by omega⟩
theorem pend_q1 {i : Nat} {x : Ask n} (hx : xs[i]? = some x) {p : List (Nat × Nat)} {k : Nat} (h : PL_ es ⟨pre, ah, n + 1, xs⟩ (fun q a _ _ => i < q ∨ (q = i ∧ x.2.length ≤ a)) p k) : PL_ es ⟨pre, ah, n + 1, xs⟩ (fun q _ _ _ => i + 1 ≤ q) p k := by
  rcases h with h | ⟨q, a, rest, e1, e2, e3⟩
  · exact .inl h
  · refine .inr ⟨q, a, rest, e1, e2, ?_⟩
    rcases e3 with e3 | ⟨rfl, e3⟩
    · exact e3
    · obtain ⟨y, r, h1, h2⟩ := look_some e2
      rw [hx] at h1
      cases h1
      have := (List.getElem?_eq_some_iff.mp h2).1
      omega
theorem pend_end {p : List (Nat × Nat)} {k : Nat} (h : PL_ es ⟨pre, ah, n + 1, xs⟩ (fun q _ _ _ => xs.length ≤ q) p k) : PS_ es p k := by
  rcases h with h | ⟨q, a, rest, e1, e2, e3⟩
  · exact h
  · obtain ⟨y, r, h1, h2⟩ := look_some e2
    have h1' : xs[q]? = some y := h1
    have := (List.getElem?_eq_some_iff.mp h1').1
    omega
def cW (i j k : Nat) (q a : Nat) (rest : List (Nat × Nat)) (w : Nat) : Prop := i < q ∨ (q = i ∧ (j < a ∨ (a = j ∧ (rest ≠ [] ∨ k ≤ w))))
theorem pend_a0 {i j : Nat} {e : SE} {p : List (Nat × Nat)} {k : Nat} (h : PL_ es e (fun q a _ _ => i < q ∨ (q = i ∧ j ≤ a)) p k) : PL_ es e (cW i j 0) p k := by
  rcases h with h | ⟨q, a, rest, e1, e2, e3⟩
  · exact .inl h
  · refine .inr ⟨q, a, rest, e1, e2, ?_⟩
    rcases e3 with e3 | ⟨e3, e4⟩
    · exact .inl e3
    · by_cases z : a = j
      · exact .inr ⟨e3, .inr ⟨z, .inr (Nat.zero_le _)⟩⟩
      · exact .inr ⟨e3, .inl (by omega)⟩
theorem pend_w {i j k0 : Nat} {e : SE} {p : List (Nat × Nat)} {k : Nat} (h : PL_ es e (cW i j k0) p k) : PL_ es e (cW i j (k0 + 1)) p k ∨ (p = e.pre ++ [(i, j)] ∧ k = k0) := by
  rcases h with h | ⟨q, a, rest, e1, e2, e3⟩
  · exact .inl (.inl h)
  · rcases e3 with e3 | ⟨e3, e4 | ⟨e4, e5 | e5⟩⟩
    · exact .inl (.inr ⟨q, a, rest, e1, e2, .inl e3⟩)
    · exact .inl (.inr ⟨q, a, rest, e1, e2, .inr ⟨e3, .inl e4⟩⟩)
    · exact .inl (.inr ⟨q, a, rest, e1, e2, .inr ⟨e3, .inr ⟨e4, .inl e5⟩⟩⟩)
    · by_cases z : k = k0
      · by_cases y : rest = []
        · subst y e3 e4
          exact .inr ⟨e1, z⟩
        · exact .inl (.inr ⟨q, a, rest, e1, e2, .inr ⟨e3, .inr ⟨e4, .inl y⟩⟩⟩)
      · exact .inl (.inr ⟨q, a, rest, e1, e2, .inr ⟨e3, .inr ⟨e4, .inr (by omega)⟩⟩⟩)
theorem pend_a1 {i j W : Nat} {x : Ask n} {r : Rw n} (hx : xs[i]? = some x) (hr : x.2[j]? = some r) {p : List (Nat × Nat)} {k : Nat} (hk : k < W) (h : PL_ es ⟨pre, ah, n + 1, xs⟩ (cW i j W) p k) : PL_ (es ++ [⟨pre ++ [(i, j)], ah * x.1, n, r.2⟩]) ⟨pre, ah, n + 1, xs⟩ (fun q a _ _ => i < q ∨ (q = i ∧ j + 1 ≤ a)) p k := by
  have up : ∀ {p : List (Nat × Nat)} {k : Nat}, PS_ es p k → PS_ (es ++ [⟨pre ++ [(i, j)], ah * x.1, n, r.2⟩]) p k := fun ⟨e, he, z⟩ => ⟨e, List.mem_append_left _ he, z⟩
  rcases h with h | ⟨q, a, rest, e1, e2, e3⟩
  · exact .inl (up h)
  · rcases e3 with e3 | ⟨rfl, e4 | ⟨rfl, e5 | e5⟩⟩
    · exact .inr ⟨q, a, rest, e1, e2, .inl e3⟩
    · exact .inr ⟨q, a, rest, e1, e2, .inr ⟨rfl, e4⟩⟩
    · refine .inl ⟨_, List.mem_append_right _ (List.mem_singleton.mpr rfl), rest, ?_, ?_⟩
      · show p = (pre ++ [(q, a)]) ++ rest
        rw [List.append_assoc]
        exact e1
      · show (look n r.2 (ah * x.1) rest).isSome = true
        have e2' : (look (n + 1) xs ah ((q, a) :: rest)).isSome = true := e2
        rw [look_at hx hr, if_neg e5] at e2'
        exact e2'
    · omega
theorem SeOk.child {W N : Nat} {tb0 : Tb N} {i j : Nat} {x : Ask n} {r : Rw n} (hx : xs[i]? = some x) (hr : x.2[j]? = some r) (h : SeOk W N tb0 ⟨pre, ah, n + 1, xs⟩) : SeOk W N tb0 ⟨pre ++ [(i, j)], ah * x.1, n, r.2⟩ := by
  have tv : ∀ x ∈ xs, Ch 1 x.1 ∧ ∀ r ∈ x.2, PaysOk W r.1 ∧ TbV W n r.2 := h.tv
  obtain ⟨c1, c2⟩ := tv x (List.mem_of_getElem? hx)
  have l : pre.length + (n + 1) ≤ 6 := h.len
  refine ⟨(c2 r (List.mem_of_getElem? hr)).2, ?_, ?_, fun rest y e => ?_⟩
  · show Ch (pre ++ [(i, j)]).length (ah * x.1)
    rw [List.length_append]
    exact Ch.prod h.ch c1
  · show (pre ++ [(i, j)]).length + n ≤ 6
    rw [List.length_append]
    show pre.length + 1 + n ≤ 6
    omega
  · have e' : look n r.2 (ah * x.1) rest = some y := e
    have ne : rest ≠ [] := fun z => by
      rw [z, look_nil] at e'
      cases e'
    have := h.lk ((i, j) :: rest) y (by
      show look (n + 1) xs ah ((i, j) :: rest) = some y
      rw [look_at hx hr, if_neg ne]
      exact e')
    show look N tb0 1 ((pre ++ [(i, j)]) ++ rest) = some y
    rw [List.append_assoc]
    exact this
theorem SeOk.here {W N : Nat} {tb0 : Tb N} {i j : Nat} {x : Ask n} {r : Rw n} (hx : xs[i]? = some x) (hr : x.2[j]? = some r) (h : SeOk W N tb0 ⟨pre, ah, n + 1, xs⟩) : look N tb0 1 (pre ++ [(i, j)]) = some (ah * x.1, r.1) := by
  refine h.lk [(i, j)] _ ?_
  show look (n + 1) xs ah [(i, j)] = _
  rw [look_at hx hr, if_pos rfl]
end
def NInv (K : PySem.W.Frag) (w : World) (W N : Nat) (tb0 : Tb N) (prior : List Rat) (H0 : Hp) (tp d l : Addr) (m : Nat) (σ : L2.St) (H2 : Hp) : Prop := m ≤ 1501 ∧ ∃ (es : List SE) (o4 o5 o6 o7 o8 o9 o10 o11 o12 o13 o14 o15 : Option V), σ = [some (.int (W : Int)), some (.ref tp), some (.ref d), some (.ref l), o4, o5, o6, o7, o8, o9, o10, o11, o12, o13, o14, o15] ∧ Ssz es + es.length ≤ m ∧ Num K w W N tb0 prior H0 d l es 0 0 (PS_ es) H2
def spNums (K : PySem.W.Frag) (w : World) (N : Nat) : Sp := fun vs H Q _ => ∃ (W : Nat) (v : V) (prior : List Rat) (tb : Tb N), vs = [.int (W : Int), v] ∧ Td K H v (tsD N prior tb) ∧ W ≤ 3 ∧ PriorOk W prior ∧ TbV W N tb ∧ N ≤ 6 ∧ sz N tb ≤ 1500 ∧
  ∀ (d : Addr) (H' : Hp) (n : Nat) (f : NestedKey → Option V), Same H H' → NDc K w H' d n f → Gd K W N tb prior H' f (fun _ _ => False) → Q (.ref d) H'
section
variable {P : Program} {w : World} {K : PySem.W.Frag} {mg : Str → Option Value} {base : Heap}
theorem ok_law_numbers {f f1 f2 f3 : Addr} {fd fd1 fd2 fd3 : FuncData} (D : Dn K mg "_law_numbers" s_law_numbers ["worlds", "test"] f fd) (B : Blt mg) (D_law_times : Dn K mg "_law_times" s_law_times ["one", "other"] f1 fd1) (D_law_low : Dn K mg "_law_low" s_law_low ["top", "bottom"] f2 fd2) (D_law_common : Dn K mg "_law_common" s_law_common ["one", "other"] f3 fd3) (N : Nat) : FnOk P w K mg base CX0 4 f fd ["worlds", "test"] (spNums K w N) := by
  have G_law_times : FnOk P w K mg base CX0 3 f1 fd1 ["one", "other"] (spTimes K) := ok_law_times D_law_times B D_law_low D_law_common
  refine D.F.ok sc_law_numbers (fun vs H Q E h => ?_) (fun cdv A outer s H vs Q E hr h => ?_)
  · obtain ⟨W, v, prior, tb, rfl, _⟩ := h
    rfl
  obtain ⟨W, v, prior, tb0, rfl, tv, hW, hp, htb, hN, hsz, q⟩ := h
  have nd := sc_law_numbers.nd
  refine ⟨_, (pss_cons (ps_par (i := 2) (j := 3) rfl nd rfl rfl (by decide) rfl rfl (pa_cons (k_dnewN (K := K) (w := w) rfl rfl) (pa_cons (pe_lst (pa_cons (pe_tup (pa_cons (pe_tup pa_nil) (pa_cons (pe_tup (pa_cons pe_int (pa_cons pe_int pa_nil))) (pa_cons (pe_ix (k_ixT (K := K) rfl) (pv 1) pe_int (fun _ _ => rfl)) pa_nil)))) pa_nil)) pa_nil)) (by rfl))
      (pss_cons (ps_while PassesOwn.never (pt_cmpR op_gt (pe_callB (k_len (K := K) rfl) (by rfl) B.len PySem.boot_len (pa_cons (pv 3) pa_nil)) pe_int (nomark _)) (pss_cons (ps_asg (pe_bm0 PySem.F.plainAttrs_list PySem.F.slot_list_pop PySem.F.type_list_pop mt_pop (pv 3)) (k_tup (K := K) (n := 3) rfl rfl (pgs_cons (pg_name (i := 4) nd rfl (.inl rfl)) (pgs_cons (pg_name (i := 5) nd rfl (.inl rfl)) (pgs_cons (pg_name (i := 6) nd rfl (.inl rfl)) pgs_nil)))))
      (pss_one (ps_for PassesOwn.never rfl (k_enum (K := K) rfl (by rfl) B.enumerate (pa_cons (pv 6) pa_nil)) (k_tup (K := K) (n := 2) rfl rfl (pgs_cons (pg_name (i := 7) nd rfl (.inl rfl)) (pgs_cons (k_tup (K := K) (n := 2) rfl rfl (pgs_cons (pg_name (i := 8) nd rfl (.inl rfl)) (pgs_cons (pg_name (i := 9) nd rfl (.inl rfl)) pgs_nil))) pgs_nil))) (pss_cons (ps_set (i := 10) nd rfl (.inl rfl) (pe_call G_law_times (hr.mono (by omega)) (by rfl) D_law_times.m D_law_times.F.kp D_law_times.b .nil pass0 (pa_cons (pv 5) (pa_cons (pv 8) pa_nil))))
      (pss_one (ps_for PassesOwn.never rfl (k_enum (K := K) rfl (by rfl) B.enumerate (pa_cons (pv 9) pa_nil)) (k_tup (K := K) (n := 2) rfl rfl (pgs_cons (pg_name (i := 11) nd rfl (.inl rfl)) (pgs_cons (k_tup (K := K) (n := 2) rfl rfl (pgs_cons (pg_name (i := 12) nd rfl (.inl rfl)) (pgs_cons (pg_name (i := 13) nd rfl (.inl rfl)) pgs_nil))) pgs_nil))) (pss_cons (ps_for PassesOwn.never rfl (pi_range1 (by rfl) B.range (pa_cons (pv 0) pa_nil)) (pg_name (i := 14) nd rfl (.inl rfl)) (pss_cons (ps_set (i := 15) nd rfl (.inl rfl) (pe_call G_law_times (hr.mono (by omega)) (by rfl) D_law_times.m D_law_times.F.kp D_law_times.b .nil pass0 (pa_cons (pv 10) (pa_cons (pe_ix (k_ixT (K := K) rfl) (pe_ix (k_ixT (K := K) rfl) (pv 1) pe_int (fun _ _ => rfl)) (pv 14) (fun _ _ => rfl)) pa_nil))))
      (pss_one (k_dputN (K := K) (w := w) rfl rfl hr.units (pv 2) (pe_tup (pa_cons (pe_op (k_cat (K := K) rfl) (pv 4) (pe_tup (pa_cons (pe_tup (pa_cons (pv 7) (pa_cons (pv 11) pa_nil))) pa_nil))) (pa_cons (pv 14) pa_nil))) (pe_call G_law_times (hr.mono (by omega)) (by rfl) D_law_times.m D_law_times.F.kp D_law_times.b .nil pass0 (pa_cons (pv 15) (pa_cons (pe_ix (k_ixT (K := K) rfl) (pv 12) (pv 14) (fun _ _ => rfl)) pa_nil))) rfl))))
      (pss_one (ps_expr (pe_bm PySem.F.plainAttrs_list PySem.F.slot_list_append PySem.F.type_list_append mt_append (pv 3) (pa_cons (pe_tup (pa_cons (pe_op (k_cat (K := K) rfl) (pv 4) (pe_tup (pa_cons (pe_tup (pa_cons (pv 7) (pa_cons (pv 11) pa_nil))) pa_nil))) (pa_cons (pv 10) (pa_cons (pv 13) pa_nil)))) pa_nil))))))))))))
      (pss_one (ps_ret (pv 2))))), ?_⟩
  obtain ⟨tp, txs, rfl, htp, ttp⟩ := tv.tupE
  cases ttp with
  | cons tpr tt1 =>
  rename_i vpr txs
  cases tt1 with
  | cons ttb tt2 =>
  rename_i vtb txs
  cases tt2
  obtain ⟨pa, pxs, rfl, hpa, tpa⟩ := tpr.tupE
  have j0 : atI [V.ref pa, vtb] 0 = some (.ref pa) := at_of (j := 0) rfl rfl
  have j1 : atI [V.ref pa, vtb] 1 = some vtb := at_of (j := 1) rfl rfl
  intro d H1 n1 s1 d1
  refine ⟨by show 0 ≤ sizeLine; decide, fun p2 n2 => ?_⟩
  refine ⟨by show 2 ≤ sizeLine; decide, fun p3 n3 => ?_⟩
  have s13 := (same_upd (o := .tup []) n2).trans (same_upd (o := .tup [.int 1, .int 1]) n3)
  refine ⟨_, rfl, tp, _, 1, _, rfl, rfl, Same.kt (s1.trans s13) _ _ htp, j1, ?_⟩
  refine ⟨by show 3 ≤ sizeLine; decide, fun p4 n4 => ?_⟩
  have s14 := s13.trans (same_upd (o := .tup [.ref p2, .ref p3, vtb]) n4)
  refine ⟨by show 1 ≤ sizeLine; decide, fun l n5 => ?_⟩
  have s15 := s14.trans (same_upd (o := .lst [.ref p4]) n5)
  have s05 := s1.trans s15
  have n0d : H d = none := n1
  have n0l : H l = none := (s1.trans s14).free n5
  have te : Td K (upd (upd (upd (upd H1 p2 (.tup [])) p3 (.tup [.int 1, .int 1])) p4 (.tup [.ref p2, .ref p3, vtb])) l (.lst [.ref p4])) (.ref p4) (seD ⟨[], 1, N, tb0⟩) := by
    have s45 := (same_upd (o := .tup [.ref p2, .ref p3, vtb]) n4).trans (same_upd (o := .lst [.ref p4]) n5)
    have s35 := (same_upd (o := .tup [.int 1, .int 1]) n3).trans s45
    refine .tup (Same.kt (same_upd n5) _ _ (.inl (.inl upd_same))) (.cons (.tup (Same.kt s35 _ _ (.inl (.inl upd_same))) .nil) (.cons (.tup (Same.kt s45 _ _ (.inl (.inl upd_same))) (.cons (.int _) (.cons (.int _) .nil))) (.cons (ttb.keep (Same.kt s05)) .nil)))
  have nm0 : Num K w W N tb0 prior H d l [⟨[], 1, N, tb0⟩] 0 0 (PS_ [⟨[], 1, N, tb0⟩]) (upd (upd (upd (upd H1 p2 (.tup [])) p3 (.tup [.int 1, .int 1])) p4 (.tup [.ref p2, .ref p3, vtb])) l (.lst [.ref p4])) := by
    refine ⟨s05, ⟨_, upd_same, .cons te .nil⟩, ⟨_, _, d1.keep (Same.kt s15) fun o e => s15 _ _ e, ?_, fun p h ps e k hk => .inr ⟨_, List.mem_singleton.mpr rfl, p, rfl, by rw [e]; rfl⟩⟩, fun e he => ?_⟩
    · show 0 + 0 + 3 * (sz N tb0 + 0 + 0) ≤ 4500
      omega
    · rw [List.mem_singleton.mp he]
      exact ⟨htb, ⟨show (0 : Rat) ≤ 1 by decide, show (1 : Rat) ≤ 1 by decide, Nat.one_dvd _⟩, by show 0 + N ≤ 6; omega, fun rest y e => e⟩
  generalize upd (upd (upd (upd H1 p2 (.tup [])) p3 (.tup [.int 1, .int 1])) p4 (.tup [.ref p2, .ref p3, vtb])) l (.lst [.ref p4]) = H5 at s05 nm0 ⊢
  clear te s15 s14 s13 n5 n4 n3 n2
  refine ⟨_, _, rfl, ?_⟩
  refine ⟨NInv K w W N tb0 prior H tp d l, ⟨1501, Nat.le_refl _, [⟨[], 1, N, tb0⟩], none, none, none, none, none, none, none, none, none, none, none, none, rfl, ?_, nm0⟩, ?_⟩
  · show sz N tb0 + 0 + 1 ≤ 1501
    omega
  rintro m σ H2 ⟨hm, es, o4, o5, o6, o7, o8, o9, o10, o11, o12, o13, o14, o15, rfl, hlen, nm⟩
  obtain ⟨us, hl, tus⟩ := nm.st
  have lus : us.length = es.length := by rw [tus.len, List.length_map]
  refine ⟨_, rfl, l, us, rfl, .inl (SqL.of hl), ?_⟩
  refine ⟨_, _, rfl, rfl, _, rfl, ite2 (fun c => ?_) (fun c => ?_)⟩
  · refine ⟨fun σ' H' => ∃ m', m' < m ∧ NInv K w W N tb0 prior H tp d l m' σ' H', fun _ _ z => z, ?_⟩
    have lpos : 0 < es.length := by
      have := of_decide_eq_true c
      omega
    obtain ⟨es', e, rfl⟩ := snoc_or es lpos
    rw [List.map_append] at tus
    obtain ⟨us', v, rfl, tus', tve⟩ := TdAll.snocE tus
    have oke := nm.ok e (List.mem_append_right _ (List.mem_singleton.mpr rfl))
    rw [ssz_snoc, List.length_append] at hlen
    have hlen' : Ssz es' + sz e.m e.tb + (es'.length + 1) ≤ m := hlen
    have nm3 := nm.list (us := us') (es' := es') (rem' := sz e.m e.tb) (x' := 0) n0l tus' (fun x hx => nm.ok x (List.mem_append_left _ hx)) (by rw [ssz_snoc]; omega) (fun p k _ h => pend_pop h)
    have tve3 := tve.keep (KT.updL (K := K) (ys := us') hl)
    have hpop : (us' ++ [v])[(us' ++ [v]).length - 1]? = some v := by simp
    have hdl : (us' ++ [v]).dropLast = us' := by simp
    obtain ⟨es0, hes⟩ : ∃ es0, es0 = es' := ⟨es', rfl⟩
    refine ⟨_, rfl, .inl ⟨rfl, _, SqL.of hl⟩, l, us' ++ [v], v, rfl, rfl, hl, hpop, ?_⟩
    rw [hdl]
    clear hdl hpop nm tus hl lus c
    generalize upd H2 l (.lst us') = H3 at nm3 tve3 ⊢
    obtain ⟨pre, ah, em, tb⟩ := e
    obtain ⟨pe, pes, rfl, hpe, tpe⟩ := tve3.tupE
    cases tpe with
    | cons tpp tp2 =>
    rename_i vp pes
    cases tp2 with
    | cons tah tp3 =>
    rename_i va pes
    cases tp3 with
    | cons ttab tp4 =>
    rename_i vt pes
    cases tp4
    refine ⟨pe, _, rfl, hpe, rfl, _, _, rfl, _, _, rfl, _, _, rfl, rfl, ?_⟩
    cases em with
    | zero =>
      obtain ⟨qa, qxs, rfl, hqa, tqa⟩ := Td.tupE (show Td K H3 vt (.tuple []) from ttab)
      cases tqa
      refine ⟨_, rfl, qa, [], rfl, hqa, for_it (walk_enumT (K := K) (a := qa) (xs := [])) (fun i σ H4 => H4 = H3 ∧ σ = [some (.int (W : Int)), some (.ref tp), some (.ref d), some (.ref l), some vp, some va, some (.ref qa), o7, o8, o9, o10, o11, o12, o13, o14, o15]) ⟨rfl, rfl⟩ (fun i σ H4 _ h => by rw [h.1]; exact hqa) ?_ ?_⟩
      · rintro i x σ H4 H5 hi
        exact absurd hi (Nat.not_lt_zero _)
      · rintro σ H4 ⟨rfl, rfl⟩
        refine ⟨m - 1, by omega, by omega, es', _, _, _, _, _, _, _, _, _, _, _, _, rfl, by omega, ?_⟩
        refine nm3.imp (by omega) (fun p k _ h => ?_)
        rcases h with h | ⟨q, a, rest, e1, e2, e3⟩
        · exact h
        · cases e2
    | succ n =>
      obtain ⟨xs, hxs⟩ : ∃ xs : List (Ask n), (xs : Tb (n + 1)) = tb := ⟨tb, rfl⟩
      subst hxs
      obtain ⟨qa, qxs, rfl, hqa, tqa⟩ := Td.tupE (show Td K H3 vt (.tuple (xs.map (askD n))) from ttab)
      have lqx : qxs.length = xs.length := by rw [tqa.len, List.length_map]
      have htv : ∀ x ∈ xs, Ch 1 x.1 ∧ ∀ r ∈ x.2, PaysOk W r.1 ∧ TbV W n r.2 := oke.tv
      have hch : Ch pre.length ah := oke.ch
      have hpl : pre.length + (n + 1) ≤ 6 := oke.len
      obtain ⟨ppa, ppx, rfl, hppa, tppx⟩ := tpp.tupE
      have lppx : ppx.length = pre.length := by rw [tppx.len, List.length_map]
      have ess : sz (n + 1) xs = ((xs.drop 0).map (szQ n)).sum := rfl
      have hlen2 : Ssz es' + sz (n + 1) xs + (es'.length + 1) ≤ m := hlen'
      rw [ess] at hlen2
      have smah : Sm ah := hch.fd.sm (by omega) (by decide)
      refine ⟨_, rfl, qa, qxs, rfl, hqa, for_it (walk_enumT (K := K) (a := qa) (xs := qxs)) (fun i σ H4 => ∃ (es : List SE) (o7 o8 o9 o10 o11 o12 o13 o14 o15 : Option V), σ = [some (.int (W : Int)), some (.ref tp), some (.ref d), some (.ref l), some (.ref ppa), some va, some (.ref qa), o7, o8, o9, o10, o11, o12, o13, o14, o15] ∧ Ssz es + ((xs.drop i).map (szQ n)).sum + (es.length + 1) ≤ m ∧ Num K w W N tb0 prior H d l es ((xs.drop i).map (szQ n)).sum 0 (PL_ es ⟨pre, ah, n + 1, xs⟩ (fun q _ _ _ => i ≤ q)) H4 ∧ KT K H3 H4)
        ⟨es', _, _, _, _, _, _, _, _, _, rfl, hlen2, nm3, KT.refl H3⟩ (fun i σ H4 _ h => ?_) ?_ ?_⟩
      · obtain ⟨_, _, _, _, _, _, _, _, _, _, _, _, _, k4⟩ := h
        exact k4 _ _ hqa
      · rintro i x σ H4 H5 hi ⟨es, o7, o8, o9, o10, o11, o12, o13, o14, o15, rfl, hl4, nm4, k4⟩ ⟨T2, x1, x2, rfl, n2, rfl, e1, e2⟩
        cases e1
        obtain ⟨dx, ex, tx⟩ := tqa.getV e2
        obtain ⟨ak, eq, rfl⟩ := map_at ex
        obtain ⟨hc1, hrows⟩ := htv ak (List.mem_of_getElem? eq)
        have s5 : Same H4 (upd H4 T2 (.tup [.int (i : Int), x2])) := same_upd n2
        have nm5 := nm4.keep s5
        have k5 := k4.trans (Same.kt s5)
        have e5 : SqT K (upd H4 T2 (.tup [.int (i : Int), x2])) T2 [.int (i : Int), x2] := .inl (.inl upd_same)
        generalize upd H4 T2 (.tup [.int (i : Int), x2]) = H5 at s5 nm5 k5 e5 ⊢
        obtain ⟨pk, pks, rfl, hpk, tpk⟩ := Td.tupE (tx.keep k5)
        cases tpk with
        | cons tc tpk2 =>
        rename_i vc pks
        cases tpk2 with
        | cons trws tpk3 =>
        rename_i vr pks
        cases tpk3
        refine ⟨T2, _, rfl, e5, rfl, _, _, rfl, _, _, rfl, pk, _, rfl, hpk, rfl, _, _, rfl, _, _, rfl, rfl, rfl, ?_⟩
        have smc : Sm ak.1 := hc1.fd.sm (by omega) (by decide)
        refine ⟨_, rfl, _, rfl, va, vc, ah, ak.1, rfl, tah.keep k5, tc, smah.big.1, smc.big.1, smah.big.2, smc.big.2, fun vh H6 s6 th => ?_⟩
        have hh : Ch (pre.length + 1) (ah * ak.1) := hch.prod hc1
        have nm6 := nm5.keep s6
        have k6 := k5.trans (Same.kt s6)
        obtain ⟨pr, rxs, rfl, hpr, trx⟩ := Td.tupE (show Td K H6 vr (.tuple (ak.2.map (rwD n))) from trws.keep (Same.kt s6))
        have lrx : rxs.length = ak.2.length := by rw [trx.len, List.length_map]
        have eS := sum_drop (g := szQ n) eq
        obtain ⟨R1, hR1⟩ : ∃ R1, R1 = ((xs.drop (i + 1)).map (szQ n)).sum := ⟨_, rfl⟩
        rw [eS, ← hR1] at hl4
        have nm7 : Num K w W N tb0 prior H d l es (((ak.2.drop 0).map (szR n)).sum + R1) 0 (PL_ es ⟨pre, ah, n + 1, xs⟩ (fun q a _ _ => i < q ∨ (q = i ∧ 0 ≤ a))) H6 := nm6.imp (by rw [eS, ← hR1]; exact Nat.le_refl _) (fun p k _ h => pend_q0 h)
        refine ⟨_, rfl, pr, rxs, rfl, hpr, for_it (walk_enumT (K := K) (a := pr) (xs := rxs)) (fun j σ H7 => ∃ (es : List SE) (o11 o12 o13 o14 o15 : Option V), σ = [some (.int (W : Int)), some (.ref tp), some (.ref d), some (.ref l), some (.ref ppa), some va, some (.ref qa), some (.int (i : Int)), some vc, some (.ref pr), some vh, o11, o12, o13, o14, o15] ∧ Ssz es + (((ak.2.drop j).map (szR n)).sum + R1) + (es.length + 1) ≤ m ∧ Num K w W N tb0 prior H d l es (((ak.2.drop j).map (szR n)).sum + R1) 0 (PL_ es ⟨pre, ah, n + 1, xs⟩ (fun q a _ _ => i < q ∨ (q = i ∧ j ≤ a))) H7 ∧ KT K H6 H7)
          ⟨es, _, _, _, _, _, rfl, hl4, nm7, KT.refl H6⟩ (fun j σ H7 _ h => ?_) ?_ ?_⟩
        · obtain ⟨_, _, _, _, _, _, _, _, _, k7⟩ := h
          exact k7 _ _ hpr
        · clear nm7 nm6 nm5 nm4 hl4 nm3
          rintro j y σ H7 H8 hj ⟨es, o11', o12', o13', o14', o15', rfl, hl7, nm7, k7⟩ ⟨T3, y1, y2, rfl, n3, rfl, g1, g2⟩
          cases g1
          obtain ⟨dy, ey, ty⟩ := trx.getV g2
          obtain ⟨rw_, er, rfl⟩ := map_at ey
          obtain ⟨hpay, htv2⟩ := hrows rw_ (List.mem_of_getElem? er)
          have s8 : Same H7 (upd H7 T3 (.tup [.int (j : Int), y2])) := same_upd n3
          have nm8 := nm7.keep s8
          have k8 := k7.trans (Same.kt s8)
          have e8 : SqT K (upd H7 T3 (.tup [.int (j : Int), y2])) T3 [.int (j : Int), y2] := .inl (.inl upd_same)
          generalize upd H7 T3 (.tup [.int (j : Int), y2]) = H8 at s8 nm8 k8 e8 ⊢
          obtain ⟨pw, pws, rfl, hpw, tpw⟩ := Td.tupE (ty.keep k8)
          cases tpw with
          | cons tps tpw2 =>
          rename_i vps pws
          cases tpw2 with
          | cons tbh tpw3 =>
          rename_i vb pws
          cases tpw3
          obtain ⟨pp, pvs, rfl, hpp, tpv⟩ := tps.tupE
          have lpv : pvs.length = W := by rw [tpv.len, List.length_map, hpay.len]
          refine ⟨T3, _, rfl, e8, rfl, _, _, rfl, _, _, rfl, pw, _, rfl, hpw, rfl, _, _, rfl, _, _, rfl, rfl, rfl, ?_⟩
          have eS2 := sum_drop (g := szR n) er
          obtain ⟨R2, hR2⟩ : ∃ R2, R2 = ((ak.2.drop (j + 1)).map (szR n)).sum := ⟨_, rfl⟩
          have eS3 : ((ak.2.drop j).map (szR n)).sum = 1 + sz n rw_.2 + R2 := by rw [eS2, hR2]; rfl
          rw [eS3] at hl7
          have nm9 : Num K w W N tb0 prior H d l es (sz n rw_.2 + R2 + R1) (3 - 0) (PL_ es ⟨pre, ah, n + 1, xs⟩ (cW i j 0)) H8 := nm8.imp (by rw [eS3]; omega) (fun p k _ h => pend_a0 h)
          refine ⟨_, rfl, _, rfl, by omega, by omega, for_range (lo := 0) (n := W) (fun k σ H9 => ∃ (o14 o15 : Option V), σ = [some (.int (W : Int)), some (.ref tp), some (.ref d), some (.ref l), some (.ref ppa), some va, some (.ref qa), some (.int (i : Int)), some vc, some (.ref pr), some vh, some (.int (j : Int)), some (.ref pp), some vb, o14, o15] ∧ Num K w W N tb0 prior H d l es (sz n rw_.2 + R2 + R1) (3 - k) (PL_ es ⟨pre, ah, n + 1, xs⟩ (cW i j k)) H9 ∧ KT K H8 H9) ⟨_, _, rfl, nm9, KT.refl H8⟩ ?_ ?_⟩
          · clear nm9 nm8 nm7
            rintro k σ H9 hk ⟨o14'', o15'', rfl, nm9, k9⟩
            have hk0 : (0 : Int) + (k : Int) = (k : Int) := by omega
            show gName 14 (.int (0 + (k : Int))) _ _ _
            rw [hk0]
            have k69 := k8.trans k9
            have k09 : KT K H H9 := Same.kt nm9.sm
            obtain ⟨r, epk⟩ : ∃ r, prior[k]? = some r := ⟨_, List.getElem?_eq_getElem (by rw [hp.len]; exact hk)⟩
            obtain ⟨yk, eyk⟩ : ∃ y, rw_.1[k]? = some y := ⟨_, List.getElem?_eq_getElem (by rw [hpay.len]; exact hk)⟩
            obtain ⟨vk, evk, tvk⟩ := (tpa.keep k09).get (i := k) (d := rD r) (by rw [List.getElem?_map, epk]; rfl)
            obtain ⟨vy, evy, tvy⟩ := (tpv.keep k9).get (i := k) (d := rD yk) (by rw [List.getElem?_map, eyk]; rfl)
            have hcr := hp.ch r (List.mem_of_getElem? epk)
            have hfy := hpay.fd yk (List.mem_of_getElem? eyk)
            have hq2 : Ch (pre.length + 1 + 1) (ah * ak.1 * r) := hh.prod hcr
            have smh : Sm (ah * ak.1) := hh.fd.sm (by omega) (by decide)
            have smr : Sm r := hcr.fd.sm (by omega) (by decide)
            have smq : Sm (ah * ak.1 * r) := hq2.fd.sm (by omega) (by decide)
            have smy : Sm yk := hfy.sm (by omega) (by decide)
            refine ⟨_, rfl, _, rfl, tp, _, 0, _, rfl, rfl, k09 _ _ htp, j0, _, rfl, pa, pxs, (k : Int), vk, rfl, rfl, k09 _ _ hpa, atI_nat evk, vh, vk, ah * ak.1, r, rfl, th.keep k69, tvk, smh.big.1, smr.big.1, smh.big.2, smr.big.2, fun vq H10 s10 tq => ?_⟩
            refine ⟨_, rfl, _, rfl, _, rfl, pp, pvs, (k : Int), vy, rfl, rfl, Same.kt s10 _ _ (k9 _ _ hpp), atI_nat evy, vq, vy, ah * ak.1 * r, yk, rfl, tq, tvy.keep (Same.kt s10), smq.big.1, smy.big.1, smq.big.2, smy.big.2, fun vn H11 s11 tn => ?_⟩
            have s911 := s10.trans s11
            refine ⟨_, rfl, _, rfl, _, rfl, _, rfl, by show 2 ≤ sizeLine; decide, fun p1 n1 => ⟨by show 1 ≤ sizeLine; decide, fun p2 n2 => ?_⟩⟩
            have s12 := (same_upd (o := .tup [.int (i : Int), .int (j : Int)]) n1).trans (same_upd (o := .tup [.ref p1]) n2)
            have tp1 : Td K (upd (upd H11 p1 (.tup [.int (i : Int), .int (j : Int)])) p2 (.tup [.ref p1])) (.ref p1) (pairD (i, j)) := .tup (Same.kt (same_upd n2) _ _ (.inl (.inl upd_same))) (.cons (.int _) (.cons (.int _) .nil))
            have s912 := s911.trans s12
            have k312 : KT K H3 (upd (upd H11 p1 (.tup [.int (i : Int), .int (j : Int)])) p2 (.tup [.ref p1])) := (k6.trans k69).trans (Same.kt s912)
            refine ⟨ppa, p2, ppx, _, rfl, rfl, k312 _ _ hppa, .inl (.inl upd_same), by rw [lppx]; exact Nat.le_of_lt (small1000 (by simp; omega)), fun p3 H13 s13 q13 => ?_⟩
            have tpath : Td K H13 (.ref p3) (pathD (pre ++ [(i, j)])) := by
              unfold pathD
              rw [List.map_append]
              exact .tup q13 ((tppx.keep (k312.trans (Same.kt s13))).app (.cons (tp1.keep (Same.kt s13)) .nil))
            refine ⟨_, rfl, by show 2 ≤ sizeLine; decide, fun p4 n4 => ?_⟩
            have s14 := same_upd (o := .tup [.ref p3, .int (k : Int)]) n4
            have s1114 := (s12.trans s13).trans s14
            have s914 := s911.trans s1114
            have tkey : Td K (upd H13 p4 (.tup [.ref p3, .int (k : Int)])) (.ref p4) (keyP (pre ++ [(i, j)]) k).data := by
              rw [keyP_data]
              exact .tup (.inl (.inl upd_same)) (.cons (tpath.keep (Same.kt s14)) (.cons (.int _) .nil))
            have tn14 := tn.keep (Same.kt s1114)
            obtain ⟨h1, ⟨us, hl, tus⟩, ⟨ff, nn, nd14, bd, gd⟩, ok14⟩ := nm9.keep s914
            have k914 := Same.kt (K := K) s914
            generalize upd H13 p4 (.tup [.ref p3, .int (k : Int)]) = H14 at h1 hl tus nd14 gd tkey tn14 k914 ⊢
            refine ⟨d, nn, ff, keyP (pre ++ [(i, j)]) k, rfl, nd14, by omega, tkey, ⟨_, rfl⟩, keyP_depth _ _, fun H15 fr kt nd15 => ?_⟩
            refine ⟨_, _, rfl, ⟨fun c o z => fr _ _ (h1 _ _ z) (ne_of_none z n0d), ⟨us, fr _ _ hl ?_, tus.keep kt⟩, ⟨_, nn + 1, nd15, by omega, Gd.put (gd.imp fun p k _ h => pend_w h) kt (oke.here eq er) ?_⟩, ok14⟩, (k9.trans k914).trans kt⟩
            · obtain ⟨φ, hd⟩ := nd14.at_
              exact ne_of hl hd (fun e => by cases e)
            · have en : numV prior (ah * ak.1) rw_.1 k = ah * ak.1 * r * yk := by
                unfold numV
                rw [getD_of epk, getD_of eyk]
              rw [en]
              exact tn14.keep kt
          · clear nm9 nm8 nm7
            rintro σ H9 ⟨o14'', o15'', rfl, nm9, k9⟩
            have k69 := k8.trans k9
            obtain ⟨us, hl, tus⟩ := nm9.st
            refine ⟨_, rfl, .inl ⟨rfl, _, SqL.of hl⟩, _, rfl, _, rfl, _, rfl, by show 2 ≤ sizeLine; decide, fun p1 n1 => ⟨by show 1 ≤ sizeLine; decide, fun p2 n2 => ?_⟩⟩
            have s12 := (same_upd (o := .tup [.int (i : Int), .int (j : Int)]) n1).trans (same_upd (o := .tup [.ref p1]) n2)
            have tp1 : Td K (upd (upd H9 p1 (.tup [.int (i : Int), .int (j : Int)])) p2 (.tup [.ref p1])) (.ref p1) (pairD (i, j)) := .tup (Same.kt (same_upd n2) _ _ (.inl (.inl upd_same))) (.cons (.int _) (.cons (.int _) .nil))
            have k312 : KT K H3 (upd (upd H9 p1 (.tup [.int (i : Int), .int (j : Int)])) p2 (.tup [.ref p1])) := (k6.trans k69).trans (Same.kt s12)
            refine ⟨ppa, p2, ppx, _, rfl, rfl, k312 _ _ hppa, .inl (.inl upd_same), by rw [lppx]; exact Nat.le_of_lt (small1000 (by simp; omega)), fun p3 H13 s13 q13 => ?_⟩
            have tpath : Td K H13 (.ref p3) (pathD (pre ++ [(i, j)])) := by
              unfold pathD
              rw [List.map_append]
              exact .tup q13 ((tppx.keep (k312.trans (Same.kt s13))).app (.cons (tp1.keep (Same.kt s13)) .nil))
            refine ⟨_, rfl, _, rfl, by show 3 ≤ sizeLine; decide, fun p4 n4 => ?_⟩
            have s14 := same_upd (o := .tup [.ref p3, vh, vb]) n4
            have s914 := (s12.trans s13).trans s14
            have k914 := Same.kt (K := K) s914
            have tse : Td K (upd H13 p4 (.tup [.ref p3, vh, vb])) (.ref p4) (seD ⟨pre ++ [(i, j)], ah * ak.1, n, rw_.2⟩) := .tup (.inl (.inl upd_same)) (.cons (tpath.keep (Same.kt s14)) (.cons (th.keep (k69.trans k914)) (.cons (tbh.keep (k9.trans k914)) .nil)))
            have nm14 := nm9.keep s914
            have hl14 := s914 _ _ hl
            have t14 := tus.keep k914
            generalize upd H13 p4 (.tup [.ref p3, vh, vb]) = H14 at nm14 hl14 t14 k914 tse ⊢
            have lus : us.length = es.length := by rw [tus.len, List.length_map]
            refine ⟨l, us, _, rfl, rfl, hl14, by rw [sizeLine_eq]; omega, ?_⟩
            refine ⟨es ++ [⟨pre ++ [(i, j)], ah * ak.1, n, rw_.2⟩], _, _, _, _, _, rfl, ?_, ?_, (k69.trans k914).trans (KT.updL hl14)⟩
            · rw [ssz_snoc, List.length_append, ← hR2]
              show Ssz es + sz n rw_.2 + (R2 + R1) + (es.length + 1 + 1) ≤ m
              omega
            · refine nm14.list n0l ?_ (fun e he => ?_) ?_ (fun p k hk h => pend_a1 eq er hk h)
              · rw [List.map_append]
                exact t14.app (.cons tse .nil)
              · rcases List.mem_append.mp he with he | he
                · exact nm14.ok e he
                · rw [List.mem_singleton.mp he]
                  exact oke.child eq er
              · rw [ssz_snoc, ← hR2]
                show 0 + 3 * (Ssz es + sz n rw_.2 + (R2 + R1)) ≤ _
                omega
        · clear nm7 nm6 nm5 nm4 hl4
          rintro σ H7 ⟨es, o11', o12', o13', o14', o15', rfl, hl7, nm7, k7⟩
          rw [lrx] at nm7 hl7
          have ez : ((ak.2.drop ak.2.length).map (szR n)).sum = 0 := by
            rw [List.drop_length]
            rfl
          rw [ez] at nm7 hl7
          refine ⟨es, _, _, _, _, _, _, _, _, _, rfl, by rw [← hR1]; omega, nm7.imp (by rw [← hR1]; omega) (fun p k _ h => pend_q1 eq h), k6.trans k7⟩
      · rintro σ H4 ⟨es, o7, o8, o9, o10, o11, o12, o13, o14, o15, rfl, hl4, nm4, k4⟩
        rw [lqx] at nm4
        exact ⟨m - 1, by omega, by omega, es, _, _, _, _, _, _, _, _, _, _, _, _, rfl, by omega, nm4.imp (by omega) (fun p k _ h => pend_end h)⟩
  · have e0 : es = [] := by
      have : ¬ 0 < us.length := fun z => c (decide_eq_true (by omega))
      exact List.eq_nil_of_length_eq_zero (by omega)
    subst e0
    obtain ⟨h1, _, ⟨ff, nn, nd2, _, gd⟩, _⟩ := nm
    exact ⟨_, rfl, q d H2 nn ff h1 nd2 (gd.imp fun p k _ ⟨e, he, _⟩ => absurd he List.not_mem_nil)⟩
end
end Tl
namespace Tl
open PySem PySem.Spec PyProof.Rows L2 RZ
theorem fsum_app (a b : List Rat) : fsum (a ++ b) = fsum a + fsum b := by
  induction a with
  | nil =>
    rw [List.nil_append, fsum_nil, Rat.zero_add]
  | cons x r ih => rw [List.cons_append, fsum_cons, fsum_cons, ih, Rat.add_assoc]
theorem Al.getR {α β : Type} {R : α → β → Prop} {as : List α} {bs : List β} {i : Nat} {b : β} (h : Al R as bs) (e : bs[i]? = some b) : ∃ a, as[i]? = some a ∧ R a b := by
  have hi : i < as.length := by
    rw [h.len]
    exact (List.getElem?_eq_some_iff.mp e).1
  have ea : as[i]? = some as[i] := List.getElem?_eq_getElem hi
  obtain ⟨b', e1, r⟩ := h.get ea
  rw [e] at e1
  cases e1
  exact ⟨_, ea, r⟩
theorem tbV_of {W : Nat} : ∀ {n : Nat} {t : Nd n} {tb : Tb n}, TbOk W n t tb → TbV W n tb
  | 0, _, _, _ => trivial
  | n + 1, qs, xs, ok => fun x hx => by
    obtain ⟨i, e⟩ := List.getElem?_of_mem hx
    obtain ⟨q, _, al⟩ := ok.2.2.getR e
    refine ⟨ok.1 x hx, fun r hr => ?_⟩
    obtain ⟨j, e2⟩ := List.getElem?_of_mem hr
    obtain ⟨a, _, h1, h2⟩ := al.getR e2
    exact ⟨h1, tbV_of h2⟩
theorem sz_of {W : Nat} : ∀ {n : Nat} {t : Nd n} {tb : Tb n}, TbOk W n t tb → sz n tb = cnt n t
  | 0, _, _, _ => rfl
  | n + 1, qs, xs, ok => by
    have one : ∀ {q : Qn n} {rs : List (Rw n)}, Al (fun (a : An n) (r : Rw n) => PaysOk W r.1 ∧ TbOk W n a.2.2 r.2) q rs → (rs.map (szR n)).sum = cntQ n q := fun {q rs} h => by
      induction h with
      | nil => rfl
      | cons h _ ih =>
        rw [List.map_cons, List.sum_cons, ih, cntQ_cons]
        show 1 + sz n _ + _ = _
        rw [sz_of h.2]
    have all : ∀ {l : List (Qn n)} {ys : List (Ask n)}, Al (fun (q : Qn n) (x : Ask n) => Al (fun (a : An n) (r : Rw n) => PaysOk W r.1 ∧ TbOk W n a.2.2 r.2) q x.2) l ys → (ys.map (szQ n)).sum = cnt (n + 1) (l : Nd (n + 1)) := fun {l ys} h => by
      induction h with
      | nil => rfl
      | cons h _ ih =>
        rw [List.map_cons, List.sum_cons, ih, cnt_cons]
        show ((_ : List (Rw n)).map (szR n)).sum + _ = _
        rw [one h]
    exact all ok.2.2
/-! ### the sum over all paths is what is paid -/
def tmV (prior : List Rat) (N : Nat) (tb0 : Tb N) (x : Pt) (k : Nat) : Rat := match look N tb0 1 x.1 with
  | some y => x.2.1.getD k 0 * numV prior y.1 y.2 k
  | none => 0
def vlV (W : Nat) (prior : List Rat) (N : Nat) (tb0 : Tb N) (x : Pt) : Rat := fsum ((List.range W).map (tmV prior N tb0 x))
structure PtOk (W N : Nat) (tb0 : Tb N) (x : Pt) : Prop where
  len : x.2.1.length = W
  ch : ∀ r ∈ x.2.1, Ch 6 r
  at_ : ∃ h ps, look N tb0 1 x.1 = some (h, ps) ∧ Ch 6 h ∧ PaysOk W ps
theorem vl_at {W N : Nat} {tb0 : Tb N} {prior : List Rat} {x : Pt} {h : Rat} {ps : List Rat} (hp : PriorOk W prior) (e : look N tb0 1 x.1 = some (h, ps)) (hl : x.2.1.length = W) (hy : PaysOk W ps) : vlV W prior N tb0 x = h * payF prior x.2.1 ps := by
  unfold vlV payF
  rw [← fsum_mul]
  refine congrArg fsum (List.ext_getElem? fun k => ?_)
  have ld := dot3_len hp.len hl hy.len
  by_cases hk : k < W
  · obtain ⟨p, ep⟩ : ∃ r, prior[k]? = some r := ⟨_, List.getElem?_eq_getElem (by rw [hp.len]; exact hk)⟩
    obtain ⟨u, eu⟩ : ∃ r, x.2.1[k]? = some r := ⟨_, List.getElem?_eq_getElem (by rw [hl]; exact hk)⟩
    obtain ⟨y, ey⟩ : ∃ r, ps[k]? = some r := ⟨_, List.getElem?_eq_getElem (by rw [hy.len]; exact hk)⟩
    rw [List.getElem?_map, List.getElem?_map, dot3_at ep eu ey, List.getElem?_range hk]
    show some (tmV prior N tb0 x k) = some (h * (p * u * y))
    unfold tmV
    rw [e]
    show some (x.2.1.getD k 0 * (h * prior.getD k 0 * ps.getD k 0)) = _
    rw [getD_of ep, getD_of eu, getD_of ey, ← Rat.mul_assoc u, Rat.mul_comm u (h * p), Rat.mul_assoc h p u, Rat.mul_assoc h (p * u) y]
  · rw [List.getElem?_eq_none (by rw [List.length_map, List.length_range]; omega), List.getElem?_eq_none (by rw [List.length_map, ld]; omega)]
theorem pths_paid {W N : Nat} {tb0 : Tb N} {prior : List Rat} (hp : PriorOk W prior) : ∀ (m : Nat) (t : Nd m) (tb : Tb m) (pre : List (Nat × Nat)) (ah : Rat) (ahead : List Rat), NdOk W m ahead t → TbOk W m t tb → SeOk W N tb0 ⟨pre, ah, m, tb⟩ →
    (∀ x ∈ pths m t pre, PtOk W N tb0 x) ∧ fsum ((pths m t pre).map (vlV W prior N tb0)) = ah * paidT prior m t tb
  | 0, _, _, _, ah, _, _, _, _ => ⟨fun x hx => absurd hx List.not_mem_nil, (Rat.mul_zero ah).symm⟩
  | n + 1, qs, xs, pre, ah, ahead, ok, tok, se => by
    have row : ∀ (i : Nat) (k : Ask n), (show List (Ask n) from xs)[i]? = some k → ∀ (q : Qn n) (rs : List (Rw n)), Al (fun (a : An n) (r : Rw n) => PaysOk W r.1 ∧ TbOk W n a.2.2 r.2) q rs → ∀ (j0 : Nat), (∀ a ∈ q, a.2.1.length = W ∧ (∀ r ∈ a.2.1, Ch 6 r) ∧ NdOk W n a.2.1 a.2.2) → (∀ j, rs[j]? = k.2[j0 + j]?) →
        (∀ x ∈ pthQ n (pths n) pre i j0 q, PtOk W N tb0 x) ∧ fsum ((pthQ n (pths n) pre i j0 q).map (vlV W prior N tb0)) = (ah * k.1) * fsum (List.zipWith (paidA prior n) q rs) := by
      intro i k hk q rs al
      induction al with
      | nil =>
        intro j0 _ _
        exact ⟨fun x hx => absurd hx List.not_mem_nil, (Rat.mul_zero _).symm⟩
      | cons h hal ih =>
        rename_i a r q' rs'
        intro j0 hq hrs
        have er : k.2[j0]? = some r := (hrs 0).symm
        obtain ⟨l1, c1, ok1⟩ := hq a (List.mem_cons_self ..)
        obtain ⟨i1, i2⟩ := pths_paid hp n a.2.2 r.2 (pre ++ [(i, j0)]) (ah * k.1) a.2.1 ok1 h.2 (se.child hk er)
        obtain ⟨i3, i4⟩ := ih (j0 + 1) (fun a' ha' => hq a' (List.mem_cons_of_mem _ ha')) (fun j => by
          have := hrs (j + 1)
          rw [List.getElem?_cons_succ] at this
          rw [this]
          exact congrArg (fun z => k.2[z]?) (by omega))
        have lk := se.here hk er
        have hch : Ch pre.length ah := se.ch
        have hle : pre.length + (n + 1) ≤ 6 := se.len
        have c0 : Ch 1 k.1 := tok.1 k (List.mem_of_getElem? hk)
        have v0 := vl_at (x := (pre ++ [(i, j0)], a.2.1, ndD n a.2.2)) hp lk l1 h.1
        constructor
        · intro x hx
          rcases List.mem_append.mp hx with hx | hx
          · rcases List.mem_cons.mp hx with rfl | hx
            · exact ⟨l1, c1, _, _, lk, (hch.prod c0).mono (by omega), h.1⟩
            · exact i1 x hx
          · exact i3 x hx
        · show fsum ((((pre ++ [(i, j0)], a.2.1, ndD n a.2.2) :: pths n a.2.2 (pre ++ [(i, j0)])) ++ pthQ n (pths n) pre i (j0 + 1) q').map (vlV W prior N tb0)) = _
          rw [List.map_append, fsum_app, List.map_cons, fsum_cons, v0, i2, i4, List.zipWith_cons_cons, fsum_cons, Rat.mul_add]
          show ah * k.1 * payF prior a.2.1 r.1 + ah * k.1 * paidT prior n a.2.2 r.2 + _ = ah * k.1 * (payF prior a.2.1 r.1 + paidT prior n a.2.2 r.2) + _
          rw [Rat.mul_add]
    have all : ∀ (l : List (Qn n)) (ys : List (Ask n)), Al (fun (q : Qn n) (x : Ask n) => Al (fun (a : An n) (r : Rw n) => PaysOk W r.1 ∧ TbOk W n a.2.2 r.2) q x.2) l ys → ∀ i0 : Nat, (∀ q ∈ l, QnOk W ahead q ∧ ∀ a ∈ q, NdOk W n a.2.1 a.2.2) → (∀ j, ys[j]? = (show List (Ask n) from xs)[i0 + j]?) →
        (∀ x ∈ pthN n (pths n) pre i0 l, PtOk W N tb0 x) ∧ fsum ((pthN n (pths n) pre i0 l).map (vlV W prior N tb0)) = ah * fsum (List.zipWith (paidQ prior n) l ys) := by
      intro l ys al
      induction al with
      | nil =>
        intro i0 _ _
        exact ⟨fun x hx => absurd hx List.not_mem_nil, (Rat.mul_zero _).symm⟩
      | cons h hal ih =>
        rename_i q k l' ys'
        intro i0 hq hys
        have ek : (show List (Ask n) from xs)[i0]? = some k := (hys 0).symm
        obtain ⟨qok, nok⟩ := hq q (List.mem_cons_self ..)
        obtain ⟨i1, i2⟩ := row i0 k ek q k.2 h 0 (fun a ha => ⟨qok.wide a ha, qok.chs a ha, nok a ha⟩) (fun j => congrArg (fun z => k.2[z]?) (Nat.zero_add j).symm)
        obtain ⟨i3, i4⟩ := ih (i0 + 1) (fun q' hq' => hq q' (List.mem_cons_of_mem _ hq')) (fun j => by
          have := hys (j + 1)
          rw [List.getElem?_cons_succ] at this
          rw [this]
          exact congrArg (fun z => (show List (Ask n) from xs)[z]?) (by omega))
        constructor
        · intro x hx
          rcases List.mem_append.mp hx with hx | hx
          · exact i1 x hx
          · exact i3 x hx
        · show fsum ((pthQ n (pths n) pre i0 0 q ++ pthN n (pths n) pre (i0 + 1) l').map (vlV W prior N tb0)) = _
          rw [List.map_append, fsum_app, i2, i4, List.zipWith_cons_cons, fsum_cons, Rat.mul_add]
          show ah * k.1 * _ + _ = ah * (k.1 * _) + _
          rw [Rat.mul_assoc]
    exact all qs xs tok.2.2 0 ok.2 (fun j => congrArg (fun z => (show List (Ask n) from xs)[z]?) (Nat.zero_add j).symm)
theorem seOk_root {W N : Nat} {tb0 : Tb N} (h : TbV W N tb0) (hN : N ≤ 6) : SeOk W N tb0 ⟨[], 1, N, tb0⟩ := ⟨h, ch_one, by show 0 + N ≤ 6; omega, fun rest y e => e⟩
/-- what is told of the way of the law -/
def spLPaid (K : PySem.W.Frag) (w : World) (n : Nat) : Sp := fun vs H Q _ => ∃ (W : Nat) (v : V) (d : Addr) (t : Nd n) (prior ahead : List Rat) (tb : Tb n) (m : Nat) (f : NestedKey → Option V), vs = [.int (W : Int), v, .ref d] ∧ Td K H v (ndD n t) ∧ NdOk W n ahead t ∧ TbOk W n t tb ∧ PriorOk W prior ∧ W ≤ 3 ∧ cnt n t ≤ 1500 ∧ n ≤ 6 ∧
  NDc K w H d m f ∧ Gd K W n tb prior H f (fun _ _ => False) ∧ ∀ v' H', Same H H' → Td K H' v' (rD (paidT prior n t tb)) → Q v' H'
section
variable {P : Program} {w : World} {K : PySem.W.Frag} {mg : Str → Option Value} {base : Heap}
theorem ok_law_paid {f f1 f2 f3 f4 f5 : Addr} {fd fd1 fd2 fd3 fd4 fd5 : FuncData} (D : Dn K mg "_law_paid" s_law_paid ["worlds", "tree", "numbers"] f fd) (B : Blt mg) (D_law_times : Dn K mg "_law_times" s_law_times ["one", "other"] f1 fd1) (D_law_low : Dn K mg "_law_low" s_law_low ["top", "bottom"] f2 fd2) (D_law_common : Dn K mg "_law_common" s_law_common ["one", "other"] f3 fd3)
    (D_law_plus : Dn K mg "_law_plus" s_law_plus ["one", "other"] f4 fd4) (D_law_paths : Dn K mg "_law_paths" s_law_paths ["node", "path"] f5 fd5) (n : Nat) : FnOk P w K mg base CX0 (5 + n) f fd ["worlds", "tree", "numbers"] (spLPaid K w n) := by
  have G_law_times : FnOk P w K mg base CX0 3 f1 fd1 ["one", "other"] (spTimes K) := ok_law_times D_law_times B D_law_low D_law_common
  have G_law_plus : FnOk P w K mg base CX0 3 f4 fd4 ["one", "other"] (spPlus K) := ok_law_plus D_law_plus B D_law_low D_law_common
  have G_law_paths : FnOk P w K mg base CX0 (1 + n) f5 fd5 ["node", "path"] (spPths K n) := ok_law_paths D_law_paths B n
  rw [show 5 + n = (4 + n) + 1 by omega]
  refine D.F.ok sc_law_paid (fun vs H Q E h => ?_) (fun cdv A outer s H vs Q E hr h => ?_)
  · obtain ⟨W, v, d, t, prior, ahead, tb, m, f, rfl, _⟩ := h
    rfl
  obtain ⟨W, v, d, t, prior, ahead, tb, m, ff, rfl, tv, ok, tok, hp, hW, hc, hn, hnd, hg, q⟩ := h
  have nd := sc_law_paid.nd
  refine ⟨_, (pss_cons (ps_set (i := 3) nd rfl (.inl rfl) (pe_tup (pa_cons pe_int (pa_cons pe_int pa_nil))))
      (pss_cons (ps_for PassesOwn.never rfl (k_iL (K := K) rfl (pe_call G_law_paths (hr.mono (by omega)) (by rfl) D_law_paths.m D_law_paths.F.kp D_law_paths.b .nil pass0 (pa_cons (pv 1) (pa_cons (pe_tup pa_nil) pa_nil)))) (k_tup (K := K) (n := 3) rfl rfl (pgs_cons (pg_name (i := 4) nd rfl (.inl rfl)) (pgs_cons (pg_name (i := 5) nd rfl (.inl rfl)) (pgs_cons (pg_name (i := 6) nd rfl (.inl rfl)) pgs_nil)))) (pss_one (ps_for PassesOwn.never rfl (pi_range1 (by rfl) B.range (pa_cons (pv 0) pa_nil)) (pg_name (i := 7) nd rfl (.inl rfl)) (pss_one (ps_set (i := 3) nd rfl (.inl rfl) (pe_call G_law_plus (hr.mono (by omega)) (by rfl) D_law_plus.m D_law_plus.F.kp D_law_plus.b .nil pass0 (pa_cons (pv 3) (pa_cons (pe_call G_law_times (hr.mono (by omega)) (by rfl) D_law_times.m D_law_times.F.kp D_law_times.b .nil pass0 (pa_cons (pe_ix (k_ixT (K := K) rfl) (pv 5) (pv 7) (fun _ _ => rfl)) (pa_cons (k_dgetN (K := K) (w := w) rfl rfl hr.units (pv 2) (pe_tup (pa_cons (pv 4) (pa_cons (pv 7) pa_nil))) (fun _ _ => rfl)) pa_nil))) pa_nil))))))))
      (pss_one (ps_ret (pv 3))))), ?_⟩
  obtain ⟨hpt, hsum⟩ := pths_paid hp n t tb [] 1 ahead ok tok (seOk_root (tbV_of tok) hn)
  rw [Rat.one_mul] at hsum
  have lpt := pths_len n t []
  refine ⟨by show 2 ≤ sizeLine; decide, fun p0 n0 => ?_⟩
  have s0 := same_upd (o := .tup [.int 0, .int 1]) n0
  refine ⟨_, rfl, by show 0 ≤ sizeLine; decide, fun p1 n1 => ?_⟩
  have s1 := same_upd (o := .tup []) n1
  have s01 := s0.trans s1
  have t0 : Td K (upd (upd H p0 (.tup [.int 0, .int 1])) p1 (.tup [])) (.ref p0) (rD 0) := .tup (Same.kt s1 _ _ (.inl (.inl upd_same))) (.cons (.int _) (.cons (.int _) .nil))
  refine ⟨v, .ref p1, t, [], rfl, tv.keep (Same.kt s01), .tup (.inl (.inl upd_same)) .nil, by show 0 + n ≤ 100; omega, by omega, by omega, fun r us H2 s2 h2 t2 => ?_⟩
  have s02 := s01.trans s2
  have t0 := t0.keep (Same.kt s2)
  have lus : us.length = (pths n t []).length := by rw [t2.len, List.length_map]
  clear s01 s1 s0 n1 n0
  refine ⟨r, rfl, ⟨_, SqL.of h2⟩, for_it (walk_list (K := K) (a := r) (xs := us)) (fun i σ H3 => ∃ (vf : V) (o4 o5 o6 o7 : Option V) (x : Rat), σ = [some (.int (W : Int)), some v, some (.ref d), some vf, o4, o5, o6, o7] ∧ Same H2 H3 ∧ Td K H3 vf (rD x) ∧ x = fsum (((pths n t []).take i).map (vlV W prior n tb)) ∧ Fd 14 (12 * i) x)
    ⟨_, none, none, none, none, 0, rfl, fun _ _ z => z, t0, rfl, fd_zero⟩ (fun i σ H3 _ h => ?_) ?_ ?_⟩
  · obtain ⟨_, _, _, _, _, _, _, s3, _⟩ := h
    exact SqL.of (s3 _ _ h2)
  · rintro i y σ H3 H4 hi ⟨vf, o4, o5, o6, o7, x, rfl, s3, tx, ex, fx⟩ ⟨rfl, e4⟩
    obtain ⟨dy, ey, ty⟩ := (t2.keep (Same.kt s3)).getV e4
    obtain ⟨pt, ept, rfl⟩ := map_at ey
    obtain ⟨hl, hch, hh, ps, elk, ch, hpay⟩ := hpt pt (List.mem_of_getElem? ept)
    obtain ⟨pa, pas, rfl, hpa, tpa⟩ := ty.tupE
    cases tpa with
    | cons tpath tpa2 =>
    rename_i vpath pas
    cases tpa2 with
    | cons tws tpa3 =>
    rename_i vws pas
    cases tpa3 with
    | cons tnode tpa4 =>
    rename_i vnode pas
    cases tpa4
    obtain ⟨wa, wxs, rfl, hwa, twx⟩ := tws.tupE
    have ev := vl_at (x := pt) hp elk hl hpay
    refine ⟨pa, _, rfl, hpa, rfl, _, _, rfl, _, _, rfl, _, _, rfl, rfl, ?_⟩
    refine ⟨_, rfl, _, rfl, by omega, by omega, for_range (lo := 0) (n := W) (fun k σ H5 => ∃ (vf : V) (o7 : Option V) (x' : Rat), σ = [some (.int (W : Int)), some v, some (.ref d), some vf, some vpath, some (.ref wa), some vnode, o7] ∧ Same H4 H5 ∧ Td K H5 vf (rD x') ∧ x' = x + fsum ((List.range k).map (tmV prior n tb pt)) ∧ Fd 14 (12 * i + 4 * k) x') ⟨vf, _, x, rfl, fun _ _ z => z, tx, by show x = x + 0; rw [Rat.add_zero], fx⟩ ?_ ?_⟩
    · rintro k σ H5 hk ⟨vf5, o7', x5, rfl, s5, t5, e5, f5⟩
      have hk0 : (0 : Int) + (k : Int) = (k : Int) := by omega
      show gName 7 (.int (0 + (k : Int))) _ _ _
      rw [hk0]
      obtain ⟨u, eu⟩ : ∃ r, pt.2.1[k]? = some r := ⟨_, List.getElem?_eq_getElem (by rw [hl]; exact hk)⟩
      obtain ⟨p, ep⟩ : ∃ r, prior[k]? = some r := ⟨_, List.getElem?_eq_getElem (by rw [hp.len]; exact hk)⟩
      obtain ⟨yk, eyk⟩ : ∃ r, ps[k]? = some r := ⟨_, List.getElem?_eq_getElem (by rw [hpay.len]; exact hk)⟩
      obtain ⟨vu, evu, tvu⟩ := (twx.keep (Same.kt s5)).get (i := k) (d := rD u) (by rw [List.getElem?_map, eu]; rfl)
      have cu := hch u (List.mem_of_getElem? eu)
      have cp := hp.ch p (List.mem_of_getElem? ep)
      have fy := hpay.fd yk (List.mem_of_getElem? eyk)
      have env : numV prior hh ps k = hh * p * yk := by
        unfold numV
        rw [getD_of ep, getD_of eyk]
      have fnum : Fd 8 4 (numV prior hh ps k) := by
        rw [env]
        exact (Fd.mul (ch.prod cp) fy).mono (by omega) (by omega)
      have etm : tmV prior n tb pt k = u * numV prior hh ps k := by
        unfold tmV
        rw [elk]
        show pt.2.1.getD k 0 * _ = _
        rw [getD_of eu]
      have fterm : Fd 14 4 (u * numV prior hh ps k) := (Fd.mul cu fnum).mono (by omega) (by omega)
      rcases hg pt.1 hh ps elk k hk with ⟨vn, hf, tvn⟩ | z
      · have hpl : (pths n t []).length ≤ 1500 := by omega
        have hi2 : i < 1500 := by omega
        have smu : Sm u := cu.fd.sm (by omega) (by decide)
        have smn : Sm (numV prior hh ps k) := fnum.sm (by omega) (by decide)
        have smt : Sm (u * numV prior hh ps k) := fterm.sm (by omega) (by decide)
        have smx : Sm x5 := f5.sm (by omega) (Nat.le_trans (show 12 * i + 4 * k ≤ 2 ^ 20 by omega) (Nat.pow_le_pow_right (by decide) (by decide)))
        refine ⟨_, rfl, _, rfl, _, rfl, wa, wxs, (k : Int), vu, rfl, rfl, Same.kt s5 _ _ hwa, atI_nat evu, _, rfl, _, rfl, _, rfl, by show 2 ≤ sizeLine; decide, fun p6 n6 => ?_⟩
        have s6 := same_upd (o := .tup [vpath, .int (k : Int)]) n6
        have s26 := (s3.trans s5).trans s6
        have s06 := s02.trans s26
        have tkey : Td K (upd H5 p6 (.tup [vpath, .int (k : Int)])) (.ref p6) (keyP pt.1 k).data := by
          rw [keyP_data]
          exact .tup (.inl (.inl upd_same)) (.cons (tpath.keep (Same.kt (s5.trans s6))) (.cons (.int _) .nil))
        refine ⟨d, m, ff, keyP pt.1 k, vn, rfl, hnd.keep (Same.kt s06) fun o e => s06 _ _ e, tkey, ⟨_, rfl⟩, keyP_depth _ _, hf, ?_⟩
        refine ⟨vu, vn, u, numV prior hh ps k, rfl, tvu.keep (Same.kt s6), tvn.keep (Same.kt s06), smu.big.1, smn.big.1, smu.big.2, smn.big.2, fun vt H7 s7 t7 => ?_⟩
        refine ⟨vf5, vt, x5, u * numV prior hh ps k, rfl, t5.keep (Same.kt (s6.trans s7)), t7, smx, smt, fun v8 H8 s8 t8 => ?_⟩
        refine ⟨v8, _, x5 + u * numV prior hh ps k, rfl, s5.trans (s6.trans (s7.trans s8)), t8, ?_, (f5.add fterm).mono (Nat.le_refl _) (by omega)⟩
        rw [e5, List.range_succ, List.map_append, fsum_app, Rat.add_assoc]
        show _ + (_ + u * numV prior hh ps k) = _ + (_ + fsum [tmV prior n tb pt k])
        rw [fsum_cons, fsum_nil, Rat.add_zero, etm]
      · exact z.elim
    · rintro σ H5 ⟨vf5, o7', x5, rfl, s5, t5, e5, f5⟩
      refine ⟨vf5, _, _, _, _, x5, rfl, s3.trans s5, t5, ?_, f5.mono (Nat.le_refl _) (by omega)⟩
      rw [e5, List.take_add_one, ept, ex, List.map_append, fsum_app]
      show _ + vlV W prior n tb pt = _ + fsum [vlV W prior n tb pt]
      rw [fsum_cons, fsum_nil, Rat.add_zero]
  · rintro σ H3 ⟨vf, o4, o5, o6, o7, x, rfl, s3, tx, ex, fx⟩
    refine ⟨_, rfl, q vf H3 (s02.trans s3) ?_⟩
    rw [lus, List.take_length] at ex
    rw [← hsum, ← ex]
    exact tx
end
end Tl
namespace Tl
open PySem PySem.Spec PyProof.Rows L2 RZ
theorem TreeOk.keep {K : PySem.W.Frag} {H H' : Hp} {W n : Nat} {v : V} {t : Nd n} (T : TreeOk K H W n v t) (s : Same H H') : TreeOk K H' W n v t := ⟨T.td.keep (Same.kt s), T.ok, T.few, T.deep, T.w1, T.w5⟩
theorem own_same {H : Hp} {C x dx : Addr} (nx : H x = none) (ndx : H dx = none) : Same H (upd (upd H dx (.own x)) x (.ins C dx [])) := fun b o e => by
  rw [upd_ne (ne_of_none e nx), upd_ne (ne_of_none e ndx)]
  exact e
theorem mk_hs {K : PySem.W.Frag} {H H7 : Hp} {C x dx : Addr} {W n : Nat} {v : V} {t : Nd n} (nx : H x = none) (ndx : H dx = none) (T : TreeOk K H W n v t) (h7 : H7 x = some (.ins C dx (hf W v))) (k7 : ∀ b o, upd (upd H dx (.own x)) x (.ins C dx []) b = some o → b ≠ x → H7 b = some o) :
    Same H H7 ∧ HsOk K C H7 x W n t v := by
  have s : Same H H7 := fun b o e => k7 _ _ (own_same nx ndx b o e) (ne_of_none e nx)
  exact ⟨s, ⟨dx, h7⟩, T.td.keep (Same.kt s), T.ok, T.few, T.deep, T.w1, T.w5⟩
theorem half_prior : PriorOk 2 [mkRat 1 2, mkRat 1 2] := ⟨rfl, fun r hr => by
  have e : r = mkRat 1 2 := by
    rcases List.mem_cons.mp hr with h | h
    · exact h
    · exact List.mem_singleton.mp h
  rw [e]
  exact ch_share (p := 1) (s := 2) (by decide) (by decide) (by decide), by decide +kernel⟩
section
variable {P : Program} {w : World} {K : PySem.W.Frag} {mg : Str → Option Value} {base : Heap}
theorem ok_law {Cc fi fe f f1 f2 f3 f4 f5 f6 f7 f8 f9 : Addr} {fd fd1 fd2 fd3 fd4 fd5 fd6 fd7 fd8 fd9 fdi : FuncData} (D : Dn K mg "law" s_law ["script"] f fd) (B : Blt mg) (U : Hcl K mg Cc fi fe)
    (D_law_bag : Dn K mg "_law_bag" s_law_bag ["script"] f1 fd1) (G_law_bag : FnOk P w K mg base CX0 1 f1 fd1 ["script"] (spBag K)) (D_law_pick : Dn K mg "_law_pick" s_law_pick ["bag", "many"] f2 fd2)
    (D_law_house : Dn K mg "_law_house" s_law_house ["bag", "levels", "answers"] f3 fd3) (G_law_house : FnOk P w K mg base CX0 31 f3 fd3 ["bag", "levels", "answers"] (spHs K))
    (D_law_test : Dn K mg "_law_test" s_law_test ["bag", "worlds", "tree"] f4 fd4) (G_law_test : FnOk P w K mg base CX0 30 f4 fd4 ["bag", "worlds", "tree"] (anyS 5 (spTst K)))
    (D_law_numbers : Dn K mg "_law_numbers" s_law_numbers ["worlds", "test"] f5 fd5) (G_law_numbers : FnOk P w K mg base CX0 30 f5 fd5 ["worlds", "test"] (anyS 5 (spNums K w)))
    (D_law_paid : Dn K mg "_law_paid" s_law_paid ["worlds", "tree", "numbers"] f6 fd6) (G_law_paid : FnOk P w K mg base CX0 30 f6 fd6 ["worlds", "tree", "numbers"] (anyS 5 (spLPaid K w)))
    (D_law_is : Dn K mg "_law_is" s_law_is ["found", "due"] f7 fd7) (G_law_is : FnG P w K mg base CX0 1 f7 fd7 ["found", "due"] (spIsF K))
    (D_paid : Dn K mg "paid" s_paid ["house", "test"] f8 fd8) (G_paid : FnOk P w K mg base CX0 30 f8 fd8 ["house", "test"] (anyS 5 (spPaid K Cc)))
    (D_House_init : Dm K "__init__" "House.__init__" s_House_init ["self", "worlds", "tree"] fi fdi) (G_House_init : FnOk P w K mg base CX0 30 fi fdi ["self", "worlds", "tree"] (anyS 5 (spInit K Cc)))
    (D_law_reweighted : Dn K mg "_law_reweighted" s_law_reweighted ["bag", "worlds", "node", "ahead"] f9 fd9) (G_law_reweighted : FnOk P w K mg base CX0 30 f9 fd9 ["bag", "worlds", "node", "ahead"] (anyS 5 (spRW K))) : FnG P w K mg base CX0 32 f fd ["script"] (spTrue K) := by
  have G_law_pick : FnOk P w K mg base CX0 1 f2 fd2 ["bag", "many"] spPick := ok_law_pick D_law_pick B
  refine okG D.F sc_law (fun vs H Q E h => ?_) (fun cdv A outer s H vs Q E hr hgu h => ?_)
  · obtain ⟨a, ns, rfl, _⟩ := h
    rfl
  obtain ⟨a, ns, rfl, hs, h63, q⟩ := h
  have nd := sc_law.nd
  refine ⟨_, (pss_cons (ps_set (i := 1) nd rfl (.inl rfl) (pe_call G_law_bag (hr.mono (by omega)) (by rfl) D_law_bag.m D_law_bag.F.kp D_law_bag.b .nil pass0 (pa_cons (pv 0) pa_nil)))
      (pss_cons (ps_for PassesOwn.never rfl (pi_range1 (by rfl) B.range (pa_cons pe_int pa_nil)) (pg_name (i := 2) nd rfl (.inl rfl)) (pss_cons (ps_asg (pe_call G_law_house (hr.mono (by omega)) (by rfl) D_law_house.m D_law_house.F.kp D_law_house.b .nil pass0 (pa_cons (pv 1) (pa_cons (pe_op op_add pe_int (pe_call G_law_pick (hr.mono (by omega)) (by rfl) D_law_pick.m D_law_pick.F.kp D_law_pick.b .nil pass0 (pa_cons (pv 1) (pa_cons pe_int pa_nil)))) (pa_cons pe_int pa_nil)))) (k_tup (K := K) (n := 2) rfl rfl (pgs_cons (pg_name (i := 3) nd rfl (.inl rfl)) (pgs_cons (pg_name (i := 4) nd rfl (.inl rfl)) pgs_nil))))
      (pss_cons (ps_set (i := 5) nd rfl (.inl rfl) (pe_call G_law_test (hr.mono (by omega)) (by rfl) D_law_test.m D_law_test.F.kp D_law_test.b .nil pass0 (pa_cons (pv 1) (pa_cons (pv 3) (pa_cons (pv 4) pa_nil)))))
      (pss_cons (ps_set (i := 6) nd rfl (.inl rfl) (pe_call G_law_paid (hr.mono (by omega)) (by rfl) D_law_paid.m D_law_paid.F.kp D_law_paid.b .nil pass0 (pa_cons (pv 3) (pa_cons (pv 4) (pa_cons (pe_call G_law_numbers (hr.mono (by omega)) (by rfl) D_law_numbers.m D_law_numbers.F.kp D_law_numbers.b .nil pass0 (pa_cons (pv 3) (pa_cons (pv 5) pa_nil))) pa_nil)))))
      (pss_cons (ps_if (pt_not (pt_val (pe_callG G_law_is (hr.mono (by omega)) hgu (by rfl) D_law_is.m D_law_is.F.kp D_law_is.b .nil pass0 (pa_cons (pe_call G_paid (hr.mono (by omega)) (by rfl) D_paid.m D_paid.F.kp D_paid.b .nil pass0 (pa_cons (pe_make U.mkH G_House_init (hr.mono (by omega)) (by rfl) U.gHouse D_House_init.b .nil pass0 (pa_cons (pv 3) (pa_cons (pv 4) pa_nil))) (pa_cons (pv 5) pa_nil))) (pa_cons (pv 6) pa_nil))))) (pss_one (ps_ret pe_bl)) pss_nil)
      (pss_cons (ps_set (i := 7) nd rfl (.inl rfl) (pe_call G_law_reweighted (hr.mono (by omega)) (by rfl) D_law_reweighted.m D_law_reweighted.F.kp D_law_reweighted.b .nil pass0 (pa_cons (pv 1) (pa_cons (pv 3) (pa_cons (pv 4) (pa_cons (pe_op (k_rep (K := K) rfl) (pe_tup (pa_cons (pe_tup (pa_cons pe_int (pa_cons pe_int pa_nil))) pa_nil)) (pv 3)) pa_nil))))))
      (pss_cons (ps_set (i := 6) nd rfl (.inl rfl) (pe_call G_law_paid (hr.mono (by omega)) (by rfl) D_law_paid.m D_law_paid.F.kp D_law_paid.b .nil pass0 (pa_cons (pv 3) (pa_cons (pv 7) (pa_cons (pe_call G_law_numbers (hr.mono (by omega)) (by rfl) D_law_numbers.m D_law_numbers.F.kp D_law_numbers.b .nil pass0 (pa_cons (pv 3) (pa_cons (pv 5) pa_nil))) pa_nil)))))
      (pss_one (ps_if (pt_not (pt_val (pe_callG G_law_is (hr.mono (by omega)) hgu (by rfl) D_law_is.m D_law_is.F.kp D_law_is.b .nil pass0 (pa_cons (pe_call G_paid (hr.mono (by omega)) (by rfl) D_paid.m D_paid.F.kp D_paid.b .nil pass0 (pa_cons (pe_make U.mkH G_House_init (hr.mono (by omega)) (by rfl) U.gHouse D_House_init.b .nil pass0 (pa_cons (pv 3) (pa_cons (pv 7) pa_nil))) (pa_cons (pv 5) pa_nil))) (pa_cons (pv 6) pa_nil))))) (pss_one (ps_ret pe_bl)) pss_nil)))))))))
      (pss_one (ps_ret (pe_cmpR (k_eqD (K := K) rfl hr.units) (pe_call G_paid (hr.mono (by omega)) (by rfl) D_paid.m D_paid.F.kp D_paid.b .nil pass0 (pa_cons (pe_make U.mkH G_House_init (hr.mono (by omega)) (by rfl) U.gHouse D_House_init.b .nil pass0 (pa_cons pe_int (pa_cons (pe_tup pa_nil) pa_nil))) (pa_cons (pe_tup (pa_cons (pe_tup (pa_cons (pe_tup (pa_cons pe_int (pa_cons pe_int pa_nil))) (pa_cons (pe_tup (pa_cons pe_int (pa_cons pe_int pa_nil))) pa_nil))) (pa_cons (pe_tup pa_nil) pa_nil))) pa_nil))) (pe_tup (pa_cons pe_int (pa_cons pe_int pa_nil))) (nomark _)))))), ?_⟩
  refine ⟨_, rfl, a, ns, rfl, hs, h63, fun b g H1 s1 B1 b0 g0 => ?_⟩
  refine ⟨4, rfl, by decide, by decide, for_range (lo := 0) (n := 4) (fun i σ H2 => Bag H2 b g ∧ ∃ o2 o3 o4 o5 o6 o7 : Option V, σ = [some (.ref a), some (.ref b), o2, o3, o4, o5, o6, o7]) ⟨B1, none, none, none, none, none, none, rfl⟩ ?_ ?_⟩
  · rintro i σ H2 hi ⟨B2, o2, o3, o4, o5, o6, o7, rfl⟩
    -- house
    refine ⟨_, rfl, _, rfl, b, g, 4, rfl, B2, by decide, by decide, fun r' H4 r2 r3 B4 F4 => ⟨_, _, rfl, rfl, ?_⟩⟩
    obtain ⟨n, en⟩ : ∃ n : Nat, 1 + r' = ((n + 1 : Nat) : Int) := ⟨r'.toNat, by omega⟩
    refine ⟨b, g, n, 16, congrArg (fun z => [V.ref b, V.int z, V.int 16]) en, B4, by omega, by omega, fun p W v m t H5 w1 w3 m5 hpq tv ok cn B5 F5 => ?_⟩
    refine ⟨p, _, rfl, hpq, rfl, _, _, rfl, _, _, rfl, rfl, ?_⟩
    have w5 : W ≤ 5 := by omega
    -- test
    refine ⟨_, rfl, _, rfl, _, rfl, m, m5, b, g, W, v, ones W, t, rfl, B5, tv, ok, w1, w5, fun vt prior tb H6 tts hpr tok B6 F6 => ?_⟩
    have tv6 := tv.keep (B5.kt F6)
    clear F6 B5 tv hpq F5 F4 B4
    -- due
    refine ⟨_, rfl, _, rfl, _, rfl, _, rfl, m, m5, W, vt, prior, tb, rfl, tts, w3, hpr, tbV_of tok, by omega, by rw [sz_of tok]; exact cn, fun d H7 nn ff s7 nd7 gd7 => ?_⟩
    have tv7 := tv6.keep (Same.kt s7)
    refine ⟨m, m5, W, v, d, t, prior, ones W, tb, nn, ff, rfl, tv7, ok, tok, hpr, w3, cn, by omega, nd7, gd7, fun vd H8 s8 td8 => ?_⟩
    have s68 := s7.trans s8
    have tv8 := tv7.keep (Same.kt s8)
    have tt8 := tts.keep (Same.kt s68)
    have B8 := B6.keep s68
    have T8 : TreeOk K H8 W m v t := ⟨tv8, ok, cn, by omega, w1, w5⟩
    clear nd7 gd7 s7 s8 tv7 tv6 tts B6 s68
    refine ⟨_, rfl, _, rfl, fun x dx nx ndx ne => ⟨m, m5, x, dx, W, v, t, rfl, upd_same, T8.keep (own_same nx ndx), fun H9 h9 k9 => ⟨rfl, ?_⟩⟩⟩
    obtain ⟨s9, hs9⟩ := mk_hs nx ndx T8 h9 k9
    refine ⟨_, rfl, m, m5, x, vt, v, W, t, prior, tb, rfl, hs9, tt8.keep (Same.kt s9), hpr, tok, by omega, fun vr H10 s10 t10 => ?_⟩
    have s810 := s9.trans s10
    have smp : Sm (paidT prior m t tb) := (paid_fd hpr w5 m (ones W) t tb ok tok).sm (by omega) (Nat.le_trans (mb_le m (by omega)) (Nat.pow_le_pow_right (by decide) (by decide)))
    refine ⟨_, rfl, vr, vd, paidT prior m t tb, rfl, t10, td8.keep (Same.kt s810), smp, ?_⟩
    refine ⟨_, rfl, iteF ?_⟩
    have tv10 := tv8.keep (Same.kt s810)
    have tt10 := tt8.keep (Same.kt s810)
    have B10 := B8.keep s810
    clear s9 hs9 h9 k9 nx ndx T8 tv8 tt8 B8 td8 t10 s810 s10 smp
    -- other
    refine ⟨_, rfl, _, rfl, _, rfl, by show 2 ≤ sizeLine; decide, fun p1 n1 => ⟨by show 1 ≤ sizeLine; decide, fun p2 n2 => ?_⟩⟩
    have z2 := same_upd (o := .tup [.int 1, .int 1]) n1
    have z3 := same_upd (o := .tup [.ref p1]) n2
    refine ⟨_, rfl, p2, (W : Int), _, rfl, rfl, .inl (.inl upd_same), by simp, by omega, by omega, by simp, fun pa H11 z4 q11 => ?_⟩
    have z24 := (z2.trans z3).trans z4
    have tO : Td K H11 (.ref p1) (rD 1) := by
      rw [rD_one]
      exact .tup (Same.kt (z3.trans z4) _ _ (.inl (.inl upd_same))) (tdAll_ints [1, 1])
    have to := ones_td tO q11
    have B11 := B10.keep z24
    have tv11 := tv10.keep (Same.kt z24)
    have tt11 := tt10.keep (Same.kt z24)
    clear z2 z3 z4 z24 q11 tO B10 tv10 tt10 n1 n2
    refine ⟨m, m5, b, g, W, 0, v, .ref pa, ones W, ones W, t, rfl, B11, tv11, to, List.length_replicate, ones_ch, by omega, ok, w1, w5, fun vo t' H12 to' ok' shp B12 F12 => ?_⟩
    have tt12 := tt11.keep (B11.kt F12)
    have tok' := tbOk_shp shp tok
    have cn' : cnt m t' ≤ 1500 := by rw [← cnt_shp shp]; exact cn
    clear F12 B11 tv11 tt11 to
    refine ⟨_, rfl, _, rfl, _, rfl, _, rfl, m, m5, W, vt, prior, tb, rfl, tt12, w3, hpr, tbV_of tok', by omega, by rw [sz_of tok']; exact cn', fun d H13 nn ff s13 nd13 gd13 => ?_⟩
    have to13 := to'.keep (Same.kt s13)
    refine ⟨m, m5, W, vo, d, t', prior, ones W, tb, nn, ff, rfl, to13, ok', tok', hpr, w3, cn', by omega, nd13, gd13, fun vd' H14 s14 td14 => ?_⟩
    have s1214 := s13.trans s14
    have to14 := to13.keep (Same.kt s14)
    have tt14 := tt12.keep (Same.kt s1214)
    have B14 := B12.keep s1214
    have T14 : TreeOk K H14 W m vo t' := ⟨to14, ok', cn', by omega, w1, w5⟩
    clear nd13 gd13 s13 s14 to13 to' tt12 B12 s1214
    refine ⟨_, rfl, _, rfl, fun x2 dx2 nx2 ndx2 ne2 => ⟨m, m5, x2, dx2, W, vo, t', rfl, upd_same, T14.keep (own_same nx2 ndx2), fun H15 h15 k15 => ⟨rfl, ?_⟩⟩⟩
    obtain ⟨s15, hs15⟩ := mk_hs nx2 ndx2 T14 h15 k15
    refine ⟨_, rfl, m, m5, x2, vt, vo, W, t', prior, tb, rfl, hs15, tt14.keep (Same.kt s15), hpr, tok', by omega, fun vr' H16 s16 t16 => ?_⟩
    have s1416 := s15.trans s16
    have smp : Sm (paidT prior m t' tb) := (paid_fd hpr w5 m (ones W) t' tb ok' tok').sm (by omega) (Nat.le_trans (mb_le m (by omega)) (Nat.pow_le_pow_right (by decide) (by decide)))
    refine ⟨_, rfl, vr', vd', paidT prior m t' tb, rfl, t16, td14.keep (Same.kt s1416), smp, ?_⟩
    refine ⟨_, rfl, iteF ?_⟩
    exact ⟨B14.keep s1416, _, _, _, _, _, _, rfl⟩
  · rintro σ H2 ⟨B2, o2, o3, o4, o5, o6, o7, rfl⟩
    refine ⟨by show 0 ≤ sizeLine; decide, fun p0 n0 => ?_⟩
    have T2 : TreeOk K (upd H2 p0 (.tup [])) 2 0 (.ref p0) (() : Nd 0) := ⟨.tup (.inl (.inl upd_same)) .nil, trivial, Nat.zero_le _, by omega, by decide, by decide⟩
    refine fun x dx nx ndx ne => ⟨0, by decide, x, dx, 2, .ref p0, (), rfl, upd_same, T2.keep (own_same nx ndx), fun H4 h4 k4 => ⟨rfl, ?_⟩⟩
    obtain ⟨s4, hs4⟩ := mk_hs nx ndx T2 h4 k4
    refine ⟨by show 2 ≤ sizeLine; decide, fun pa na => ⟨by show 2 ≤ sizeLine; decide, fun pb nb => ⟨by show 2 ≤ sizeLine; decide, fun pc nc => ⟨by show 0 ≤ sizeLine; decide, fun pd nd' => ⟨by show 2 ≤ sizeLine; decide, fun pe ne' => ?_⟩⟩⟩⟩⟩
    have za := same_upd (o := .tup [.int 1, .int 2]) na
    have zb := same_upd (o := .tup [.int 1, .int 2]) nb
    have zc := same_upd (o := .tup [.ref pa, .ref pb]) nc
    have zd := same_upd (o := .tup []) nd'
    have ze := same_upd (o := .tup [.ref pc, .ref pd]) ne'
    have zall := za.trans (zb.trans (zc.trans (zd.trans ze)))
    have tts : Td K _ (.ref pe) (tsD 0 [mkRat 1 2, mkRat 1 2] ()) := .tup (.inl (.inl upd_same)) (.cons (.tup (Same.kt (zd.trans ze) _ _ (.inl (.inl upd_same))) (.cons (.tup (Same.kt (zb.trans (zc.trans (zd.trans ze))) _ _ (.inl (.inl upd_same))) (tdAll_ints [1, 2])) (.cons (.tup (Same.kt (zc.trans (zd.trans ze)) _ _ (.inl (.inl upd_same))) (tdAll_ints [1, 2])) .nil))) (.cons (.tup (Same.kt ze _ _ (.inl (.inl upd_same))) .nil) .nil))
    refine ⟨0, by decide, x, .ref pe, .ref p0, 2, (), _, (), rfl, hs4.keep zall, tts, half_prior, trivial, by decide, fun vr H10 s10 t10 => ?_⟩
    refine ⟨by show 2 ≤ sizeLine; decide, fun pq nq => ?_⟩
    have s11 := same_upd (o := .tup [.int 0, .int 1]) nq
    have tA := t10.keep (Same.kt s11)
    have tB : Td K (upd H10 pq (.tup [.int 0, .int 1])) (.ref pq) (rD 0) := .tup (.inl (.inl upd_same)) (tdAll_ints [0, 1])
    have gd := good_rD 0
    refine ⟨_, _, tA.dp, tB.dp, gd.shaped (by decide), gd.shaped (by decide), ?_⟩
    have e0 : paidT [mkRat 1 2, mkRat 1 2] 0 () () = 0 := rfl
    rw [e0, gd.refl]
    exact q _
end
end Tl
namespace Tl
open PySem PySem.Spec PyProof.Rows L2 RZ
theorem all_mk {l : PySem.W.OpenLaw} {w : World} {K : PySem.W.Frag} {h : Heap} {mg : Str → Option Value} {fa Cc aO f_is_integral f_is_number f_is_fraction f_is_chance f_are_fractions f_are_chances f_is_prior f_reduced f_added f_multiplied f_common_bottom f_times_whole f_total f_total_weights f_is_paying f_is_asking f_is_table f_is_test f_check_test f_paid_for f_paid_at f_paid f_is_word f_is_answer f_is_ascending f_check_tree f_check_node f_check_question f_answers_in f_House_init f_House_eq f_law_bag f_law_pick f_law_some f_law_common f_law_low f_law_plus f_law_times f_law_shares f_law_question f_law_node f_law_tree f_law_paths f_law_is f_law_with_hopeless f_law_reweighted f_law_house f_law_table f_law_test f_law_numbers f_law_paid f_law : Addr} (X : K.In h) (G : h.Ns mainGlobals mg) (hfa : mg "law" = some (.ref fa))
    {odO od_is_integral an_is_integral od_is_number an_is_number od_is_fraction an_is_fraction od_is_chance an_is_chance od_are_fractions an_are_fractions od_are_chances an_are_chances od_is_prior an_is_prior od_reduced an_reduced od_added an_added od_multiplied an_multiplied od_common_bottom an_common_bottom od_times_whole an_times_whole od_total an_total od_total_weights an_total_weights od_is_paying an_is_paying od_is_asking an_is_asking od_is_table an_is_table od_is_test an_is_test od_check_test an_check_test od_paid_for an_paid_for od_paid_at an_paid_at od_paid an_paid od_is_word an_is_word od_is_answer an_is_answer od_is_ascending an_is_ascending od_check_tree an_check_tree od_check_node an_check_node od_check_question an_check_question od_answers_in an_answers_in od_House_init an_House_init od_House_eq an_House_eq od_law_bag an_law_bag od_law_pick an_law_pick od_law_some an_law_some od_law_common an_law_common od_law_low an_law_low od_law_plus an_law_plus od_law_times an_law_times od_law_shares an_law_shares od_law_question an_law_question od_law_node an_law_node od_law_tree an_law_tree od_law_paths an_law_paths od_law_is an_law_is od_law_with_hopeless an_law_with_hopeless od_law_reweighted an_law_reweighted od_law_house an_law_house od_law_table an_law_table od_law_test an_law_test od_law_numbers an_law_numbers od_law_paid an_law_paid od_law an_law : Option Addr} {slO sl_is_integral sl_is_number sl_is_fraction sl_is_chance sl_are_fractions sl_are_chances sl_is_prior sl_reduced sl_added sl_multiplied sl_common_bottom sl_times_whole sl_total sl_total_weights sl_is_paying sl_is_asking sl_is_table sl_is_test sl_check_test sl_paid_for sl_paid_at sl_paid sl_is_word sl_is_answer sl_is_ascending sl_check_tree sl_check_node sl_check_question sl_answers_in sl_House_init sl_House_eq sl_law_bag sl_law_pick sl_law_some sl_law_common sl_law_low sl_law_plus sl_law_times sl_law_shares sl_law_question sl_law_node sl_law_tree sl_law_paths sl_law_is sl_law_with_hopeless sl_law_reweighted sl_law_house sl_law_table sl_law_test sl_law_numbers sl_law_paid sl_law : Array (Option Value)} {oc_is_integral kV_is_integral dc_is_integral pm_is_integral cd_is_integral ct_is_integral oc_is_number kV_is_number dc_is_number pm_is_number cd_is_number ct_is_number oc_is_fraction kV_is_fraction dc_is_fraction pm_is_fraction cd_is_fraction ct_is_fraction oc_is_chance kV_is_chance dc_is_chance pm_is_chance cd_is_chance ct_is_chance oc_are_fractions kV_are_fractions dc_are_fractions pm_are_fractions cd_are_fractions ct_are_fractions oc_are_chances kV_are_chances dc_are_chances pm_are_chances cd_are_chances ct_are_chances oc_is_prior kV_is_prior dc_is_prior pm_is_prior cd_is_prior ct_is_prior oc_reduced kV_reduced dc_reduced pm_reduced cd_reduced ct_reduced oc_added kV_added dc_added pm_added cd_added ct_added oc_multiplied kV_multiplied dc_multiplied pm_multiplied cd_multiplied ct_multiplied oc_common_bottom kV_common_bottom dc_common_bottom pm_common_bottom cd_common_bottom ct_common_bottom oc_times_whole kV_times_whole dc_times_whole pm_times_whole cd_times_whole ct_times_whole oc_total kV_total dc_total pm_total cd_total ct_total oc_total_weights kV_total_weights dc_total_weights pm_total_weights cd_total_weights ct_total_weights oc_is_paying kV_is_paying dc_is_paying pm_is_paying cd_is_paying ct_is_paying oc_is_asking kV_is_asking dc_is_asking pm_is_asking cd_is_asking ct_is_asking oc_is_table kV_is_table dc_is_table pm_is_table cd_is_table ct_is_table oc_is_test kV_is_test dc_is_test pm_is_test cd_is_test ct_is_test oc_check_test kV_check_test dc_check_test pm_check_test cd_check_test ct_check_test oc_paid_for kV_paid_for dc_paid_for pm_paid_for cd_paid_for ct_paid_for oc_paid_at kV_paid_at dc_paid_at pm_paid_at cd_paid_at ct_paid_at oc_paid kV_paid dc_paid pm_paid cd_paid ct_paid oc_is_word kV_is_word dc_is_word pm_is_word cd_is_word ct_is_word oc_is_answer kV_is_answer dc_is_answer pm_is_answer cd_is_answer ct_is_answer oc_is_ascending kV_is_ascending dc_is_ascending pm_is_ascending cd_is_ascending ct_is_ascending oc_check_tree kV_check_tree dc_check_tree pm_check_tree cd_check_tree ct_check_tree oc_check_node kV_check_node dc_check_node pm_check_node cd_check_node ct_check_node oc_check_question kV_check_question dc_check_question pm_check_question cd_check_question ct_check_question oc_answers_in kV_answers_in dc_answers_in pm_answers_in cd_answers_in ct_answers_in oc_House_init kV_House_init dc_House_init pm_House_init cd_House_init ct_House_init oc_House_eq kV_House_eq dc_House_eq pm_House_eq cd_House_eq ct_House_eq oc_law_bag kV_law_bag dc_law_bag pm_law_bag cd_law_bag ct_law_bag oc_law_pick kV_law_pick dc_law_pick pm_law_pick cd_law_pick ct_law_pick oc_law_some kV_law_some dc_law_some pm_law_some cd_law_some ct_law_some oc_law_common kV_law_common dc_law_common pm_law_common cd_law_common ct_law_common oc_law_low kV_law_low dc_law_low pm_law_low cd_law_low ct_law_low oc_law_plus kV_law_plus dc_law_plus pm_law_plus cd_law_plus ct_law_plus oc_law_times kV_law_times dc_law_times pm_law_times cd_law_times ct_law_times oc_law_shares kV_law_shares dc_law_shares pm_law_shares cd_law_shares ct_law_shares oc_law_question kV_law_question dc_law_question pm_law_question cd_law_question ct_law_question oc_law_node kV_law_node dc_law_node pm_law_node cd_law_node ct_law_node oc_law_tree kV_law_tree dc_law_tree pm_law_tree cd_law_tree ct_law_tree oc_law_paths kV_law_paths dc_law_paths pm_law_paths cd_law_paths ct_law_paths oc_law_is kV_law_is dc_law_is pm_law_is cd_law_is ct_law_is oc_law_with_hopeless kV_law_with_hopeless dc_law_with_hopeless pm_law_with_hopeless cd_law_with_hopeless ct_law_with_hopeless oc_law_reweighted kV_law_reweighted dc_law_reweighted pm_law_reweighted cd_law_reweighted ct_law_reweighted oc_law_house kV_law_house dc_law_house pm_law_house cd_law_house ct_law_house oc_law_table kV_law_table dc_law_table pm_law_table cd_law_table ct_law_table oc_law_test kV_law_test dc_law_test pm_law_test cd_law_test ct_law_test oc_law_numbers kV_law_numbers dc_law_numbers pm_law_numbers cd_law_numbers ct_law_numbers oc_law_paid kV_law_paid dc_law_paid pm_law_paid cd_law_paid ct_law_paid oc_law kV_law dc_law pm_law cd_law ct_law : Value} {tO1 tO2 t1 t2 t3 t4 t5 : Tok} {nO : Nat}
    (aC : PySem.W.nsIn K mainGlobals "House" = some (some (.ref Cc)))
    (a_is_integral : PySem.W.nsIn K mainGlobals "is_integral" = some (some (.ref f_is_integral)))
    (l_is_integral : K.lookup f_is_integral = some ⟨oc_is_integral, od_is_integral, .func (PySem.W.fnOf "is_integral" "is_integral" (defArgs s_is_integral) (defBody s_is_integral) (defScope s_is_integral) .none kV_is_integral dc_is_integral pm_is_integral an_is_integral cd_is_integral ct_is_integral), sl_is_integral⟩)
    (c_is_integral : PySem.W.codeIn K cd_is_integral "is_integral" = true)
    (k_is_integral : PySem.W.keepIn K (.ref f_is_integral) = true)
    (a_is_number : PySem.W.nsIn K mainGlobals "is_number" = some (some (.ref f_is_number)))
    (l_is_number : K.lookup f_is_number = some ⟨oc_is_number, od_is_number, .func (PySem.W.fnOf "is_number" "is_number" (defArgs s_is_number) (defBody s_is_number) (defScope s_is_number) .none kV_is_number dc_is_number pm_is_number an_is_number cd_is_number ct_is_number), sl_is_number⟩)
    (c_is_number : PySem.W.codeIn K cd_is_number "is_number" = true)
    (k_is_number : PySem.W.keepIn K (.ref f_is_number) = true)
    (a_is_fraction : PySem.W.nsIn K mainGlobals "is_fraction" = some (some (.ref f_is_fraction)))
    (l_is_fraction : K.lookup f_is_fraction = some ⟨oc_is_fraction, od_is_fraction, .func (PySem.W.fnOf "is_fraction" "is_fraction" (defArgs s_is_fraction) (defBody s_is_fraction) (defScope s_is_fraction) .none kV_is_fraction dc_is_fraction pm_is_fraction an_is_fraction cd_is_fraction ct_is_fraction), sl_is_fraction⟩)
    (c_is_fraction : PySem.W.codeIn K cd_is_fraction "is_fraction" = true)
    (k_is_fraction : PySem.W.keepIn K (.ref f_is_fraction) = true)
    (a_is_chance : PySem.W.nsIn K mainGlobals "is_chance" = some (some (.ref f_is_chance)))
    (l_is_chance : K.lookup f_is_chance = some ⟨oc_is_chance, od_is_chance, .func (PySem.W.fnOf "is_chance" "is_chance" (defArgs s_is_chance) (defBody s_is_chance) (defScope s_is_chance) .none kV_is_chance dc_is_chance pm_is_chance an_is_chance cd_is_chance ct_is_chance), sl_is_chance⟩)
    (c_is_chance : PySem.W.codeIn K cd_is_chance "is_chance" = true)
    (k_is_chance : PySem.W.keepIn K (.ref f_is_chance) = true)
    (a_are_fractions : PySem.W.nsIn K mainGlobals "are_fractions" = some (some (.ref f_are_fractions)))
    (l_are_fractions : K.lookup f_are_fractions = some ⟨oc_are_fractions, od_are_fractions, .func (PySem.W.fnOf "are_fractions" "are_fractions" (defArgs s_are_fractions) (defBody s_are_fractions) (defScope s_are_fractions) .none kV_are_fractions dc_are_fractions pm_are_fractions an_are_fractions cd_are_fractions ct_are_fractions), sl_are_fractions⟩)
    (c_are_fractions : PySem.W.codeIn K cd_are_fractions "are_fractions" = true)
    (k_are_fractions : PySem.W.keepIn K (.ref f_are_fractions) = true)
    (a_are_chances : PySem.W.nsIn K mainGlobals "are_chances" = some (some (.ref f_are_chances)))
    (l_are_chances : K.lookup f_are_chances = some ⟨oc_are_chances, od_are_chances, .func (PySem.W.fnOf "are_chances" "are_chances" (defArgs s_are_chances) (defBody s_are_chances) (defScope s_are_chances) .none kV_are_chances dc_are_chances pm_are_chances an_are_chances cd_are_chances ct_are_chances), sl_are_chances⟩)
    (c_are_chances : PySem.W.codeIn K cd_are_chances "are_chances" = true)
    (k_are_chances : PySem.W.keepIn K (.ref f_are_chances) = true)
    (a_is_prior : PySem.W.nsIn K mainGlobals "is_prior" = some (some (.ref f_is_prior)))
    (l_is_prior : K.lookup f_is_prior = some ⟨oc_is_prior, od_is_prior, .func (PySem.W.fnOf "is_prior" "is_prior" (defArgs s_is_prior) (defBody s_is_prior) (defScope s_is_prior) .none kV_is_prior dc_is_prior pm_is_prior an_is_prior cd_is_prior ct_is_prior), sl_is_prior⟩)
    (c_is_prior : PySem.W.codeIn K cd_is_prior "is_prior" = true)
    (k_is_prior : PySem.W.keepIn K (.ref f_is_prior) = true)
    (a_reduced : PySem.W.nsIn K mainGlobals "reduced" = some (some (.ref f_reduced)))
    (l_reduced : K.lookup f_reduced = some ⟨oc_reduced, od_reduced, .func (PySem.W.fnOf "reduced" "reduced" (defArgs s_reduced) (defBody s_reduced) (defScope s_reduced) .none kV_reduced dc_reduced pm_reduced an_reduced cd_reduced ct_reduced), sl_reduced⟩)
    (c_reduced : PySem.W.codeIn K cd_reduced "reduced" = true)
    (k_reduced : PySem.W.keepIn K (.ref f_reduced) = true)
    (a_added : PySem.W.nsIn K mainGlobals "added" = some (some (.ref f_added)))
    (l_added : K.lookup f_added = some ⟨oc_added, od_added, .func (PySem.W.fnOf "added" "added" (defArgs s_added) (defBody s_added) (defScope s_added) .none kV_added dc_added pm_added an_added cd_added ct_added), sl_added⟩)
    (c_added : PySem.W.codeIn K cd_added "added" = true)
    (k_added : PySem.W.keepIn K (.ref f_added) = true)
    (a_multiplied : PySem.W.nsIn K mainGlobals "multiplied" = some (some (.ref f_multiplied)))
    (l_multiplied : K.lookup f_multiplied = some ⟨oc_multiplied, od_multiplied, .func (PySem.W.fnOf "multiplied" "multiplied" (defArgs s_multiplied) (defBody s_multiplied) (defScope s_multiplied) .none kV_multiplied dc_multiplied pm_multiplied an_multiplied cd_multiplied ct_multiplied), sl_multiplied⟩)
    (c_multiplied : PySem.W.codeIn K cd_multiplied "multiplied" = true)
    (k_multiplied : PySem.W.keepIn K (.ref f_multiplied) = true)
    (a_common_bottom : PySem.W.nsIn K mainGlobals "common_bottom" = some (some (.ref f_common_bottom)))
    (l_common_bottom : K.lookup f_common_bottom = some ⟨oc_common_bottom, od_common_bottom, .func (PySem.W.fnOf "common_bottom" "common_bottom" (defArgs s_common_bottom) (defBody s_common_bottom) (defScope s_common_bottom) .none kV_common_bottom dc_common_bottom pm_common_bottom an_common_bottom cd_common_bottom ct_common_bottom), sl_common_bottom⟩)
    (c_common_bottom : PySem.W.codeIn K cd_common_bottom "common_bottom" = true)
    (k_common_bottom : PySem.W.keepIn K (.ref f_common_bottom) = true)
    (a_times_whole : PySem.W.nsIn K mainGlobals "times_whole" = some (some (.ref f_times_whole)))
    (l_times_whole : K.lookup f_times_whole = some ⟨oc_times_whole, od_times_whole, .func (PySem.W.fnOf "times_whole" "times_whole" (defArgs s_times_whole) (defBody s_times_whole) (defScope s_times_whole) .none kV_times_whole dc_times_whole pm_times_whole an_times_whole cd_times_whole ct_times_whole), sl_times_whole⟩)
    (c_times_whole : PySem.W.codeIn K cd_times_whole "times_whole" = true)
    (k_times_whole : PySem.W.keepIn K (.ref f_times_whole) = true)
    (a_total : PySem.W.nsIn K mainGlobals "total" = some (some (.ref f_total)))
    (l_total : K.lookup f_total = some ⟨oc_total, od_total, .func (PySem.W.fnOf "total" "total" (defArgs s_total) (defBody s_total) (defScope s_total) .none kV_total dc_total pm_total an_total cd_total ct_total), sl_total⟩)
    (c_total : PySem.W.codeIn K cd_total "total" = true)
    (k_total : PySem.W.keepIn K (.ref f_total) = true)
    (a_total_weights : PySem.W.nsIn K mainGlobals "total_weights" = some (some (.ref f_total_weights)))
    (l_total_weights : K.lookup f_total_weights = some ⟨oc_total_weights, od_total_weights, .func (PySem.W.fnOf "total_weights" "total_weights" (defArgs s_total_weights) (defBody s_total_weights) (defScope s_total_weights) .none kV_total_weights dc_total_weights pm_total_weights an_total_weights cd_total_weights ct_total_weights), sl_total_weights⟩)
    (c_total_weights : PySem.W.codeIn K cd_total_weights "total_weights" = true)
    (k_total_weights : PySem.W.keepIn K (.ref f_total_weights) = true)
    (a_is_paying : PySem.W.nsIn K mainGlobals "is_paying" = some (some (.ref f_is_paying)))
    (l_is_paying : K.lookup f_is_paying = some ⟨oc_is_paying, od_is_paying, .func (PySem.W.fnOf "is_paying" "is_paying" (defArgs s_is_paying) (defBody s_is_paying) (defScope s_is_paying) .none kV_is_paying dc_is_paying pm_is_paying an_is_paying cd_is_paying ct_is_paying), sl_is_paying⟩)
    (c_is_paying : PySem.W.codeIn K cd_is_paying "is_paying" = true)
    (k_is_paying : PySem.W.keepIn K (.ref f_is_paying) = true)
    (a_is_asking : PySem.W.nsIn K mainGlobals "is_asking" = some (some (.ref f_is_asking)))
    (l_is_asking : K.lookup f_is_asking = some ⟨oc_is_asking, od_is_asking, .func (PySem.W.fnOf "is_asking" "is_asking" (defArgs s_is_asking) (defBody s_is_asking) (defScope s_is_asking) .none kV_is_asking dc_is_asking pm_is_asking an_is_asking cd_is_asking ct_is_asking), sl_is_asking⟩)
    (c_is_asking : PySem.W.codeIn K cd_is_asking "is_asking" = true)
    (k_is_asking : PySem.W.keepIn K (.ref f_is_asking) = true)
    (a_is_table : PySem.W.nsIn K mainGlobals "is_table" = some (some (.ref f_is_table)))
    (l_is_table : K.lookup f_is_table = some ⟨oc_is_table, od_is_table, .func (PySem.W.fnOf "is_table" "is_table" (defArgs s_is_table) (defBody s_is_table) (defScope s_is_table) .none kV_is_table dc_is_table pm_is_table an_is_table cd_is_table ct_is_table), sl_is_table⟩)
    (c_is_table : PySem.W.codeIn K cd_is_table "is_table" = true)
    (k_is_table : PySem.W.keepIn K (.ref f_is_table) = true)
    (a_is_test : PySem.W.nsIn K mainGlobals "is_test" = some (some (.ref f_is_test)))
    (l_is_test : K.lookup f_is_test = some ⟨oc_is_test, od_is_test, .func (PySem.W.fnOf "is_test" "is_test" (defArgs s_is_test) (defBody s_is_test) (defScope s_is_test) .none kV_is_test dc_is_test pm_is_test an_is_test cd_is_test ct_is_test), sl_is_test⟩)
    (c_is_test : PySem.W.codeIn K cd_is_test "is_test" = true)
    (k_is_test : PySem.W.keepIn K (.ref f_is_test) = true)
    (a_check_test : PySem.W.nsIn K mainGlobals "check_test" = some (some (.ref f_check_test)))
    (l_check_test : K.lookup f_check_test = some ⟨oc_check_test, od_check_test, .func (PySem.W.fnOf "check_test" "check_test" (defArgs s_check_test) (defBody s_check_test) (defScope s_check_test) .none kV_check_test dc_check_test pm_check_test an_check_test cd_check_test ct_check_test), sl_check_test⟩)
    (c_check_test : PySem.W.codeIn K cd_check_test "check_test" = true)
    (k_check_test : PySem.W.keepIn K (.ref f_check_test) = true)
    (a_paid_for : PySem.W.nsIn K mainGlobals "paid_for" = some (some (.ref f_paid_for)))
    (l_paid_for : K.lookup f_paid_for = some ⟨oc_paid_for, od_paid_for, .func (PySem.W.fnOf "paid_for" "paid_for" (defArgs s_paid_for) (defBody s_paid_for) (defScope s_paid_for) .none kV_paid_for dc_paid_for pm_paid_for an_paid_for cd_paid_for ct_paid_for), sl_paid_for⟩)
    (c_paid_for : PySem.W.codeIn K cd_paid_for "paid_for" = true)
    (k_paid_for : PySem.W.keepIn K (.ref f_paid_for) = true)
    (a_paid_at : PySem.W.nsIn K mainGlobals "paid_at" = some (some (.ref f_paid_at)))
    (l_paid_at : K.lookup f_paid_at = some ⟨oc_paid_at, od_paid_at, .func (PySem.W.fnOf "paid_at" "paid_at" (defArgs s_paid_at) (defBody s_paid_at) (defScope s_paid_at) .none kV_paid_at dc_paid_at pm_paid_at an_paid_at cd_paid_at ct_paid_at), sl_paid_at⟩)
    (c_paid_at : PySem.W.codeIn K cd_paid_at "paid_at" = true)
    (k_paid_at : PySem.W.keepIn K (.ref f_paid_at) = true)
    (a_paid : PySem.W.nsIn K mainGlobals "paid" = some (some (.ref f_paid)))
    (l_paid : K.lookup f_paid = some ⟨oc_paid, od_paid, .func (PySem.W.fnOf "paid" "paid" (defArgs s_paid) (defBody s_paid) (defScope s_paid) .none kV_paid dc_paid pm_paid an_paid cd_paid ct_paid), sl_paid⟩)
    (c_paid : PySem.W.codeIn K cd_paid "paid" = true)
    (k_paid : PySem.W.keepIn K (.ref f_paid) = true)
    (a_is_word : PySem.W.nsIn K mainGlobals "is_word" = some (some (.ref f_is_word)))
    (l_is_word : K.lookup f_is_word = some ⟨oc_is_word, od_is_word, .func (PySem.W.fnOf "is_word" "is_word" (defArgs s_is_word) (defBody s_is_word) (defScope s_is_word) .none kV_is_word dc_is_word pm_is_word an_is_word cd_is_word ct_is_word), sl_is_word⟩)
    (c_is_word : PySem.W.codeIn K cd_is_word "is_word" = true)
    (k_is_word : PySem.W.keepIn K (.ref f_is_word) = true)
    (a_is_answer : PySem.W.nsIn K mainGlobals "is_answer" = some (some (.ref f_is_answer)))
    (l_is_answer : K.lookup f_is_answer = some ⟨oc_is_answer, od_is_answer, .func (PySem.W.fnOf "is_answer" "is_answer" (defArgs s_is_answer) (defBody s_is_answer) (defScope s_is_answer) .none kV_is_answer dc_is_answer pm_is_answer an_is_answer cd_is_answer ct_is_answer), sl_is_answer⟩)
    (c_is_answer : PySem.W.codeIn K cd_is_answer "is_answer" = true)
    (k_is_answer : PySem.W.keepIn K (.ref f_is_answer) = true)
    (a_is_ascending : PySem.W.nsIn K mainGlobals "is_ascending" = some (some (.ref f_is_ascending)))
    (l_is_ascending : K.lookup f_is_ascending = some ⟨oc_is_ascending, od_is_ascending, .func (PySem.W.fnOf "is_ascending" "is_ascending" (defArgs s_is_ascending) (defBody s_is_ascending) (defScope s_is_ascending) .none kV_is_ascending dc_is_ascending pm_is_ascending an_is_ascending cd_is_ascending ct_is_ascending), sl_is_ascending⟩)
    (c_is_ascending : PySem.W.codeIn K cd_is_ascending "is_ascending" = true)
    (k_is_ascending : PySem.W.keepIn K (.ref f_is_ascending) = true)
    (a_check_tree : PySem.W.nsIn K mainGlobals "check_tree" = some (some (.ref f_check_tree)))
    (l_check_tree : K.lookup f_check_tree = some ⟨oc_check_tree, od_check_tree, .func (PySem.W.fnOf "check_tree" "check_tree" (defArgs s_check_tree) (defBody s_check_tree) (defScope s_check_tree) .none kV_check_tree dc_check_tree pm_check_tree an_check_tree cd_check_tree ct_check_tree), sl_check_tree⟩)
    (c_check_tree : PySem.W.codeIn K cd_check_tree "check_tree" = true)
    (k_check_tree : PySem.W.keepIn K (.ref f_check_tree) = true)
    (a_check_node : PySem.W.nsIn K mainGlobals "check_node" = some (some (.ref f_check_node)))
    (l_check_node : K.lookup f_check_node = some ⟨oc_check_node, od_check_node, .func (PySem.W.fnOf "check_node" "check_node" (defArgs s_check_node) (defBody s_check_node) (defScope s_check_node) .none kV_check_node dc_check_node pm_check_node an_check_node cd_check_node ct_check_node), sl_check_node⟩)
    (c_check_node : PySem.W.codeIn K cd_check_node "check_node" = true)
    (k_check_node : PySem.W.keepIn K (.ref f_check_node) = true)
    (a_check_question : PySem.W.nsIn K mainGlobals "check_question" = some (some (.ref f_check_question)))
    (l_check_question : K.lookup f_check_question = some ⟨oc_check_question, od_check_question, .func (PySem.W.fnOf "check_question" "check_question" (defArgs s_check_question) (defBody s_check_question) (defScope s_check_question) .none kV_check_question dc_check_question pm_check_question an_check_question cd_check_question ct_check_question), sl_check_question⟩)
    (c_check_question : PySem.W.codeIn K cd_check_question "check_question" = true)
    (k_check_question : PySem.W.keepIn K (.ref f_check_question) = true)
    (a_answers_in : PySem.W.nsIn K mainGlobals "answers_in" = some (some (.ref f_answers_in)))
    (l_answers_in : K.lookup f_answers_in = some ⟨oc_answers_in, od_answers_in, .func (PySem.W.fnOf "answers_in" "answers_in" (defArgs s_answers_in) (defBody s_answers_in) (defScope s_answers_in) .none kV_answers_in dc_answers_in pm_answers_in an_answers_in cd_answers_in ct_answers_in), sl_answers_in⟩)
    (c_answers_in : PySem.W.codeIn K cd_answers_in "answers_in" = true)
    (k_answers_in : PySem.W.keepIn K (.ref f_answers_in) = true)
    (a_House_init : PySem.W.findIn K (.ref Cc) "__init__" = some (some (.ref f_House_init)))
    (i_House_init : PySem.W.isFn K (.ref f_House_init) = true)
    (l_House_init : K.lookup f_House_init = some ⟨oc_House_init, od_House_init, .func (PySem.W.fnOf "__init__" "House.__init__" (defArgs s_House_init) (defBody s_House_init) (defScope s_House_init) .none kV_House_init dc_House_init pm_House_init an_House_init cd_House_init ct_House_init), sl_House_init⟩)
    (c_House_init : PySem.W.codeIn K cd_House_init "House.__init__" = true)
    (k_House_init : PySem.W.keepIn K (.ref f_House_init) = true)
    (a_House_eq : PySem.W.findIn K (.ref Cc) "__eq__" = some (some (.ref f_House_eq)))
    (i_House_eq : PySem.W.isFn K (.ref f_House_eq) = true)
    (l_House_eq : K.lookup f_House_eq = some ⟨oc_House_eq, od_House_eq, .func (PySem.W.fnOf "__eq__" "House.__eq__" (defArgs s_House_eq) (defBody s_House_eq) (defScope s_House_eq) .none kV_House_eq dc_House_eq pm_House_eq an_House_eq cd_House_eq ct_House_eq), sl_House_eq⟩)
    (c_House_eq : PySem.W.codeIn K cd_House_eq "House.__eq__" = true)
    (k_House_eq : PySem.W.keepIn K (.ref f_House_eq) = true)
    (a_law_bag : PySem.W.nsIn K mainGlobals "_law_bag" = some (some (.ref f_law_bag)))
    (l_law_bag : K.lookup f_law_bag = some ⟨oc_law_bag, od_law_bag, .func (PySem.W.fnOf "_law_bag" "_law_bag" (defArgs s_law_bag) (defBody s_law_bag) (defScope s_law_bag) .none kV_law_bag dc_law_bag pm_law_bag an_law_bag cd_law_bag ct_law_bag), sl_law_bag⟩)
    (c_law_bag : PySem.W.codeIn K cd_law_bag "_law_bag" = true)
    (k_law_bag : PySem.W.keepIn K (.ref f_law_bag) = true)
    (a_law_pick : PySem.W.nsIn K mainGlobals "_law_pick" = some (some (.ref f_law_pick)))
    (l_law_pick : K.lookup f_law_pick = some ⟨oc_law_pick, od_law_pick, .func (PySem.W.fnOf "_law_pick" "_law_pick" (defArgs s_law_pick) (defBody s_law_pick) (defScope s_law_pick) .none kV_law_pick dc_law_pick pm_law_pick an_law_pick cd_law_pick ct_law_pick), sl_law_pick⟩)
    (c_law_pick : PySem.W.codeIn K cd_law_pick "_law_pick" = true)
    (k_law_pick : PySem.W.keepIn K (.ref f_law_pick) = true)
    (a_law_some : PySem.W.nsIn K mainGlobals "_law_some" = some (some (.ref f_law_some)))
    (l_law_some : K.lookup f_law_some = some ⟨oc_law_some, od_law_some, .func (PySem.W.fnOf "_law_some" "_law_some" (defArgs s_law_some) (defBody s_law_some) (defScope s_law_some) .none kV_law_some dc_law_some pm_law_some an_law_some cd_law_some ct_law_some), sl_law_some⟩)
    (c_law_some : PySem.W.codeIn K cd_law_some "_law_some" = true)
    (k_law_some : PySem.W.keepIn K (.ref f_law_some) = true)
    (a_law_common : PySem.W.nsIn K mainGlobals "_law_common" = some (some (.ref f_law_common)))
    (l_law_common : K.lookup f_law_common = some ⟨oc_law_common, od_law_common, .func (PySem.W.fnOf "_law_common" "_law_common" (defArgs s_law_common) (defBody s_law_common) (defScope s_law_common) .none kV_law_common dc_law_common pm_law_common an_law_common cd_law_common ct_law_common), sl_law_common⟩)
    (c_law_common : PySem.W.codeIn K cd_law_common "_law_common" = true)
    (k_law_common : PySem.W.keepIn K (.ref f_law_common) = true)
    (a_law_low : PySem.W.nsIn K mainGlobals "_law_low" = some (some (.ref f_law_low)))
    (l_law_low : K.lookup f_law_low = some ⟨oc_law_low, od_law_low, .func (PySem.W.fnOf "_law_low" "_law_low" (defArgs s_law_low) (defBody s_law_low) (defScope s_law_low) .none kV_law_low dc_law_low pm_law_low an_law_low cd_law_low ct_law_low), sl_law_low⟩)
    (c_law_low : PySem.W.codeIn K cd_law_low "_law_low" = true)
    (k_law_low : PySem.W.keepIn K (.ref f_law_low) = true)
    (a_law_plus : PySem.W.nsIn K mainGlobals "_law_plus" = some (some (.ref f_law_plus)))
    (l_law_plus : K.lookup f_law_plus = some ⟨oc_law_plus, od_law_plus, .func (PySem.W.fnOf "_law_plus" "_law_plus" (defArgs s_law_plus) (defBody s_law_plus) (defScope s_law_plus) .none kV_law_plus dc_law_plus pm_law_plus an_law_plus cd_law_plus ct_law_plus), sl_law_plus⟩)
    (c_law_plus : PySem.W.codeIn K cd_law_plus "_law_plus" = true)
    (k_law_plus : PySem.W.keepIn K (.ref f_law_plus) = true)
    (a_law_times : PySem.W.nsIn K mainGlobals "_law_times" = some (some (.ref f_law_times)))
    (l_law_times : K.lookup f_law_times = some ⟨oc_law_times, od_law_times, .func (PySem.W.fnOf "_law_times" "_law_times" (defArgs s_law_times) (defBody s_law_times) (defScope s_law_times) .none kV_law_times dc_law_times pm_law_times an_law_times cd_law_times ct_law_times), sl_law_times⟩)
    (c_law_times : PySem.W.codeIn K cd_law_times "_law_times" = true)
    (k_law_times : PySem.W.keepIn K (.ref f_law_times) = true)
    (a_law_shares : PySem.W.nsIn K mainGlobals "_law_shares" = some (some (.ref f_law_shares)))
    (l_law_shares : K.lookup f_law_shares = some ⟨oc_law_shares, od_law_shares, .func (PySem.W.fnOf "_law_shares" "_law_shares" (defArgs s_law_shares) (defBody s_law_shares) (defScope s_law_shares) .none kV_law_shares dc_law_shares pm_law_shares an_law_shares cd_law_shares ct_law_shares), sl_law_shares⟩)
    (c_law_shares : PySem.W.codeIn K cd_law_shares "_law_shares" = true)
    (k_law_shares : PySem.W.keepIn K (.ref f_law_shares) = true)
    (a_law_question : PySem.W.nsIn K mainGlobals "_law_question" = some (some (.ref f_law_question)))
    (l_law_question : K.lookup f_law_question = some ⟨oc_law_question, od_law_question, .func (PySem.W.fnOf "_law_question" "_law_question" (defArgs s_law_question) (defBody s_law_question) (defScope s_law_question) .none kV_law_question dc_law_question pm_law_question an_law_question cd_law_question ct_law_question), sl_law_question⟩)
    (c_law_question : PySem.W.codeIn K cd_law_question "_law_question" = true)
    (k_law_question : PySem.W.keepIn K (.ref f_law_question) = true)
    (a_law_node : PySem.W.nsIn K mainGlobals "_law_node" = some (some (.ref f_law_node)))
    (l_law_node : K.lookup f_law_node = some ⟨oc_law_node, od_law_node, .func (PySem.W.fnOf "_law_node" "_law_node" (defArgs s_law_node) (defBody s_law_node) (defScope s_law_node) .none kV_law_node dc_law_node pm_law_node an_law_node cd_law_node ct_law_node), sl_law_node⟩)
    (c_law_node : PySem.W.codeIn K cd_law_node "_law_node" = true)
    (k_law_node : PySem.W.keepIn K (.ref f_law_node) = true)
    (a_law_tree : PySem.W.nsIn K mainGlobals "_law_tree" = some (some (.ref f_law_tree)))
    (l_law_tree : K.lookup f_law_tree = some ⟨oc_law_tree, od_law_tree, .func (PySem.W.fnOf "_law_tree" "_law_tree" (defArgs s_law_tree) (defBody s_law_tree) (defScope s_law_tree) .none kV_law_tree dc_law_tree pm_law_tree an_law_tree cd_law_tree ct_law_tree), sl_law_tree⟩)
    (c_law_tree : PySem.W.codeIn K cd_law_tree "_law_tree" = true)
    (k_law_tree : PySem.W.keepIn K (.ref f_law_tree) = true)
    (a_law_paths : PySem.W.nsIn K mainGlobals "_law_paths" = some (some (.ref f_law_paths)))
    (l_law_paths : K.lookup f_law_paths = some ⟨oc_law_paths, od_law_paths, .func (PySem.W.fnOf "_law_paths" "_law_paths" (defArgs s_law_paths) (defBody s_law_paths) (defScope s_law_paths) .none kV_law_paths dc_law_paths pm_law_paths an_law_paths cd_law_paths ct_law_paths), sl_law_paths⟩)
    (c_law_paths : PySem.W.codeIn K cd_law_paths "_law_paths" = true)
    (k_law_paths : PySem.W.keepIn K (.ref f_law_paths) = true)
    (a_law_is : PySem.W.nsIn K mainGlobals "_law_is" = some (some (.ref f_law_is)))
    (l_law_is : K.lookup f_law_is = some ⟨oc_law_is, od_law_is, .func (PySem.W.fnOf "_law_is" "_law_is" (defArgs s_law_is) (defBody s_law_is) (defScope s_law_is) .none kV_law_is dc_law_is pm_law_is an_law_is cd_law_is ct_law_is), sl_law_is⟩)
    (c_law_is : PySem.W.codeIn K cd_law_is "_law_is" = true)
    (k_law_is : PySem.W.keepIn K (.ref f_law_is) = true)
    (a_law_with_hopeless : PySem.W.nsIn K mainGlobals "_law_with_hopeless" = some (some (.ref f_law_with_hopeless)))
    (l_law_with_hopeless : K.lookup f_law_with_hopeless = some ⟨oc_law_with_hopeless, od_law_with_hopeless, .func (PySem.W.fnOf "_law_with_hopeless" "_law_with_hopeless" (defArgs s_law_with_hopeless) (defBody s_law_with_hopeless) (defScope s_law_with_hopeless) .none kV_law_with_hopeless dc_law_with_hopeless pm_law_with_hopeless an_law_with_hopeless cd_law_with_hopeless ct_law_with_hopeless), sl_law_with_hopeless⟩)
    (c_law_with_hopeless : PySem.W.codeIn K cd_law_with_hopeless "_law_with_hopeless" = true)
    (k_law_with_hopeless : PySem.W.keepIn K (.ref f_law_with_hopeless) = true)
    (a_law_reweighted : PySem.W.nsIn K mainGlobals "_law_reweighted" = some (some (.ref f_law_reweighted)))
    (l_law_reweighted : K.lookup f_law_reweighted = some ⟨oc_law_reweighted, od_law_reweighted, .func (PySem.W.fnOf "_law_reweighted" "_law_reweighted" (defArgs s_law_reweighted) (defBody s_law_reweighted) (defScope s_law_reweighted) .none kV_law_reweighted dc_law_reweighted pm_law_reweighted an_law_reweighted cd_law_reweighted ct_law_reweighted), sl_law_reweighted⟩)
    (c_law_reweighted : PySem.W.codeIn K cd_law_reweighted "_law_reweighted" = true)
    (k_law_reweighted : PySem.W.keepIn K (.ref f_law_reweighted) = true)
    (a_law_house : PySem.W.nsIn K mainGlobals "_law_house" = some (some (.ref f_law_house)))
    (l_law_house : K.lookup f_law_house = some ⟨oc_law_house, od_law_house, .func (PySem.W.fnOf "_law_house" "_law_house" (defArgs s_law_house) (defBody s_law_house) (defScope s_law_house) .none kV_law_house dc_law_house pm_law_house an_law_house cd_law_house ct_law_house), sl_law_house⟩)
    (c_law_house : PySem.W.codeIn K cd_law_house "_law_house" = true)
    (k_law_house : PySem.W.keepIn K (.ref f_law_house) = true)
    (a_law_table : PySem.W.nsIn K mainGlobals "_law_table" = some (some (.ref f_law_table)))
    (l_law_table : K.lookup f_law_table = some ⟨oc_law_table, od_law_table, .func (PySem.W.fnOf "_law_table" "_law_table" (defArgs s_law_table) (defBody s_law_table) (defScope s_law_table) .none kV_law_table dc_law_table pm_law_table an_law_table cd_law_table ct_law_table), sl_law_table⟩)
    (c_law_table : PySem.W.codeIn K cd_law_table "_law_table" = true)
    (k_law_table : PySem.W.keepIn K (.ref f_law_table) = true)
    (a_law_test : PySem.W.nsIn K mainGlobals "_law_test" = some (some (.ref f_law_test)))
    (l_law_test : K.lookup f_law_test = some ⟨oc_law_test, od_law_test, .func (PySem.W.fnOf "_law_test" "_law_test" (defArgs s_law_test) (defBody s_law_test) (defScope s_law_test) .none kV_law_test dc_law_test pm_law_test an_law_test cd_law_test ct_law_test), sl_law_test⟩)
    (c_law_test : PySem.W.codeIn K cd_law_test "_law_test" = true)
    (k_law_test : PySem.W.keepIn K (.ref f_law_test) = true)
    (a_law_numbers : PySem.W.nsIn K mainGlobals "_law_numbers" = some (some (.ref f_law_numbers)))
    (l_law_numbers : K.lookup f_law_numbers = some ⟨oc_law_numbers, od_law_numbers, .func (PySem.W.fnOf "_law_numbers" "_law_numbers" (defArgs s_law_numbers) (defBody s_law_numbers) (defScope s_law_numbers) .none kV_law_numbers dc_law_numbers pm_law_numbers an_law_numbers cd_law_numbers ct_law_numbers), sl_law_numbers⟩)
    (c_law_numbers : PySem.W.codeIn K cd_law_numbers "_law_numbers" = true)
    (k_law_numbers : PySem.W.keepIn K (.ref f_law_numbers) = true)
    (a_law_paid : PySem.W.nsIn K mainGlobals "_law_paid" = some (some (.ref f_law_paid)))
    (l_law_paid : K.lookup f_law_paid = some ⟨oc_law_paid, od_law_paid, .func (PySem.W.fnOf "_law_paid" "_law_paid" (defArgs s_law_paid) (defBody s_law_paid) (defScope s_law_paid) .none kV_law_paid dc_law_paid pm_law_paid an_law_paid cd_law_paid ct_law_paid), sl_law_paid⟩)
    (c_law_paid : PySem.W.codeIn K cd_law_paid "_law_paid" = true)
    (k_law_paid : PySem.W.keepIn K (.ref f_law_paid) = true)
    (a_law : PySem.W.nsIn K mainGlobals "law" = some (some (.ref f_law)))
    (l_law : K.lookup f_law = some ⟨oc_law, od_law, .func (PySem.W.fnOf "law" "law" (defArgs s_law) (defBody s_law) (defScope s_law) .none kV_law dc_law pm_law an_law cd_law ct_law), sl_law⟩)
    (c_law : PySem.W.codeIn K cd_law "law" = true)
    (k_law : PySem.W.keepIn K (.ref f_law) = true)
    (pgC : PySem.W.plainGet K Cc Str.empty = true)
    (hdC : PySem.W.hasDictIn K Cc = true)
    (poC : PySem.W.plainOver K Cc = true)
    (saC : PySem.W.findIn K (.ref Cc) "__setattr__" = some (some (.builtin "object.__setattr__")))
    (mkC : PySem.W.makesIn K Cc = true)
    (kcC : PySem.W.keepIn K (.ref Cc) = true)
    (nwC : PySem.W.findIn K (.ref Cc) "worlds" = some none)
    (ntC : PySem.W.findIn K (.ref Cc) "tree" = some none)
    (haC : PySem.W.findIn K (.ref Cc) "__class__" = some (some (.builtin "object.__class__")))
    (hnC : PySem.W.specialIn K (.builtin "object.__class__") "__get__" = some (some (.builtin "getset_descriptor.__get__")))
    (htC : PySem.W.takesIn K (.builtin "object.__class__") = some true)
    (hmC : PySem.W.mroIn K Cc (.type "object") = some true)
    (gcd : PySem.W.nsIn K mainGlobals "gcd" = some (some (.builtin "math.gcd")))
    (lcm : PySem.W.nsIn K mainGlobals "lcm" = some (some (.builtin "math.lcm")))
    (aO0 : PySem.W.nsIn K mainGlobals "ONE" = some (some (.ref aO)))
    (lO : K.lookup aO = some ⟨.type "tuple", odO, .seq #[.int 1 tO1, .int 1 tO2] nO, slO⟩)
    (m_MOST_QUESTIONS : PySem.W.nsIn K mainGlobals "MOST_QUESTIONS" = some (some (.int 5 t1)))
    (m_MOST_WORDS : PySem.W.nsIn K mainGlobals "MOST_WORDS" = some (some (.int 12 t2)))
    (m_MOST_NUMBERS : PySem.W.nsIn K mainGlobals "MOST_NUMBERS" = some (some (.int 8 t3)))
    (m_MOST_ON_A_WAY : PySem.W.nsIn K mainGlobals "MOST_ON_A_WAY" = some (some (.int 8 t4)))
    (m_MOST_PASSED : PySem.W.nsIn K mainGlobals "MOST_PASSED" = some (some (.int 1500 t5)))
    (z_len : PySem.W.nsIn K mainGlobals "len" = some none)
    (z_int : PySem.W.nsIn K mainGlobals "int" = some none)
    (z_abs : PySem.W.nsIn K mainGlobals "abs" = some none)
    (z_sum : PySem.W.nsIn K mainGlobals "sum" = some none)
    (z_range : PySem.W.nsIn K mainGlobals "range" = some none)
    (z_repr : PySem.W.nsIn K mainGlobals "repr" = some none)
    (z_isinstance : PySem.W.nsIn K mainGlobals "isinstance" = some none)
    (z_any : PySem.W.nsIn K mainGlobals "any" = some none)
    (z_all : PySem.W.nsIn K mainGlobals "all" = some none)
    (z_tuple : PySem.W.nsIn K mainGlobals "tuple" = some none)
    (z_list : PySem.W.nsIn K mainGlobals "list" = some none)
    (z_zip : PySem.W.nsIn K mainGlobals "zip" = some none)
    (z_enumerate : PySem.W.nsIn K mainGlobals "enumerate" = some none)
    (z_max : PySem.W.nsIn K mainGlobals "max" = some none)
    (z_bool : PySem.W.nsIn K mainGlobals "bool" = some none) :
    ∃ fd : FuncData, (∀ (s : Shared) (v : Value), BindsTo s fd ⟨[v], []⟩ [("script", v)]) ∧ ∀ base : Heap, K.In base → base.Ns mainGlobals mg → FnG l.prog w K mg base CX0 32 fa fd ["script"] (spTrue K) := by
  have e := hfa.symm.trans (PySem.W.mg_of X G a_law)
  cases e
  have B : Blt mg := ⟨PySem.W.mg_none_of X G z_len, PySem.W.mg_none_of X G z_int, PySem.W.mg_none_of X G z_abs, PySem.W.mg_none_of X G z_sum, PySem.W.mg_none_of X G z_range, PySem.W.mg_none_of X G z_repr, PySem.W.mg_none_of X G z_isinstance, PySem.W.mg_none_of X G z_any, PySem.W.mg_none_of X G z_all, PySem.W.mg_none_of X G z_tuple, PySem.W.mg_none_of X G z_list, PySem.W.mg_none_of X G z_zip, PySem.W.mg_none_of X G z_enumerate, PySem.W.mg_none_of X G z_max, PySem.W.mg_none_of X G z_bool⟩
  have tO : ∀ H : Hp, SqT K H aO [.int 1, .int 1] := fun H => .inr ⟨_, #[.int 1 tO1, .int 1 tO2], nO, lO, rfl, rfl, by show 2 ≤ sizeLine; decide, .cons ⟨tO1, rfl⟩ (.cons ⟨tO2, rfl⟩ .nil)⟩
  have C : Cst K mg aO aO t1 t2 t3 t4 t5 tO1 tO1 := ⟨PySem.W.mg_of X G gcd, PySem.W.mg_of X G lcm, PySem.W.mg_of X G aO0, tO, PySem.W.mg_of X G m_MOST_QUESTIONS, PySem.W.mg_of X G m_MOST_WORDS, PySem.W.mg_of X G m_MOST_NUMBERS, PySem.W.mg_of X G m_MOST_ON_A_WAY, PySem.W.mg_of X G m_MOST_PASSED⟩
  have U : Hcl K mg Cc f_House_init f_House_eq := ⟨⟨pgC, hdC, poC, saC⟩, nwC, ntC, ⟨mkC, a_House_init, i_House_init, kcC⟩, a_House_eq, i_House_eq, PySem.W.mg_of X G aC, haC, hnC, htC, hmC⟩
  have F_is_integral := fun_mk (st := s_is_integral) l_is_integral c_is_integral k_is_integral
  have D_is_integral : Dn K mg "is_integral" s_is_integral ["thing"] f_is_integral _ := ⟨F_is_integral, F_is_integral.binds (ps := ["thing"]) fun _ _ _ _ _ _ us hl => match us, hl with | [_], _ => rfl, PySem.W.mg_of X G a_is_integral⟩
  have F_is_number := fun_mk (st := s_is_number) l_is_number c_is_number k_is_number
  have D_is_number : Dn K mg "is_number" s_is_number ["thing", "least", "most"] f_is_number _ := ⟨F_is_number, F_is_number.binds (ps := ["thing", "least", "most"]) fun _ _ _ _ _ _ us hl => match us, hl with | [_, _, _], _ => rfl, PySem.W.mg_of X G a_is_number⟩
  have F_is_fraction := fun_mk (st := s_is_fraction) l_is_fraction c_is_fraction k_is_fraction
  have D_is_fraction : Dn K mg "is_fraction" s_is_fraction ["thing"] f_is_fraction _ := ⟨F_is_fraction, F_is_fraction.binds (ps := ["thing"]) fun _ _ _ _ _ _ us hl => match us, hl with | [_], _ => rfl, PySem.W.mg_of X G a_is_fraction⟩
  have F_is_chance := fun_mk (st := s_is_chance) l_is_chance c_is_chance k_is_chance
  have D_is_chance : Dn K mg "is_chance" s_is_chance ["thing"] f_is_chance _ := ⟨F_is_chance, F_is_chance.binds (ps := ["thing"]) fun _ _ _ _ _ _ us hl => match us, hl with | [_], _ => rfl, PySem.W.mg_of X G a_is_chance⟩
  have F_are_fractions := fun_mk (st := s_are_fractions) l_are_fractions c_are_fractions k_are_fractions
  have D_are_fractions : Dn K mg "are_fractions" s_are_fractions ["thing", "many"] f_are_fractions _ := ⟨F_are_fractions, F_are_fractions.binds (ps := ["thing", "many"]) fun _ _ _ _ _ _ us hl => match us, hl with | [_, _], _ => rfl, PySem.W.mg_of X G a_are_fractions⟩
  have F_are_chances := fun_mk (st := s_are_chances) l_are_chances c_are_chances k_are_chances
  have D_are_chances : Dn K mg "are_chances" s_are_chances ["thing", "many"] f_are_chances _ := ⟨F_are_chances, F_are_chances.binds (ps := ["thing", "many"]) fun _ _ _ _ _ _ us hl => match us, hl with | [_, _], _ => rfl, PySem.W.mg_of X G a_are_chances⟩
  have F_is_prior := fun_mk (st := s_is_prior) l_is_prior c_is_prior k_is_prior
  have D_is_prior : Dn K mg "is_prior" s_is_prior ["thing", "worlds"] f_is_prior _ := ⟨F_is_prior, F_is_prior.binds (ps := ["thing", "worlds"]) fun _ _ _ _ _ _ us hl => match us, hl with | [_, _], _ => rfl, PySem.W.mg_of X G a_is_prior⟩
  have F_reduced := fun_mk (st := s_reduced) l_reduced c_reduced k_reduced
  have D_reduced : Dn K mg "reduced" s_reduced ["top", "bottom"] f_reduced _ := ⟨F_reduced, F_reduced.binds (ps := ["top", "bottom"]) fun _ _ _ _ _ _ us hl => match us, hl with | [_, _], _ => rfl, PySem.W.mg_of X G a_reduced⟩
  have F_added := fun_mk (st := s_added) l_added c_added k_added
  have D_added : Dn K mg "added" s_added ["first", "second"] f_added _ := ⟨F_added, F_added.binds (ps := ["first", "second"]) fun _ _ _ _ _ _ us hl => match us, hl with | [_, _], _ => rfl, PySem.W.mg_of X G a_added⟩
  have F_multiplied := fun_mk (st := s_multiplied) l_multiplied c_multiplied k_multiplied
  have D_multiplied : Dn K mg "multiplied" s_multiplied ["first", "second"] f_multiplied _ := ⟨F_multiplied, F_multiplied.binds (ps := ["first", "second"]) fun _ _ _ _ _ _ us hl => match us, hl with | [_, _], _ => rfl, PySem.W.mg_of X G a_multiplied⟩
  have F_common_bottom := fun_mk (st := s_common_bottom) l_common_bottom c_common_bottom k_common_bottom
  have D_common_bottom : Dn K mg "common_bottom" s_common_bottom ["fractions"] f_common_bottom _ := ⟨F_common_bottom, F_common_bottom.binds (ps := ["fractions"]) fun _ _ _ _ _ _ us hl => match us, hl with | [_], _ => rfl, PySem.W.mg_of X G a_common_bottom⟩
  have F_times_whole := fun_mk (st := s_times_whole) l_times_whole c_times_whole k_times_whole
  have D_times_whole : Dn K mg "times_whole" s_times_whole ["fraction", "whole"] f_times_whole _ := ⟨F_times_whole, F_times_whole.binds (ps := ["fraction", "whole"]) fun _ _ _ _ _ _ us hl => match us, hl with | [_, _], _ => rfl, PySem.W.mg_of X G a_times_whole⟩
  have F_total := fun_mk (st := s_total) l_total c_total k_total
  have D_total : Dn K mg "total" s_total ["fractions"] f_total _ := ⟨F_total, F_total.binds (ps := ["fractions"]) fun _ _ _ _ _ _ us hl => match us, hl with | [_], _ => rfl, PySem.W.mg_of X G a_total⟩
  have F_total_weights := fun_mk (st := s_total_weights) l_total_weights c_total_weights k_total_weights
  have D_total_weights : Dn K mg "total_weights" s_total_weights ["rows", "worlds"] f_total_weights _ := ⟨F_total_weights, F_total_weights.binds (ps := ["rows", "worlds"]) fun _ _ _ _ _ _ us hl => match us, hl with | [_, _], _ => rfl, PySem.W.mg_of X G a_total_weights⟩
  have F_is_paying := fun_mk (st := s_is_paying) l_is_paying c_is_paying k_is_paying
  have D_is_paying : Dn K mg "is_paying" s_is_paying ["thing", "answer", "worlds"] f_is_paying _ := ⟨F_is_paying, F_is_paying.binds (ps := ["thing", "answer", "worlds"]) fun _ _ _ _ _ _ us hl => match us, hl with | [_, _, _], _ => rfl, PySem.W.mg_of X G a_is_paying⟩
  have F_is_asking := fun_mk (st := s_is_asking) l_is_asking c_is_asking k_is_asking
  have D_is_asking : Dn K mg "is_asking" s_is_asking ["thing", "question", "worlds"] f_is_asking _ := ⟨F_is_asking, F_is_asking.binds (ps := ["thing", "question", "worlds"]) fun _ _ _ _ _ _ us hl => match us, hl with | [_, _, _], _ => rfl, PySem.W.mg_of X G a_is_asking⟩
  have F_is_table := fun_mk (st := s_is_table) l_is_table c_is_table k_is_table
  have D_is_table : Dn K mg "is_table" s_is_table ["thing", "node", "worlds"] f_is_table _ := ⟨F_is_table, F_is_table.binds (ps := ["thing", "node", "worlds"]) fun _ _ _ _ _ _ us hl => match us, hl with | [_, _, _], _ => rfl, PySem.W.mg_of X G a_is_table⟩
  have F_is_test := fun_mk (st := s_is_test) l_is_test c_is_test k_is_test
  have D_is_test : Dn K mg "is_test" s_is_test ["house", "thing"] f_is_test _ := ⟨F_is_test, F_is_test.binds (ps := ["house", "thing"]) fun _ _ _ _ _ _ us hl => match us, hl with | [_, _], _ => rfl, PySem.W.mg_of X G a_is_test⟩
  have F_check_test := fun_mk (st := s_check_test) l_check_test c_check_test k_check_test
  have D_check_test : Dn K mg "check_test" s_check_test ["house", "thing"] f_check_test _ := ⟨F_check_test, F_check_test.binds (ps := ["house", "thing"]) fun _ _ _ _ _ _ us hl => match us, hl with | [_, _], _ => rfl, PySem.W.mg_of X G a_check_test⟩
  have F_paid_for := fun_mk (st := s_paid_for) l_paid_for c_paid_for k_paid_for
  have D_paid_for : Dn K mg "paid_for" s_paid_for ["prior", "weights", "pays"] f_paid_for _ := ⟨F_paid_for, F_paid_for.binds (ps := ["prior", "weights", "pays"]) fun _ _ _ _ _ _ us hl => match us, hl with | [_, _, _], _ => rfl, PySem.W.mg_of X G a_paid_for⟩
  have F_paid_at := fun_mk (st := s_paid_at) l_paid_at c_paid_at k_paid_at
  have D_paid_at : Dn K mg "paid_at" s_paid_at ["prior", "node", "table"] f_paid_at _ := ⟨F_paid_at, F_paid_at.binds (ps := ["prior", "node", "table"]) fun _ _ _ _ _ _ us hl => match us, hl with | [_, _, _], _ => rfl, PySem.W.mg_of X G a_paid_at⟩
  have F_paid := fun_mk (st := s_paid) l_paid c_paid k_paid
  have D_paid : Dn K mg "paid" s_paid ["house", "test"] f_paid _ := ⟨F_paid, F_paid.binds (ps := ["house", "test"]) fun _ _ _ _ _ _ us hl => match us, hl with | [_, _], _ => rfl, PySem.W.mg_of X G a_paid⟩
  have F_is_word := fun_mk (st := s_is_word) l_is_word c_is_word k_is_word
  have D_is_word : Dn K mg "is_word" s_is_word ["thing"] f_is_word _ := ⟨F_is_word, F_is_word.binds (ps := ["thing"]) fun _ _ _ _ _ _ us hl => match us, hl with | [_], _ => rfl, PySem.W.mg_of X G a_is_word⟩
  have F_is_answer := fun_mk (st := s_is_answer) l_is_answer c_is_answer k_is_answer
  have D_is_answer : Dn K mg "is_answer" s_is_answer ["thing", "worlds"] f_is_answer _ := ⟨F_is_answer, F_is_answer.binds (ps := ["thing", "worlds"]) fun _ _ _ _ _ _ us hl => match us, hl with | [_, _], _ => rfl, PySem.W.mg_of X G a_is_answer⟩
  have F_is_ascending := fun_mk (st := s_is_ascending) l_is_ascending c_is_ascending k_is_ascending
  have D_is_ascending : Dn K mg "is_ascending" s_is_ascending ["rows"] f_is_ascending _ := ⟨F_is_ascending, F_is_ascending.binds (ps := ["rows"]) fun _ _ _ _ _ _ us hl => match us, hl with | [_], _ => rfl, PySem.W.mg_of X G a_is_ascending⟩
  have F_check_tree := fun_mk (st := s_check_tree) l_check_tree c_check_tree k_check_tree
  have D_check_tree : Dn K mg "check_tree" s_check_tree ["worlds", "tree"] f_check_tree _ := ⟨F_check_tree, F_check_tree.binds (ps := ["worlds", "tree"]) fun _ _ _ _ _ _ us hl => match us, hl with | [_, _], _ => rfl, PySem.W.mg_of X G a_check_tree⟩
  have F_check_node := fun_mk (st := s_check_node) l_check_node c_check_node k_check_node
  have D_check_node : Dn K mg "check_node" s_check_node ["node", "place", "ahead"] f_check_node _ := ⟨F_check_node, F_check_node.binds (ps := ["node", "place", "ahead"]) fun _ _ _ _ _ _ us hl => match us, hl with | [_, _, _], _ => rfl, PySem.W.mg_of X G a_check_node⟩
  have F_check_question := fun_mk (st := s_check_question) l_check_question c_check_question k_check_question
  have D_check_question : Dn K mg "check_question" s_check_question ["question", "place", "ahead"] f_check_question _ := ⟨F_check_question, F_check_question.binds (ps := ["question", "place", "ahead"]) fun _ _ _ _ _ _ us hl => match us, hl with | [_, _, _], _ => rfl, PySem.W.mg_of X G a_check_question⟩
  have F_answers_in := fun_mk (st := s_answers_in) l_answers_in c_answers_in k_answers_in
  have D_answers_in : Dn K mg "answers_in" s_answers_in ["node"] f_answers_in _ := ⟨F_answers_in, F_answers_in.binds (ps := ["node"]) fun _ _ _ _ _ _ us hl => match us, hl with | [_], _ => rfl, PySem.W.mg_of X G a_answers_in⟩
  have F_House_init := fun_mk (st := s_House_init) l_House_init c_House_init k_House_init
  have D_House_init : Dm K "__init__" "House.__init__" s_House_init ["self", "worlds", "tree"] f_House_init _ := ⟨F_House_init, F_House_init.binds (ps := ["self", "worlds", "tree"]) fun _ _ _ _ _ _ us hl => match us, hl with | [_, _, _], _ => rfl⟩
  have F_House_eq := fun_mk (st := s_House_eq) l_House_eq c_House_eq k_House_eq
  have D_House_eq : Dm K "__eq__" "House.__eq__" s_House_eq ["self", "other"] f_House_eq _ := ⟨F_House_eq, F_House_eq.binds (ps := ["self", "other"]) fun _ _ _ _ _ _ us hl => match us, hl with | [_, _], _ => rfl⟩
  have F_law_bag := fun_mk (st := s_law_bag) l_law_bag c_law_bag k_law_bag
  have D_law_bag : Dn K mg "_law_bag" s_law_bag ["script"] f_law_bag _ := ⟨F_law_bag, F_law_bag.binds (ps := ["script"]) fun _ _ _ _ _ _ us hl => match us, hl with | [_], _ => rfl, PySem.W.mg_of X G a_law_bag⟩
  have F_law_pick := fun_mk (st := s_law_pick) l_law_pick c_law_pick k_law_pick
  have D_law_pick : Dn K mg "_law_pick" s_law_pick ["bag", "many"] f_law_pick _ := ⟨F_law_pick, F_law_pick.binds (ps := ["bag", "many"]) fun _ _ _ _ _ _ us hl => match us, hl with | [_, _], _ => rfl, PySem.W.mg_of X G a_law_pick⟩
  have F_law_some := fun_mk (st := s_law_some) l_law_some c_law_some k_law_some
  have D_law_some : Dn K mg "_law_some" s_law_some ["bag", "things"] f_law_some _ := ⟨F_law_some, F_law_some.binds (ps := ["bag", "things"]) fun _ _ _ _ _ _ us hl => match us, hl with | [_, _], _ => rfl, PySem.W.mg_of X G a_law_some⟩
  have F_law_common := fun_mk (st := s_law_common) l_law_common c_law_common k_law_common
  have D_law_common : Dn K mg "_law_common" s_law_common ["one", "other"] f_law_common _ := ⟨F_law_common, F_law_common.binds (ps := ["one", "other"]) fun _ _ _ _ _ _ us hl => match us, hl with | [_, _], _ => rfl, PySem.W.mg_of X G a_law_common⟩
  have F_law_low := fun_mk (st := s_law_low) l_law_low c_law_low k_law_low
  have D_law_low : Dn K mg "_law_low" s_law_low ["top", "bottom"] f_law_low _ := ⟨F_law_low, F_law_low.binds (ps := ["top", "bottom"]) fun _ _ _ _ _ _ us hl => match us, hl with | [_, _], _ => rfl, PySem.W.mg_of X G a_law_low⟩
  have F_law_plus := fun_mk (st := s_law_plus) l_law_plus c_law_plus k_law_plus
  have D_law_plus : Dn K mg "_law_plus" s_law_plus ["one", "other"] f_law_plus _ := ⟨F_law_plus, F_law_plus.binds (ps := ["one", "other"]) fun _ _ _ _ _ _ us hl => match us, hl with | [_, _], _ => rfl, PySem.W.mg_of X G a_law_plus⟩
  have F_law_times := fun_mk (st := s_law_times) l_law_times c_law_times k_law_times
  have D_law_times : Dn K mg "_law_times" s_law_times ["one", "other"] f_law_times _ := ⟨F_law_times, F_law_times.binds (ps := ["one", "other"]) fun _ _ _ _ _ _ us hl => match us, hl with | [_, _], _ => rfl, PySem.W.mg_of X G a_law_times⟩
  have F_law_shares := fun_mk (st := s_law_shares) l_law_shares c_law_shares k_law_shares
  have D_law_shares : Dn K mg "_law_shares" s_law_shares ["bag", "many", "least"] f_law_shares _ := ⟨F_law_shares, F_law_shares.binds (ps := ["bag", "many", "least"]) fun _ _ _ _ _ _ us hl => match us, hl with | [_, _, _], _ => rfl, PySem.W.mg_of X G a_law_shares⟩
  have F_law_question := fun_mk (st := s_law_question) l_law_question c_law_question k_law_question
  have D_law_question : Dn K mg "_law_question" s_law_question ["bag", "worlds", "ahead", "levels", "left"] f_law_question _ := ⟨F_law_question, F_law_question.binds (ps := ["bag", "worlds", "ahead", "levels", "left"]) fun _ _ _ _ _ _ us hl => match us, hl with | [_, _, _, _, _], _ => rfl, PySem.W.mg_of X G a_law_question⟩
  have F_law_node := fun_mk (st := s_law_node) l_law_node c_law_node k_law_node
  have D_law_node : Dn K mg "_law_node" s_law_node ["bag", "worlds", "ahead", "levels", "left"] f_law_node _ := ⟨F_law_node, F_law_node.binds (ps := ["bag", "worlds", "ahead", "levels", "left"]) fun _ _ _ _ _ _ us hl => match us, hl with | [_, _, _, _, _], _ => rfl, PySem.W.mg_of X G a_law_node⟩
  have F_law_tree := fun_mk (st := s_law_tree) l_law_tree c_law_tree k_law_tree
  have D_law_tree : Dn K mg "_law_tree" s_law_tree ["bag", "worlds", "levels", "answers"] f_law_tree _ := ⟨F_law_tree, F_law_tree.binds (ps := ["bag", "worlds", "levels", "answers"]) fun _ _ _ _ _ _ us hl => match us, hl with | [_, _, _, _], _ => rfl, PySem.W.mg_of X G a_law_tree⟩
  have F_law_paths := fun_mk (st := s_law_paths) l_law_paths c_law_paths k_law_paths
  have D_law_paths : Dn K mg "_law_paths" s_law_paths ["node", "path"] f_law_paths _ := ⟨F_law_paths, F_law_paths.binds (ps := ["node", "path"]) fun _ _ _ _ _ _ us hl => match us, hl with | [_, _], _ => rfl, PySem.W.mg_of X G a_law_paths⟩
  have F_law_is := fun_mk (st := s_law_is) l_law_is c_law_is k_law_is
  have D_law_is : Dn K mg "_law_is" s_law_is ["found", "due"] f_law_is _ := ⟨F_law_is, F_law_is.binds (ps := ["found", "due"]) fun _ _ _ _ _ _ us hl => match us, hl with | [_, _], _ => rfl, PySem.W.mg_of X G a_law_is⟩
  have F_law_with_hopeless := fun_mk (st := s_law_with_hopeless) l_law_with_hopeless c_law_with_hopeless k_law_with_hopeless
  have D_law_with_hopeless : Dn K mg "_law_with_hopeless" s_law_with_hopeless ["bag", "worlds", "node"] f_law_with_hopeless _ := ⟨F_law_with_hopeless, F_law_with_hopeless.binds (ps := ["bag", "worlds", "node"]) fun _ _ _ _ _ _ us hl => match us, hl with | [_, _, _], _ => rfl, PySem.W.mg_of X G a_law_with_hopeless⟩
  have F_law_reweighted := fun_mk (st := s_law_reweighted) l_law_reweighted c_law_reweighted k_law_reweighted
  have D_law_reweighted : Dn K mg "_law_reweighted" s_law_reweighted ["bag", "worlds", "node", "ahead"] f_law_reweighted _ := ⟨F_law_reweighted, F_law_reweighted.binds (ps := ["bag", "worlds", "node", "ahead"]) fun _ _ _ _ _ _ us hl => match us, hl with | [_, _, _, _], _ => rfl, PySem.W.mg_of X G a_law_reweighted⟩
  have F_law_house := fun_mk (st := s_law_house) l_law_house c_law_house k_law_house
  have D_law_house : Dn K mg "_law_house" s_law_house ["bag", "levels", "answers"] f_law_house _ := ⟨F_law_house, F_law_house.binds (ps := ["bag", "levels", "answers"]) fun _ _ _ _ _ _ us hl => match us, hl with | [_, _, _], _ => rfl, PySem.W.mg_of X G a_law_house⟩
  have F_law_table := fun_mk (st := s_law_table) l_law_table c_law_table k_law_table
  have D_law_table : Dn K mg "_law_table" s_law_table ["bag", "worlds", "node"] f_law_table _ := ⟨F_law_table, F_law_table.binds (ps := ["bag", "worlds", "node"]) fun _ _ _ _ _ _ us hl => match us, hl with | [_, _, _], _ => rfl, PySem.W.mg_of X G a_law_table⟩
  have F_law_test := fun_mk (st := s_law_test) l_law_test c_law_test k_law_test
  have D_law_test : Dn K mg "_law_test" s_law_test ["bag", "worlds", "tree"] f_law_test _ := ⟨F_law_test, F_law_test.binds (ps := ["bag", "worlds", "tree"]) fun _ _ _ _ _ _ us hl => match us, hl with | [_, _, _], _ => rfl, PySem.W.mg_of X G a_law_test⟩
  have F_law_numbers := fun_mk (st := s_law_numbers) l_law_numbers c_law_numbers k_law_numbers
  have D_law_numbers : Dn K mg "_law_numbers" s_law_numbers ["worlds", "test"] f_law_numbers _ := ⟨F_law_numbers, F_law_numbers.binds (ps := ["worlds", "test"]) fun _ _ _ _ _ _ us hl => match us, hl with | [_, _], _ => rfl, PySem.W.mg_of X G a_law_numbers⟩
  have F_law_paid := fun_mk (st := s_law_paid) l_law_paid c_law_paid k_law_paid
  have D_law_paid : Dn K mg "_law_paid" s_law_paid ["worlds", "tree", "numbers"] f_law_paid _ := ⟨F_law_paid, F_law_paid.binds (ps := ["worlds", "tree", "numbers"]) fun _ _ _ _ _ _ us hl => match us, hl with | [_, _, _], _ => rfl, PySem.W.mg_of X G a_law_paid⟩
  have F_law := fun_mk (st := s_law) l_law c_law k_law
  have D_law : Dn K mg "law" s_law ["script"] fa _ := ⟨F_law, F_law.binds (ps := ["script"]) fun _ _ _ _ _ _ us hl => match us, hl with | [_], _ => rfl, PySem.W.mg_of X G a_law⟩
  have D_sum : DTot K mg f_common_bottom _ := ⟨D_common_bottom, _, _, D_times_whole⟩
  refine ⟨PySem.W.fnOf "law" "law" (defArgs s_law) (defBody s_law) (defScope s_law) .none kV_law dc_law pm_law an_law cd_law ct_law, fun s v => .of_eq rfl, fun base _ _ => ?_⟩
  have qn := ok_law_qn (P := l.prog) (w := w) (base := base) D_law_question B D_law_low D_law_common D_law_pick D_law_shares D_law_some D_law_times D_law_node
  have tree := fun n => ok_law_tree D_law_tree B D_law_pick D_law_question (qn (n + 1)).1
  have wh := ok_law_with_hopeless D_law_with_hopeless B D_law_pick D_law_node (qn 1).2
  have ck := ok_checks (P := l.prog) (w := w) (base := base) B C D_check_node D_check_question D_is_answer D_is_ascending D_total_weights D_is_number D_is_integral D_is_word D_is_fraction D_is_chance D_reduced D_sum D_total D_are_chances
  have ini := fun n => ok_House_init D_House_init B C U D_check_tree (ok_check_tree D_check_tree B C D_check_node (ck n).2 D_answers_in) D_is_number D_is_integral
  have tables := ok_tables (P := l.prog) (w := w) (base := base) B C D_is_integral D_is_fraction D_is_chance D_are_fractions D_total D_reduced D_sum D_is_paying D_is_asking D_is_table
  have prior := ok_is_prior (P := l.prog) (w := w) (base := base) D_is_prior B C D_is_integral D_is_fraction D_is_chance D_are_chances D_total D_reduced D_sum
  have tst := fun n => ok_is_test (n := n) D_is_test B U D_is_prior prior D_is_table (tables n).2
  have ckt := fun n => ok_check_test (n := n) D_check_test D_is_test (tst n)
  have pat := ok_paid_at (P := l.prog) (w := w) (base := base) D_paid_at B C D_total D_reduced D_sum D_added D_multiplied D_paid_for
  have pd := fun n => ok_paid (n := n) D_paid U D_check_test (ckt n) D_paid_at (pat n)
  have hs := ok_law_house D_law_house B D_law_pick D_law_tree (FnOk.anyS (lv := fun n => 6 + 2 * (n + 1)) tree fun n hn => by show 6 + 2 * (n + 1) ≤ 30; omega) D_law_with_hopeless (FnOk.anyS (lv := fun n => 9 + n) wh fun n hn => by show 9 + n ≤ 30; omega)
  exact ok_law D_law B U D_law_bag (ok_law_bag D_law_bag B) D_law_pick D_law_house hs
    D_law_test (FnOk.anyS (lv := fun n => 5 + n) (fun n => ok_law_test (n := n) D_law_test B D_law_low D_law_common D_law_pick D_law_shares D_law_table) fun n hn => by show 5 + n ≤ 30; omega)
    D_law_numbers (FnOk.anyS (lv := fun _ => 4) (fun n => ok_law_numbers D_law_numbers B D_law_times D_law_low D_law_common n) fun n hn => by show 4 ≤ 30; omega)
    D_law_paid (FnOk.anyS (lv := fun n => 5 + n) (fun n => ok_law_paid D_law_paid B D_law_times D_law_low D_law_common D_law_plus D_law_paths n) fun n hn => by show 5 + n ≤ 30; omega)
    D_law_is (ok_law_isF D_law_is B)
    D_paid (FnOk.anyS (lv := fun n => 8 + 3 * n) pd fun n hn => by show 8 + 3 * n ≤ 30; omega)
    D_House_init (FnOk.anyS (lv := fun n => 8 + 2 * n) ini fun n hn => by show 8 + 2 * n ≤ 30; omega)
    D_law_reweighted (FnOk.anyS (lv := fun n => 4 + n) (ok_law_reweighted D_law_reweighted B D_law_low D_law_common D_law_pick D_law_shares D_law_times) fun n hn => by show 4 + n ≤ 30; omega)
end Tl
open PySem PySem.W PyProof.Rows
set_option maxRecDepth 100000 in
set_option maxHeartbeats 0 in
theorem PySem.Challenge.cw_tellsless_k18_whole_paid_by_own_sums_holds : PySem.Challenge.rw_tellsless_k18_whole_paid_by_own_sums.Holds := by
  w_on; o_law; k_head; (case hw => w_witness2)
  k_fill
  refine Tl.walkG (l := PySem.Challenge.rw_tellsless_k18_whole_paid_by_own_sums) (k := 32) (x := "script") rfl rfl ⟨rfl, by decide, by decide⟩ (fun w h Y => PySem.W.kIn_of Y) ?F
  case F =>
    intro w mg fa h KX G hmg
    refine' Tl.all_mk KX G hmg ?aC ?a_is_integral ?l_is_integral ?c_is_integral ?k_is_integral ?a_is_number ?l_is_number ?c_is_number ?k_is_number ?a_is_fraction ?l_is_fraction ?c_is_fraction ?k_is_fraction ?a_is_chance ?l_is_chance ?c_is_chance ?k_is_chance ?a_are_fractions ?l_are_fractions ?c_are_fractions ?k_are_fractions ?a_are_chances ?l_are_chances ?c_are_chances ?k_are_chances ?a_is_prior ?l_is_prior ?c_is_prior ?k_is_prior ?a_reduced ?l_reduced ?c_reduced ?k_reduced ?a_added ?l_added ?c_added ?k_added ?a_multiplied ?l_multiplied ?c_multiplied ?k_multiplied ?a_common_bottom ?l_common_bottom ?c_common_bottom ?k_common_bottom ?a_times_whole ?l_times_whole ?c_times_whole ?k_times_whole ?a_total ?l_total ?c_total ?k_total ?a_total_weights ?l_total_weights ?c_total_weights ?k_total_weights ?a_is_paying ?l_is_paying ?c_is_paying ?k_is_paying ?a_is_asking ?l_is_asking ?c_is_asking ?k_is_asking ?a_is_table ?l_is_table ?c_is_table ?k_is_table ?a_is_test ?l_is_test ?c_is_test ?k_is_test ?a_check_test ?l_check_test ?c_check_test ?k_check_test ?a_paid_for ?l_paid_for ?c_paid_for ?k_paid_for ?a_paid_at ?l_paid_at ?c_paid_at ?k_paid_at ?a_paid ?l_paid ?c_paid ?k_paid ?a_is_word ?l_is_word ?c_is_word ?k_is_word ?a_is_answer ?l_is_answer ?c_is_answer ?k_is_answer ?a_is_ascending ?l_is_ascending ?c_is_ascending ?k_is_ascending ?a_check_tree ?l_check_tree ?c_check_tree ?k_check_tree ?a_check_node ?l_check_node ?c_check_node ?k_check_node ?a_check_question ?l_check_question ?c_check_question ?k_check_question ?a_answers_in ?l_answers_in ?c_answers_in ?k_answers_in ?a_House_init ?i_House_init ?l_House_init ?c_House_init ?k_House_init ?a_House_eq ?i_House_eq ?l_House_eq ?c_House_eq ?k_House_eq ?a_law_bag ?l_law_bag ?c_law_bag ?k_law_bag ?a_law_pick ?l_law_pick ?c_law_pick ?k_law_pick ?a_law_some ?l_law_some ?c_law_some ?k_law_some ?a_law_common ?l_law_common ?c_law_common ?k_law_common ?a_law_low ?l_law_low ?c_law_low ?k_law_low ?a_law_plus ?l_law_plus ?c_law_plus ?k_law_plus ?a_law_times ?l_law_times ?c_law_times ?k_law_times ?a_law_shares ?l_law_shares ?c_law_shares ?k_law_shares ?a_law_question ?l_law_question ?c_law_question ?k_law_question ?a_law_node ?l_law_node ?c_law_node ?k_law_node ?a_law_tree ?l_law_tree ?c_law_tree ?k_law_tree ?a_law_paths ?l_law_paths ?c_law_paths ?k_law_paths ?a_law_is ?l_law_is ?c_law_is ?k_law_is ?a_law_with_hopeless ?l_law_with_hopeless ?c_law_with_hopeless ?k_law_with_hopeless ?a_law_reweighted ?l_law_reweighted ?c_law_reweighted ?k_law_reweighted ?a_law_house ?l_law_house ?c_law_house ?k_law_house ?a_law_table ?l_law_table ?c_law_table ?k_law_table ?a_law_test ?l_law_test ?c_law_test ?k_law_test ?a_law_numbers ?l_law_numbers ?c_law_numbers ?k_law_numbers ?a_law_paid ?l_law_paid ?c_law_paid ?k_law_paid ?a_law ?l_law ?c_law ?k_law ?pgC ?hdC ?poC ?saC ?mkC ?kcC ?nwC ?ntC ?haC ?hnC ?htC ?hmC ?gcd ?lcm ?aO0 ?lO ?m_MOST_QUESTIONS ?m_MOST_WORDS ?m_MOST_NUMBERS ?m_MOST_ON_A_WAY ?m_MOST_PASSED ?z_len ?z_int ?z_abs ?z_sum ?z_range ?z_repr ?z_isinstance ?z_any ?z_all ?z_tuple ?z_list ?z_zip ?z_enumerate ?z_max ?z_bool
    (case aC => k_is)
    (case a_is_integral => k_is)
    (case l_is_integral => k_is)
    (case c_is_integral => k_is)
    (case k_is_integral => k_is)
    (case a_is_number => k_is)
    (case l_is_number => k_is)
    (case c_is_number => k_is)
    (case k_is_number => k_is)
    (case a_is_fraction => k_is)
    (case l_is_fraction => k_is)
    (case c_is_fraction => k_is)
    (case k_is_fraction => k_is)
    (case a_is_chance => k_is)
    (case l_is_chance => k_is)
    (case c_is_chance => k_is)
    (case k_is_chance => k_is)
    (case a_are_fractions => k_is)
    (case l_are_fractions => k_is)
    (case c_are_fractions => k_is)
    (case k_are_fractions => k_is)
    (case a_are_chances => k_is)
    (case l_are_chances => k_is)
    (case c_are_chances => k_is)
    (case k_are_chances => k_is)
    (case a_is_prior => k_is)
    (case l_is_prior => k_is)
    (case c_is_prior => k_is)
    (case k_is_prior => k_is)
    (case a_reduced => k_is)
    (case l_reduced => k_is)
    (case c_reduced => k_is)
    (case k_reduced => k_is)
    (case a_added => k_is)
    (case l_added => k_is)
    (case c_added => k_is)
    (case k_added => k_is)
    (case a_multiplied => k_is)
    (case l_multiplied => k_is)
    (case c_multiplied => k_is)
    (case k_multiplied => k_is)
    (case a_common_bottom => k_is)
    (case l_common_bottom => k_is)
    (case c_common_bottom => k_is)
    (case k_common_bottom => k_is)
    (case a_times_whole => k_is)
    (case l_times_whole => k_is)
    (case c_times_whole => k_is)
    (case k_times_whole => k_is)
    (case a_total => k_is)
    (case l_total => k_is)
    (case c_total => k_is)
    (case k_total => k_is)
    (case a_total_weights => k_is)
    (case l_total_weights => k_is)
    (case c_total_weights => k_is)
    (case k_total_weights => k_is)
    (case a_is_paying => k_is)
    (case l_is_paying => k_is)
    (case c_is_paying => k_is)
    (case k_is_paying => k_is)
    (case a_is_asking => k_is)
    (case l_is_asking => k_is)
    (case c_is_asking => k_is)
    (case k_is_asking => k_is)
    (case a_is_table => k_is)
    (case l_is_table => k_is)
    (case c_is_table => k_is)
    (case k_is_table => k_is)
    (case a_is_test => k_is)
    (case l_is_test => k_is)
    (case c_is_test => k_is)
    (case k_is_test => k_is)
    (case a_check_test => k_is)
    (case l_check_test => k_is)
    (case c_check_test => k_is)
    (case k_check_test => k_is)
    (case a_paid_for => k_is)
    (case l_paid_for => k_is)
    (case c_paid_for => k_is)
    (case k_paid_for => k_is)
    (case a_paid_at => k_is)
    (case l_paid_at => k_is)
    (case c_paid_at => k_is)
    (case k_paid_at => k_is)
    (case a_paid => k_is)
    (case l_paid => k_is)
    (case c_paid => k_is)
    (case k_paid => k_is)
    (case a_is_word => k_is)
    (case l_is_word => k_is)
    (case c_is_word => k_is)
    (case k_is_word => k_is)
    (case a_is_answer => k_is)
    (case l_is_answer => k_is)
    (case c_is_answer => k_is)
    (case k_is_answer => k_is)
    (case a_is_ascending => k_is)
    (case l_is_ascending => k_is)
    (case c_is_ascending => k_is)
    (case k_is_ascending => k_is)
    (case a_check_tree => k_is)
    (case l_check_tree => k_is)
    (case c_check_tree => k_is)
    (case k_check_tree => k_is)
    (case a_check_node => k_is)
    (case l_check_node => k_is)
    (case c_check_node => k_is)
    (case k_check_node => k_is)
    (case a_check_question => k_is)
    (case l_check_question => k_is)
    (case c_check_question => k_is)
    (case k_check_question => k_is)
    (case a_answers_in => k_is)
    (case l_answers_in => k_is)
    (case c_answers_in => k_is)
    (case k_answers_in => k_is)
    (case a_House_init => k_is)
    (case i_House_init => k_is)
    (case l_House_init => k_is)
    (case c_House_init => k_is)
    (case k_House_init => k_is)
    (case a_House_eq => k_is)
    (case i_House_eq => k_is)
    (case l_House_eq => k_is)
    (case c_House_eq => k_is)
    (case k_House_eq => k_is)
    (case a_law_bag => k_is)
    (case l_law_bag => k_is)
    (case c_law_bag => k_is)
    (case k_law_bag => k_is)
    (case a_law_pick => k_is)
    (case l_law_pick => k_is)
    (case c_law_pick => k_is)
    (case k_law_pick => k_is)
    (case a_law_some => k_is)
    (case l_law_some => k_is)
    (case c_law_some => k_is)
    (case k_law_some => k_is)
    (case a_law_common => k_is)
    (case l_law_common => k_is)
    (case c_law_common => k_is)
    (case k_law_common => k_is)
    (case a_law_low => k_is)
    (case l_law_low => k_is)
    (case c_law_low => k_is)
    (case k_law_low => k_is)
    (case a_law_plus => k_is)
    (case l_law_plus => k_is)
    (case c_law_plus => k_is)
    (case k_law_plus => k_is)
    (case a_law_times => k_is)
    (case l_law_times => k_is)
    (case c_law_times => k_is)
    (case k_law_times => k_is)
    (case a_law_shares => k_is)
    (case l_law_shares => k_is)
    (case c_law_shares => k_is)
    (case k_law_shares => k_is)
    (case a_law_question => k_is)
    (case l_law_question => k_is)
    (case c_law_question => k_is)
    (case k_law_question => k_is)
    (case a_law_node => k_is)
    (case l_law_node => k_is)
    (case c_law_node => k_is)
    (case k_law_node => k_is)
    (case a_law_tree => k_is)
    (case l_law_tree => k_is)
    (case c_law_tree => k_is)
    (case k_law_tree => k_is)
    (case a_law_paths => k_is)
    (case l_law_paths => k_is)
    (case c_law_paths => k_is)
    (case k_law_paths => k_is)
    (case a_law_is => k_is)
    (case l_law_is => k_is)
    (case c_law_is => k_is)
    (case k_law_is => k_is)
    (case a_law_with_hopeless => k_is)
    (case l_law_with_hopeless => k_is)
    (case c_law_with_hopeless => k_is)
    (case k_law_with_hopeless => k_is)
    (case a_law_reweighted => k_is)
    (case l_law_reweighted => k_is)
    (case c_law_reweighted => k_is)
    (case k_law_reweighted => k_is)
    (case a_law_house => k_is)
    (case l_law_house => k_is)
    (case c_law_house => k_is)
    (case k_law_house => k_is)
    (case a_law_table => k_is)
    (case l_law_table => k_is)
    (case c_law_table => k_is)
    (case k_law_table => k_is)
    (case a_law_test => k_is)
    (case l_law_test => k_is)
    (case c_law_test => k_is)
    (case k_law_test => k_is)
    (case a_law_numbers => k_is)
    (case l_law_numbers => k_is)
    (case c_law_numbers => k_is)
    (case k_law_numbers => k_is)
    (case a_law_paid => k_is)
    (case l_law_paid => k_is)
    (case c_law_paid => k_is)
    (case k_law_paid => k_is)
    (case a_law => k_is)
    (case l_law => k_is)
    (case c_law => k_is)
    (case k_law => k_is)
    (case pgC => k_is)
    (case hdC => k_is)
    (case poC => k_is)
    (case saC => k_is)
    (case mkC => k_is)
    (case kcC => k_is)
    (case nwC => k_is)
    (case ntC => k_is)
    (case haC => k_is)
    (case hnC => k_is)
    (case htC => k_is)
    (case hmC => k_is)
    (case gcd => k_is)
    (case lcm => k_is)
    (case aO0 => k_is)
    (case lO => k_is)
    (case m_MOST_QUESTIONS => k_is)
    (case m_MOST_WORDS => k_is)
    (case m_MOST_NUMBERS => k_is)
    (case m_MOST_ON_A_WAY => k_is)
    (case m_MOST_PASSED => k_is)
    (case z_len => k_is)
    (case z_int => k_is)
    (case z_abs => k_is)
    (case z_sum => k_is)
    (case z_range => k_is)
    (case z_repr => k_is)
    (case z_isinstance => k_is)
    (case z_any => k_is)
    (case z_all => k_is)
    (case z_tuple => k_is)
    (case z_list => k_is)
    (case z_zip => k_is)
    (case z_enumerate => k_is)
    (case z_max => k_is)
    (case z_bool => k_is)
