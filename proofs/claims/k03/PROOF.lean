import PyProof.Rows.All
import Wide.All
import OpenK.AllK
import Wide.FinOn
import HandS.ForMost
import HandS.Gcd
import HandS.Zip
import HandS.Walk
import HandS.SortKw
import HandS.TupMul
import HandS.TupAny
import HandS.IsInst
import HandS.OwnEq
import HandS.Wide
import KE.DataMinMax
import KE.GoesMore
import KE.GoesEnum
import PyProof.ReprBulk
import PyProof.P3Eq
import PySem.Challenge.RW_tellsless_k03_whole_hopeful_and_begun
set_option Elab.async false
set_option linter.all false
set_option maxRecDepth 100000
set_option maxHeartbeats 16000000
/-! rules that the layer lacks -/
namespace Tl
open PySem PySem.Spec PyProof.Rows L2 RZ
section
variable {X : Cx}
/-- repr of nested data -/
def rReprD (K : PySem.W.Frag) : List V → Hp → VK → Prop := fun xs H Q =>
  ∃ (a : Addr) (d : PyData), xs = [.ref a] ∧ Dp K H (.ref a) d ∧ d.showable = true ∧ d.hasDict = false ∧ d.depth ≤ 60 ∧ d.shown.length ≤ sizeLine ∧ Q (.str d.shown) H
theorem cr_reprD (hu : X.A.units + 64 < cLine) (hg : X.A.guards = some []) : CallR X (.builtin "repr") (rReprD X.K) := by
  intro pins s σ H xs us Q I r h
  obtain ⟨a, d, rfl, hd, h1, h2, h3, h4, q⟩ := h
  rw [Vals.ref1 r]
  obtain ⟨as, rd⟩ := Dp.reads I d _ _ hd rfl
  refine repr_of_reads' rd h1 (PyData.noDict_hsm h2) hg (by omega) (fun _ _ e => e) (fun h' u tk hk => ?_) h4
  exact ⟨.str d.shown, H, I.kept (t' := tk) hk, ⟨_, rfl⟩, q⟩
/-- xs[i], i from 0 on, read for a store by an operator -/
def gAtL (K : PySem.W.Frag) : V → V → Hp → VK → Prop := fun x y H Q => ∃ p xs j v, x = .ref p ∧ y = .int ((j : Nat) : Int) ∧ SqL K H p xs ∧ xs[j]? = some v ∧ Q v H
theorem get_listP : PGet X (gAtL X.K) := by
  intro pins s σ H o i ov iv Q I ro ri h
  obtain ⟨p, xs, j, z, rfl, rfl, hq, he, q⟩ := h
  cases ro
  obtain ⟨t, rfl⟩ := ri
  obtain ⟨its, r, pl, hz⟩ := I.list hq
  obtain ⟨w, ew, rw'⟩ := r.get he
  have hn := line63
  have hj : j < xs.length := (List.getElem?_eq_some_iff.mp he).1
  exact wpAny_getItem_list pl.isList (by omega) (by omega) (by simpa using ew) ⟨z, H, I, rw', q⟩
end

section
variable {X : Cx}
def topOf (d : Int) : List Int → Int
  | [] => d
  | n :: r => r.foldl max n
def rMaxDf (K : PySem.W.Frag) : List V → List V → Hp → VK → Prop := fun vs zs H Q => ∃ (a : Addr) (ns : List Int) (d : Int), vs = [V.ref a] ∧ zs = [.int d] ∧ SqL K H a (ns.map V.int) ∧ Q (.int (topOf d ns)) H
theorem reads_ints {h : Heap} : ∀ {us : List Value} {ns : List Int}, IntsAre us ns → ∃ as, ReadsAll h us (ns.map PyData.int) as
  | _, _, .nil => ⟨_, .nil⟩
  | _, _, .cons n t r => by
    obtain ⟨as, q⟩ := reads_ints (h := h) r
    exact ⟨_, .cons (.int n t) q⟩
theorem depth_ints : ∀ ns : List Int, PyData.depthAll (ns.map PyData.int) = 0
  | [] => rfl
  | n :: r => by
    show max (PyData.depth (.int n)) (PyData.depthAll (r.map PyData.int)) = 0
    rw [depth_ints r]
    rfl
theorem alike_ints (ns : List Int) : PySem.W.AlikeAll (ns.map PyData.int) := by
  constructor
  · intro x hx y hy
    obtain ⟨i, _, rfl⟩ := List.mem_map.mp hx
    obtain ⟨j, _, rfl⟩ := List.mem_map.mp hy
    rfl
  · intro x hx
    obtain ⟨i, _, rfl⟩ := List.mem_map.mp hx
    exact fun h => by cases h
theorem cr_maxDf (hc : X.calm = true) (hu : X.A.units + 64 < cLine) : CallRK X (.builtin "max") [Str.ofString "default"] (rMaxDf X.K) := by
  intro pins s σ H vs zs us ws Q I r rz h
  obtain ⟨a, ns, d, rfl, rfl, hs, q⟩ := h
  obtain ⟨its, rv, pl, hz⟩ := I.list hs
  rw [Vals.ref1 r]
  obtain ⟨w1, rfl, t, rfl⟩ := vals1 rz
  have hi := rv.ints
  obtain ⟨as, hr⟩ := reads_ints (h := s.heap) hi
  refine PySem.W.max_list_default (vs := its.toArray) (xs := ns.map PyData.int) (as := as) (I.ok.hd hc) pl.isList (by simpa using hr) (alike_ints ns) (by rw [depth_ints]; omega) (fun hn h' tk hk => ?_) fun y ys i v h' tk bs e ev hv hk => ?_
  · have e : ns = [] := List.map_eq_nil_iff.mp hn
    subst e
    exact ⟨.int d, H, I.kept (t' := tk) hk, ⟨t, rfl⟩, q⟩
  · cases ns with
    | nil => cases e
    | cons n r =>
      cases e
      rw [PySem.W.maxD_ints] at hv
      cases hv
      exact ⟨.int _, H, I.kept (t' := tk) hk, ⟨_, rfl⟩, q⟩
end

/-! enumerate(a tuple) -/
def IteT (K : PySem.W.Frag) (a : Addr) : It :=
  ⟨fun i H => ∃ (xs : List V) (x : V), SqT K H a xs ∧ xs[i]? = some x,
   fun i H v H' => ∃ T x, v = .ref T ∧ H T = none ∧ H' = upd H T (.tup [.int (i : Nat), x]) ∧ ∀ xs, SqT K H a xs → xs[i]? = some x,
   fun i H => ∃ xs : List V, SqT K H a xs ∧ xs.length = i⟩
set_option maxHeartbeats 1000000 in
theorem enum_new_tup (l : Addr) (items : Array Value) : Meets (Builtin.«enumerate.__new__» ⟨[.type "enumerate", .ref l], []⟩) (fun _ R s => s.heap.IsTuple l items ∧
      R (.ok (.ret (.ref (s.heap.objs.size + 1)))) { s with heap := (s.heap.push { cls := .type "tuple_iterator", data := .fields #[.ref l, .int 0 0] }).push { cls := .type "enumerate", data := .fields #[.none, .bool false, .ref s.heap.objs.size, rawInt 0, .none, .none] } }) :=
  .of_wp fun prog w A R s ⟨ht, h⟩ => by
    obtain ⟨hp, g, d, tk, os⟩ := s
    have hsz : ∀ o : Obj, (hp.push o).objs.size = hp.objs.size + 1 := fun o => Heap.size_push ..
    have hsub := sub_enumerate
    have q1 : ∀ {A' : Around} {E' : Value → Shared → Prop} {Q' : Value → Shared → Prop}, Q' (.ref hp.objs.size) ⟨hp.push { cls := .type "tuple_iterator", data := .fields #[.ref l, .int 0 0] }, g, d, tk, os⟩ → wpAny (model prog w) A' (pyIter (.ref l)) Q' E' ⟨hp, g, d, tk, os⟩ :=
      fun q => wpAny_pyIter_tuple (s := ⟨hp, g, d, tk, os⟩) ht q
    rw [← hsz { cls := .type "tuple_iterator", data := .fields #[.ref l, .int 0 0] }] at h
    wp_walk using q1
    refine wpAny_stack_any fun st => wpAny_pure ?_
    split
    · rename_i c _ _ _ _ _
      rcases (c == Value.type "enumerate") with _ | _ <;> (wp_walk using q1; exact ⟨_, rfl, h⟩)
    · wp_walk using q1
      exact ⟨_, rfl, h⟩
theorem enum_tup {prog : Program} {w : World} {A : Around} {E : Value → Shared → Prop} {s : Shared} {l : Addr} {items : Array Value} {Q : Value → Shared → Prop} (ht : s.heap.IsTuple l items)
    (h : ∀ h', IsEnum h' (s.heap.objs.size + 1) s.heap.objs.size 0 .none → h'.IsTupleIter s.heap.objs.size l 0 →
      (∀ b o, s.heap.get? b = some o → h'.get? b = some o) → Q (.ref (s.heap.objs.size + 1)) { s with heap := h' }) :
    wpAny (model prog w) A (call (.type "enumerate") [.ref l]) Q E s := by
  refine callType_new F.called_enumerate (by decide) (F.typeCall_enumerate_1 _) (F.newCall_enumerate_1 _) (fun ob => F.args_object_init_2 ob _) F.entry_enumerate_new (enum_new_tup l items) ⟨ht, ?_⟩
  have e2 : IsEnum ((s.heap.push { cls := .type "tuple_iterator", data := .fields #[.ref l, .int 0 0] }).push { cls := .type "enumerate", data := .fields #[.none, .bool false, .ref s.heap.objs.size, rawInt 0, .none, .none] }) (s.heap.objs.size + 1) s.heap.objs.size 0 .none := by
    have e3 := Heap.get?_push_size (s.heap.push { cls := .type "tuple_iterator", data := .fields #[.ref l, .int 0 0] }) (o := { cls := .type "enumerate", data := .fields #[.none, .bool false, .ref s.heap.objs.size, rawInt 0, .none, .none] }) rfl
    rw [Heap.size_push] at e3
    exact e3
  exact ⟨⟨_, e2, rfl⟩, h _ e2 ⟨_, Heap.get?_push_of_some _ (Heap.get?_push_size _ rfl), rfl, rfl⟩ fun b o x => Heap.get?_push_of_some _ (Heap.get?_push_of_some _ x)⟩
theorem turn_enumT {P : Program} {w : World} {K : PySem.W.Frag} {elts : List Expr} {kk : Nat} {tpos : Pos} (a e it : Addr) :
    Turn P w K (.Tuple elts kk tpos) (IteT K a) [e, it] e (fun i h => (∃ old, IsEnum h e it ((i : Nat) : Int) old) ∧ h.IsTupleIter it a i ∧ e ≠ it ∧ e ≠ a ∧ a ≠ it) where
  mem := List.mem_cons_self
  obj := by
    rintro i h ⟨⟨old, he⟩, ⟨o, ho, hc, hd⟩, _⟩ b hb
    rcases (show b = e ∨ b = it by simpa using hb) with rfl | rfl
    · exact ⟨_, he, fun v q => by cases q⟩
    · exact ⟨o, ho, fun v q => by rw [hd] at q; cases q⟩
  keep := by
    rintro i h h' ⟨⟨old, he⟩, hi, hne⟩ k
    exact ⟨⟨old, k e (by simp) _ he⟩, hi.at fun o q => k it (by simp) o q, hne⟩
  item := by
    intro X hP hw hK hc i pins s σ H E I hf st hg
    subst hP hw hK
    obtain ⟨⟨old, he⟩, hit, hne, hea, hai⟩ := st
    obtain ⟨xs, x, hq, hx⟩ := hg
    obtain ⟨its, rv, pt, hz⟩ := I.tuple hq
    obtain ⟨u, hu, ru⟩ := rv.get hx
    have hlt : i < its.toArray.size := by
      rw [List.size_toArray]
      exact (List.getElem?_eq_some_iff.mp hu).1
    have lte : e < s.heap.objs.size := Heap.lt_size he
    have lti : it < s.heap.objs.size := by
      obtain ⟨_, q, _⟩ := hit
      exact Heap.lt_size q
    have D := Draws.tuple (prog := X.prog) (w := X.w) (A := X.A.in1) (I.ok.hd hc) it a hai its.toArray
    refine wpAny_pyNext_enum_itemD D he ⟨hit, pt⟩ hlt hne (by simp [hne, hea]) fun v h' tk hP ho hit' hT hsz hk => ?_
    have ev : v = u := by
      have q1 : its[i]? = some v := by simpa using hP
      rw [hu] at q1
      exact (Option.some.inj q1).symm
    subst ev
    refine ⟨_, rfl, wpAny_letOwnedTupleGo_enum (s := { s with heap := h', toks := tk + 1 }) ho fun h2 he2 sb => ?_⟩
    have hT2 : h2.get? s.heap.objs.size = some { cls := .type "tuple", data := .seq #[.int i tk, v] } := (sb.2 _ (Nat.ne_of_gt lte)).trans hT
    have mk : ObjOk X.prog X.w (upd H s.heap.objs.size (.tup [.int (i : Nat), x])) h2 s.heap.objs.size (.tup [.int (i : Nat), x]) :=
      ⟨by show 2 ≤ sizeLine; decide, [.int i tk, v], .cons ⟨_, rfl⟩ (.cons ru .nil), ⟨_, hT2, rfl, _, rfl⟩⟩
    have I1 : Inv X pins σ (upd H s.heap.objs.size (.tup [.int (i : Nat), x])) { s with heap := h2, toks := tk + 1 } :=
      I.turnedNew (ch := [e, it]) (fun b ob hb q => by
        have z1 : b ≠ e := fun z => hb (by simp [z])
        have z2 : b ≠ it := fun z => hb (by simp [z])
        exact (sb.2 b z1).trans (hk b ob z1 z2 q)) hf (Nat.le_refl _) mk
    refine ⟨.ref s.heap.objs.size, _, I1, rfl, ⟨_, x, rfl, I.hok.fresh (Nat.le_refl _), rfl, fun ys hy => by rw [I.tuple_inj hy hq]; exact hx⟩, ⟨⟨v, ?_⟩, hit'.1.at fun o q => (sb.2 it (Ne.symm hne)).trans q, hne, hea, hai⟩, fun b hb => ?_⟩
    · rw [show ((i + 1 : Nat) : Int) = (i : Int) + 1 by omega]
      exact he2
    · have lb : b < s.heap.objs.size := by
        rcases (show b = e ∨ b = it by simpa using hb) with z | z
        · rw [z]; exact lte
        · rw [z]; exact lti
      rw [upd_ne (Nat.ne_of_lt lb)]
      exact (hf b hb).1
  done := by
    intro X hP hw hK hc i pins s σ H E I hf st hg
    subst hP hw hK
    obtain ⟨⟨old, he⟩, hit, hne, hea, hai⟩ := st
    obtain ⟨xs, hq, hx⟩ := hg
    obtain ⟨its, rv, pt, hz⟩ := I.tuple hq
    obtain ⟨f0, f1, f2, f3, f4, f5⟩ := hf it (by simp)
    have hl : its.toArray.size = i := by
      rw [List.size_toArray, ← rv.length]
      exact hx
    have D := Draws.tuple (prog := X.prog) (w := X.w) (A := X.A.in1) (I.ok.hd hc) it a hai its.toArray
    exact wpAny_pyNext_enum_endD D he ⟨by rw [hl]; exact hit, pt⟩ fun h' eb => ⟨rfl, I.turned (t' := s.toks) (fun b o hb q => eb b o hb q) f0 f1 f3 f4 f5⟩
  self := fun A i s Q E st h => by
    obtain ⟨⟨_, he⟩, _⟩ := st
    exact wpAny_pyIter_enum he h
def iEnumT (K : PySem.W.Frag) (ta : TA) : TI := fun σ H R => ta σ H fun vs H1 => ∃ a xs, vs = [.ref a] ∧ SqT K H1 a xs ∧ R (IteT K a) H1
theorem pi_enumT {X : Cx} {e : Expr} {ta : TA} {p pos tpos : Pos} {elts : List Expr} {kk : Nat} (hg : Gl X "enumerate") (hm : X.mg "enumerate" = none) (ha : PA X [e] ta) (hs : starEach [e] X.env = [(false, eval e X.env)] := by rfl) :
    PI X (.Tuple elts kk tpos) (.Call (.Name "enumerate" p) [e] [] pos) (iEnumT X.K ta) := by
  refine ⟨fun pins s σ H R I h => Call_ (ld_blt I hg hm boot_enumerate (PyProof.Rows.callWith_type1 (thn (ha.run pos pins s σ H _ I h) fun us s1 hq => ?_) hs rfl))⟩
  obtain ⟨vs, H1, I1, r1, a, xs, rfl, hT, q⟩ := hq
  rw [Vals.ref1 r1]
  obtain ⟨its, rv, pt, hz⟩ := I1.tuple hT
  have hat : a < s1.heap.objs.size := by
    obtain ⟨o, ho, _⟩ := id pt
    exact Heap.lt_size ho
  refine enum_tup (show s1.heap.IsTuple a its.toArray from pt) fun h' he hit hk => wpAny_pyIter_enum he ?_
  have I2 : Inv X pins σ H1 { s1 with heap := h' } := I1.kept (t' := s1.toks) hk
  refine ⟨_, [s1.heap.objs.size + 1, s1.heap.objs.size], _, _, H1, rfl, I2, turn_enumT a (s1.heap.objs.size + 1) s1.heap.objs.size, ⟨⟨.none, he⟩, hit, Nat.succ_ne_self _, Nat.ne_of_gt (Nat.lt_succ_of_lt hat), Nat.ne_of_lt hat⟩, fun b hb => ?_, q⟩
  have hle : s1.heap.objs.size ≤ b := by
    rcases (show b = s1.heap.objs.size + 1 ∨ b = s1.heap.objs.size by simpa using hb) with z | z
    · rw [z]; exact Nat.le_succ _
    · rw [z]; exact Nat.le_refl _
  exact I1.fpOk hle (I1.hok.fresh hle)
theorem walk_enumT {K : PySem.W.Frag} {a : Addr} {xs : List V} : Walk (IteT K a) xs.length (fun H => SqT K H a xs) (YPair (fun i => some (.int (i : Nat))) (fun i => xs[i]?)) := by
  refine ⟨fun i _ hi q => ⟨xs, xs[i], q, by simp [hi]⟩, fun _ q => ⟨xs, q, rfl⟩, fun i H v H' _ q y => ?_⟩
  obtain ⟨T, x, h1, h2, h3, h4⟩ := y
  exact ⟨T, .int (i : Nat), x, h1, h2, h3, rfl, h4 xs q⟩
theorem walk_zipT {K : PySem.W.Frag} {a b : Addr} {xs ys : List V} {n : Nat} (hn : n = min xs.length ys.length) : Walk (ItzT K a b) n (fun H => SqT K H a xs ∧ SqT K H b ys) (YPair (fun i => xs[i]?) (fun i => ys[i]?)) := by
  subst hn
  refine ⟨fun i _ hi q => ⟨xs, ys, xs[i]'(by omega), ys[i]'(by omega), q.1, q.2, List.getElem?_eq_getElem _, List.getElem?_eq_getElem _⟩, fun _ q => ⟨xs, ys, q.1, q.2, by omega⟩, fun i H v H' _ q y => ?_⟩
  obtain ⟨T, x, z, h1, h2, h3, h4, h5⟩ := y
  exact ⟨T, x, z, h1, h2, h3, h4 xs q.1, h5 ys q.2⟩

/-! a tuple times an int, also 1 -/
theorem mul_one_tup (l : Addr) (items : Array Value) (n : Nat) (dd : Option Addr) (sl : Array (Option Value)) (u : Tok) (hne : items.isEmpty = false) : Meets (Builtin.«tuple.__mul__» ⟨[.ref l, .int 1 u], []⟩) (fun _ R s => s.heap.get? l = some { cls := .type "tuple", dict := dd, data := .seq items n, slots := sl } ∧ R (.ok (.ret (.ref l))) s) :=
  .of_wp fun prog w A R s h => by
    obtain ⟨hp, g, d, tk, os⟩ := s
    obtain ⟨hl, h⟩ := h
    have f1 := AutoSeq1.idx_int
    wp_walk using wpAny_loadPart' hl
    exact ⟨_, rfl, h⟩
def rRepP (K : PySem.W.Frag) : R2 := fun x y H Q => ∃ l k xs, x = .ref l ∧ y = .int k ∧ SqT K H l xs ∧ xs ≠ [] ∧ 1 ≤ k ∧ k ≤ 1000 ∧ xs.length ≤ 1000 ∧ ∀ p H', Same H H' → SqT K H' p (List.replicate k.toNat xs).flatten → Q (.ref p) H'
theorem same_upd {H : Hp} {p : Addr} {o : HO} (h : H p = none) : Same H (upd H p o) := fun b x e => by
  rw [upd_ne (ne_of_none e h)]
  exact e
theorem op_repP {X : Cx} : OpR X (binaryOp .Mult) (rRepP X.K) := by
  intro pins s σ H x y v u Q I rx ry h
  obtain ⟨l, k, xs, rfl, rfl, hT, hne, h1, h2, hz, q⟩ := h
  by_cases hk : 2 ≤ k
  · exact op_repT pins s σ H _ _ v u Q I rx ry ⟨l, k, xs, rfl, rfl, hT, hne, hk, h2, hz, fun p hp => q p _ (same_upd hp) (.inl (.inl upd_same))⟩
  · obtain rfl : k = 1 := by omega
    cases rx
    obtain ⟨t, rfl⟩ := ry
    obtain ⟨its, r, ⟨⟨cls, dd, data, sl⟩, ho, hc, n, hd⟩, hs⟩ := I.tuple hT
    simp only at hc hd
    subst hc hd
    have hn : its.toArray.isEmpty = false := by
      cases its with
      | nil =>
        cases r
        exact absurd rfl hne
      | cons a b => rfl
    refine wpAny_binaryOp_repeat_ref (T := "tuple") (U := "int") (by decide) ⟨_, ho, rfl⟩ (fun s' => typeIs_int s' 1 t) noFill_tuple_mul F.fills_int_mul F.slot_int_rmul repeat_tuple F.slot_int_index.lookup
      (call_meets F.slot_int_rmul (typeIs_int s 1 t) F.entry_int_rmul (F.args_int_rmul_2 _ _) (int_rmul_tuple 1 t l its.toArray n dd sl)
        ⟨ho, rfl, ⟨_, ho, rfl⟩, call_meets F.slot_tuple_mul ⟨_, ho, rfl⟩ F.entry_tuple_mul (F.args_tuple_mul_2 _ _) (mul_one_tup l its.toArray n dd sl t hn) ⟨ho, ?_⟩⟩)
    exact ⟨.ref l, H, I, rfl, q l H (Same.refl H) (by rw [show (List.replicate (Int.toNat 1) xs).flatten = xs by simp]; exact hT)⟩

/-! ### defs that want no repr to run around them -/
structure FnG (P : Program) (w : World) (K : PySem.W.Frag) (mg : Str → Option Value) (base : Heap) (CX : CXT) (k : Nat) (f : Addr) (fd : FuncData) (ps : List Str) (sp : Sp) : Prop where
  many : ∀ vs H Q E, sp vs H Q E → vs.length = ps.length
  goes : ∀ (A : Around) (outer : List Env) (s : Shared) (H : Hp) (args : Args) (us : List Value) (vs : List V) (Q : VK) (E : XK), Room k A → A.guards = some [] → Env0 P w K mg base A outer s H → BindsTo s fd args (ps.zip us) → Vals vs us → sp vs H Q E →
    codeAny (model P w) A (.call (.ref f) args) (CR CX outer P w H s Q E) s
section
variable {P : Program} {w : World} {K : PySem.W.Frag} {mg : Str → Option Value} {base : Heap}
theorem okG {x qual : Str} {st : Stmt} {f : Addr} {fd : FuncData} {N ps : List Str} {k : Nat} {sp : Sp} (F : Fun K x qual st f fd) (S : FnScope N ps (defScope st)) (len : ∀ vs H Q E, sp vs H Q E → vs.length = ps.length)
    (bd : ∀ (cdv : Value) (A : Around) (outer : List Env) (s : Shared) (H : Hp) (vs : List V) (Q : VK) (E : XK), Room k (A.deeper (envOfC qual (defScope st) s.heap.objs.size f cdv)) → A.guards = some [] → sp vs H Q E →
      ∃ t, PSs (cxOf CX0 P w K mg base N qual (defScope st) f cdv A outer s H E).nox (defBody st) t ∧ t { nx := fun _ H' => Q .non H', rt := Q } (start N vs) H) : FnG P w K mg base CX0 (k + 1) f fd ps sp := by
  obtain ⟨oc, od, kV, doc, pm, an, cdv, ct, osl, rfl, lk, hcd⟩ := F.ex
  refine ⟨len, fun A outer s H args us vs Q E hr hgu e0 hb rv hsp => ?_⟩
  have hl := len _ _ _ _ hsp
  have kin : K.In s.heap := e0.mod.kin.keeps fun b o e => (e0.bs b o e).1
  have nol : s.heap.NoLimit := e0.mod.nolimit.keeps fun b o e => (e0.bs b o e).1
  have kinds : ∀ y ∈ ps.zip us, (defScope st).names.lookup y.1 = some .local ∨ ((defScope st).names.lookup y.1 = some .cell ∧ ((cellsFrom (s.heap.objs.size + 1) (defScope st).names []).lookup y.1).isSome = true) := by
    rintro ⟨n, v⟩ hy
    have hn := (List.of_mem_zip hy).1
    rcases S.par n hn with q | q
    · exact Or.inl q
    · exact Or.inr ⟨q, PySem.W.cellsFrom_some _ _ _ (Or.inl q)⟩
  refine codeAny_call_function hr.depth (kin _ _ lk) rfl S.co S.gen rfl (PySem.W.codeRec_of kin hcd) (hb _ _ _ _ (wpAny_newFunctionEnv_cells S.kind kinds fun env ee s1 x => ?_))
  subst ee
  refine ⟨nol.keeps x.toInCall.keep, codeAny_func ?_⟩
  obtain ⟨t, ht, hq⟩ := bd cdv A outer s H vs Q E (hr.deeper _) hgu hsp
  have J : Inv (cxOf CX0 P w K mg base N qual (defScope st) f cdv A outer s H E) [] (start N vs) H s1 := inv_start S hr.hd e0 hl rv x
  refine wpAny_mono (ht.nox.run [] s1 (start N vs) H _ J hq) (fun fl s2 hs => ?_) fun e s2 hs => hs
  have done : ∀ {σ' : L2.St} {H' : Hp} {v : V} {u : Value}, Inv (cxOf CX0 P w K mg base N qual (defScope st) f cdv A outer s H E) [] σ' H' s2 → RelV v u → Q v H' → CE outer P w H s Q u s2 :=
    fun {σ' H' v u} L r q => ⟨v, H', L.os, L.bare, L.base, L.hok, r, q⟩
  cases fl with
  | ret u =>
    obtain ⟨v, σ', H', L, r, q⟩ := hs
    exact done L r q
  | next =>
    obtain ⟨σ', H', L, q⟩ := hs
    exact done (v := V.non) (u := Value.none) L rfl q
  | brk =>
    obtain ⟨_, _, _, q⟩ := hs
    exact q.elim
  | cont =>
    obtain ⟨_, _, _, q⟩ := hs
    exact q.elim
end
section
variable {X : Cx} {CX : CXT} {k : Nat} {f : Addr} {fd : FuncData} {ps : List Str} {sp : Sp} {dvs : List V} {ds : List Value} {E : XK} {x : Str} {p pos : Pos} {e : Expr} {es : List Expr} {t : TA}
theorem pe_callG (F : FnG X.prog X.w X.K X.mg X.base CX k f fd ps sp) (hr : Room k X.A) (hgu : X.A.guards = some []) (hg : Gl X x) (hm : X.mg x = some (.ref f)) (hk : PySem.W.keepIn X.K (.ref f) = true) (hb : Binds X.K fd ps ds) (hd : Vals dvs ds) (hx : Passes CX X E)
    (ha : PA X (e :: es) t) (hdb : (x == ("__debug__" : Str)) = false := by decide) (he : starEach (e :: es) X.env = (false, eval e X.env) :: starEach es X.env := by rfl) (hpl : (backTo pos (starEach es X.env)).any (·.1) = false := by rfl) :
    PE X (.Call (.Name x p) (e :: es) [] pos) (tCall sp dvs E t) := by
  refine ⟨fun pins s σ H Q I h => wpAny_Call_Name_kw (ld_glob I hg hm ?_ hdb)⟩
  refine PySem.W.callWith_K (h₀ := X.base) I.ok.mod.kin hk (thn (ha.run pos pins s σ H _ I h) ?_) he hpl
  rintro us s1 ⟨vs, H1, I1, r, q⟩
  refine ⟨I1.kIn, ?_⟩
  have r2 : Vals (vs ++ dvs) (us ++ ds) := r.append hd
  have hl : (us ++ ds).length = ps.length := by
    rw [← r2.length]
    exact F.many _ _ _ _ q
  refine wpAny_call (codeAny_mono (F.goes X.A X.stack s1 H1 ⟨us, []⟩ (us ++ ds) (vs ++ dvs) Q E hr hgu I1.env0 (hb s1 us I1.kIn hl) r2 q) ?_)
  intro res s2 hq
  match res, hq with
  | .error e, hq => exact hx pins σ H1 s1 e s2 I1 hq
  | .ok (.ret u), hq => exact I1.after hq
end
/-- a law's own promise -/
def spTrue (K : PySem.W.Frag) : Sp := fun vs H Q _ => ∃ (a : Addr) (ns : List Int), vs = [.ref a] ∧ SqL K H a (ns.map V.int) ∧ ns.length ≤ 63 ∧ ∀ H', Q (.bl true) H'
theorem callG {P : Program} {w : World} {K : PySem.W.Frag} {mg mb : Str → Option Value} {k : Nat} {fa a : Addr} {fd : FuncData} {x : Str} {s₁ : Shared} {vs : List Value} {ns : List Int}
    (kin : K.In s₁.heap) (hns : s₁.heap.Ns mainGlobals mg) (hbl : s₁.heap.Ns builtinsNs mb) (hbb : ∀ x : Str, x ≠ "__name__" → mb x = bootBuiltins x) (nol : s₁.heap.NoLimit) (hgens : s₁.gens = #[])
    (ha : s₁.heap.get? a = some { cls := .type "list", data := .seq vs.toArray }) (hi : IntsAre vs ns) (h63 : ns.length ≤ 63) (hr : Room k callerA)
    (F : ∀ base : Heap, K.In base → base.Ns mainGlobals mg → FnG P w K mg base CX0 k fa fd [x] (spTrue K)) (hbind : ∀ (s : Shared) (u : Value), BindsTo s fd ⟨[u], []⟩ [(x, u)]) :
    codeAny (model P w) callerA (.call (.ref fa) ⟨[.ref a], []⟩) (fun r s' => r = .ok (.ret (.bool true)) ∧ OldK s₁.heap s'.heap ∧ s'.os = s₁.os ∧ AllBare s'.gens) s₁ := by
  have hl : ns.length ≤ sizeLine := Nat.le_trans h63 (by decide)
  have rv := vals_ints hi
  have lv := hi.length
  have main : ∀ T : Hp, Only T → SqL K T a (ns.map V.int) → HOk P w T s₁.heap → (∀ b, T b ≠ none → b = a) → (T a ≠ none → K.lookup a = none) →
      codeAny (model P w) callerA (.call (.ref fa) ⟨[.ref a], []⟩) (fun r s' => r = .ok (.ret (.bool true)) ∧ OldK s₁.heap s'.heap ∧ s'.os = s₁.os ∧ AllBare s'.gens) s₁ := by
    intro T only hS hok only_a notK
    have put : ∀ {b : Addr} {o : Obj}, s₁.heap.get? b = some o → T b = none → (hidT s₁.heap T).get? b = some o := fun e n => hidT_get e n
    have dict_free : ∀ {b : Addr} {o : Obj} {es : Array DictEntry} {ep : Nat}, s₁.heap.get? b = some o → o.data = .dict es ep → T b = none := by
      intro b o es ep e d
      match q : T b with
      | none => rfl
      | some u =>
        obtain rfl := only_a b (by rw [q]; exact fun z => by cases z)
        rw [ha] at e
        cases e
        exact absurd (show Data.seq vs.toArray _ = Data.dict es ep from d) (fun z => by cases z)
    have nsB : ∀ {b : Addr} {m : Str → Option Value}, s₁.heap.Ns b m → (hidT s₁.heap T).Ns b m := by
      rintro b m ⟨o, es, ep, e, d, r⟩
      exact ⟨o, es, ep, put e (dict_free e d), d, r⟩
    have kinB : K.In (hidT s₁.heap T) := by
      intro b o e
      refine put (kin b o e) ?_
      match q : T b with
      | none => rfl
      | some u =>
        have q' : T b ≠ none := by rw [q]; exact fun z => by cases z
        obtain rfl := only_a b q'
        rw [notK q'] at e
        cases e
    obtain ⟨mc, l1, l2⟩ := nol
    have md : Mod K mg (hidT s₁.heap T) := ⟨kinB, nsB hns, ⟨mb, nsB hbl, hbb⟩, ⟨mc, nsB l1, l2⟩⟩
    have e0 : Env0 P w K mg (hidT s₁.heap T) callerA [] s₁ T :=
      { frames := rfl, mod := md, bs := fun b o e => of_hidT e, bsz := Nat.le_of_eq (hidT_size _ _), funs := trivial, frf := fun b hb => (List.not_mem_nil (show b ∈ ([] : List Addr) from hb)).elim, hok := hok, bare := .of_eq hgens }
    have sp0 : spTrue K [.ref a] T (fun v _ => v = .bl true) (fun _ _ _ => False) := ⟨a, ns, rfl, hS, h63, fun _ => rfl⟩
    refine codeAny_mono ((F _ kinB (nsB hns)).goes callerA [] s₁ T ⟨[.ref a], []⟩ [.ref a] [.ref a] _ _ hr rfl e0 (hbind s₁ (.ref a)) (.cons rfl .nil) sp0) ?_
    intro r s2 h
    match r, h with
    | .error e, h => exact h.elim
    | .ok (.ret u), h =>
      obtain ⟨v, T', os, bare, un, hok2, r2, q⟩ := h
      obtain rfl : v = .bl true := q
      obtain rfl : u = Value.bool true := r2
      refine ⟨rfl, OldK.of_keep fun b o e => ?_, os, bare⟩
      match q : T b with
      | none => exact un.keep b o e q (fun z => (List.not_mem_nil (show b ∈ ([] : List Addr) from z)).elim) List.not_mem_nil
      | some u =>
        rcases only b with z | ⟨ob, xs, z⟩
        · rw [q] at z
          cases z
        · obtain ⟨e1, _⟩ := hok b _ z
          obtain ⟨e2, _⟩ := hok2 b _ (un.frzs b ob _ z)
          rw [e] at e1
          cases e1
          exact e2
  match hk : K.lookup a with
  | some o =>
    have e := kin a o hk
    rw [ha] at e
    cases e
    exact main (fun _ => none) (fun _ => Or.inl rfl) (Or.inr ⟨_, vs.toArray, _, hk, rfl, rfl, rfl, by rw [List.size_toArray, lv]; exact hl, by simpa using rv⟩) (fun b u z => by cases (show (none : Option HO) = some u from z)) (fun b z => (z rfl).elim) fun z => (z rfl).elim
  | none =>
    refine main (fun b => if b = a then some (.frz { cls := .type "list", data := .seq vs.toArray } (.lst (ns.map V.int))) else none) (fun b => ?_) (Or.inl (Or.inr ⟨{ cls := .type "list", data := .seq vs.toArray }, if_pos rfl⟩)) (fun b u z => ?_) (fun b z => ?_) fun _ => hk
    · by_cases hb : b = a
      · exact Or.inr ⟨_, _, if_pos hb⟩
      · exact Or.inl (if_neg hb)
    · by_cases hb : b = a
      · cases (if_pos hb).symm.trans z
        subst hb
        exact ⟨ha, by rw [List.length_map]; exact hl, vs, _, rv, ha⟩
      · cases (if_neg hb).symm.trans z
    · exact Decidable.byContradiction fun hb => z (if_neg hb)
theorem walkG {l : PySem.W.OpenLaw} {k : Nat} {q : Program} {loose : List Str} {XP : (Str → Option Value) → Heap → Prop} {YP : World → Heap → Prop} {d : DefRec} {K : Params → PySem.W.Frag} {x : Str}
    (hn : l.most = some 63) (hdf : d.params.defaults = []) (hr : Room k callerA) (hY : ∀ (w : World) (h : Heap), YP w h → (K w.params).In h)
    (F : ∀ (w : World) (mg : Str → Option Value) (fa : Addr) (h : Heap), (K w.params).In h → h.Ns mainGlobals mg → mg d.name = some (.ref fa) →
      ∃ fd : FuncData, (∀ (s : Shared) (u : Value), BindsTo s fd ⟨[u], []⟩ [(x, u)]) ∧ ∀ base : Heap, (K w.params).In base → base.Ns mainGlobals mg → FnG l.prog w (K w.params) mg base CX0 k fa fd [x] (spTrue (K w.params))) :
    PySem.W.WalkO q loose XP YP l.row.toRowW d [] (fun f vs => PySem.call f vs) := by
  refine Att.attach_call hn hdf ?_
  intro w s₀ s₁ mg mb fa o pm cd doc a vs ns G Y ho hd hcd hmg hob hints hlen hg
  have kin := hY w _ Y
  obtain ⟨fd, hb, hF⟩ := F w mg fa _ kin G.T.g hmg
  exact callG kin G.T.g G.T.b G.T.builtins G.T.nolimit hg hob hints hlen hr hF hb
end Tl
/-! data without lists, frames, the bag -/
namespace Tl
open PySem PySem.Spec PyProof.Rows L2 RZ
/-! ### heaps -/
/-- all tuples stay -/
def KT (K : PySem.W.Frag) (H H' : Hp) : Prop := ∀ a xs, SqT K H a xs → SqT K H' a xs
theorem KT.refl {K : PySem.W.Frag} (H : Hp) : KT K H H := fun _ _ h => h
theorem KT.trans {K : PySem.W.Frag} {H1 H2 H3 : Hp} (a : KT K H1 H2) (b : KT K H2 H3) : KT K H1 H3 := fun x xs h => b x xs (a x xs h)
theorem Same.kt {K : PySem.W.Frag} {H H' : Hp} (h : Same H H') : KT K H H' := fun a xs q => by
  rcases q with (q | ⟨o, q⟩) | q
  · exact .inl (.inl (h _ _ q))
  · exact .inl (.inr ⟨o, h _ _ q⟩)
  · exact .inr q
/-- all but the lists at b and g stays as it was -/
def Frm (b g : Addr) (H H' : Hp) : Prop := ∀ a o, H a = some o → a ≠ b → a ≠ g → H' a = some o
theorem Frm.refl (b g : Addr) (H : Hp) : Frm b g H H := fun _ _ h _ _ => h
theorem Frm.trans {b g : Addr} {H1 H2 H3 : Hp} (x : Frm b g H1 H2) (y : Frm b g H2 H3) : Frm b g H1 H3 := fun a o h h1 h2 => y a o (x a o h h1 h2) h1 h2
theorem Frm.of {b g : Addr} {H H' : Hp} (h : Same H H') : Frm b g H H' := fun a o q _ _ => h a o q
theorem Frm.updB {b g : Addr} {H : Hp} {o : HO} : Frm b g H (upd H b o) := fun a x h h1 _ => by rw [upd_ne h1]; exact h
theorem Frm.updG {b g : Addr} {H : Hp} {o : HO} : Frm b g H (upd H g o) := fun a x h _ h2 => by rw [upd_ne h2]; exact h
/-! ### data of tuples -/
mutual
inductive Td (K : PySem.W.Frag) (H : Hp) : V → PyData → Prop
  | non : Td K H .non .none
  | bl (b : Bool) : Td K H (.bl b) (.bool b)
  | int (i : Int) : Td K H (.int i) (.int i)
  | str (x : Str) : Td K H (.str x) (.str x)
  | tup {a : Addr} {xs : List V} {ds : List PyData} : SqT K H a xs → TdAll K H xs ds → Td K H (.ref a) (.tuple ds)
inductive TdAll (K : PySem.W.Frag) (H : Hp) : List V → List PyData → Prop
  | nil : TdAll K H [] []
  | cons {v : V} {vs : List V} {d : PyData} {ds : List PyData} : Td K H v d → TdAll K H vs ds → TdAll K H (v :: vs) (d :: ds)
end
variable {K : PySem.W.Frag} {H H' : Hp}
mutual
theorem Td.dp : ∀ {v : V} {d : PyData}, Td K H v d → Dp K H v d
  | _, _, .non => .non
  | _, _, .bl b => .bl b
  | _, _, .int i => .int i
  | _, _, .str x => .str x
  | _, _, .tup h a => .tup h (TdAll.dp a)
theorem TdAll.dp : ∀ {v : List V} {d : List PyData}, TdAll K H v d → DpAll K H v d
  | _, _, .nil => .nil
  | _, _, .cons h t => .cons (Td.dp h) (TdAll.dp t)
end
mutual
theorem Td.keep (k : KT K H H') : ∀ {v : V} {d : PyData}, Td K H v d → Td K H' v d
  | _, _, .non => .non
  | _, _, .bl b => .bl b
  | _, _, .int i => .int i
  | _, _, .str x => .str x
  | _, _, .tup h a => .tup (k _ _ h) (TdAll.keep k a)
theorem TdAll.keep (k : KT K H H') : ∀ {v : List V} {d : List PyData}, TdAll K H v d → TdAll K H' v d
  | _, _, .nil => .nil
  | _, _, .cons h t => .cons (Td.keep k h) (TdAll.keep k t)
end
theorem TdAll.len : ∀ {v : List V} {d : List PyData}, TdAll K H v d → v.length = d.length
  | _, _, .nil => rfl
  | _, _, .cons _ t => congrArg (· + 1) (TdAll.len t)
theorem TdAll.get : ∀ {vs : List V} {ds : List PyData} {i : Nat} {d : PyData}, TdAll K H vs ds → ds[i]? = some d → ∃ v, vs[i]? = some v ∧ Td K H v d
  | _, _, _, _, .nil, e => by simp at e
  | _, _, 0, _, .cons h _, e => by
    simp at e
    subst e
    exact ⟨_, rfl, h⟩
  | _, _, i + 1, d, .cons _ t, e => by
    obtain ⟨v, h1, h2⟩ := TdAll.get (i := i) (d := d) t (by simpa using e)
    exact ⟨v, by simpa using h1, h2⟩
theorem TdAll.getV : ∀ {vs : List V} {ds : List PyData} {i : Nat} {v : V}, TdAll K H vs ds → vs[i]? = some v → ∃ d, ds[i]? = some d ∧ Td K H v d
  | _, _, _, _, .nil, e => by simp at e
  | _, _, 0, _, .cons h _, e => by
    simp at e
    subst e
    exact ⟨_, rfl, h⟩
  | _, _, i + 1, v, .cons _ t, e => by
    obtain ⟨d, h1, h2⟩ := TdAll.getV (i := i) (v := v) t (by simpa using e)
    exact ⟨d, by simpa using h1, h2⟩
theorem TdAll.app : ∀ {vs ws : List V} {ds es : List PyData}, TdAll K H vs ds → TdAll K H ws es → TdAll K H (vs ++ ws) (ds ++ es)
  | _, _, _, _, .nil, h => h
  | _, _, _, _, .cons h t, q => .cons h (TdAll.app t q)
theorem Td.tupE {v : V} {ds : List PyData} (h : Td K H v (.tuple ds)) : ∃ a xs, v = .ref a ∧ SqT K H a xs ∧ TdAll K H xs ds := by
  cases h with
  | tup h a => exact ⟨_, _, rfl, h, a⟩
theorem Td.intE {v : V} {i : Int} (h : Td K H v (.int i)) : v = .int i := by
  cases h
  rfl
theorem tdAll_ints : ∀ ns : List Int, TdAll K H (ns.map V.int) (ns.map PyData.int)
  | [] => .nil
  | n :: r => .cons (.int n) (tdAll_ints r)
theorem tdAll_intsE : ∀ {ns : List Int} {vs : List V}, TdAll K H vs (ns.map PyData.int) → vs = ns.map V.int
  | [], _, h => by
    cases h
    rfl
  | n :: r, _, h => by
    cases h with
    | cons h t =>
      cases h
      rw [tdAll_intsE t]
      rfl
/-- a list of values, each at its datum -/
theorem tdAll_iff {vs : List V} {ds : List PyData} (hl : vs.length = ds.length) (h : ∀ (i : Nat) (v : V) (d : PyData), vs[i]? = some v → ds[i]? = some d → Td K H v d) : TdAll K H vs ds := by
  induction vs generalizing ds with
  | nil =>
    cases ds with
    | nil => exact .nil
    | cons d r => simp at hl
  | cons v vs ih =>
    cases ds with
    | nil => simp at hl
    | cons d r =>
      refine .cons (h 0 v d rfl rfl) (ih (by simpa using hl) fun i v d h1 h2 => h (i + 1) v d (by simpa using h1) (by simpa using h2))
/-! ### the bag -/
structure Bag (H : Hp) (b g : Addr) : Prop where
  ne : b ≠ g
  hb : ∃ s c al, H b = some (.lst [.int s, .int c, .ref g, al]) ∧ (al = .non ∨ ∃ n, al = .int n)
  hg : ∃ gs : List Int, H g = some (.lst (gs.map V.int)) ∧ gs.length ≤ 63
theorem Bag.kt {b g : Addr} (B : Bag H b g) (f : Frm b g H H') : KT K H H' := fun a xs q => by
  obtain ⟨s, c, al, hb, _⟩ := B.hb
  obtain ⟨gs, hg, _⟩ := B.hg
  rcases q with (q | ⟨o, q⟩) | q
  · refine .inl (.inl (f _ _ q ?_ ?_))
    · intro e
      rw [e, hb] at q
      cases q
    · intro e
      rw [e, hg] at q
      cases q
  · refine .inl (.inr ⟨o, f _ _ q ?_ ?_⟩)
    · intro e
      rw [e, hb] at q
      cases q
    · intro e
      rw [e, hg] at q
      cases q
  · exact .inr q
theorem Bag.keep {b g : Addr} (B : Bag H b g) (s : Same H H') : Bag H' b g :=
  ⟨B.ne, let ⟨x, c, al, h, r⟩ := B.hb; ⟨x, c, al, s _ _ h, r⟩, let ⟨gs, h, r⟩ := B.hg; ⟨gs, s _ _ h, r⟩⟩
/-- another list stands -/
theorem Bag.other {b g a : Addr} {o : HO} (B : Bag H b g) (h : H a = some o) (h2 : ∀ xs, o ≠ .lst xs) : a ≠ b ∧ a ≠ g := by
  obtain ⟨s, c, al, hb, _⟩ := B.hb
  obtain ⟨gs, hg, _⟩ := B.hg
  constructor
  · intro e
    rw [e, hb] at h
    exact h2 _ (Option.some.inj h).symm
  · intro e
    rw [e, hg] at h
    exact h2 _ (Option.some.inj h).symm
theorem Bag.neNew {b g a : Addr} (B : Bag H b g) (h : H a = none) : a ≠ b ∧ a ≠ g := by
  obtain ⟨s, c, al, hb, _⟩ := B.hb
  obtain ⟨gs, hg, _⟩ := B.hg
  refine ⟨fun e => ?_, fun e => ?_⟩
  · rw [e, hb] at h
    cases h
  · rw [e, hg] at h
    cases h
end Tl
/-! the rules with the written part named (for blocks) -/
namespace Tl
open PySem PySem.Spec PyProof.Rows L2 RZ
section
variable {X : Cx} {K : PySem.W.Frag} (h : X.K = K)
include h
theorem k_ixL : IxR X (rIxL K) := by subst h; exact ix_list
theorem k_ixT : IxR X (rIxT K) := by subst h; exact ix_tup
def rLen (K : PySem.W.Frag) : List V → Hp → VK → Prop := fun xs H Q => ∃ p ys, xs = [.ref p] ∧ (SqL K H p ys ∨ SqT K H p ys) ∧ Q (.int ys.length) H
theorem k_len : CallR X (.builtin "len") (rLen K) := by subst h; exact call_len_seq
theorem k_sum (hc : X.calm = true) : CallR X (.builtin "sum") (rSum K) := by subst h; exact cr_sum hc
theorem k_any (hc : X.calm = true) : CallR X (.builtin "any") (rAny K) := by subst h; exact cr_any hc
theorem k_all (hc : X.calm = true) : CallR X (.builtin "all") (rAll K) := by subst h; exact cr_all hc
theorem k_eqD (hu : X.A.units + 64 < cLine) : OpR X (compareOp .Eq) (rEqD K) := by subst h; exact op_eqD hu
theorem k_neD (hu : X.A.units + 64 < cLine) : OpR X (compareOp .NotEq) (rNeD K) := by subst h; exact op_neD hu
theorem k_ltT (hu : X.A.units < cLine) : OpR X (compareOp .Lt) (rLtT K) := by subst h; exact op_ltT hu
theorem k_rep : OpR X (binaryOp .Mult) (rRepP K) := by subst h; exact op_repP
def rCatP (K : PySem.W.Frag) : R2 := fun x y H Q => ∃ a b xs ys, x = .ref a ∧ y = .ref b ∧ SqT K H a xs ∧ SqT K H b ys ∧ xs.length + ys.length ≤ sizeLine ∧ ∀ p H', Same H H' → SqT K H' p (xs ++ ys) → Q (.ref p) H'
theorem k_cat : OpR X (binaryOp .Add) (rCatP K) := by
  subst h
  intro pins s σ H x y v u Q I rx ry ⟨a, b, xs, ys, e1, e2, ha, hb, hz, q⟩
  refine op_catA pins s σ H x y v u Q I rx ry ⟨a, b, xs, ys, e1, e2, ha, hb, hz, fun z => ?_, fun _ z => ?_, fun _ _ p hp => q p _ (same_upd hp) (.inl (.inl upd_same))⟩
  · subst z
    exact q b H (Same.refl H) hb
  · subst z
    exact q a H (Same.refl H) (by rw [List.append_nil]; exact ha)
def rTupOf (K : PySem.W.Frag) : List V → Hp → VK → Prop := fun xs H Q => ∃ p ys, xs = [.ref p] ∧ SqL K H p ys ∧ ∀ l H', Same H H' → SqT K H' l ys → Q (.ref l) H'
theorem k_tupOf : CallR X (.type "tuple") (rTupOf K) := by
  subst h
  intro pins s σ H xs us Q I r ⟨p, ys, e, hs, q⟩
  exact call_tuple_of pins s σ H xs us Q I r ⟨p, ys, e, .inl ⟨hs, fun l hl => q l _ (same_upd hl) (.inl (.inl upd_same))⟩⟩
theorem k_isi : CallR X (.builtin "isinstance") (rIsi K) := by subst h; exact call_isi
theorem k_repr (hu : X.A.units + 64 < cLine) (hg : X.A.guards = some []) : CallR X (.builtin "repr") (rReprD K) := by subst h; exact cr_reprD hu hg
theorem k_maxDf (hc : X.calm = true) (hu : X.A.units + 64 < cLine) : CallRK X (.builtin "max") [Str.ofString "default"] (rMaxDf K) := by subst h; exact cr_maxDf hc hu
theorem k_slL : SlR X (rSlL K) := by subst h; exact sl_list
theorem k_getL : PGet X (gAtL K) := by subst h; exact get_listP
theorem k_tup {pos : Pos} {es : List Expr} {k : Nat} {t : TGs} {n : Nat} (hc : X.calm = true) (hp : PGs X es t) (hn : (assignEach es X.env).length = n := by rfl) (hst : (assignEach es X.env).findIdx? (·.1) = none := by rfl) : PG X (.Tuple es k pos) (gTup K n t) := by
  subst h
  exact pg_tup hc hp hn hst
theorem k_iL {tg l : Expr} {tl : TE} (hl : PE X l tl) : PI X tg l (iList K tl) := by subst h; exact pi_list hl
theorem k_iT {tg l : Expr} {tl : TE} (hl : PE X l tl) : PI X tg l (iTup K tl) := by subst h; exact pi_tup hl
theorem k_enum {e : Expr} {ta : TA} {p pos tpos : Pos} {elts : List Expr} {kk : Nat} (hg : Gl X "enumerate") (hm : X.mg "enumerate" = none) (ha : PA X [e] ta) (hs : starEach [e] X.env = [(false, eval e X.env)] := by rfl) :
    PI X (.Tuple elts kk tpos) (.Call (.Name "enumerate" p) [e] [] pos) (iEnumT K ta) := by subst h; exact pi_enumT hg hm ha hs
theorem k_zip {e e2 : Expr} {ta : TA} {p pos tpos : Pos} {elts : List Expr} {kk : Nat} (hg : Gl X "zip") (hm : X.mg "zip" = none) (ha : PA X [e, e2] ta)
    (hs : starEach [e, e2] X.env = (false, eval e X.env) :: starEach [e2] X.env := by rfl) (hpl : (backTo pos (starEach [e2] X.env)).any (·.1) = false := by rfl) :
    PI X (.Tuple elts kk tpos) (.Call (.Name "zip" p) [e, e2] [] pos) (iZipA K ta) := by subst h; exact pi_zipA hg hm ha hs hpl
theorem k_fld {e : Expr} {ta : TE} {f : Str} {pos : Pos} (he : PE X e ta) (hb : attributeBase e f X.env (eval e X.env) = eval e X.env) : PE X (.Attribute e f pos) (tFld K ta f) := by subst h; exact pe_fld he hb
end
end Tl
/-! every second item: a[::2], a[1::2]; list(a) -/
namespace Tl
open PySem PySem.Spec PyProof.Rows L2 RZ
def ev2 {T : Type} : List T → List T
  | [] => []
  | [a] => [a]
  | a :: _ :: r => a :: ev2 r
theorem ev2_at {T : Type} : ∀ (l : List T) (i : Nat), (ev2 l)[i]? = l[2 * i]?
  | [], i => by
    show ([] : List T)[i]? = _
    rw [List.getElem?_nil, List.getElem?_nil]
  | [a], 0 => rfl
  | [a], i + 1 => by
    rw [List.getElem?_eq_none (by show 1 ≤ i + 1; omega), List.getElem?_eq_none (by show 1 ≤ 2 * (i + 1); omega)]
  | a :: b :: r, 0 => rfl
  | a :: b :: r, i + 1 => by
    show (ev2 r)[i]? = _
    rw [ev2_at r i, show 2 * (i + 1) = 2 * i + 1 + 1 by omega, List.getElem?_cons_succ, List.getElem?_cons_succ]
theorem ev2_len {T : Type} : ∀ l : List T, (ev2 l).length = (l.length + 1) / 2
  | [] => by
    show 0 = (0 + 1) / 2
    decide
  | [a] => by
    show 1 = (1 + 1) / 2
    decide
  | a :: b :: r => by
    show (ev2 r).length + 1 = (r.length + 1 + 1 + 1) / 2
    rw [ev2_len r]
    omega
theorem pick2 {T : Type} : ∀ l : List T, ((List.range ((l.length + 1) / 2)).filterMap fun k => l[2 * k]?) = ev2 l
  | [] => by
    have e : (([] : List T).length + 1) / 2 = 0 := by
      show (0 + 1) / 2 = 0
      decide
    rw [e]
    rfl
  | [a] => by
    have e : ([a].length + 1) / 2 = 1 := by
      show (1 + 1) / 2 = 1
      decide
    rw [e]
    rfl
  | a :: b :: r => by
    have e : ((a :: b :: r).length + 1) / 2 = (r.length + 1) / 2 + 1 := by
      show (r.length + 1 + 1 + 1) / 2 = _
      omega
    rw [e, List.range_succ_eq_map, List.filterMap_cons, List.filterMap_map]
    show a :: _ = a :: ev2 r
    rw [← pick2 r]
    congr 1
theorem pick2_from {T : Type} (l : List T) (a : Nat) (ha : a ≤ l.length) : ((sliceRange (a : Int) (l.length : Int) 2).filterMap fun k => l[k]?) = ev2 (l.drop a) := by
  have c : (if (2 : Int) > 0 then (if (a : Int) < (l.length : Int) then ((l.length : Int) - a + 2 - 1) / 2 else 0) else (if (a : Int) > (l.length : Int) then ((a : Int) - l.length - 2 - 1) / (-2) else 0)).toNat = ((l.drop a).length + 1) / 2 := by
    rw [if_pos (by decide), List.length_drop]
    split <;> omega
  unfold sliceRange
  simp only []
  rw [c, List.filterMap_map, ← pick2 (l.drop a)]
  congr 1
  funext k
  show l[((a : Int) + 2 * (k : Int)).toNat]? = (l.drop a)[2 * k]?
  rw [List.getElem?_drop]
  congr 1
/-- a[::2] and a[1::2] -/
def rSlS (K : PySem.W.Frag) : V → Option Int → Hp → VK → Prop := fun x lo H Q => ∃ (p : Addr) (xs : List V) (j : Nat), x = .ref p ∧ SqL K H p xs ∧ (lo = none ∧ j = 0 ∨ lo = some 1 ∧ j = 1) ∧ 1 ≤ xs.length ∧ ∀ q, H q = none → Q (.ref q) (upd H q (.lst (ev2 (xs.drop j))))
def tSlS (K : PySem.W.Frag) (te : TE) (tl : TO) : TE := fun σ H Q => te σ H fun x H1 => tl σ H1 fun lo H2 => rSlS K x lo H2 Q
theorem ev2_vals {xs : List V} {us : List Value} (r : Vals xs us) : Vals (ev2 xs) (ev2 us) := by
  have g : ∀ (n : Nat) (xs : List V) (us : List Value), xs.length ≤ n → Vals xs us → Vals (ev2 xs) (ev2 us) := by
    intro n
    induction n with
    | zero =>
      intro xs us h r
      cases r with
      | nil => exact .nil
      | cons _ _ => simp at h
    | succ n ih =>
      intro xs us h r
      cases r with
      | nil => exact .nil
      | cons r1 t =>
        cases t with
        | nil => exact .cons r1 .nil
        | cons r2 t => exact .cons r1 (ih _ _ (by simp at h; omega) t)
  exact g _ _ _ (Nat.le_refl _) r
section
variable {X : Cx} {K : PySem.W.Frag} (hK : X.K = K)
include hK
theorem k_slS {e : Expr} {lo : Option Expr} {te : TE} {tl : TO} {kk : Nat} {p3 p2 pos : Pos} (ee : PE X e te) (el : PO X lo tl) : PE X (.Subscript e (.Slice lo none (some (.Constant (.int 2) kk p3)) p2) pos) (tSlS K te tl) := by
  subst hK
  constructor
  intro pins s σ H Q I want
  refine Subscript_ (thn (ee.run pins s σ H _ I want) fun v sa za => ?_)
  obtain ⟨x, Ha, Ia, rx, want⟩ := za
  refine wpAny_Slice (thn (el.run pins sa σ Ha _ Ia want) fun vl sb zb => ?_)
  obtain ⟨l, Hb, Ib, pl, want⟩ := zb
  rw [evalPart_none, evalPart_some]
  refine wpAny_pure ?_
  refine thn ((pe_int (X := X) (i := 2) (j := kk) (pos := p3)).run pins sb σ Hb (fun z Hz => z = .int 2 ∧ Hz = Hb) Ib ⟨rfl, rfl⟩) fun vs sc zc => ?_
  obtain ⟨z, Hc, Ic, rz, rfl, rfl⟩ := zc
  obtain ⟨tk, rfl⟩ := rz
  have Id : Inv X pins σ Hc { sc with heap := sc.heap.push { cls := .type "slice", data := .fields #[vl, .none, .int 2 tk] } } := Ic.kept (t' := sc.toks) fun b ob q => Heap.get?_push_of_some _ q
  obtain ⟨p, xs, j, rfl, hx, hj, h1, want⟩ := want
  cases rx
  obtain ⟨its, rv, ht, hz⟩ := Id.list hx
  have hlen := rv.length
  show wpAny (model X.prog X.w) X.A (subscriptTail e (.Slice lo none (some (.Constant (.int 2) kk p3)) p2) (.ref p) (.ref sc.heap.objs.size)) (EP X pins σ Q) X.xe { sc with heap := sc.heap.push { cls := .type "slice", data := .fields #[vl, .none, .int 2 tk] } }
  refine tail_any (ops := [.ref p, .ref sc.heap.objs.size]) ht.isList.typeIs slot_list_getitem.lookup ?_ (by with_unfolding_all rfl)
  refine wpAny_getItem_list_slice (st := some 2) ht.isList (Heap.IsSliceOf.new ..) pl .none (.int 2 tk) (by decide) ?_ (by rw [List.size_toArray] <;> omega)
  have b1 : (sliceBounds l none (some 2) its.length).1 = (j : Int) := by
    rcases hj with ⟨rfl, rfl⟩ | ⟨rfl, rfl⟩
    · rfl
    · show (if (2 : Int) > 0 then max 0 (min (if (1 : Int) < 0 then 1 + (its.length : Int) else 1) (its.length : Int)) else max (-1) (min (if (1 : Int) < 0 then 1 + (its.length : Int) else 1) ((its.length : Int) - 1))) = ((1 : Nat) : Int)
      rw [if_pos (by decide), if_neg (by decide)]
      omega
  have jl : j ≤ its.length := by rcases hj with ⟨_, rfl⟩ | ⟨_, rfl⟩ <;> omega
  have pk : slicePick its.toArray l none (some 2) = (ev2 (its.drop j)).toArray := by
    unfold slicePick
    rw [List.size_toArray, b1]
    show ((sliceRange (j : Int) (its.length : Int) 2).filterMap (its.toArray[·]?)).toArray = _
    rw [← pick2_from its j jl]
    congr 2
    funext k
    exact List.getElem?_toArray
  rw [pk]
  refine ⟨.ref _, _, Id.laid (t' := sc.toks) (o := .lst (ev2 (xs.drop j))) (fun b ob q => Heap.get?_push_of_some _ q) (Nat.le_refl _) ?_, rfl, want _ (Id.hok.fresh (Nat.le_refl _))⟩
  refine ⟨?_, ev2 (its.drop j), 0, ev2_vals (rv.drop j), Heap.get?_push_size _ rfl⟩
  rw [ev2_len, List.length_drop]
  omega
def rListOf (K : PySem.W.Frag) : List V → Hp → VK → Prop := fun xs H Q => ∃ p ys, xs = [.ref p] ∧ (SqL K H p ys ∨ SqT K H p ys) ∧ ∀ l, H l = none → Q (.ref l) (upd H l (.lst ys))
theorem k_listOf : CallR X (.type "list") (rListOf K) := by
  subst hK
  exact call_list_of
end
end Tl
/-! math.lcm; a walk over a list or a tuple, whichever it is -/
namespace Tl
open PySem PySem.Spec PyProof.Rows L2 RZ
def rLcm : List V → Hp → VK → Prop := fun vs H Q => ∃ a b : Nat, vs = [.int (a : Int), .int (b : Int)] ∧ a < 2 ^ 6000 ∧ b < 2 ^ 6000 ∧ Q (.int ((Nat.lcm a b : Nat) : Int)) H
section
variable {X : Cx}
theorem cr_lcm : CallR X (.builtin "math.lcm") rLcm := by
  intro pins s σ H vs us Q I r h
  obtain ⟨a, b, rfl, ha, hb, q⟩ := h
  obtain ⟨t, u, rfl⟩ := Vals.int2 r
  have e1 : (Nat.lcm 1 ((a : Int)).natAbs).lcm ((b : Int)).natAbs = Nat.lcm a b := by
    rw [PySem.W.mc_lcm_one, Int.natAbs_natCast, Int.natAbs_natCast]
  have e3 : ((1 : Nat)) ≤ 2 ^ 6000 := Nat.one_le_two_pow
  have e4 : ((1 : Nat)) < 2 ^ 6000 := Nat.one_lt_two_pow (by decide)
  have h1 : (max 1 ((a : Int)).natAbs).log2 ≤ 5999 := PySem.W.mg_log (by
    rw [Int.natAbs_natCast]
    show max 1 a < 2 ^ 6000
    generalize (2 : Nat) ^ 6000 = Z at ha e4
    omega)
  have h2 : (max ((a : Int)).natAbs ((b : Int)).natAbs).log2 ≤ 5999 := PySem.W.mg_log (by
    rw [Int.natAbs_natCast, Int.natAbs_natCast]
    show max a b < 2 ^ 6000
    generalize (2 : Nat) ^ 6000 = Z at ha hb
    omega)
  have h3 : Nat.lcm a b < 2 ^ 12000 := by
    refine Nat.lt_of_le_of_lt (PySem.W.mc_lcm_le a b) ?_
    rw [show (12000 : Nat) = 6000 + 6000 from rfl, Nat.pow_add]
    exact Nat.mul_lt_mul'' ha hb
  have hsz : ((((Nat.lcm 1 ((a : Int)).natAbs).lcm ((b : Int)).natAbs : Nat) : Int)).natAbs.log2 < bitsLine := by
    rw [e1, Int.natAbs_natCast]
    refine Nat.lt_of_le_of_lt (PySem.W.mg_log (k := 11999) h3) (by decide)
  refine call_function_meets PySem.W.MGF.kind_lcm PySem.W.MGF.plain_lcm PySem.W.MGF.entry_lcm (PySem.W.MGF.args_lcm _ _) (PySem.W.mg_run_lcm (a : Int) t (b : Int) u (by omega) (by omega) hsz).meets ?_
  rw [e1]
  exact ⟨.int _, H, I.tok _, ⟨_, rfl⟩, q⟩
end
theorem KT.updL {K : PySem.W.Frag} {H : Hp} {e : Addr} {xs ys : List V} (h : H e = some (.lst xs)) : KT K H (upd H e (.lst ys)) := fun a zs q => by
  rcases q with (q | ⟨o, q⟩) | q
  · exact .inl (.inl (by rw [upd_ne (ne_of q h (by intro z; cases z))]; exact q))
  · exact .inl (.inr ⟨o, by rw [upd_ne (ne_of q h (by intro z; cases z))]; exact q⟩)
  · exact .inr q
def iLT (K : PySem.W.Frag) (tl : TE) : TI := fun σ H R => tl σ H fun x H1 => ∃ a xs, x = .ref a ∧ (SqL K H1 a xs ∨ SqT K H1 a xs) ∧ ∀ (J : It) (G : Hp → Prop), Walk J xs.length G (YAt xs) → (∀ H', Same H1 H' → G H') → R J H1
theorem k_iLT {X : Cx} {K : PySem.W.Frag} (hK : X.K = K) {tg l : Expr} {tl : TE} (hl : PE X l tl) : PI X tg l (iLT K tl) := by
  subst hK
  refine ⟨fun pins s σ H R I h => ?_⟩
  refine thn (hl.run pins s σ H _ I h) fun v s1 ⟨x, H1, I1, r1, q1⟩ => ?_
  obtain ⟨a, xs, e, hq, q⟩ := q1
  subst e
  cases r1
  rcases hq with hq | hq
  · obtain ⟨its, rv, p, hz⟩ := I1.list hq
    refine wpAny_pyIter_list p.isList ?_
    refine ⟨s1.heap.objs.size, [s1.heap.objs.size], _, _, H1, rfl, I1.kept (t' := s1.toks) fun b o e => Heap.get?_push_of_some _ e, turn_list a _, ⟨_, Heap.get?_push_size _ rfl, rfl, rfl⟩, fun b hb => ?_, q _ _ walk_list fun H' s => s.seq hq⟩
    have e : b = s1.heap.objs.size := by simpa using hb
    subst e
    exact I1.fpOk (Nat.le_refl _) (I1.hok.fresh (Nat.le_refl _))
  · obtain ⟨its, rv, p, hz⟩ := I1.tuple hq
    refine wpAny_pyIter_tuple (show s1.heap.IsTuple a its.toArray from p) ?_
    refine ⟨s1.heap.objs.size, [s1.heap.objs.size], _, _, H1, rfl, I1.kept (t' := s1.toks) fun b o e => Heap.get?_push_of_some _ e, turn_tuple a _, ⟨_, Heap.get?_push_size _ rfl, rfl, rfl⟩, fun b hb => ?_, q _ _ walk_tup fun H' s => Same.kt s _ _ hq⟩
    have e : b = s1.heap.objs.size := by simpa using hb
    subst e
    exact I1.fpOk (Nat.le_refl _) (I1.hok.fresh (Nat.le_refl _))
/-- xs[i] of a list or a tuple, whichever it is -/
def rIxLT (K : PySem.W.Frag) : V → V → Hp → VK → Prop := fun x y H Q => ∃ (p : Addr) (xs : List V) (i : Int) (v : V), x = .ref p ∧ y = .int i ∧ (SqL K H p xs ∨ SqT K H p xs) ∧ atI xs i = some v ∧ Q v H
theorem k_ixLT {X : Cx} {K : PySem.W.Frag} (hK : X.K = K) : IxR X (rIxLT K) := by
  subst hK
  intro value slice pins s σ H x y v u Q I rx ry h hs
  obtain ⟨p, xs, j, z, e1, e2, hq, he, q⟩ := h
  rcases hq with hq | hq
  · exact ix_list value slice pins s σ H x y v u Q I rx ry ⟨p, xs, j, z, e1, e2, hq, he, q⟩ hs
  · exact ix_tup value slice pins s σ H x y v u Q I rx ry ⟨p, xs, j, z, e1, e2, hq, he, q⟩ hs
def iEnumLT (K : PySem.W.Frag) (ta : TA) : TI := fun σ H R => ta σ H fun vs H1 => ∃ a xs, vs = [.ref a] ∧ (SqL K H1 a xs ∨ SqT K H1 a xs) ∧ ∀ (J : It) (G : Hp → Prop), Walk J xs.length G (YPair (fun i => some (.int (i : Nat))) (fun i => xs[i]?)) → (∀ H', Same H1 H' → G H') → R J H1
theorem k_enumLT {X : Cx} {K : PySem.W.Frag} (hK : X.K = K) {e : Expr} {ta : TA} {p pos tpos : Pos} {elts : List Expr} {kk : Nat} (hg : Gl X "enumerate") (hm : X.mg "enumerate" = none) (ha : PA X [e] ta) (hs : starEach [e] X.env = [(false, eval e X.env)] := by rfl) :
    PI X (.Tuple elts kk tpos) (.Call (.Name "enumerate" p) [e] [] pos) (iEnumLT K ta) := by
  subst hK
  refine ⟨fun pins s σ H R I h => Call_ (ld_blt I hg hm boot_enumerate (PyProof.Rows.callWith_type1 (thn (ha.run pos pins s σ H _ I h) fun us s1 hq => ?_) hs rfl))⟩
  obtain ⟨vs, H1, I1, r1, a, xs, rfl, hT, q⟩ := hq
  rw [Vals.ref1 r1]
  rcases hT with hT | hT
  · obtain ⟨its, rv, p', hz⟩ := I1.list hT
    refine call_enumerate_list p'.isList fun h' he hit hsz hk => wpAny_pyIter_enum he ?_
    have I2 : Inv X pins σ H1 { s1 with heap := h' } := I1.kept (t' := s1.toks) hk
    refine ⟨s1.heap.objs.size + 1, [s1.heap.objs.size + 1, s1.heap.objs.size], _, _, H1, rfl, I2, turn_enum a (s1.heap.objs.size + 1) s1.heap.objs.size, ⟨⟨.none, he⟩, hit, Nat.succ_ne_self _⟩, fun b hb => ?_, q _ _ walk_enum fun H' s => s.seq hT⟩
    have e' : b = s1.heap.objs.size + 1 ∨ b = s1.heap.objs.size := by simpa using hb
    have hle : s1.heap.objs.size ≤ b := by
      rcases e' with z | z
      · rw [z]; exact Nat.le_add_right _ _
      · rw [z]; exact Nat.le_refl _
    exact I1.fpOk hle (I1.hok.fresh hle)
  · obtain ⟨its, rv, pt, hz⟩ := I1.tuple hT
    have hat : a < s1.heap.objs.size := by
      obtain ⟨o, ho, _⟩ := id pt
      exact Heap.lt_size ho
    refine enum_tup (show s1.heap.IsTuple a its.toArray from pt) fun h' he hit hk => wpAny_pyIter_enum he ?_
    have I2 : Inv X pins σ H1 { s1 with heap := h' } := I1.kept (t' := s1.toks) hk
    refine ⟨_, [s1.heap.objs.size + 1, s1.heap.objs.size], _, _, H1, rfl, I2, turn_enumT a (s1.heap.objs.size + 1) s1.heap.objs.size, ⟨⟨.none, he⟩, hit, Nat.succ_ne_self _, Nat.ne_of_gt (Nat.lt_succ_of_lt hat), Nat.ne_of_lt hat⟩, fun b hb => ?_, q _ _ walk_enumT fun H' s => Same.kt s _ _ hT⟩
    have hle : s1.heap.objs.size ≤ b := by
      rcases (show b = s1.heap.objs.size + 1 ∨ b = s1.heap.objs.size by simpa using hb) with z | z
      · rw [z]; exact Nat.le_succ _
      · rw [z]; exact Nat.le_refl _
    exact I1.fpOk hle (I1.hok.fresh hle)
/-! comprehensions whose items are told one by one -/
theorem lc_td {K : PySem.W.Frag} {J : It} {n : Nat} {G : Hp → Prop} {Y : Nat → Hp → V → Hp → Prop} (w : Walk J n G Y) {g : TG} {tt : TT} {te : TE} {vs : List Nat} {σ : L2.St} {H : Hp} {T : Addr} {Qd : Hp → Prop} (es : List PyData) (hl : es.length = n) (hn : n ≤ 3000) (hT : H T = none) (hG : ∀ H', Same H H' → G H')
    (hs : ∀ (i : Nat) (x : V) (e : PyData) (H2 H3 : Hp) (Qy : V → Hp → Prop) (N : Hp → Prop), es[i]? = some e → Same H H2 → Y i H2 x H3 → (∀ y H5, Same H2 H5 → Td K H5 y e → Qy y H5) → g x (wipe σ vs) H3 fun σ2 H4 => wipe σ2 vs = wipe σ vs ∧ tt σ2 H4 fun b H5 => if b = true then te σ2 H5 Qy else N H5)
    (hd : ∀ H2 ws, H2 T = some (.lst ws) → TdAll K H2 ws es → Same H H2 → Qd H2) :
    ∃ W : Nat → Nat → Hp → Prop, (∃ m, W 0 m (upd H T (.lst []))) ∧ ∀ i m H, W i m H →
      (J.stop i H ∧ Qd H) ∨ (J.go i H ∧ ∃ Nx : Hp → Prop, (∀ H', Nx H' → ∃ m', m' < m ∧ W (i + 1) m' H') ∧ ∀ x H', J.yld i H x H' → g x (wipe σ vs) H' fun σ2 H2 => wipe σ2 vs = wipe σ vs ∧ tt σ2 H2 fun b H3 =>
        if b = true then te σ2 H3 fun y H4 => ∃ acc, H4 T = some (.lst acc) ∧ acc.length < sizeLine ∧ Nx (upd H4 T (.lst (acc ++ [y]))) else Nx H3) := by
  refine lc_it w (fun i H2 => ∃ ws : List V, H2 T = some (.lst ws) ∧ TdAll K H2 ws (es.take i) ∧ Same H H2) ⟨[], upd_same, .nil, same_upd hT⟩ (fun i H2 _ h => hG _ h.choose_spec.2.2) ?_ ?_
  · rintro i x H2 H3 hi ⟨ws, h2, t2, s2⟩ y
    have he : es[i]? = some (es[i]'(by omega)) := List.getElem?_eq_getElem _
    refine hs i x _ H2 H3 _ _ he s2 y fun v H5 s5 tv => ?_
    have h5 := s5 _ _ h2
    have kT : KT K H5 (upd H5 T (.lst (ws ++ [v]))) := KT.updL h5
    refine ⟨ws, h5, ?_, ws ++ [v], upd_same, ?_, fun c o z => ?_⟩
    · rw [t2.len, List.length_take]
      have : (3000 : Nat) < sizeLine := by decide
      omega
    · rw [List.take_add_one, he]
      exact (t2.keep ((Same.kt s5).trans kT)).app (.cons (tv.keep kT) .nil)
    · rw [upd_ne (ne_of_none z hT)]
      exact s5 _ _ (s2 _ _ z)
  · rintro H2 ⟨ws, h2, t2, s2⟩
    rw [List.take_of_length_le (by omega)] at t2
    exact hd H2 ws h2 t2 s2
end Tl
namespace Tl
open PySem PySem.Spec PyProof.Rows L2 RZ
def topS (i : Nat) : Stmt := PySem.Challenge.pw_tellsless_k03_whole_hopeful_and_begun.main.body.getD i (.Pass ⟨0, 0, 0, 0⟩)
abbrev s_BadHouse_init : Stmt := inClass (topS 3) 0
theorem sc_BadHouse_init : FnScope ["self", "place"] ["self", "place"] (defScope s_BadHouse_init) := ⟨rfl, rfl, rfl, by decide +kernel, rfl, by decide +kernel, by decide +kernel⟩
abbrev s_is_integral : Stmt := topS 8
theorem sc_is_integral : FnScope ["thing"] ["thing"] (defScope s_is_integral) := ⟨rfl, rfl, rfl, by decide +kernel, rfl, by decide +kernel, by decide +kernel⟩
abbrev s_is_number : Stmt := topS 9
theorem sc_is_number : FnScope ["thing", "least", "most"] ["thing", "least", "most"] (defScope s_is_number) := ⟨rfl, rfl, rfl, by decide +kernel, rfl, by decide +kernel, by decide +kernel⟩
abbrev s_is_fraction : Stmt := topS 10
theorem sc_is_fraction : FnScope ["thing", "top", "bottom"] ["thing"] (defScope s_is_fraction) := ⟨rfl, rfl, rfl, by decide +kernel, rfl, by decide +kernel, by decide +kernel⟩
abbrev s_is_chance : Stmt := topS 11
theorem sc_is_chance : FnScope ["thing"] ["thing"] (defScope s_is_chance) := ⟨rfl, rfl, rfl, by decide +kernel, rfl, by decide +kernel, by decide +kernel⟩
abbrev s_are_chances : Stmt := topS 12
theorem sc_are_chances : FnScope ["thing", "many", "chance"] ["thing", "many"] (defScope s_are_chances) := ⟨rfl, rfl, rfl, by decide +kernel, rfl, by decide +kernel, by decide +kernel⟩
abbrev s_are_nought : Stmt := topS 13
theorem sc_are_nought : FnScope ["weights", "weight"] ["weights"] (defScope s_are_nought) := ⟨rfl, rfl, rfl, by decide +kernel, rfl, by decide +kernel, by decide +kernel⟩
abbrev s_reduced : Stmt := topS 14
theorem sc_reduced : FnScope ["top", "bottom", "common"] ["top", "bottom"] (defScope s_reduced) := ⟨rfl, rfl, rfl, by decide +kernel, rfl, by decide +kernel, by decide +kernel⟩
abbrev s_common_bottom : Stmt := topS 15
theorem sc_common_bottom : FnScope ["fractions", "bottom", "fraction"] ["fractions"] (defScope s_common_bottom) := ⟨rfl, rfl, rfl, by decide +kernel, rfl, by decide +kernel, by decide +kernel⟩
abbrev s_times_whole : Stmt := topS 16
theorem sc_times_whole : FnScope ["fraction", "whole"] ["fraction", "whole"] (defScope s_times_whole) := ⟨rfl, rfl, rfl, by decide +kernel, rfl, by decide +kernel, by decide +kernel⟩
abbrev s_total : Stmt := topS 17
theorem sc_total : FnScope ["fractions", "whole", "fraction"] ["fractions"] (defScope s_total) := ⟨rfl, rfl, rfl, by decide +kernel, rfl, by decide +kernel, by decide +kernel⟩
abbrev s_total_weights : Stmt := topS 18
theorem sc_total_weights : FnScope ["rows", "worlds", "weights", "world"] ["rows", "worlds"] (defScope s_total_weights) := ⟨rfl, rfl, rfl, by decide +kernel, rfl, by decide +kernel, by decide +kernel⟩
abbrev s_is_word : Stmt := topS 25
theorem sc_is_word : FnScope ["thing", "number"] ["thing"] (defScope s_is_word) := ⟨rfl, rfl, rfl, by decide +kernel, rfl, by decide +kernel, by decide +kernel⟩
abbrev s_is_answer : Stmt := topS 26
theorem sc_is_answer : FnScope ["thing", "worlds"] ["thing", "worlds"] (defScope s_is_answer) := ⟨rfl, rfl, rfl, by decide +kernel, rfl, by decide +kernel, by decide +kernel⟩
abbrev s_is_ascending : Stmt := topS 27
theorem sc_is_ascending : FnScope ["rows", "low", "high"] ["rows"] (defScope s_is_ascending) := ⟨rfl, rfl, rfl, by decide +kernel, rfl, by decide +kernel, by decide +kernel⟩
abbrev s_check_tree : Stmt := topS 28
theorem sc_check_tree : FnScope ["worlds", "tree"] ["worlds", "tree"] (defScope s_check_tree) := ⟨rfl, rfl, rfl, by decide +kernel, rfl, by decide +kernel, by decide +kernel⟩
abbrev s_check_node : Stmt := topS 29
theorem sc_check_node : FnScope ["node", "place", "ahead", "number", "question"] ["node", "place", "ahead"] (defScope s_check_node) := ⟨rfl, rfl, rfl, by decide +kernel, rfl, by decide +kernel, by decide +kernel⟩
abbrev s_check_question : Stmt := topS 30
theorem sc_check_question : FnScope ["question", "place", "ahead", "number", "answer"] ["question", "place", "ahead"] (defScope s_check_question) := ⟨rfl, rfl, rfl, by decide +kernel, rfl, by decide +kernel, by decide +kernel⟩
abbrev s_answers_in : Stmt := topS 31
theorem sc_answers_in : FnScope ["node", "many", "question", "answer"] ["node"] (defScope s_answers_in) := ⟨rfl, rfl, rfl, by decide +kernel, rfl, by decide +kernel, by decide +kernel⟩
abbrev s_rounds_in : Stmt := topS 32
theorem sc_rounds_in : FnScope ["node", "question", "answer"] ["node"] (defScope s_rounds_in) := ⟨rfl, rfl, rfl, by decide +kernel, rfl, by decide +kernel, by decide +kernel⟩
abbrev s_House_init : Stmt := inClass (topS 36) 0
theorem sc_House_init : FnScope ["self", "worlds", "tree"] ["self", "worlds", "tree"] (defScope s_House_init) := ⟨rfl, rfl, rfl, by decide +kernel, rfl, by decide +kernel, by decide +kernel⟩
abbrev s_House_eq : Stmt := inClass (topS 36) 1
theorem sc_House_eq : FnScope ["self", "other"] ["self", "other"] (defScope s_House_eq) := ⟨rfl, rfl, rfl, by decide +kernel, rfl, by decide +kernel, by decide +kernel⟩
abbrev s_made_house : Stmt := topS 37
theorem sc_made_house : FnScope ["worlds", "tree", "house"] ["worlds", "tree"] (defScope s_made_house) := ⟨rfl, rfl, rfl, by decide +kernel, rfl, by decide +kernel, by decide +kernel⟩
abbrev s_hopeful_node : Stmt := topS 38
theorem sc_hopeful_node : FnScope ["node", "word", "weights", "behind", "question"] ["node"] (defScope s_hopeful_node) := ⟨rfl, rfl, rfl, by decide +kernel, rfl, by decide +kernel, by decide +kernel⟩
abbrev s_hopeful : Stmt := topS 39
theorem sc_hopeful : FnScope ["house"] ["house"] (defScope s_hopeful) := ⟨rfl, rfl, rfl, by decide +kernel, rfl, by decide +kernel, by decide +kernel⟩
abbrev s_counted_node : Stmt := topS 40
theorem sc_counted_node : FnScope ["node", "number", "answer", "question"] ["node"] (defScope s_counted_node) := ⟨rfl, rfl, rfl, by decide +kernel, rfl, by decide +kernel, by decide +kernel⟩
abbrev s_begun : Stmt := topS 41
theorem sc_begun : FnScope ["house", "first"] ["house"] (defScope s_begun) := ⟨rfl, rfl, rfl, by decide +kernel, rfl, by decide +kernel, by decide +kernel⟩
abbrev s_law_bag : Stmt := topS 43
theorem sc_law_bag : FnScope ["script", "seed", "cell", "great", "always"] ["script"] (defScope s_law_bag) := ⟨rfl, rfl, rfl, by decide +kernel, rfl, by decide +kernel, by decide +kernel⟩
abbrev s_law_pick : Stmt := topS 44
theorem sc_law_pick : FnScope ["bag", "many", "great", "digit", "number"] ["bag", "many"] (defScope s_law_pick) := ⟨rfl, rfl, rfl, by decide +kernel, rfl, by decide +kernel, by decide +kernel⟩
abbrev s_law_some : Stmt := topS 45
theorem sc_law_some : FnScope ["bag", "things"] ["bag", "things"] (defScope s_law_some) := ⟨rfl, rfl, rfl, by decide +kernel, rfl, by decide +kernel, by decide +kernel⟩
abbrev s_law_common : Stmt := topS 46
theorem sc_law_common : FnScope ["one", "other"] ["one", "other"] (defScope s_law_common) := ⟨rfl, rfl, rfl, by decide +kernel, rfl, by decide +kernel, by decide +kernel⟩
abbrev s_law_low : Stmt := topS 47
theorem sc_law_low : FnScope ["top", "bottom", "common"] ["top", "bottom"] (defScope s_law_low) := ⟨rfl, rfl, rfl, by decide +kernel, rfl, by decide +kernel, by decide +kernel⟩
abbrev s_law_times : Stmt := topS 48
theorem sc_law_times : FnScope ["one", "other"] ["one", "other"] (defScope s_law_times) := ⟨rfl, rfl, rfl, by decide +kernel, rfl, by decide +kernel, by decide +kernel⟩
abbrev s_law_shares : Stmt := topS 49
theorem sc_law_shares : FnScope ["bag", "many", "least", "parts", "k", "part"] ["bag", "many", "least"] (defScope s_law_shares) := ⟨rfl, rfl, rfl, by decide +kernel, rfl, by decide +kernel, by decide +kernel⟩
abbrev s_law_question : Stmt := topS 50
theorem sc_law_question : FnScope ["bag", "worlds", "ahead", "levels", "left", "many", "rows", "world", "found", "k", "word", "weights"] ["bag", "worlds", "ahead", "levels", "left"] (defScope s_law_question) := ⟨rfl, rfl, rfl, by decide +kernel, rfl, by decide +kernel, by decide +kernel⟩
abbrev s_law_node : Stmt := topS 51
theorem sc_law_node : FnScope ["bag", "worlds", "ahead", "levels", "left", "k"] ["bag", "worlds", "ahead", "levels", "left"] (defScope s_law_node) := ⟨rfl, rfl, rfl, by decide +kernel, rfl, by decide +kernel, by decide +kernel⟩
abbrev s_law_tree : Stmt := topS 52
theorem sc_law_tree : FnScope ["bag", "worlds", "levels", "answers", "ahead", "left", "some", "k"] ["bag", "worlds", "levels", "answers"] (defScope s_law_tree) := ⟨rfl, rfl, rfl, by decide +kernel, rfl, by decide +kernel, by decide +kernel⟩
abbrev s_law_is : Stmt := topS 53
theorem sc_law_is : FnScope ["found", "due"] ["found", "due"] (defScope s_law_is) := ⟨rfl, rfl, rfl, by decide +kernel, rfl, by decide +kernel, by decide +kernel⟩
abbrev s_law_with_hopeless : Stmt := topS 54
theorem sc_law_with_hopeless : FnScope ["bag", "worlds", "node", "found", "question", "answers", "word", "weights", "behind", "nought"] ["bag", "worlds", "node"] (defScope s_law_with_hopeless) := ⟨rfl, rfl, rfl, by decide +kernel, rfl, by decide +kernel, by decide +kernel⟩
abbrev s_law_hoped : Stmt := topS 55
theorem sc_law_hoped : FnScope ["node", "found", "question", "some", "answer", "weight", "word", "weights", "behind"] ["node"] (defScope s_law_hoped) := ⟨rfl, rfl, rfl, by decide +kernel, rfl, by decide +kernel, by decide +kernel⟩
abbrev s_law_numbered : Stmt := topS 56
theorem sc_law_numbered : FnScope ["node", "found", "question", "some", "a", "word", "weights", "behind"] ["node"] (defScope s_law_numbered) := ⟨rfl, rfl, rfl, by decide +kernel, rfl, by decide +kernel, by decide +kernel⟩
abbrev s_law : Stmt := topS 57
theorem sc_law : FnScope ["script", "bag", "turn", "worlds", "tree", "house", "plain", "first", "due"] ["script"] (defScope s_law) := ⟨rfl, rfl, rfl, by decide +kernel, rfl, by decide +kernel, by decide +kernel⟩
end Tl
namespace Tl
open PySem PySem.Spec PyProof.Rows L2 RZ
/-- a def of the text as it stands behind the top -/
structure Dn (K : PySem.W.Frag) (mg : Str → Option Value) (x : Str) (st : Stmt) (ps : List Str) (f : Addr) (fd : FuncData) : Prop where
  F : Fun K x x st f fd
  b : Binds K fd ps []
  m : mg x = some (.ref f)
/-- the built-in names that the text uses -/
structure Blt (mg : Str → Option Value) : Prop where
  len : mg "len" = none
  int : mg "int" = none
  abs : mg "abs" = none
  sum : mg "sum" = none
  range : mg "range" = none
  repr : mg "repr" = none
  isinstance : mg "isinstance" = none
  any : mg "any" = none
  all : mg "all" = none
  tuple : mg "tuple" = none
  list : mg "list" = none
  zip : mg "zip" = none
  enumerate : mg "enumerate" = none
  max : mg "max" = none
  bool : mg "bool" = none
def spPick : Sp := fun vs H Q _ => ∃ (b g : Addr) (m : Int), vs = [.ref b, .int m] ∧ Bag H b g ∧ 0 < m ∧ m < 1000000 ∧
  ∀ (r : Int) (H' : Hp), 0 ≤ r → r < m → Bag H' b g → Frm b g H H' → Q (.int r) H'
theorem Bag.mk2 {H : Hp} {b g : Addr} {s c : Int} {al : V} {gs : List Int} (ne : b ≠ g) (hal : al = .non ∨ ∃ n, al = .int n) (h1 : H b = some (.lst [.int s, .int c, .ref g, al])) (h2 : H g = some (.lst (gs.map V.int))) (h3 : gs.length ≤ 63) : Bag H b g :=
  ⟨ne, ⟨s, c, al, h1, hal⟩, ⟨gs, h2, h3⟩⟩
section
variable {P : Program} {w : World} {K : PySem.W.Frag} {mg : Str → Option Value} {base : Heap}
theorem ok_law_pick {f : Addr} {fd : FuncData} (D : Dn K mg "_law_pick" s_law_pick ["bag", "many"] f fd) (B : Blt mg) : FnOk P w K mg base CX0 1 f fd ["bag", "many"] spPick := by
  refine D.F.ok sc_law_pick (fun vs H Q E h => ?_) (fun cdv A outer s H vs Q E hr h => ?_)
  · obtain ⟨b, g, m, rfl, _⟩ := h
    rfl
  obtain ⟨b, g, m, rfl, hB, hm0, hm1, q⟩ := h
  have nd := sc_law_pick.nd
  refine ⟨_, (pss_cons (ps_if (pt_cmpR op_notN (pe_ix (k_ixL (K := K) rfl) (pv 0) pe_int (fun _ _ => rfl)) pe_non (nomark _)) (pss_one (ps_ret (pe_op op_mod (pe_callTy call_int1 (by rfl) B.int (by decide +kernel) (pa_cons (pe_ix (k_ixL (K := K) rfl) (pv 0) pe_int (fun _ _ => rfl)) pa_nil)) (pv 1)))) pss_nil)
      (pss_cons (ps_asg (pe_op op_add (pe_ix (k_ixL (K := K) rfl) (pv 0) pe_int (fun _ _ => rfl)) pe_int) (pg_sub (pv 0) pe_int set_list))
      (pss_cons (ps_set (i := 2) nd rfl (.inl rfl) (pe_ix (k_ixL (K := K) rfl) (pv 0) pe_int (fun _ _ => rfl)))
      (pss_cons (ps_if (pt_cmpR op_gt (pe_callB (k_len (K := K) rfl) (by rfl) B.len PySem.boot_len (pa_cons (pv 2) pa_nil)) pe_int (nomark _)) (pss_cons (ps_set (i := 3) nd rfl (.inl rfl) (pe_op op_mod (pe_callTy call_int1 (by rfl) B.int (by decide +kernel) (pa_cons (pe_ix (k_ixL (K := K) rfl) (pv 2) pe_int (fun _ _ => rfl)) pa_nil)) (pv 1)))
      (pss_cons (ps_asg (pe_op op_fdivW (pe_callTy call_int1 (by rfl) B.int (by decide +kernel) (pa_cons (pe_ix (k_ixL (K := K) rfl) (pv 2) pe_int (fun _ _ => rfl)) pa_nil)) (pv 1)) (pg_sub (pv 2) pe_int set_list))
      (pss_cons (ps_if (pt_cmpR op_eq (pe_ix (k_ixL (K := K) rfl) (pv 2) pe_int (fun _ _ => rfl)) pe_int (nomark _)) (pss_one (ps_expr (pe_bm PySem.F.plainAttrs_list PySem.F.slot_list_pop PySem.F.type_list_pop mt_popAt (pv 2) (pa_cons pe_int pa_nil)))) pss_nil)
      (pss_one (ps_ret (pv 3)))))) pss_nil)
      (pss_cons (ps_set (i := 4) nd rfl (.inl rfl) (pe_op op_mod (pe_callTy call_int1 (by rfl) B.int (by decide +kernel) (pa_cons (pe_op op_mul (pe_op op_add (pe_ix (k_ixL (K := K) rfl) (pv 0) pe_int (fun _ _ => rfl)) (pe_op op_mul pe_int (pe_ix (k_ixL (K := K) rfl) (pv 0) pe_int (fun _ _ => rfl)))) pe_int) pa_nil)) pe_int))
      (pss_cons (ps_set (i := 4) nd rfl (.inl rfl) (pe_op op_mod (pe_callTy call_int1 (by rfl) B.int (by decide +kernel) (pa_cons (pe_op op_mul (pv 4) (pe_op op_add (pe_op op_fdivW (pv 4) pe_int) pe_int)) pa_nil)) pe_int))
      (pss_cons (ps_set (i := 4) nd rfl (.inl rfl) (pe_op op_mod (pe_callTy call_int1 (by rfl) B.int (by decide +kernel) (pa_cons (pe_op op_mul (pv 4) (pe_op op_add (pe_op op_fdivW (pv 4) pe_int) pe_int)) pa_nil)) pe_int))
      (pss_one (ps_ret (pe_op op_mod (pe_callTy call_int1 (by rfl) B.int (by decide +kernel) (pa_cons (pe_op op_fdivW (pv 4) pe_int) pa_nil)) (pv 1))))))))))), ?_⟩
  obtain ⟨s0, c0, al, hb, hal⟩ := hB.hb
  obtain ⟨gs, hg, hgl⟩ := hB.hg
  have hne := hB.ne
  refine ⟨_, rfl, b, _, 3, _, rfl, rfl, SqL.of hb, at_of (j := 3) rfl rfl, rfl, _, rfl, ?_⟩
  refine ite2 (fun c => ?_) (fun c => ?_)
  · -- always
    have c' : al ≠ .non := by simpa using c
    obtain ⟨n, rfl⟩ : ∃ n, al = .int n := by
      rcases hal with h | h
      · exact absurd h c'
      · exact h
    refine ⟨_, rfl, b, _, 3, _, rfl, rfl, SqL.of hb, at_of (j := 3) rfl rfl, .inl ⟨_, rfl, _, rfl, _, _, rfl, rfl, hm0, ?_⟩⟩
    exact q _ H (Int.emod_nonneg _ (by omega)) (Int.emod_lt_of_pos _ hm0) hB (Frm.refl _ _ _)
  -- bag[1] = bag[1] + 1
  refine ⟨_, rfl, b, _, 1, _, rfl, rfl, SqL.of hb, at_of (j := 1) rfl rfl, _, _, rfl, rfl, _, rfl, b, _, 1, 1, rfl, rfl, hb, rfl, ?_⟩
  have hb1 : (upd H b (.lst ([V.int s0, V.int c0, V.ref g, al].set 1 (V.int (c0 + 1))))) b = some (.lst [V.int s0, V.int (c0 + 1), V.ref g, al]) := upd_same
  have hg1 : (upd H b (.lst ([V.int s0, V.int c0, V.ref g, al].set 1 (V.int (c0 + 1))))) g = some (.lst (gs.map V.int)) := by
    rw [upd_ne hne.symm]
    exact hg
  generalize hH1 : upd H b (.lst ([V.int s0, V.int c0, V.ref g, al].set 1 (V.int (c0 + 1)))) = H1 at hb1 hg1
  have f1 : Frm b g H H1 := by
    rw [← hH1]
    exact Frm.updB
  clear hH1
  -- great = bag[2]
  refine ⟨_, rfl, b, _, 2, _, rfl, rfl, SqL.of hb1, at_of (j := 2) rfl rfl, ?_⟩
  refine ⟨_, rfl, g, _, rfl, .inl (SqL.of hg1), _, _, rfl, rfl, _, rfl, ?_⟩
  refine ite2 (fun c => ?_) (fun c => ?_)
  · -- a great one
    cases gs with
    | nil => simp at c
    | cons z zs =>
      have e0 : atI ((z :: zs).map V.int) 0 = some (V.int z) := at_of (j := 0) rfl rfl
      refine ⟨_, rfl, g, _, 0, _, rfl, rfl, SqL.of hg1, e0, .inl ⟨_, rfl, _, rfl, _, _, rfl, rfl, hm0, ?_⟩⟩
      have hm2 : m.natAbs < 2 ^ 20 := by omega
      refine ⟨_, rfl, g, _, 0, _, rfl, rfl, SqL.of hg1, e0, .inl ⟨_, rfl, _, rfl, _, _, rfl, rfl, wide_div hm0 hm2 (by decide) (by decide), _, rfl, g, _, 0, 0, rfl, rfl, hg1, by simp [ixN], ?_⟩⟩
      have hg2 : (upd H1 g (.lst (((z :: zs).map V.int).set 0 (V.int (z / m))))) g = some (.lst (((z / m) :: zs).map V.int)) := upd_same
      have hb2 : (upd H1 g (.lst (((z :: zs).map V.int).set 0 (V.int (z / m))))) b = some (.lst [V.int s0, V.int (c0 + 1), V.ref g, al]) := by
        rw [upd_ne hne]
        exact hb1
      generalize hH2 : upd H1 g (.lst (((z :: zs).map V.int).set 0 (V.int (z / m)))) = H2 at hg2 hb2
      have f2 : Frm b g H H2 := by
        rw [← hH2]
        exact f1.trans Frm.updG
      clear hH2
      have e1 : atI (((z / m) :: zs).map V.int) 0 = some (V.int (z / m)) := at_of (j := 0) rfl rfl
      refine ⟨_, rfl, g, _, 0, _, rfl, rfl, SqL.of hg2, e1, rfl, _, rfl, ?_⟩
      refine ite2 (fun c => ?_) (fun c => ?_)
      · refine ⟨_, rfl, .inl ⟨rfl, _, SqL.of hg2⟩, g, _, 0, 0, _, rfl, rfl, hg2, by decide, by decide, by simp [seqIndex?], rfl, ?_⟩
        have hg3 : (upd H2 g (.lst ((((z / m) :: zs).map V.int).eraseIdx 0))) g = some (.lst (zs.map V.int)) := upd_same
        refine ⟨_, rfl, q _ _ (Int.emod_nonneg _ (by omega)) (Int.emod_lt_of_pos _ hm0) (.mk2 hne hal ((upd_ne hne).trans hb2) hg3 (by simp at hgl; omega)) (f2.trans Frm.updG)⟩
      · exact ⟨_, rfl, q _ H2 (Int.emod_nonneg _ (by omega)) (Int.emod_lt_of_pos _ hm0) (.mk2 hne hal hb2 hg2 (by simpa using hgl)) f2⟩
  · have mod0 : ∀ i j : Int, 0 < j → 0 ≤ i % j ∧ i % j < j := fun i j h => ⟨Int.emod_nonneg _ (by omega), Int.emod_lt_of_pos _ h⟩
    refine ⟨_, rfl, b, _, 0, _, rfl, rfl, SqL.of hb1, at_of (j := 0) rfl rfl, _, rfl, b, _, 1, _, rfl, rfl, SqL.of hb1, at_of (j := 1) rfl rfl, _, _, rfl, rfl, .inl ⟨by decide, by decide⟩, _, _, rfl, rfl, _, _, rfl, rfl, .inr ⟨by decide, by decide⟩, .inl ⟨_, rfl, _, _, rfl, rfl, (by show (0 : Int) < 2147483647; decide), ?_⟩⟩
    obtain ⟨l1, u1⟩ := mod0 ((s0 + 7919 * (c0 + 1)) * 48271) 2147483647 (by decide)
    generalize (s0 + 7919 * (c0 + 1)) * 48271 % 2147483647 = n1 at l1 u1 ⊢
    refine ⟨_, rfl, _, rfl, _, _, rfl, rfl, wide_div (b := 40) (by decide) (by decide) (by decide) (by decide), _, _, rfl, rfl, _, _, rfl, rfl, .inl ⟨by omega, by omega⟩, .inl ⟨_, rfl, _, _, rfl, rfl, (by show (0 : Int) < 2147483647; decide), ?_⟩⟩
    obtain ⟨l2, u2⟩ := mod0 (n1 * (n1 / 1009 + 69621)) 2147483647 (by decide)
    generalize n1 * (n1 / 1009 + 69621) % 2147483647 = n2 at l2 u2 ⊢
    refine ⟨_, rfl, _, rfl, _, _, rfl, rfl, wide_div (b := 40) (by decide) (by decide) (by decide) (by decide), _, _, rfl, rfl, _, _, rfl, rfl, .inl ⟨by omega, by omega⟩, .inl ⟨_, rfl, _, _, rfl, rfl, (by show (0 : Int) < 2147483399; decide), ?_⟩⟩
    generalize n2 * (n2 / 2003 + 40692) % 2147483399 = n3
    refine ⟨_, rfl, _, _, rfl, rfl, wide_div (b := 40) (by decide) (by decide) (by decide) (by decide), .inl ⟨_, rfl, _, rfl, _, _, rfl, rfl, hm0, ?_⟩⟩
    exact q _ H1 (mod0 _ _ hm0).1 (mod0 _ _ hm0).2 (.mk2 hne hal hb1 hg1 hgl) f1
end
end Tl
namespace Tl
open PySem PySem.Spec PyProof.Rows L2 RZ
theorem int_at {ns : List Int} {i : Nat} {y : V} (h : (ns.map V.int)[i]? = some y) : ∃ z, ns[i]? = some z ∧ y = .int z := by
  rw [List.getElem?_map] at h
  cases e : ns[i]? with
  | none =>
    rw [e] at h
    cases h
  | some z =>
    rw [e] at h
    exact ⟨z, rfl, (Option.some.inj h).symm⟩
theorem cut_ints (ns : List Int) (lo hi : Option Int) : ∃ ms : List Int, cutV (ns.map V.int) lo hi = ms.map V.int ∧ ms.length ≤ ns.length := by
  unfold cutV
  refine ⟨(ns.drop (HT.sIx (ns.map V.int).length 0 lo)).take (HT.sIx (ns.map V.int).length (ns.map V.int).length hi - HT.sIx (ns.map V.int).length 0 lo), by rw [List.map_take, List.map_drop], ?_⟩
  rw [List.length_take, List.length_drop]
  omega
def spBag (K : PySem.W.Frag) : Sp := fun vs H Q _ => ∃ (a : Addr) (ns : List Int), vs = [.ref a] ∧ SqL K H a (ns.map V.int) ∧ ns.length ≤ 63 ∧
  ∀ (b g : Addr) (H' : Hp), Same H H' → Bag H' b g → H b = none → H g = none → Q (.ref b) H'
theorem small63 {n : Nat} (h : n ≤ 63) : n < sizeLine := small1000 (by omega)
section
variable {P : Program} {w : World} {K : PySem.W.Frag} {mg : Str → Option Value} {base : Heap}
theorem ok_law_bag {f : Addr} {fd : FuncData} (D : Dn K mg "_law_bag" s_law_bag ["script"] f fd) (B : Blt mg) : FnOk P w K mg base CX0 1 f fd ["script"] (spBag K) := by
  refine D.F.ok sc_law_bag (fun vs H Q E h => ?_) (fun cdv A outer s H vs Q E hr h => ?_)
  · obtain ⟨a, ns, rfl, _⟩ := h
    rfl
  obtain ⟨a, ns, rfl, hS, hn, q⟩ := h
  have nd := sc_law_bag.nd
  refine ⟨_, (pss_cons (ps_set (i := 1) nd rfl (.inl rfl) (pe_op op_add pe_int (pe_callB (k_len (K := K) rfl) (by rfl) B.len PySem.boot_len (pa_cons (pv 0) pa_nil))))
      (pss_cons (ps_for PassesOwn.never rfl (k_iL (K := K) rfl (pe_slice (k_slL (K := K) rfl) (pv 0) po_none (po_some pe_int))) (pg_name (i := 2) nd rfl (.inl rfl)) (pss_one (ps_set (i := 1) nd rfl (.inl rfl) (pe_op op_mod (pe_callTy call_int1 (by rfl) B.int (by decide +kernel) (pa_cons (pe_op op_add (pe_op op_add (pe_op op_mul (pv 1) pe_int) (pe_op op_mod (pe_callTy call_int1 (by rfl) B.int (by decide +kernel) (pa_cons (pv 2) pa_nil)) pe_int)) pe_int) pa_nil)) pe_int))))
      (pss_cons (ps_setLc (i := 3) (own := [("cell", 2)]) rfl nd rfl rfl (sw_true rfl rfl rfl (by decide +kernel)) (k_iL (K := K) rfl (pe_slice (k_slL (K := K) rfl) (pv 0) po_none (po_some pe_int))) (blkOk_by (own := [("cell", 2)]) (by kernel_rfl)) (fun _ _ _ _ _ => (pg_name (i := 2) nd rfl (.inl rfl))) (fun _ _ _ _ _ => pts_one (pt_cmpR op_ge (pe_callB call_abs (by rfl) B.abs (by decide +kernel) (pa_cons (pe_callTy call_int1 (by rfl) B.int (by decide +kernel) (pa_cons (pv 2) pa_nil)) pa_nil)) (pe_op op_pow pe_int pe_int) (nomark _))) (fun _ _ _ _ _ => (pe_callB call_abs (by rfl) B.abs (by decide +kernel) (pa_cons (pe_callTy call_int1 (by rfl) B.int (by decide +kernel) (pa_cons (pv 2) pa_nil)) pa_nil))))
      (pss_cons (ps_set (i := 4) nd rfl (.inl rfl) pe_non)
      (pss_cons (ps_if (PW.pt (pw_and (pt_cmpR op_lt (pe_callB (k_len (K := K) rfl) (by rfl) B.len PySem.boot_len (pa_cons (pv 0) pa_nil)) pe_int (nomark _)) (pw_and1 (pt_cmpR op_eq (pe_callB (k_len (K := K) rfl) (by rfl) B.len PySem.boot_len (pa_cons (pv 3) pa_nil)) pe_int (nomark _))))) (pss_one (ps_set (i := 4) nd rfl (.inl rfl) (pe_callB call_abs (by rfl) B.abs (by decide +kernel) (pa_cons (pe_callB (k_sum (K := K) rfl rfl) (by rfl) B.sum (by decide +kernel) (pa_cons (pe_lc (own := [("cell", 2)]) rfl nd (k_iL (K := K) rfl (pv 0)) (blkOk_by (own := [("cell", 2)]) (by kernel_rfl)) (fun _ _ _ _ _ => (pg_name (i := 2) nd rfl (.inl rfl))) (fun _ _ _ _ _ => pts_nil) (fun _ _ _ _ _ => (pe_callTy call_int1 (by rfl) B.int (by decide +kernel) (pa_cons (pv 2) pa_nil)))) pa_nil)) pa_nil)))) pss_nil)
      (pss_one (ps_ret (pe_lst (pa_cons (pv 1) (pa_cons pe_int (pa_cons (pv 3) (pa_cons (pv 4) pa_nil)))))))))))), ?_⟩
  obtain ⟨ms, em, hm⟩ := cut_ints ns none (some 63)
  -- seed = 29 + len(script)
  refine ⟨_, rfl, a, _, rfl, .inl hS, _, _, rfl, rfl, ?_⟩
  -- for cell in script[:63]
  refine ⟨_, rfl, _, rfl, a, _, rfl, hS, fun p hp => ?_⟩
  rw [em]
  have s1 : Same H (upd H p (.lst (ms.map V.int))) := same_upd hp
  refine ⟨p, rfl, ⟨_, SqL.of upd_same⟩, for_list (K := K) (a := p) (xs := ms.map V.int) (fun i σ H2 => ∃ (z : Int) (v : Option V), σ = [some (.ref a), some (.int z), v, none, none] ∧ H2 = upd H p (.lst (ms.map V.int))) ⟨_, none, rfl, rfl⟩ (fun i σ H2 _ h => ?_) ?_ ?_⟩
  · obtain ⟨_, _, _, rfl⟩ := h
    exact SqL.of upd_same
  · rintro i y σ H2 hi ⟨z, v, rfl, rfl⟩
    obtain ⟨n, _, rfl⟩ := int_at hi
    refine ⟨_, rfl, _, _, rfl, rfl, .inr ⟨by decide, by decide⟩, _, rfl, .inl ⟨_, rfl, _, _, rfl, rfl, (by show (0 : Int) < 1000003; decide), _, _, rfl, rfl, _, _, rfl, rfl, .inl ⟨_, rfl, _, _, rfl, rfl, (by show (0 : Int) < 2147483647; decide), ?_⟩⟩⟩
    exact ⟨_, _, rfl, rfl⟩
  rintro σ H2 ⟨z, v, rfl, rfl⟩
  -- great = [..]
  refine ⟨_, rfl, _, rfl, a, _, rfl, s1.seq hS, fun p2 hp2 => ?_⟩
  rw [em]
  have s2 : Same (upd H p (.lst (ms.map V.int))) (upd (upd H p (.lst (ms.map V.int))) p2 (.lst (ms.map V.int))) := same_upd hp2
  generalize hH2 : upd (upd H p (.lst (ms.map V.int))) p2 (.lst (ms.map V.int)) = H2 at s2
  have hp2' : H2 p2 = some (.lst (ms.map V.int)) := by
    rw [← hH2]
    exact upd_same
  have s12 : Same H H2 := s1.trans s2
  clear hH2 s2 s1 hp
  refine ⟨p2, rfl, ⟨_, SqL.of hp2'⟩, fun g hg => ?_⟩
  have sg : Same H2 (upd H2 g (.lst [])) := same_upd hg
  refine lc_list (K := K) (a := p2) (xs := ms.map V.int) (fun i H3 => ∃ gs : List Int, gs.length ≤ i ∧ H3 g = some (.lst (gs.map V.int)) ∧ Same H2 H3) ⟨[], Nat.le_refl _, upd_same, sg⟩ (fun i H3 _ h => ?_) ?_ ?_
  · obtain ⟨_, _, _, h⟩ := h
    exact h.seq (SqL.of hp2')
  · rintro i y H3 hi ⟨gs, hl, h3, s3⟩
    obtain ⟨n, hn', rfl⟩ := int_at hi
    have hi2 : i < ms.length := (List.getElem?_eq_some_iff.mp hn').1
    refine ⟨rfl, ?_⟩
    refine ⟨_, rfl, .inl ⟨_, rfl, _, rfl, _, _, rfl, rfl, ⟨by decide, by decide, by decide⟩, _, _, rfl, rfl, _, rfl, ?_⟩⟩
    refine ite2 (fun c => ?_) (fun c => ?_)
    · refine ⟨_, rfl, .inl ⟨_, rfl, _, rfl, _, h3, by rw [List.length_map]; exact small63 (by omega), ?_⟩⟩
      refine ⟨gs ++ [_], by rw [List.length_append]; exact Nat.add_le_add_right hl 1, by rw [List.map_append]; exact upd_same, fun c o e => ?_⟩
      rw [upd_ne (ne_of_none e hg)]
      exact s3 _ _ e
    · exact ⟨gs, Nat.le_succ_of_le hl, h3, s3⟩
  rintro H3 ⟨gs, hl, h3, s3⟩
  rw [List.length_map] at hl
  have s13 := s12.trans s3
  -- always
  have fin : ∀ (H4 : Hp) (al : V), Same H3 H4 → (al = .non ∨ ∃ n, al = .int n) → (∀ b, H4 b = none → Q (.ref b) (upd H4 b (.lst [.int z, .int 1, .ref g, al]))) := by
    intro H4 al s4 hal b hb
    have e4 := s4 _ _ h3
    have hbg : b ≠ g := fun e => by
      rw [e, e4] at hb
      cases hb
    have hn1 : H b = none := (s13.trans s4).free hb
    exact q b g _ ((s13.trans s4).trans (same_upd hb)) (.mk2 hbg hal upd_same ((upd_ne hbg.symm).trans e4) (by omega)) hn1 (s12.free hg)
  refine ⟨_, rfl, a, _, rfl, .inl (s13.seq hS), _, _, rfl, rfl, _, rfl, ?_⟩
  refine ite2 (fun c => ?_) (fun c => ?_)
  · refine ⟨_, rfl, g, _, rfl, .inl (SqL.of h3), rfl, _, rfl, ?_⟩
    refine ite2 (fun c => ?_) (fun c => ?_)
    · -- sum([int(cell) for cell in script])
      refine ⟨_, rfl, a, rfl, ⟨_, s13.seq hS⟩, fun l hl2 => ?_⟩
      refine lc_list (K := K) (a := a) (xs := ns.map V.int) (fun i H4 => H4 l = some (.lst ((ns.take i).map V.int)) ∧ Same H3 H4) ⟨upd_same, same_upd hl2⟩ (fun i H4 _ h => h.2.seq (s13.seq hS)) ?_ ?_
      · rintro i y H4 hi ⟨h4, s4⟩
        obtain ⟨n, hn', rfl⟩ := int_at hi
        have hi2 : i < ns.length := (List.getElem?_eq_some_iff.mp hn').1
        refine ⟨rfl, ?_⟩
        refine iteT (B := H4 l = some (.lst ((ns.take (i + 1)).map V.int)) ∧ Same H3 H4) ?_
        refine ⟨_, rfl, .inl ⟨_, rfl, _, h4, ?_, ?_, fun c o e => ?_⟩⟩
        · rw [List.length_map, List.length_take]
          exact small63 (by omega)
        · rw [upd_same, List.take_add_one, hn', List.map_append]
          rfl
        · rw [upd_ne (ne_of_none e hl2)]
          exact s4 _ _ e
      · rintro H4 ⟨h4, s4⟩
        refine ⟨l, _, rfl, SqL.of h4, _, rfl, ?_⟩
        refine ⟨_, rfl, _, rfl, _, rfl, (by show 4 ≤ sizeLine; decide), fun b hb => ?_⟩
        exact fin H4 _ s4 (.inr ⟨_, rfl⟩) b hb
    · exact ⟨_, rfl, _, rfl, _, rfl, (by show 4 ≤ sizeLine; decide), fun b hb => fin H3 _ (Same.refl _) (.inl rfl) b hb⟩
  · exact iteF ⟨_, rfl, _, rfl, _, rfl, (by show 4 ≤ sizeLine; decide), fun b hb => fin H3 _ (Same.refl _) (.inl rfl) b hb⟩
end
end Tl
namespace Tl
open PySem PySem.Spec PyProof.Rows L2 RZ
/-! ### fractions -/
def rD (q : Rat) : PyData := .tuple [.int q.num, .int (q.den : Int)]
theorem mkRat_parts (t : Int) (b : Nat) (h : 0 < b) : (mkRat t b).num = t / (Nat.gcd t.natAbs b : Nat) ∧ ((mkRat t b).den : Int) = (b : Int) / (Nat.gcd t.natAbs b : Nat) := by
  have hb : b ≠ 0 := by omega
  rw [mkRat, dif_neg hb, Rat.normalize_eq]
  exact ⟨rfl, rfl⟩
theorem mkRat_den_le (t : Int) (b : Nat) (h : 0 < b) : (mkRat t b).den ≤ b := by
  rw [Rat.den_mkRat, if_neg (by omega)]
  exact Nat.div_le_self _ _
theorem rat_mk (q : Rat) : mkRat q.num q.den = q := Rat.mkRat_self q
theorem td_rD {K : PySem.W.Frag} {H : Hp} {p : Addr} {t : Int} {b : Nat} (h : 0 < b) (hp : H p = some (.tup [.int (t / (Nat.gcd t.natAbs b : Nat)), .int ((b : Int) / (Nat.gcd t.natAbs b : Nat))])) : Td K H (.ref p) (rD (mkRat t b)) := by
  obtain ⟨e1, e2⟩ := mkRat_parts t b h
  unfold rD
  rw [e1, e2]
  exact .tup (.inl (.inl hp)) (.cons (.int _) (.cons (.int _) .nil))
theorem Td.rE {K : PySem.W.Frag} {H : Hp} {v : V} {q : Rat} (h : Td K H v (rD q)) : ∃ a, v = .ref a ∧ SqT K H a [.int q.num, .int (q.den : Int)] := by
  obtain ⟨a, xs, rfl, hs, ht⟩ := h.tupE
  cases ht with
  | cons h1 t =>
    cases t with
    | cons h2 t =>
      cases t
      cases h1
      cases h2
      exact ⟨a, rfl, hs⟩
def spCommon : Sp := fun vs H Q _ => ∃ a b : Int, vs = [.int a, .int b] ∧ 0 ≤ a ∧ 0 ≤ b ∧ Q (.int ((Nat.gcd a.toNat b.toNat : Nat) : Int)) H
def spLow (K : PySem.W.Frag) : Sp := fun vs H Q _ => ∃ (t : Int) (b : Nat), vs = [.int t, .int (b : Int)] ∧ 0 < b ∧ b < 2 ^ 4000 ∧ ∀ v H', Same H H' → Td K H' v (rD (mkRat t b)) → Q v H'
def spTimes (K : PySem.W.Frag) : Sp := fun vs H Q _ => ∃ (x y : V) (p q : Rat), vs = [x, y] ∧ Td K H x (rD p) ∧ Td K H y (rD q) ∧ p.den < 2 ^ 2000 ∧ q.den < 2 ^ 2000 ∧ p.num.natAbs < 2 ^ 2000 ∧ q.num.natAbs < 2 ^ 2000 ∧ ∀ v H', Same H H' → Td K H' v (rD (p * q)) → Q v H'
theorem gcd_step {a b : Int} (ha : 0 ≤ a) (hb : 0 < b) : Nat.gcd b.toNat (a % b).toNat = Nat.gcd a.toNat b.toNat := by
  rw [Int.toNat_emod ha (by omega), Nat.gcd_comm a.toNat b.toNat, Nat.gcd_rec b.toNat a.toNat, Nat.gcd_comm]
section
variable {P : Program} {w : World} {K : PySem.W.Frag} {mg : Str → Option Value} {base : Heap}
theorem ok_law_common {f : Addr} {fd : FuncData} (D : Dn K mg "_law_common" s_law_common ["one", "other"] f fd) (B : Blt mg) : FnOk P w K mg base CX0 1 f fd ["one", "other"] spCommon := by
  refine D.F.ok sc_law_common (fun vs H Q E h => ?_) (fun cdv A outer s H vs Q E hr h => ?_)
  · obtain ⟨a, b, rfl, _⟩ := h
    rfl
  obtain ⟨a, b, rfl, ha, hb, q⟩ := h
  have nd := sc_law_common.nd
  refine ⟨_, (pss_cons (ps_while PassesOwn.never (pt_cmpR op_ne (pv 1) pe_int (nomark _)) (pss_one (ps_par (i := 0) (j := 1) rfl nd rfl rfl (by decide) rfl rfl (pa_cons (pv 1) (pa_cons (pe_op op_mod (pv 0) (pv 1)) pa_nil)) (by rfl))))
      (pss_one (ps_ret (pv 0)))), ?_⟩
  refine while_by (fun σ H2 => H2 = H ∧ ∃ x y : Int, σ = [some (.int x), some (.int y)] ∧ 0 ≤ x ∧ 0 ≤ y ∧ Nat.gcd x.toNat y.toNat = Nat.gcd a.toNat b.toNat) (fun σ _ => match σ with | [_, some (.int y)] => y.toNat | _ => 0) ⟨rfl, a, b, rfl, ha, hb, rfl⟩ ?_ ?_
  · rintro σ H2 ⟨rfl, x, y, rfl, hx, hy, e⟩
    refine ⟨_, rfl, rfl, _, rfl, ?_⟩
    refine ite2 (fun c => ?_) (fun c => ?_)
    · have hy0 : y ≠ 0 := by
        intro z
        rw [z] at c
        simp at c
      have hy1 : 0 < y := by omega
      refine ⟨_, rfl, _, rfl, _, rfl, _, _, rfl, rfl, hy1, _, _, rfl, ?_⟩
      refine ⟨⟨rfl, y, x % y, rfl, hy, Int.emod_nonneg _ hy0, (gcd_step hx hy1).trans e⟩, ?_⟩
      have l := Int.emod_lt_of_pos x hy1
      have l0 := Int.emod_nonneg x hy0
      show (x % y).toNat < y.toNat
      omega
    · have hy0 : y = 0 := by
        by_cases z : y = 0
        · exact z
        · exact absurd (by simp [z]) c
      subst hy0
      refine ⟨_, rfl, ?_⟩
      have e3 : x.toNat.gcd (Int.toNat 0) = x.toNat := Nat.gcd_zero_right _
      have e4 : ((x.toNat : Nat) : Int) = x := by omega
      rw [← e, e3, e4] at q
      exact q
  · rintro σ H2 Q1 Q2 h ⟨x, hx, h1, k, hk, h2⟩
    exact ⟨x, hx, h1, k, hk, h _ _ h2⟩
theorem ok_law_low {f f1 : Addr} {fd fd1 : FuncData} (D : Dn K mg "_law_low" s_law_low ["top", "bottom"] f fd) (B : Blt mg) (D_law_common : Dn K mg "_law_common" s_law_common ["one", "other"] f1 fd1) : FnOk P w K mg base CX0 2 f fd ["top", "bottom"] (spLow K) := by
  have G_law_common : FnOk P w K mg base CX0 1 f1 fd1 ["one", "other"] spCommon := ok_law_common D_law_common B
  refine D.F.ok sc_law_low (fun vs H Q E h => ?_) (fun cdv A outer s H vs Q E hr h => ?_)
  · obtain ⟨a, b, rfl, _⟩ := h
    rfl
  obtain ⟨t, b, rfl, hb, hz, q⟩ := h
  have nd := sc_law_low.nd
  refine ⟨_, (pss_cons (ps_set (i := 2) nd rfl (.inl rfl) (pe_call G_law_common (hr.mono (by omega)) (by rfl) D_law_common.m D_law_common.F.kp D_law_common.b .nil pass0 (pa_cons (pe_callB call_abs (by rfl) B.abs (by decide +kernel) (pa_cons (pv 0) pa_nil)) (pa_cons (pv 1) pa_nil))))
      (pss_one (ps_ret (pe_tup (pa_cons (pe_op op_fdivW (pv 0) (pv 2)) (pa_cons (pe_op op_fdivW (pv 1) (pv 2)) pa_nil)))))), ?_⟩
  refine ⟨_, rfl, _, rfl, _, rfl, _, _, rfl, ?_, by omega, ?_⟩
  · split <;> omega
  have e1 : (if t < 0 then -t else t).toNat = t.natAbs := by split <;> omega
  have e2 : (b : Int).toNat = b := Int.toNat_natCast b
  rw [e1, e2]
  have hg0 : 0 < Nat.gcd t.natAbs b := Nat.gcd_pos_of_pos_right _ hb
  have hg1 : Nat.gcd t.natAbs b ≤ b := Nat.gcd_le_right _ hb
  have hg2 : ((Nat.gcd t.natAbs b : Nat) : Int).natAbs < 2 ^ 4000 := by
    rw [Int.natAbs_natCast]
    omega
  have dv : ∀ i : Int, CDivW i ((Nat.gcd t.natAbs b : Nat) : Int) := fun i => wide_div (b := 4000) (by omega) hg2 (by decide) (by decide)
  refine ⟨_, rfl, _, rfl, _, _, rfl, rfl, dv _, _, rfl, _, rfl, _, _, rfl, rfl, dv _, (by show 2 ≤ sizeLine; decide), fun p hp => ?_⟩
  exact q _ _ (same_upd hp) (td_rD hb upd_same)
theorem ok_law_times {f f1 f2 : Addr} {fd fd1 fd2 : FuncData} (D : Dn K mg "_law_times" s_law_times ["one", "other"] f fd) (B : Blt mg) (D_law_low : Dn K mg "_law_low" s_law_low ["top", "bottom"] f1 fd1) (D_law_common : Dn K mg "_law_common" s_law_common ["one", "other"] f2 fd2) : FnOk P w K mg base CX0 3 f fd ["one", "other"] (spTimes K) := by
  have G_law_low : FnOk P w K mg base CX0 2 f1 fd1 ["top", "bottom"] (spLow K) := ok_law_low D_law_low B D_law_common
  refine D.F.ok sc_law_times (fun vs H Q E h => ?_) (fun cdv A outer s H vs Q E hr h => ?_)
  · obtain ⟨x, y, p, q, rfl, _⟩ := h
    rfl
  obtain ⟨x, y, p, q, rfl, hx, hy, z1, z2, z3, z4, k⟩ := h
  have nd := sc_law_times.nd
  refine ⟨_, (pss_one (ps_ret (pe_call G_law_low (hr.mono (by omega)) (by rfl) D_law_low.m D_law_low.F.kp D_law_low.b .nil pass0 (pa_cons (pe_op op_mulW (pe_ix (k_ixT (K := K) rfl) (pv 0) pe_int (fun _ _ => rfl)) (pe_ix (k_ixT (K := K) rfl) (pv 1) pe_int (fun _ _ => rfl))) (pa_cons (pe_op op_mulW (pe_ix (k_ixT (K := K) rfl) (pv 0) pe_int (fun _ _ => rfl)) (pe_ix (k_ixT (K := K) rfl) (pv 1) pe_int (fun _ _ => rfl))) pa_nil))))), ?_⟩
  obtain ⟨a, rfl, ha⟩ := hx.rE
  obtain ⟨b, rfl, hb⟩ := hy.rE
  have i0 : atI [V.int p.num, .int (p.den : Int)] 0 = some (.int p.num) := at_of (j := 0) rfl rfl
  have i1 : atI [V.int p.num, .int (p.den : Int)] 1 = some (.int (p.den : Int)) := at_of (j := 1) rfl rfl
  have j0 : atI [V.int q.num, .int (q.den : Int)] 0 = some (.int q.num) := at_of (j := 0) rfl rfl
  have j1 : atI [V.int q.num, .int (q.den : Int)] 1 = some (.int (q.den : Int)) := at_of (j := 1) rfl rfl
  have hp0 : 0 < p.den := Nat.pos_of_ne_zero p.den_nz
  have hq0 : 0 < q.den := Nat.pos_of_ne_zero q.den_nz
  have c1 : CMulW p.num q.num := wide_mul z3 z4 (by decide) (by decide) (by decide)
  have c2 : CMulW (p.den : Int) (q.den : Int) := wide_mul (a := 2000) (b := 2000) (by rw [Int.natAbs_natCast]; exact z1) (by rw [Int.natAbs_natCast]; exact z2) (by decide) (by decide) (by decide)
  refine ⟨_, rfl, a, _, 0, _, rfl, rfl, ha, i0, _, rfl, b, _, 0, _, rfl, rfl, hb, j0, _, _, rfl, rfl, c1, _, rfl, a, _, 1, _, rfl, rfl, ha, i1, _, rfl, b, _, 1, _, rfl, rfl, hb, j1, _, _, rfl, rfl, c2, ?_⟩
  refine ⟨p.num * q.num, p.den * q.den, by rw [Int.natCast_mul]; rfl, Nat.mul_pos hp0 hq0, ?_, fun v H' s' hv => k v H' s' ?_⟩
  · rw [show (4000 : Nat) = 2000 + 2000 from rfl, Nat.pow_add]
    exact Nat.mul_lt_mul'' z1 z2
  · rw [← Rat.mkRat_mul_mkRat, rat_mk, rat_mk] at hv
    exact hv
end
end Tl
namespace Tl
open PySem PySem.Spec PyProof.Rows L2 RZ
theorem Frm.updN {b g p : Addr} {H H' : Hp} {o : HO} (f : Frm b g H H') (h : H p = none) : Frm b g H (upd H' p o) := fun a x e h1 h2 => by
  rw [upd_ne (ne_of_none e h)]
  exact f a x e h1 h2
theorem Bag.updN {b g p : Addr} {H : Hp} {o : HO} (B : Bag H b g) (h1 : p ≠ b) (h2 : p ≠ g) : Bag (upd H p o) b g := by
  obtain ⟨ne, ⟨s, c, al, h, r⟩, ⟨gs, h', r'⟩⟩ := B
  exact ⟨ne, ⟨s, c, al, by rw [upd_ne h1.symm]; exact h, r⟩, ⟨gs, by rw [upd_ne h2.symm]; exact h', r'⟩⟩
def nI (ps : List Nat) : List Int := ps.map fun (p : Nat) => (p : Int)
theorem nI_sum : ∀ ps : List Nat, (nI ps).sum = ((ps.sum : Nat) : Int)
  | [] => rfl
  | p :: r => by
    show ((p : Int)) + (nI r).sum = (((p + r.sum : Nat)) : Int)
    rw [nI_sum r]
    omega
/-- shares of a whole by small parts -/
def IsShares (m : Nat) (rs : List Rat) : Prop := ∃ ps : List Nat, ps.length = m ∧ 0 < ps.sum ∧ ps.sum ≤ 5 * m + 1 ∧ rs = ps.map fun (p : Nat) => mkRat (p : Int) ps.sum
theorem sum_le5 : ∀ ps : List Nat, (∀ p ∈ ps, p ≤ 4) → ps.sum ≤ 4 * ps.length
  | [], _ => Nat.le_refl _
  | p :: r, h => by
    have h1 := h p (List.mem_cons_self ..)
    have h2 := sum_le5 r fun x hx => h x (List.mem_cons_of_mem _ hx)
    show p + r.sum ≤ 4 * (r.length + 1)
    omega
theorem sum_bump : ∀ (ps : List Nat) (j : Nat) (v : Nat), ps[j]? = some v → (ps.set j (v + 1)).sum = ps.sum + 1
  | [], _, _, h => by simp at h
  | p :: r, 0, v, h => by
    have e : p = v := by simpa using h
    subst e
    show (p + 1) + r.sum = (p + r.sum) + 1
    omega
  | p :: r, j + 1, v, h => by
    have ih := sum_bump r j v (by simpa using h)
    show p + (r.set j (v + 1)).sum = (p + r.sum) + 1
    omega
def spShares (K : PySem.W.Frag) : Sp := fun vs H Q _ => ∃ (b g : Addr) (m : Nat) (l : Int), vs = [.ref b, .int (m : Int), .int l] ∧ Bag H b g ∧ 1 ≤ m ∧ m ≤ 12 ∧ 0 ≤ l ∧ l ≤ 1 ∧
  ∀ (r : Addr) (rs : List Rat) (us : List V) (H' : Hp), IsShares m rs → H' r = some (.lst us) → TdAll K H' us (rs.map rD) → H r = none → Bag H' b g → Frm b g H H' → Q (.ref r) H'
section
variable {P : Program} {w : World} {K : PySem.W.Frag} {mg : Str → Option Value} {base : Heap}
theorem ok_law_shares {f f1 f2 f3 : Addr} {fd fd1 fd2 fd3 : FuncData} (D : Dn K mg "_law_shares" s_law_shares ["bag", "many", "least"] f fd) (B : Blt mg) (D_law_low : Dn K mg "_law_low" s_law_low ["top", "bottom"] f1 fd1) (D_law_common : Dn K mg "_law_common" s_law_common ["one", "other"] f2 fd2)
    (D_law_pick : Dn K mg "_law_pick" s_law_pick ["bag", "many"] f3 fd3) : FnOk P w K mg base CX0 3 f fd ["bag", "many", "least"] (spShares K) := by
  have G_law_low : FnOk P w K mg base CX0 2 f1 fd1 ["top", "bottom"] (spLow K) := ok_law_low D_law_low B D_law_common
  have G_law_pick : FnOk P w K mg base CX0 1 f3 fd3 ["bag", "many"] spPick := ok_law_pick D_law_pick B
  refine D.F.ok sc_law_shares (fun vs H Q E h => ?_) (fun cdv A outer s H vs Q E hr h => ?_)
  · obtain ⟨b, g, m, l, rfl, _⟩ := h
    rfl
  obtain ⟨b, g, m, l, rfl, hB, hm1, hm2, hl0, hl1, q⟩ := h
  have nd := sc_law_shares.nd
  refine ⟨_, (pss_cons (ps_set (i := 3) nd rfl (.inr rfl) (pe_lc (own := [("k", 4)]) rfl nd (pi_range1 (by rfl) B.range (pa_cons (pv 1) pa_nil)) (blkOk_by (own := [("k", 4)]) (by kernel_rfl)) (fun _ _ _ _ _ => (pg_name (i := 4) nd rfl (.inl rfl))) (fun _ _ _ _ _ => pts_nil) (fun _ _ _ _ _ => (pe_op op_add (pv 2) (pe_call G_law_pick (hr.mono (by omega)) (by rfl) D_law_pick.m D_law_pick.F.kp D_law_pick.b .nil pass0 (pa_cons (pv 0) (pa_cons pe_int pa_nil)))))))
      (pss_cons (ps_augS (pv 3) (pe_call G_law_pick (hr.mono (by omega)) (by rfl) D_law_pick.m D_law_pick.F.kp D_law_pick.b .nil pass0 (pa_cons (pv 0) (pa_cons (pv 1) pa_nil))) (k_getL (K := K) rfl) pe_int ip_add set_list)
      (pss_one (ps_ret (pe_lc (own := [("part", 5)]) rfl nd (k_iL (K := K) rfl (pv 3)) (blkOk_by (own := [("part", 5)]) (by kernel_rfl)) (fun _ _ _ _ _ => (pg_name (i := 5) nd rfl (.inl rfl))) (fun _ _ _ _ _ => pts_nil) (fun _ _ _ _ _ => (pe_call G_law_low (hr.mono (by omega)) (by rfl) D_law_low.m D_law_low.F.kp D_law_low.b .nil pass0 (pa_cons (pv 5) (pa_cons (pe_callB (k_sum (K := K) rfl rfl) (by rfl) B.sum (by decide +kernel) (pa_cons (pv 3) pa_nil)) pa_nil))))))))), ?_⟩
  -- parts = [least + _law_pick(bag, 4) for k in range(many)]
  refine ⟨_, rfl, _, rfl, by omega, by omega, fun d hd => ?_⟩
  obtain ⟨db, dg⟩ := hB.neNew hd
  refine lc_range (lo := 0) (n := m) (fun i H3 => ∃ ps : List Nat, ps.length = i ∧ (∀ p ∈ ps, p ≤ 4) ∧ H3 d = some (.lst ((nI ps).map V.int)) ∧ Bag H3 b g ∧ Frm b g H H3) ⟨[], rfl, fun _ h => absurd h List.not_mem_nil, upd_same, hB.updN db dg, (Frm.refl b g H).updN hd⟩ ?_ ?_
  · rintro i H3 hi ⟨ps, hp1, hp2, h3, B3, F3⟩
    refine ⟨rfl, ?_⟩
    refine iteT (B := ∃ ps : List Nat, ps.length = i + 1 ∧ (∀ p ∈ ps, p ≤ 4) ∧ H3 d = some (.lst ((nI ps).map V.int)) ∧ Bag H3 b g ∧ Frm b g H H3) ?_
    refine ⟨_, rfl, _, rfl, b, g, 4, rfl, B3, by decide, by decide, fun r H4 r0 r1 B4 F4 => ⟨_, _, rfl, rfl, ?_⟩⟩
    have h4 := F4 d _ h3 db dg
    refine ⟨_, h4, by rw [List.length_map, nI, List.length_map]; exact small1000 (by omega), ps ++ [(l + r).toNat], by rw [List.length_append, hp1]; rfl, ?_, ?_, B4.updN db dg, (F3.trans F4).updN hd⟩
    · intro p hp
      rcases List.mem_append.mp hp with hp | hp
      · exact hp2 p hp
      · rw [List.mem_singleton.mp hp]
        omega
    · rw [upd_same, nI, nI, List.map_append, List.map_append]
      show some (HO.lst (_ ++ [V.int (l + r)])) = some (HO.lst (_ ++ [V.int (((l + r).toNat : Nat) : Int)]))
      rw [show (((l + r).toNat : Nat) : Int) = l + r by omega]
  rintro H3 ⟨ps, hp1, hp2, h3, B3, F3⟩
  -- parts[_law_pick(bag, many)] += 1
  refine ⟨_, rfl, _, rfl, _, rfl, b, g, (m : Int), rfl, B3, by omega, by omega, fun r H4 r0 r1 B4 F4 => ?_⟩
  have h4 := F4 d _ h3 db dg
  obtain ⟨j, ej⟩ : ∃ j : Nat, r = (j : Int) := ⟨r.toNat, by omega⟩
  have hj : j < ps.length := by omega
  have gj : ps[j]? = some ps[j] := List.getElem?_eq_getElem hj
  have gI : ((nI ps).map V.int)[j]? = some (.int ((ps[j] : Nat) : Int)) := by
    rw [List.getElem?_map, nI, List.getElem?_map, gj]
    rfl
  refine ⟨d, _, j, _, rfl, by rw [ej], SqL.of h4, gI, _, _, rfl, rfl, d, _, r, j, rfl, rfl, h4, ?_, ?_⟩
  · rw [List.length_map, nI, List.length_map]
    unfold ixN
    rw [if_pos r0, if_pos (by omega)]
    exact congrArg some (by omega)
  have h5 : (upd H4 d (.lst (((nI ps).map V.int).set j (.int (((ps[j] : Nat) : Int) + 1))))) d = some (.lst ((nI (ps.set j (ps[j] + 1))).map V.int)) := by
    rw [upd_same, nI, nI, List.map_set, List.map_set]
    rfl
  have B5 : Bag (upd H4 d (.lst (((nI ps).map V.int).set j (.int (((ps[j] : Nat) : Int) + 1))))) b g := B4.updN db dg
  have F5 : Frm b g H (upd H4 d (.lst (((nI ps).map V.int).set j (.int (((ps[j] : Nat) : Int) + 1))))) := (F3.trans F4).updN hd
  generalize upd H4 d (.lst (((nI ps).map V.int).set j (.int (((ps[j] : Nat) : Int) + 1)))) = H5 at h5 B5 F5
  have hsum := sum_bump ps j _ gj
  have hle := sum_le5 ps hp2
  have hlen : (ps.set j (ps[j] + 1)).length = m := by rw [List.length_set]; exact hp1
  generalize ps.set j (ps[j] + 1) = us at h5 hsum hlen
  -- return [_law_low(part, sum(parts)) for part in parts]
  have hs0 : 0 < us.sum := by omega
  have hs1 : us.sum ≤ 5 * m + 1 := by omega
  refine ⟨_, rfl, d, rfl, ⟨_, SqL.of h5⟩, fun e he => ?_⟩
  obtain ⟨eb, eg⟩ := B5.neNew he
  have heH : H e = none := by
    cases z : H e with
    | none => rfl
    | some o =>
      rw [F5 e o z eb eg] at he
      cases he
  have hl5 : ((nI us).map V.int).length = m := by rw [List.length_map, nI, List.length_map, hlen]
  refine lc_list (K := K) (a := d) (xs := (nI us).map V.int) (fun i H6 => ∃ ws : List V, H6 e = some (.lst ws) ∧ TdAll K H6 ws ((us.take i).map fun (p : Nat) => rD (mkRat (p : Int) us.sum)) ∧ Same H5 H6) ⟨[], upd_same, .nil, same_upd he⟩ (fun i H6 _ h => by obtain ⟨_, _, _, s6⟩ := h; exact s6.seq (SqL.of h5)) ?_ ?_
  · rintro i y H6 hi ⟨ws, h6, t6, s6⟩
    obtain ⟨z, hz, rfl⟩ := int_at hi
    obtain ⟨p, hp, rfl⟩ : ∃ p : Nat, us[i]? = some p ∧ z = (p : Int) := by
      rw [nI, List.getElem?_map] at hz
      cases q2 : us[i]? with
      | none =>
        rw [q2] at hz
        cases hz
      | some p =>
        rw [q2] at hz
        exact ⟨p, rfl, (Option.some.inj hz).symm⟩
    have hi2 : i < us.length := (List.getElem?_eq_some_iff.mp hp).1
    refine ⟨rfl, ?_⟩
    refine iteT (B := ∃ ws : List V, H6 e = some (.lst ws) ∧ TdAll K H6 ws ((us.take (i + 1)).map fun (p : Nat) => rD (mkRat (p : Int) us.sum)) ∧ Same H5 H6) ?_
    refine ⟨_, rfl, _, rfl, d, nI us, rfl, SqL.of (s6 _ _ h5), (p : Int), us.sum, by rw [nI_sum]; rfl, hs0, ?_, fun v H7 s7 hv => ?_⟩
    · exact Nat.lt_of_le_of_lt (Nat.le_trans hs1 (show 5 * m + 1 ≤ 2 ^ 10 by omega)) (Nat.pow_lt_pow_right (by decide) (by decide))
    · have h7 := s7 _ _ h6
      have kt7 : KT K H7 (upd H7 e (.lst (ws ++ [v]))) := KT.updL h7
      have kt : KT K H6 (upd H7 e (.lst (ws ++ [v]))) := (Same.kt s7).trans kt7
      refine ⟨ws, h7, ?_, ws ++ [v], upd_same, ?_, fun a o q => ?_⟩
      · rw [t6.len, List.length_map, List.length_take]
        exact small1000 (by omega)
      · rw [List.take_add_one, hp, List.map_append]
        exact (t6.keep kt).app (.cons (hv.keep kt7) .nil)
      · rw [upd_ne (ne_of_none q he)]
        exact s7 _ _ (s6 _ _ q)
  · rintro H6 ⟨ws, h6, t6, s6⟩
    rw [hl5, ← hlen, List.take_length] at t6
    have t7 : TdAll K H6 ws ((us.map fun (p : Nat) => mkRat (p : Int) us.sum).map rD) := by
      rw [List.map_map]
      exact t6
    exact q e _ ws H6 ⟨us, hlen, hs0, hs1, rfl⟩ h6 t7 heH (B5.keep s6) (F5.trans (Frm.of s6))
end
end Tl
/-! trees -/
namespace Tl
open PySem PySem.Spec PyProof.Rows L2 RZ
/-- nodes of at most n rounds: questions of answers (word, weights, node) -/
def Nd : Nat → Type
  | 0 => Unit
  | n + 1 => List (List (List Int × List Rat × Nd n))
abbrev An (n : Nat) : Type := List Int × List Rat × Nd n
abbrev Qn (n : Nat) : Type := List (An n)
def wdD (w : List Int) : PyData := .tuple (w.map .int)
def wsD (ws : List Rat) : PyData := .tuple (ws.map rD)
def ndD : (n : Nat) → Nd n → PyData
  | 0, _ => .tuple []
  | n + 1, qs => .tuple ((show List (Qn n) from qs).map fun q => .tuple (q.map fun a => .tuple [wdD a.1, wsD a.2.1, ndD n a.2.2]))
def anD (n : Nat) (a : An n) : PyData := .tuple [wdD a.1, wsD a.2.1, ndD n a.2.2]
def qnD (n : Nat) (q : Qn n) : PyData := .tuple (q.map (anD n))
theorem ndD_succ (n : Nat) (qs : List (Qn n)) : ndD (n + 1) qs = .tuple (qs.map (qnD n)) := rfl
/-- how many answers -/
def cnt : (n : Nat) → Nd n → Nat
  | 0, _ => 0
  | n + 1, qs => ((show List (Qn n) from qs).map fun q => (q.map fun a => 1 + cnt n a.2.2).sum).sum
def cntQ (n : Nat) (q : Qn n) : Nat := (q.map fun a => 1 + cnt n a.2.2).sum
theorem cnt_succ (n : Nat) (qs : List (Qn n)) : cnt (n + 1) qs = (qs.map (cntQ n)).sum := rfl
def emptyNd : (n : Nat) → Nd n
  | 0 => ()
  | _ + 1 => ([] : List _)
theorem ndD_empty (n : Nat) : ndD n (emptyNd n) = .tuple [] := by cases n <;> rfl
theorem cnt_empty (n : Nat) : cnt n (emptyNd n) = 0 := by cases n <;> rfl
/-! sums of fractions from the left -/
def fsum (l : List Rat) : Rat := l.foldl (· + ·) 0
theorem foldl_add (l : List Rat) : ∀ a : Rat, l.foldl (· + ·) a = a + fsum l := by
  induction l with
  | nil =>
    intro a
    exact (Rat.add_zero a).symm
  | cons x r ih =>
    intro a
    unfold fsum
    rw [List.foldl_cons, List.foldl_cons, ih, ih (0 + x), Rat.zero_add, Rat.add_assoc]
theorem fsum_nil : fsum [] = 0 := rfl
theorem fsum_cons (x : Rat) (r : List Rat) : fsum (x :: r) = x + fsum r := by
  unfold fsum
  rw [List.foldl_cons, foldl_add, Rat.zero_add]
  rfl
theorem fsum_snoc (l : List Rat) (x : Rat) : fsum (l ++ [x]) = fsum l + x := by
  unfold fsum
  rw [List.foldl_append]
  rfl
theorem fsum_mul (a : Rat) : ∀ l : List Rat, fsum (l.map fun x => a * x) = a * fsum l
  | [] => by
    rw [List.map_nil, fsum_nil, Rat.mul_zero]
  | x :: r => by
    rw [List.map_cons, fsum_cons, fsum_cons, fsum_mul a r, Rat.mul_add]
theorem mk_add (p q : Int) (s : Nat) (hs : 0 < s) : mkRat p s + mkRat q s = mkRat (p + q) s := by
  have h : s ≠ 0 := by omega
  rw [Rat.mkRat_add_mkRat _ _ h h, ← Int.add_mul, Rat.mkRat_mul_right h]
theorem fsum_mk (s : Nat) (hs : 0 < s) : ∀ ps : List Nat, fsum (ps.map fun (p : Nat) => mkRat (p : Int) s) = mkRat ((ps.sum : Nat) : Int) s
  | [] => by
    show (0 : Rat) = mkRat 0 s
    rw [Rat.zero_mkRat]
  | p :: r => by
    rw [List.map_cons, fsum_cons, fsum_mk s hs r, mk_add _ _ _ hs]
    congr 1
theorem mk_same (s : Nat) (hs : 0 < s) : mkRat (s : Int) s = 1 := by
  have h : s ≠ 0 := by omega
  have e := Rat.mkRat_mul_right (n := 1) (d := 1) h
  rw [Int.one_mul, Nat.one_mul] at e
  rw [e]
  rfl
theorem mk_nonneg (p s : Nat) (hs : 0 < s) : 0 ≤ mkRat (p : Int) s := by
  refine Rat.num_nonneg.mp ?_
  rw [(mkRat_parts (p : Int) s hs).1]
  exact Int.ediv_nonneg (by omega) (by omega)
theorem mk_le_one (p s : Nat) (hs : 0 < s) (h : p ≤ s) : mkRat (p : Int) s ≤ 1 := by
  refine (Rat.le_iff _ _).mpr ?_
  obtain ⟨e1, e2⟩ := mkRat_parts (p : Int) s hs
  rw [e2, e1]
  show _ / _ * 1 ≤ 1 * (_ / _)
  rw [Int.mul_one, Int.one_mul]
  exact Int.ediv_le_ediv (by have := Nat.gcd_pos_of_pos_right (p : Int).natAbs hs; omega) (by omega)
/-- all numbers up to 61 divide it -/
def LL : Nat := 591133442051411133755680800
theorem ll_dvd : ∀ s : Nat, 0 < s → s ≤ 61 → s ∣ LL := fun s h1 h2 => by
  have h : ∀ s : Fin 62, 0 < s.val → s.val ∣ LL := by decide +kernel
  exact h ⟨s, by omega⟩ h1
theorem ll_pos (e : Nat) : 0 < LL ^ e := Nat.pow_pos (by decide)
theorem ll_mono {e f : Nat} (h : e ≤ f) : LL ^ e ∣ LL ^ f := Nat.pow_dvd_pow LL h
theorem ll_le {e : Nat} : LL ^ e ≤ 2 ^ (89 * e) := by
  rw [Nat.pow_mul]
  exact Nat.pow_le_pow_left (by decide) e
theorem ll_small {e k : Nat} (h : 89 * e ≤ k) : LL ^ e ≤ 2 ^ k := Nat.le_trans ll_le (Nat.pow_le_pow_right (by decide) h)
/-- from NOUGHT to ONE, the bottom divides the e-th power -/
def Ch (e : Nat) (r : Rat) : Prop := 0 ≤ r ∧ r ≤ 1 ∧ r.den ∣ LL ^ e
theorem Ch.den {e : Nat} {r : Rat} (h : Ch e r) : r.den ≤ LL ^ e := Nat.le_of_dvd (ll_pos e) h.2.2
theorem Ch.num {e : Nat} {r : Rat} (h : Ch e r) : r.num.natAbs ≤ LL ^ e := by
  have d3 := h.den
  obtain ⟨h0, h1, h2⟩ := h
  have a := (Rat.le_iff r 1).mp h1
  have b := Rat.num_nonneg.mpr h0
  have c : (1 : Rat).num = 1 := rfl
  have d : (1 : Rat).den = 1 := rfl
  rw [c, d] at a
  omega
theorem Ch.mono {e f : Nat} {r : Rat} (h : Ch e r) (l : e ≤ f) : Ch f r := ⟨h.1, h.2.1, Nat.dvd_trans h.2.2 (ll_mono l)⟩
theorem mk_den_dvd {t : Int} {b : Nat} (h : 0 < b) : (mkRat t b).den ∣ b := by
  rw [Rat.den_mkRat, if_neg (by omega)]
  exact Nat.div_dvd_of_dvd (Nat.gcd_dvd_left _ _)
theorem mul_den_dvd (a b : Rat) : (a * b).den ∣ a.den * b.den := by
  have e : a * b = mkRat (a.num * b.num) (a.den * b.den) := by
    rw [← Rat.mkRat_mul_mkRat, rat_mk, rat_mk]
  rw [e]
  exact mk_den_dvd (Nat.mul_pos (Nat.pos_of_ne_zero a.den_nz) (Nat.pos_of_ne_zero b.den_nz))
theorem Ch.mul {e p s : Nat} {a : Rat} (h : Ch e a) (hs : 0 < s) (h21 : s ≤ 61) (hp : p ≤ s) : Ch (e + 1) (a * mkRat (p : Int) s) := by
  obtain ⟨h0, h1, h2⟩ := h
  have m0 := mk_nonneg p s hs
  have m1 := mk_le_one p s hs hp
  refine ⟨Rat.mul_nonneg h0 m0, ?_, Nat.dvd_trans (mul_den_dvd _ _) ?_⟩
  · have z := Rat.mul_le_mul_of_nonneg_left m1 h0
    rw [Rat.mul_one] at z
    exact Rat.le_trans z h1
  · rw [Nat.pow_succ]
    exact Nat.mul_dvd_mul h2 (Nat.dvd_trans (mk_den_dvd hs) (ll_dvd s hs h21))
theorem ch_zero {e : Nat} : Ch e 0 := ⟨by decide, by decide, Nat.one_dvd _⟩
theorem ch_one {e : Nat} : Ch e 1 := ⟨by decide, by decide, Nat.one_dvd _⟩
theorem ch_share {p s : Nat} (hs : 0 < s) (h21 : s ≤ 61) (hp : p ≤ s) : Ch 1 (mkRat (p : Int) s) := by
  have z := ch_one.mul (e := 0) hs h21 hp
  rw [Rat.one_mul] at z
  exact z
/-! ### right trees -/
def col {n : Nat} (q : Qn n) (j : Nat) : List Rat := q.map fun a => a.2.1.getD j 0
def WordOk (w : List Int) : Prop := w.length ≤ 8 ∧ ∀ x ∈ w, 0 ≤ x ∧ x ≤ 99
/-- one question right but for what is behind -/
structure QnOk (W : Nat) {n : Nat} (ahead : List Rat) (q : Qn n) : Prop where
  one : 1 ≤ q.length
  most : q.length ≤ 12
  words : ∀ a ∈ q, WordOk a.1
  asc : ∀ i (x y : An n), q[i]? = some x → q[i + 1]? = some y → HT.lexLt x.1 y.1 = true
  wide : ∀ a ∈ q, a.2.1.length = W
  chs : ∀ a ∈ q, ∀ r ∈ a.2.1, Ch 6 r
  whole : ∀ j, j < W → fsum (col q j) = ahead.getD j 0
def NdOk (W : Nat) : (n : Nat) → List Rat → Nd n → Prop
  | 0, _, _ => True
  | n + 1, ahead, qs => (show List (Qn n) from qs).length ≤ 5 ∧ ∀ q ∈ (show List (Qn n) from qs), QnOk W ahead q ∧ ∀ a ∈ q, NdOk W n a.2.1 a.2.2
theorem ndOk_empty (W n : Nat) (ws : List Rat) : NdOk W n ws (emptyNd n) := by
  cases n with
  | zero => trivial
  | succ n => exact ⟨Nat.zero_le _, fun q h => absurd h List.not_mem_nil⟩
end Tl
namespace Tl
open PySem PySem.Spec PyProof.Rows L2 RZ
/-- all but the lists at b, g, l stays -/
def Frl (b g l : Addr) (H H' : Hp) : Prop := ∀ a o, H a = some o → a ≠ b → a ≠ g → a ≠ l → H' a = some o
theorem Frl.refl (b g l : Addr) (H : Hp) : Frl b g l H H := fun _ _ h _ _ _ => h
theorem Frl.trans {b g l : Addr} {H1 H2 H3 : Hp} (x : Frl b g l H1 H2) (y : Frl b g l H2 H3) : Frl b g l H1 H3 := fun a o h h1 h2 h3 => y a o (x a o h h1 h2 h3) h1 h2 h3
theorem Frl.of {b g l : Addr} {H H' : Hp} (h : Same H H') : Frl b g l H H' := fun a o q _ _ _ => h a o q
theorem Frl.ofF {b g l : Addr} {H H' : Hp} (h : Frm b g H H') : Frl b g l H H' := fun a o q h1 h2 _ => h a o q h1 h2
theorem Frl.updL {b g l : Addr} {H : Hp} {o : HO} : Frl b g l H (upd H l o) := fun a x h _ _ h3 => by rw [upd_ne h3]; exact h
theorem Frl.updN {b g l p : Addr} {H H' : Hp} {o : HO} (f : Frl b g l H H') (h : H p = none) : Frl b g l H (upd H' p o) := fun a x e h1 h2 h3 => by
  rw [upd_ne (ne_of_none e h)]
  exact f a x e h1 h2 h3
/-- the bag and the list that tells how many answers are left -/
structure BagL (H : Hp) (b g l : Addr) (L : Int) : Prop where
  B : Bag H b g
  hl : H l = some (.lst [.int L])
  lb : l ≠ b
  lg : l ≠ g
theorem BagL.kt {K : PySem.W.Frag} {b g l : Addr} {L : Int} {H H' : Hp} (B : BagL H b g l L) (f : Frl b g l H H') : KT K H H' := fun a xs q => by
  have ne : ∀ {o : HO}, H a = some o → (∀ xs, o ≠ .lst xs) → a ≠ b ∧ a ≠ g ∧ a ≠ l := fun {o} e z => by
    obtain ⟨h1, h2⟩ := B.B.other e z
    exact ⟨h1, h2, fun y => by rw [y, B.hl] at e; exact z _ (Option.some.inj e).symm⟩
  rcases q with (q | ⟨o, q⟩) | q
  · obtain ⟨h1, h2, h3⟩ := ne q (fun xs z => by cases z)
    exact .inl (.inl (f _ _ q h1 h2 h3))
  · obtain ⟨h1, h2, h3⟩ := ne q (fun xs z => by cases z)
    exact .inl (.inr ⟨o, f _ _ q h1 h2 h3⟩)
  · exact .inr q
theorem BagL.keep {b g l : Addr} {L : Int} {H H' : Hp} (B : BagL H b g l L) (s : Same H H') : BagL H' b g l L := ⟨B.B.keep s, s _ _ B.hl, B.lb, B.lg⟩
theorem BagL.neNew {b g l p : Addr} {L : Int} {H : Hp} (B : BagL H b g l L) (h : H p = none) : p ≠ b ∧ p ≠ g ∧ p ≠ l := by
  obtain ⟨h1, h2⟩ := B.B.neNew h
  exact ⟨h1, h2, fun e => by rw [e, B.hl] at h; cases h⟩
theorem BagL.bag {b g l : Addr} {L : Int} {H H' : Hp} (B : BagL H b g l L) (B' : Bag H' b g) (f : Frm b g H H') : BagL H' b g l L := ⟨B', f _ _ B.hl B.lb B.lg, B.lb, B.lg⟩
theorem BagL.updN {b g l p : Addr} {L : Int} {H : Hp} {o : HO} (B : BagL H b g l L) (h1 : p ≠ b) (h2 : p ≠ g) (h3 : p ≠ l) : BagL (upd H p o) b g l L :=
  ⟨B.B.updN h1 h2, by rw [upd_ne h3.symm]; exact B.hl, B.lb, B.lg⟩
theorem BagL.updL {b g l : Addr} {L M : Int} {H : Hp} (B : BagL H b g l L) : BagL (upd H l (.lst [.int M])) b g l M :=
  ⟨B.B.updN B.lb B.lg, upd_same, B.lb, B.lg⟩
theorem Frl.none {b g l p : Addr} {H H' : Hp} (f : Frl b g l H H') (h : H' p = Option.none) (h1 : p ≠ b) (h2 : p ≠ g) (h3 : p ≠ l) : H p = Option.none := by
  cases e : H p with
  | none => rfl
  | some o =>
    rw [f p o e h1 h2 h3] at h
    cases h
def spSome : Sp := fun vs H Q _ => ∃ (b g t : Addr) (xs : List V), vs = [.ref b, .ref t] ∧ Bag H b g ∧ H t = some (.lst xs) ∧ t ≠ b ∧ t ≠ g ∧ 0 < xs.length ∧ xs.length ≤ 1000 ∧
  ∀ (i : Nat) (x : V) (H' : Hp), xs[i]? = some x → Bag H' b g → Frm b g H H' → Q x H'
section
variable {P : Program} {w : World} {K : PySem.W.Frag} {mg : Str → Option Value} {base : Heap}
theorem ok_law_some {f f3 : Addr} {fd fd3 : FuncData} (D : Dn K mg "_law_some" s_law_some ["bag", "things"] f fd) (B : Blt mg) (D_law_pick : Dn K mg "_law_pick" s_law_pick ["bag", "many"] f3 fd3) : FnOk P w K mg base CX0 2 f fd ["bag", "things"] spSome := by
  have G_law_pick : FnOk P w K mg base CX0 1 f3 fd3 ["bag", "many"] spPick := ok_law_pick D_law_pick B
  refine D.F.ok sc_law_some (fun vs H Q E h => ?_) (fun cdv A outer s H vs Q E hr h => ?_)
  · obtain ⟨b, g, t, xs, rfl, _⟩ := h
    rfl
  obtain ⟨b, g, t, xs, rfl, hB, ht, tb, tg, h1, h2, q⟩ := h
  have nd := sc_law_some.nd
  refine ⟨_, (pss_one (ps_ret (pe_ix (k_ixL (K := K) rfl) (pv 1) (pe_call G_law_pick (hr.mono (by omega)) (by rfl) D_law_pick.m D_law_pick.F.kp D_law_pick.b .nil pass0 (pa_cons (pv 0) (pa_cons (pe_callB (k_len (K := K) rfl) (by rfl) B.len PySem.boot_len (pa_cons (pv 1) pa_nil)) pa_nil))) (fun _ _ => rfl)))), ?_⟩
  refine ⟨_, rfl, _, rfl, _, rfl, t, _, rfl, .inl (SqL.of ht), b, g, _, rfl, hB, by omega, by omega, fun r H' r0 r1 B' F' => ?_⟩
  obtain ⟨j, ej⟩ : ∃ j : Nat, r = (j : Int) := ⟨r.toNat, by omega⟩
  have hj : j < xs.length := by omega
  have gj : xs[j]? = some xs[j] := List.getElem?_eq_getElem hj
  exact ⟨t, xs, r, xs[j], rfl, rfl, SqL.of (F' _ _ ht tb tg), at_of (j := j) ej gj, q j _ H' gj B' F'⟩
end
/-! ### questions and nodes that the law draws -/
/-- right nodes of questions of at most three answers -/
def NdF (W : Nat) : (n : Nat) → List Rat → Nd n → Prop
  | 0, _, _ => True
  | n + 1, ahead, qs => (show List (Qn n) from qs).length ≤ 5 ∧ ∀ q ∈ (show List (Qn n) from qs), (QnOk W ahead q ∧ q.length ≤ 3) ∧ ∀ a ∈ q, NdF W n a.2.1 a.2.2
theorem ndF_empty (W n : Nat) (ws : List Rat) : NdF W n ws (emptyNd n) := by
  cases n with
  | zero => trivial
  | succ n => exact ⟨Nat.zero_le _, fun q h => absurd h List.not_mem_nil⟩
theorem NdF.ok : ∀ {W n : Nat} {ahead : List Rat} {t : Nd n}, NdF W n ahead t → NdOk W n ahead t
  | _, 0, _, _, _ => trivial
  | _, _ + 1, _, _, h => ⟨h.1, fun q hq => ⟨(h.2 q hq).1.1, fun a ha => NdF.ok ((h.2 q hq).2 a ha)⟩⟩
def lowL (n : Nat) : Int := -(3 * (n : Int) + 2)
def spQ (K : PySem.W.Frag) : Nat → Sp
  | 0 => fun _ _ _ _ => False
  | n + 1 => fun vs H Q _ => ∃ (b g l : Addr) (W e : Nat) (av : V) (ahead : List Rat) (L : Int), vs = [.ref b, .int (W : Int), av, .int ((n + 1 : Nat) : Int), .ref l] ∧ BagL H b g l L ∧ Td K H av (wsD ahead) ∧
      ahead.length = W ∧ (∀ r ∈ ahead, Ch e r) ∧ e + (n + 1) ≤ 6 ∧ 1 ≤ W ∧ W ≤ 5 ∧
      ∀ (v : V) (q : Qn n) (L' : Int) (H' : Hp), Td K H' v (qnD n q) → (QnOk W ahead q ∧ q.length ≤ 3) → (∀ a ∈ q, NdF W n a.2.1 a.2.2) → ((cntQ n q : Nat) : Int) + L' = L → (L - 3 ≤ L' ∨ lowL n ≤ L') → BagL H' b g l L' → Frl b g l H H' → Q v H'
def spN (K : PySem.W.Frag) (n : Nat) : Sp := fun vs H Q _ => ∃ (b g l : Addr) (W e : Nat) (av : V) (ahead : List Rat) (L : Int), vs = [.ref b, .int (W : Int), av, .int (n : Int), .ref l] ∧ BagL H b g l L ∧ Td K H av (wsD ahead) ∧
      ahead.length = W ∧ (∀ r ∈ ahead, Ch e r) ∧ e + n ≤ 6 ∧ 1 ≤ W ∧ W ≤ 5 ∧
      ∀ (v : V) (t : Nd n) (L' : Int) (H' : Hp), Td K H' v (ndD n t) → NdF W n ahead t → ((cnt n t : Nat) : Int) + L' = L → (L ≤ L' ∨ lowL n ≤ L') → BagL H' b g l L' → Frl b g l H H' → Q v H'
/-- lists of fractions, told by their places, away from Z -/
def RowsAt (K : PySem.W.Frag) (b g l : Addr) (Z : Addr → Prop) (H : Hp) (R : Addr) (ds : List (List Rat)) : Prop := R ≠ b ∧ R ≠ g ∧ R ≠ l ∧ ¬ Z R ∧ ∃ rs : List Addr, H R = some (.lst (rs.map V.ref)) ∧ rs.length = ds.length ∧
  ∀ (i : Nat) (r : Addr) (d : List Rat), rs[i]? = some r → ds[i]? = some d → (r ≠ R ∧ ¬ Z r) ∧ r ≠ b ∧ r ≠ g ∧ r ≠ l ∧ ∃ us, H r = some (.lst us) ∧ TdAll K H us (d.map rD)
theorem RowsAt.keep {K : PySem.W.Frag} {b g l R : Addr} {Z : Addr → Prop} {H H' : Hp} {ds : List (List Rat)} (h : RowsAt K b g l Z H R ds) (k : KT K H H') (f : Frl b g l H H') : RowsAt K b g l Z H' R ds := by
  obtain ⟨n1, n2, n3, n4, rs, h1, h2, h3⟩ := h
  refine ⟨n1, n2, n3, n4, rs, f _ _ h1 n1 n2 n3, h2, fun i r d e1 e2 => ?_⟩
  obtain ⟨m0, m1, m2, m3, us, u1, u2⟩ := h3 i r d e1 e2
  exact ⟨m0, m1, m2, m3, us, f _ _ u1 m1 m2 m3, u2.keep k⟩
theorem RowsAt.avoid {K : PySem.W.Frag} {b g l R φ : Addr} {Z : Addr → Prop} {H : Hp} {ds : List (List Rat)} (h : RowsAt K b g l Z H R ds) (n : H φ = none) : RowsAt K b g l (fun x => x = φ) H R ds := by
  obtain ⟨n1, n2, n3, _, rs, h1, h2, h3⟩ := h
  refine ⟨n1, n2, n3, ne_of_none h1 n, rs, h1, h2, fun i r d e1 e2 => ?_⟩
  obtain ⟨m0, m1, m2, m3, us, u1, u2⟩ := h3 i r d e1 e2
  exact ⟨⟨m0.1, ne_of_none u1 n⟩, m1, m2, m3, us, u1, u2⟩
end Tl
namespace Tl
open PySem PySem.Spec PyProof.Rows L2 RZ
def cntB (n : Nat) (q : Qn n) : Nat := (q.map fun a => cnt n a.2.2).sum
theorem cntQ_eq (n : Nat) : ∀ q : Qn n, cntQ n q = q.length + cntB n q
  | [] => rfl
  | a :: r => by
    have ih := cntQ_eq n r
    show (1 + cnt n a.2.2) + cntQ n r = (r.length + 1) + (cnt n a.2.2 + cntB n r)
    omega
theorem cntB_snoc (n : Nat) (q : Qn n) (a : An n) : cntB n (q ++ [a]) = cntB n q + cnt n a.2.2 := by
  unfold cntB
  rw [List.map_append, List.sum_append]
  rfl
/-- the weights of the i-th answer -/
def wk (W : Nat) (ahead : List Rat) (ds : List (List Rat)) (i : Nat) : List Rat := (List.range W).map fun j => ahead.getD j 0 * (ds.getD j []).getD i 0
/-- a drawn answer in its place -/
structure AnIs (W n : Nat) (ahead : List Rat) (ds : List (List Rat)) (i : Nat) (a : An n) : Prop where
  w : ∃ r : List Int, a.1 = 11 * (i : Int) :: r ∧ r.length ≤ 7 ∧ ∀ x ∈ r, 0 ≤ x ∧ x ≤ 99
  ws : a.2.1 = wk W ahead ds i
  ok : NdF W n a.2.1 a.2.2
theorem getD_of {α : Type} {l : List α} {i : Nat} {x d : α} (h : l[i]? = some x) : l.getD i d = x := by
  rw [List.getD_eq_getElem?_getD, h]
  rfl
theorem wk_at {W : Nat} {ahead : List Rat} {ds : List (List Rat)} {i j : Nat} (hj : j < W) : (wk W ahead ds i).getD j 0 = ahead.getD j 0 * (ds.getD j []).getD i 0 := by
  refine getD_of ?_
  unfold wk
  rw [List.getElem?_map, List.getElem?_range hj]
  rfl
theorem mem_getD0 {l : List Rat} {P : Rat → Prop} (h : ∀ r ∈ l, P r) {j : Nat} (hj : j < l.length) : P (l.getD j 0) := by
  rw [getD_of (List.getElem?_eq_getElem hj)]
  exact h _ (List.getElem_mem hj)
theorem share_at {m i : Nat} {rs : List Rat} (h : IsShares m rs) (hi : i < m) : ∃ p s : Nat, 0 < s ∧ s ≤ 5 * m + 1 ∧ p ≤ s ∧ rs.getD i 0 = mkRat (p : Int) s := by
  obtain ⟨ps, h1, h2, h3, rfl⟩ := h
  have hi2 : i < ps.length := by omega
  refine ⟨ps[i], ps.sum, h2, h3, ?_, getD_of (by rw [List.getElem?_map, List.getElem?_eq_getElem hi2]; rfl)⟩
  have : ∀ (l : List Nat) (x : Nat), x ∈ l → x ≤ l.sum := fun l => by
    induction l with
    | nil =>
      intro x h
      exact absurd h List.not_mem_nil
    | cons y r ih =>
      intro x h
      rcases List.mem_cons.mp h with rfl | h
      · show x ≤ x + r.sum
        omega
      · have := ih x h
        show x ≤ y + r.sum
        omega
  exact this ps _ (List.getElem_mem hi2)
theorem shares_col {m : Nat} {rs : List Rat} (h : IsShares m rs) (a : Rat) : fsum (rs.map fun x => a * x) = a := by
  obtain ⟨ps, h1, h2, h3, rfl⟩ := h
  rw [fsum_mul, fsum_mk _ h2, mk_same _ h2, Rat.mul_one]
/-- a drawn question is right -/
theorem drawn_ok {W n m e : Nat} {ahead : List Rat} {ds : List (List Rat)} {q : Qn n} (hm1 : 1 ≤ m) (hm : m ≤ 3) (hq : q.length = m) (hd : ds.length = W) (ha : ahead.length = W) (hS : ∀ d ∈ ds, IsShares m d) (hA : ∀ r ∈ ahead, Ch e r) (he : e + 1 ≤ 6)
    (h : ∀ i a, q[i]? = some a → AnIs W n ahead ds i a) : QnOk W ahead q ∧ (∀ a ∈ q, ∀ r ∈ a.2.1, Ch (e + 1) r) := by
  have dj : ∀ j, j < W → IsShares m (ds.getD j []) := fun j hj => by
    have hj2 : j < ds.length := by omega
    rw [getD_of (List.getElem?_eq_getElem hj2)]
    exact hS _ (List.getElem_mem hj2)
  have aj : ∀ j, j < W → Ch e (ahead.getD j 0) := fun j hj => mem_getD0 hA (by omega)
  have chw : ∀ a ∈ q, ∀ r ∈ a.2.1, Ch (e + 1) r := by
    intro a hm' r hr
    obtain ⟨i, hi, rfl⟩ := List.getElem_of_mem hm'
    have A := h i _ (List.getElem?_eq_getElem hi)
    rw [A.ws] at hr
    unfold wk at hr
    obtain ⟨j, hj, rfl⟩ := List.mem_map.mp hr
    have hj := List.mem_range.mp hj
    obtain ⟨p, s, s0, s1, ps, e1⟩ := share_at (dj j hj) (show i < m by omega)
    rw [e1]
    exact (aj j hj).mul s0 (by omega) ps
  have colj : ∀ j, j < W → col q j = (ds.getD j []).map fun x => ahead.getD j 0 * x := by
    intro j hj
    have lj : (ds.getD j []).length = m := by
      obtain ⟨ps, h1, _, _, e1⟩ := dj j hj
      rw [e1, List.length_map, h1]
    refine List.ext_getElem? fun i => ?_
    unfold col
    rw [List.getElem?_map, List.getElem?_map]
    by_cases hi : i < m
    · have g1 : q[i]? = some q[i] := List.getElem?_eq_getElem (by omega)
      have g2 : (ds.getD j [])[i]? = some (ds.getD j [])[i] := List.getElem?_eq_getElem (by omega)
      rw [g1, g2]
      have e3 : (q[i]).2.1 = wk W ahead ds i := (h i _ g1).ws
      show some ((q[i]).2.1.getD j 0) = some (ahead.getD j 0 * (ds.getD j [])[i])
      rw [e3, wk_at hj, getD_of g2]
    · rw [List.getElem?_eq_none (by omega), List.getElem?_eq_none (by omega)]
      rfl
  refine ⟨⟨by omega, by omega, ?_, ?_, ?_, ?_, ?_⟩, chw⟩
  · intro a hm'
    obtain ⟨i, hi, rfl⟩ := List.getElem_of_mem hm'
    obtain ⟨r, e1, e2, e3⟩ := (h i _ (List.getElem?_eq_getElem hi)).w
    rw [e1]
    refine ⟨by rw [List.length_cons]; omega, fun x hx => ?_⟩
    rcases List.mem_cons.mp hx with rfl | hx
    · omega
    · exact e3 x hx
  · intro i x y hx hy
    obtain ⟨r, e1, _⟩ := (h i _ hx).w
    obtain ⟨r2, e2, _⟩ := (h (i + 1) _ hy).w
    rw [e1, e2]
    show (if 11 * (i : Int) = 11 * ((i + 1 : Nat) : Int) then HT.lexLt r r2 else decide (11 * (i : Int) < 11 * ((i + 1 : Nat) : Int))) = true
    rw [if_neg (by omega)]
    exact decide_eq_true (by omega)
  · intro a hm'
    obtain ⟨i, hi, rfl⟩ := List.getElem_of_mem hm'
    rw [(h i _ (List.getElem?_eq_getElem hi)).ws]
    unfold wk
    rw [List.length_map, List.length_range]
  · exact fun a h1 r h2 => (chw a h1 r h2).mono he
  · intro j hj
    rw [colj j hj]
    exact shares_col (dj j hj) _
end Tl
namespace Tl
open PySem PySem.Spec PyProof.Rows L2 RZ
theorem cmul_small {i j : Int} (h1 : i.natAbs < 1024) (h2 : j.natAbs < 1024) : CMulW i j := wide_mul (a := 10) (b := 10) h1 h2 (by decide) (by decide) (by decide)
theorem pow_lt2000 {e : Nat} (h : e ≤ 14) : LL ^ e < 2 ^ 2000 := Nat.lt_of_le_of_lt (ll_small (k := 1500) (by omega)) (Nat.pow_lt_pow_right (by decide) (by decide))
/-- the five words that the law picks from -/
def five (k : Int) : List (List Int) := [[k], [7 * k, 3], [9 * k + 1, 0, 99], List.replicate 7 (90 + k), []]
theorem five_ok {k : Int} (h0 : 0 ≤ k) (h2 : k ≤ 2) : ∀ r ∈ five k, r.length ≤ 7 ∧ ∀ x ∈ r, 0 ≤ x ∧ x ≤ 99 := by
  intro r hr
  unfold five at hr
  simp only [List.mem_cons, List.not_mem_nil, or_false] at hr
  rcases hr with rfl | rfl | rfl | rfl | rfl
  · exact ⟨by simp, fun x hx => by simp at hx; omega⟩
  · exact ⟨by simp, fun x hx => by simp at hx; omega⟩
  · exact ⟨by simp, fun x hx => by simp at hx; omega⟩
  · exact ⟨by simp, fun x hx => by rw [List.mem_replicate] at hx; omega⟩
  · exact ⟨by simp, fun x hx => absurd hx List.not_mem_nil⟩
section
variable {P : Program} {w : World} {K : PySem.W.Frag} {mg : Str → Option Value} {base : Heap}
theorem ok_law_question {m : Nat} {f f1 f2 f3 f4 f5 f6 f7 : Addr} {fd fd1 fd2 fd3 fd4 fd5 fd6 fd7 : FuncData} (D : Dn K mg "_law_question" s_law_question ["bag", "worlds", "ahead", "levels", "left"] f fd) (B : Blt mg) (D_law_low : Dn K mg "_law_low" s_law_low ["top", "bottom"] f1 fd1) (D_law_common : Dn K mg "_law_common" s_law_common ["one", "other"] f2 fd2)
    (D_law_pick : Dn K mg "_law_pick" s_law_pick ["bag", "many"] f3 fd3) (D_law_shares : Dn K mg "_law_shares" s_law_shares ["bag", "many", "least"] f4 fd4) (D_law_some : Dn K mg "_law_some" s_law_some ["bag", "things"] f5 fd5) (D_law_times : Dn K mg "_law_times" s_law_times ["one", "other"] f6 fd6)
    (D_law_node : Dn K mg "_law_node" s_law_node ["bag", "worlds", "ahead", "levels", "left"] f7 fd7) (G_law_node : FnOk P w K mg base CX0 (6 + 2 * m) f7 fd7 ["bag", "worlds", "ahead", "levels", "left"] (spN K m)) :
    FnOk P w K mg base CX0 (7 + 2 * m) f fd ["bag", "worlds", "ahead", "levels", "left"] (spQ K (m + 1)) := by
  have G_law_pick : FnOk P w K mg base CX0 1 f3 fd3 ["bag", "many"] spPick := ok_law_pick D_law_pick B
  have G_law_shares : FnOk P w K mg base CX0 3 f4 fd4 ["bag", "many", "least"] (spShares K) := ok_law_shares D_law_shares B D_law_low D_law_common D_law_pick
  have G_law_some : FnOk P w K mg base CX0 2 f5 fd5 ["bag", "things"] spSome := ok_law_some D_law_some B D_law_pick
  have G_law_times : FnOk P w K mg base CX0 3 f6 fd6 ["one", "other"] (spTimes K) := ok_law_times D_law_times B D_law_low D_law_common
  rw [show 7 + 2 * m = (6 + 2 * m) + 1 by omega]
  refine D.F.ok sc_law_question (fun vs H Q E h => ?_) (fun cdv A outer s H vs Q E hr h => ?_)
  · obtain ⟨b, g, l, W, e, av, ahead, L, rfl, _⟩ := h
    rfl
  obtain ⟨b, g, l, W, e, av, ahead, L, rfl, hB, hav, hla, hch, hel, hW1, hW5, q⟩ := h
  have nd := sc_law_question.nd
  refine ⟨_, (pss_cons (ps_set (i := 5) nd rfl (.inr rfl) (pe_op op_add pe_int (pe_call G_law_pick (hr.mono (by omega)) (by rfl) D_law_pick.m D_law_pick.F.kp D_law_pick.b .nil pass0 (pa_cons (pv 0) (pa_cons pe_int pa_nil)))))
      (pss_cons (ps_augS (pv 4) pe_int (k_getL (K := K) rfl) (pv 5) ip_sub set_list)
      (pss_cons (ps_set (i := 6) nd rfl (.inr rfl) (pe_lc (own := [("world", 7)]) rfl nd (pi_range1 (by rfl) B.range (pa_cons (pv 1) pa_nil)) (blkOk_by (own := [("world", 7)]) (by kernel_rfl)) (fun _ _ _ _ _ => (pg_name (i := 7) nd rfl (.inl rfl))) (fun _ _ _ _ _ => pts_nil) (fun _ _ _ _ _ => (pe_call G_law_shares (hr.mono (by omega)) (by rfl) D_law_shares.m D_law_shares.F.kp D_law_shares.b .nil pass0 (pa_cons (pv 0) (pa_cons (pv 5) (pa_cons (pe_call G_law_pick (hr.mono (by omega)) (by rfl) D_law_pick.m D_law_pick.F.kp D_law_pick.b .nil pass0 (pa_cons (pv 0) (pa_cons pe_int pa_nil))) pa_nil)))))))
      (pss_cons (ps_set (i := 8) nd rfl (.inl rfl) (pe_lst pa_nil))
      (pss_cons (ps_for PassesOwn.never rfl (pi_range1 (by rfl) B.range (pa_cons (pv 5) pa_nil)) (pg_name (i := 9) nd rfl (.inr rfl)) (pss_cons (ps_set (i := 10) nd rfl (.inl rfl) (pe_call G_law_some (hr.mono (by omega)) (by rfl) D_law_some.m D_law_some.F.kp D_law_some.b .nil pass0 (pa_cons (pv 0) (pa_cons (pe_lst (pa_cons (pe_tup (pa_cons (pv 9) pa_nil)) (pa_cons (pe_tup (pa_cons (pe_op op_mulW pe_int (pv 9)) (pa_cons pe_int pa_nil))) (pa_cons (pe_tup (pa_cons (pe_op op_add (pe_op op_mulW pe_int (pv 9)) pe_int) (pa_cons pe_int (pa_cons pe_int pa_nil)))) (pa_cons (pe_op (k_rep (K := K) rfl) (pe_tup (pa_cons (pe_op op_add pe_int (pv 9)) pa_nil)) pe_int) (pa_cons (pe_tup pa_nil) pa_nil)))))) pa_nil))))
      (pss_cons (ps_set (i := 11) nd rfl (.inl rfl) (pe_callTy (k_tupOf (K := K) rfl) (by rfl) B.tuple (by decide +kernel) (pa_cons (pe_lc (own := [("world", 7)]) rfl nd (pi_range1 (by rfl) B.range (pa_cons (pv 1) pa_nil)) (blkOk_by (own := [("world", 7)]) (by kernel_rfl)) (fun _ _ _ _ _ => (pg_name (i := 7) nd rfl (.inl rfl))) (fun _ _ _ _ _ => pts_nil) (fun _ _ _ _ _ => (pe_call G_law_times (hr.mono (by omega)) (by rfl) D_law_times.m D_law_times.F.kp D_law_times.b .nil pass0 (pa_cons (pe_ix (k_ixT (K := K) rfl) (pv 2) (pv 7) (fun _ _ => rfl)) (pa_cons (pe_ix (k_ixL (K := K) rfl) (pe_ix (k_ixL (K := K) rfl) (pv 6) (pv 7) (fun _ _ => rfl)) (pv 9) (fun _ _ => rfl)) pa_nil))))) pa_nil)))
      (pss_one (ps_expr (pe_bm PySem.F.plainAttrs_list PySem.F.slot_list_append PySem.F.type_list_append mt_append (pv 8) (pa_cons (pe_tup (pa_cons (pe_op (k_cat (K := K) rfl) (pe_tup (pa_cons (pe_op op_mulW pe_int (pv 9)) pa_nil)) (pv 10)) (pa_cons (pv 11) (pa_cons (pe_call G_law_node (hr.mono (by omega)) (by rfl) D_law_node.m D_law_node.F.kp D_law_node.b .nil pass0 (pa_cons (pv 0) (pa_cons (pv 1) (pa_cons (pv 11) (pa_cons (pe_op op_sub (pv 3) pe_int) (pa_cons (pv 4) pa_nil)))))) pa_nil)))) pa_nil)))))))
      (pss_one (ps_ret (pe_callTy (k_tupOf (K := K) rfl) (by rfl) B.tuple (by decide +kernel) (pa_cons (pv 8) pa_nil))))))))), ?_⟩
  -- many = 1 + _law_pick(bag, 3)
  refine ⟨_, rfl, b, g, 3, rfl, hB.B, by decide, by decide, fun r H1 r0 r1 B1 F1 => ⟨_, _, rfl, rfl, ?_⟩⟩
  obtain ⟨mm, em⟩ : ∃ mm : Nat, 1 + r = (mm : Int) := ⟨(1 + r).toNat, by omega⟩
  have mm1 : 1 ≤ mm := by omega
  have mm3 : mm ≤ 3 := by omega
  show gName 5 (V.int (1 + r)) _ _ _
  rw [em]
  have B1 := hB.bag B1 F1
  have F1 : Frl b g l H H1 := .ofF F1
  have hav1 := hav.keep (hB.kt F1)
  -- left[0] -= many
  refine ⟨_, rfl, l, _, 0, _, rfl, rfl, SqL.of B1.hl, rfl, _, rfl, _, _, rfl, rfl, l, _, 0, 0, rfl, rfl, B1.hl, rfl, ?_⟩
  have B2 : BagL (upd H1 l (.lst ([V.int L].set 0 (.int (L - (mm : Int)))))) b g l (L - (mm : Int)) := B1.updL
  have F2 : Frl b g l H1 (upd H1 l (.lst ([V.int L].set 0 (.int (L - (mm : Int)))))) := Frl.updL
  generalize upd H1 l (.lst ([V.int L].set 0 (.int (L - (mm : Int))))) = H2 at B2 F2
  have hav2 := hav1.keep (B1.kt F2)
  have F02 := F1.trans F2
  clear F1 F2 B1 hav1
  -- rows
  refine ⟨_, rfl, _, rfl, by omega, by omega, fun R hR => ?_⟩
  obtain ⟨Rb, Rg, Rl⟩ := B2.neNew hR
  refine lc_range (lo := 0) (n := W) (fun i H3 => ∃ ds : List (List Rat), ds.length = i ∧ RowsAt K b g l (fun _ => False) H3 R ds ∧ (∀ d ∈ ds, IsShares mm d) ∧ BagL H3 b g l (L - (mm : Int)) ∧ Frl b g l H2 H3)
    ⟨[], rfl, ⟨Rb, Rg, Rl, (fun z => z), [], upd_same, rfl, fun i r d e1 _ => by simp at e1⟩, fun d h => absurd h List.not_mem_nil, B2.updN Rb Rg Rl, (Frl.refl b g l H2).updN hR⟩ ?_ ?_
  · rintro i H3 hi ⟨ds, hd, hRows, hS, B3, F3⟩
    refine ⟨rfl, ?_⟩
    refine iteT (B := ∃ ds : List (List Rat), ds.length = i + 1 ∧ RowsAt K b g l (fun _ => False) H3 R ds ∧ (∀ d ∈ ds, IsShares mm d) ∧ BagL H3 b g l (L - (mm : Int)) ∧ Frl b g l H2 H3) ?_
    refine ⟨_, rfl, _, rfl, _, rfl, b, g, 2, rfl, B3.B, by decide, by decide, fun r H4 r0 r1 B4 F4 => ?_⟩
    refine ⟨b, g, mm, r, rfl, B4, mm1, by omega, r0, by omega, fun ρ d us H5 hI h5 t5 fr B5 F5 => ?_⟩
    have B4 := B3.bag B4 F4
    have F4 : Frl b g l H3 H4 := .ofF F4
    have k4 := B3.kt (K := K) F4
    have nρ4 := B4.neNew fr
    have B5 := B4.bag B5 F5
    have F5 : Frl b g l H4 H5 := .ofF F5
    have k5 := k4.trans (B4.kt F5)
    have F35 := F4.trans F5
    obtain ⟨_, _, _, _, rs, h1, h2, h3⟩ := hRows.keep k5 F35
    have ρR : ρ ≠ R := fun z => by
      rw [z] at fr
      obtain ⟨_, _, _, _, rs', h1', _⟩ := hRows.keep k4 F4
      rw [h1'] at fr
      cases fr
    have kR : KT K H5 (upd H5 R (.lst (rs.map V.ref ++ [V.ref ρ]))) := KT.updL h1
    refine ⟨_, h1, by rw [List.length_map]; exact small1000 (by omega), ds ++ [d], by rw [List.length_append, hd]; rfl, ⟨Rb, Rg, Rl, (fun z => z), rs ++ [ρ], by rw [upd_same, List.map_append]; rfl, by rw [List.length_append, List.length_append, h2]; rfl, ?_⟩, ?_, B5.updN Rb Rg Rl, (F3.trans F35).updN hR⟩
    · intro j ρ' d' e1 e2
      by_cases hj : j < rs.length
      · rw [List.getElem?_append_left hj] at e1
        rw [List.getElem?_append_left (by omega)] at e2
        obtain ⟨nR, m1, m2, m3, us', u1, u2⟩ := h3 j ρ' d' e1 e2
        exact ⟨nR, m1, m2, m3, us', by rw [upd_ne nR.1]; exact u1, u2.keep kR⟩
      · have ej : j = rs.length := by
          have := (List.getElem?_eq_some_iff.mp e1).1
          rw [List.length_append] at this
          simp at this
          omega
        subst ej
        rw [List.getElem?_append_right (Nat.le_refl _), Nat.sub_self] at e1
        rw [h2, List.getElem?_append_right (Nat.le_refl _), Nat.sub_self] at e2
        cases e1
        cases e2
        exact ⟨⟨ρR, fun z => z⟩, nρ4.1, nρ4.2.1, nρ4.2.2, us, by rw [upd_ne ρR]; exact h5, t5.keep kR⟩
    · intro d' hd'
      rcases List.mem_append.mp hd' with h | h
      · exact hS d' h
      · rw [List.mem_singleton.mp h]
        exact hI
  rintro H3 ⟨ds, hd, hRows, hS, B3, F3⟩
  have hav3 := hav2.keep (B2.kt F3)
  have F03 := F02.trans F3
  clear F3 F02 hav2 B2
  -- found = []
  refine ⟨Nat.zero_le _, fun φ hφ => ?_⟩
  obtain ⟨φb, φg, φl⟩ := B3.neNew hφ
  have sφ : Same H3 (upd H3 φ (.lst [])) := same_upd hφ
  have hφ0 : H φ = none := F03.none hφ φb φg φl
  -- for k in range(many)
  refine ⟨_, rfl, _, rfl, by omega, by omega, for_range (lo := 0) (n := mm) (fun i σ H4 => ∃ (qs : Qn m) (us : List V) (L4 : Int) (o7 o9 o10 o11 : Option V),
      σ = [some (.ref b), some (.int (W : Int)), some av, some (.int ((m + 1 : Nat) : Int)), some (.ref l), some (.int (mm : Int)), some (.ref R), o7, some (.ref φ), o9, o10, o11] ∧ qs.length = i ∧ H4 φ = some (.lst us) ∧ TdAll K H4 us (qs.map (anD m)) ∧
      (∀ j a, qs[j]? = some a → AnIs W m ahead ds j a) ∧ ((cntB m qs : Nat) : Int) + L4 = L - (mm : Int) ∧ (L - (mm : Int) ≤ L4 ∨ lowL m ≤ L4) ∧ RowsAt K b g l (fun x => x = φ) H4 R ds ∧ R ≠ φ ∧ Td K H4 av (wsD ahead) ∧ BagL H4 b g l L4 ∧ Frl b g l H H4)
    ⟨[], [], L - (mm : Int), none, none, none, none, rfl, rfl, upd_same, .nil, fun j a h => by simp at h, by show ((0 : Nat) : Int) + _ = _; omega, .inl (Int.le_refl _), (hRows.avoid hφ).keep (Same.kt sφ) (.of sφ), ?_, hav3.keep (Same.kt sφ), B3.updN φb φg φl, F03.updN hφ0⟩ ?_ ?_⟩
  · intro z
    obtain ⟨_, _, _, _, rs, h1, _⟩ := hRows
    rw [z, hφ] at h1
    cases h1
  · clear sφ hRows B3 F03 hφ hav3
    rintro i σ H4 hi ⟨qs, us, L4, o7, o9, o10, o11, rfl, hq, h4, t4, hA, hc, hlow, hRows, hRφ, hav4, B4, F4⟩
    have hk : (0 : Int) + (i : Int) = (i : Int) := by omega
    show gName 9 (.int (0 + (i : Int))) _ _ _
    rw [hk]
    -- the five words
    refine ⟨_, rfl, _, rfl, (by show 1 ≤ sizeLine; decide), fun p1 n1 => ?_⟩
    refine ⟨_, rfl, _, _, rfl, rfl, cmul_small (by decide) (by omega), (by show 2 ≤ sizeLine; decide), fun p2 n2 => ?_⟩
    refine ⟨_, rfl, _, _, rfl, rfl, cmul_small (by decide) (by omega), _, _, rfl, rfl, (by show 3 ≤ sizeLine; decide), fun p3 n3 => ?_⟩
    refine ⟨_, rfl, _, _, rfl, rfl, (by show 1 ≤ sizeLine; decide), fun p4 n4 => ?_⟩
    have s4 : Same H4 (upd (upd (upd (upd H4 p1 (.tup [.int (i : Int)])) p2 (.tup [.int (7 * (i : Int)), .int 3])) p3 (.tup [.int (9 * (i : Int) + 1), .int 0, .int 99])) p4 (.tup [.int (90 + (i : Int))])) :=
      (((same_upd n1).trans (same_upd n2)).trans (same_upd n3)).trans (same_upd n4)
    refine ⟨p4, 7, _, rfl, rfl, .inl (.inl upd_same), by simp, by decide, by decide, by simp, fun p5 H5 s5 t5 => ?_⟩
    refine ⟨Nat.zero_le _, fun p6 n6 => ?_⟩
    refine ⟨(by show 5 ≤ sizeLine; decide), fun t nt => ?_⟩
    have t1 : SqT K (upd (upd H5 p6 (.tup [])) t (.lst [.ref p1, .ref p2, .ref p3, .ref p5, .ref p6])) p1 [.int (i : Int)] := Same.kt (same_upd nt) _ _ (Same.kt (same_upd n6) _ _ (Same.kt s5 _ _ (Same.kt (same_upd n4) _ _ (Same.kt (same_upd n3) _ _ (Same.kt (same_upd n2) _ _ (.inl (.inl upd_same)))))))
    have t2 : SqT K (upd (upd H5 p6 (.tup [])) t (.lst [.ref p1, .ref p2, .ref p3, .ref p5, .ref p6])) p2 [.int (7 * (i : Int)), .int 3] := Same.kt (same_upd nt) _ _ (Same.kt (same_upd n6) _ _ (Same.kt s5 _ _ (Same.kt (same_upd n4) _ _ (Same.kt (same_upd n3) _ _ (.inl (.inl upd_same))))))
    have t3 : SqT K (upd (upd H5 p6 (.tup [])) t (.lst [.ref p1, .ref p2, .ref p3, .ref p5, .ref p6])) p3 [.int (9 * (i : Int) + 1), .int 0, .int 99] := Same.kt (same_upd nt) _ _ (Same.kt (same_upd n6) _ _ (Same.kt s5 _ _ (Same.kt (same_upd n4) _ _ (.inl (.inl upd_same)))))
    have t5' : SqT K (upd (upd H5 p6 (.tup [])) t (.lst [.ref p1, .ref p2, .ref p3, .ref p5, .ref p6])) p5 _ := Same.kt (same_upd nt) _ _ (Same.kt (same_upd n6) _ _ t5)
    have t6 : SqT K (upd (upd H5 p6 (.tup [])) t (.lst [.ref p1, .ref p2, .ref p3, .ref p5, .ref p6])) p6 [] := Same.kt (same_upd nt) _ _ (.inl (.inl upd_same))
    have s6 : Same H4 (upd (upd H5 p6 (.tup [])) t (.lst [.ref p1, .ref p2, .ref p3, .ref p5, .ref p6])) := ((s4.trans s5).trans (same_upd n6)).trans (same_upd nt)
    have ht : (upd (upd H5 p6 (.tup [])) t (.lst [.ref p1, .ref p2, .ref p3, .ref p5, .ref p6])) t = some (.lst [.ref p1, .ref p2, .ref p3, .ref p5, .ref p6]) := upd_same
    have nt4 : H4 t = none := ((s4.trans s5).trans (same_upd n6)).free nt
    generalize upd (upd H5 p6 (.tup [])) t (.lst [.ref p1, .ref p2, .ref p3, .ref p5, .ref p6]) = H6 at t1 t2 t3 t5' t6 s6 ht ⊢
    have tw : TdAll K H6 [.ref p1, .ref p2, .ref p3, .ref p5, .ref p6] ((five (i : Int)).map wdD) := by
      refine .cons (.tup t1 (tdAll_ints [(i : Int)])) (.cons (.tup t2 (tdAll_ints [7 * (i : Int), 3])) (.cons (.tup t3 (tdAll_ints [9 * (i : Int) + 1, 0, 99])) (.cons (.tup t5' ?_) (.cons (.tup t6 .nil) .nil))))
      have e : (List.replicate (Int.toNat 7) [V.int (90 + (i : Int))]).flatten = (List.replicate 7 (90 + (i : Int))).map V.int := rfl
      rw [e]
      exact tdAll_ints _
    clear t1 t2 t3 t5' t6 t5 n6 n4 n3 n2 n1 nt s5 s4
    obtain ⟨tb, tg, tl⟩ := B4.neNew nt4
    have B6 := B4.keep s6
    refine ⟨b, g, t, _, rfl, B6.B, ht, tb, tg, by simp, by simp, fun jj x H7 hx B7 F7 => ?_⟩
    obtain ⟨dx, hdx, tx⟩ := tw.getV hx
    obtain ⟨wd, hwd, rfl⟩ : ∃ wd, (five (i : Int))[jj]? = some wd ∧ dx = wdD wd := by
      rw [List.getElem?_map] at hdx
      cases e : (five (i : Int))[jj]? with
      | none =>
        rw [e] at hdx
        cases hdx
      | some wd =>
        rw [e] at hdx
        exact ⟨wd, rfl, (Option.some.inj hdx).symm⟩
    have hwok := five_ok (k := (i : Int)) (by omega) (by omega) wd (List.mem_of_getElem? hwd)
    have B7 := B6.bag B7 F7
    have F7 : Frl b g l H6 H7 := .ofF F7
    have F67 : Frl b g l H4 H7 := (Frl.of s6).trans F7
    have k67 : KT K H4 H7 := (Same.kt s6).trans (B6.kt F7)
    have tx7 := tx.keep (B6.kt F7)
    have hR7 := hRows.keep k67 F67
    have t7 := t4.keep k67
    have h7 := F67 φ _ h4 φb φg φl
    have hav7 := hav4.keep k67
    have F07 := F4.trans F67
    clear hRows t4 h4 hav4 F4 F67 k67 F7 tx tw hx hdx B6 ht s6 nt4 B4
    -- weights
    refine ⟨_, rfl, _, rfl, by omega, by omega, fun wd' nw => ?_⟩
    obtain ⟨wb, wg, wl⟩ := B7.neNew nw
    obtain ⟨aA, aX, rfl, aS, aT⟩ := hav7.tupE
    refine lc_range (lo := 0) (n := W) (fun j H8 => ∃ vs : List V, H8 wd' = some (.lst vs) ∧ TdAll K H8 vs (((wk W ahead ds i).take j).map rD) ∧ Same H7 H8) ⟨[], upd_same, .nil, same_upd nw⟩ ?_ ?_
    · rintro j H8 hj ⟨vs, h8, t8, s8⟩
      refine ⟨rfl, ?_⟩
      refine iteT (B := ∃ vs : List V, H8 wd' = some (.lst vs) ∧ TdAll K H8 vs (((wk W ahead ds i).take (j + 1)).map rD) ∧ Same H7 H8) ?_
      have aj : ahead[j]? = some ahead[j] := List.getElem?_eq_getElem (by omega)
      obtain ⟨va, ea, ta⟩ := aT.get (i := j) (d := rD ahead[j]) (by rw [List.getElem?_map, aj]; rfl)
      obtain ⟨_, _, _, _, rs, h1, h2, h3⟩ := hR7.keep (Same.kt s8) (.of s8)
      have rj : rs[j]? = some rs[j] := List.getElem?_eq_getElem (by omega)
      have dj : ds[j]? = some ds[j] := List.getElem?_eq_getElem (by omega)
      obtain ⟨_, _, _, _, us', u1, u2⟩ := h3 j _ _ rj dj
      obtain ⟨ps, c1, c2, c3, c4⟩ := hS _ (List.getElem_mem (show j < ds.length by omega))
      have lj : ds[j].length = mm := by rw [c4, List.length_map, c1]
      have di : ds[j][i]? = some (ds[j][i]'(by omega)) := List.getElem?_eq_getElem _
      obtain ⟨vb, eb, tb'⟩ := u2.get (i := i) (d := rD (ds[j][i]'(by omega))) (by rw [List.getElem?_map, di]; rfl)
      have hj0 : (0 : Int) + (j : Int) = ((j : Nat) : Int) := by omega
      have ca := hch _ (List.getElem_mem (show j < ahead.length by omega))
      obtain ⟨pp, ss, q1, q2, q3, q4⟩ := share_at (hS _ (List.getElem_mem (show j < ds.length by omega))) hi
      have eqi : ds[j][i]'(by omega) = mkRat (pp : Int) ss := by rw [← q4]; exact (getD_of di).symm
      have cb : Ch 1 (ds[j][i]'(by omega)) := by
        rw [eqi]
        exact ch_share q1 (by omega) q3
      have z1 : LL ^ e < 2 ^ 2000 := pow_lt2000 (by omega)
      have z2 : LL ^ 1 < 2 ^ 2000 := pow_lt2000 (by decide)
      refine ⟨_, rfl, _, rfl, aA, aX, _, va, rfl, by rw [hj0], Same.kt s8 _ _ aS, atI_nat ea, ?_⟩
      refine ⟨_, rfl, _, rfl, R, _, _, _, rfl, by rw [hj0], SqL.of h1, atI_nat (by rw [List.getElem?_map, rj]; rfl), _, rfl, rs[j], us', (i : Int), vb, rfl, rfl, SqL.of u1, atI_nat eb, ?_⟩
      refine ⟨va, vb, _, _, rfl, ta.keep (Same.kt s8), tb', Nat.lt_of_le_of_lt ca.den z1, Nat.lt_of_le_of_lt cb.den z2, Nat.lt_of_le_of_lt ca.num z1, Nat.lt_of_le_of_lt cb.num z2, fun v H9 s9 tv => ?_⟩
      have h9 := s9 _ _ h8
      have kw : KT K H9 (upd H9 wd' (.lst (vs ++ [v]))) := KT.updL h9
      refine ⟨vs, h9, ?_, vs ++ [v], upd_same, ?_, fun a o z => ?_⟩
      · rw [t8.len, List.length_map, List.length_take]
        exact small1000 (by omega)
      · have ewk : (wk W ahead ds i)[j]? = some (ahead[j] * (ds[j][i]'(by omega))) := by
          unfold wk
          rw [List.getElem?_map, List.getElem?_range hj]
          show some (ahead.getD j 0 * (ds.getD j []).getD i 0) = some (ahead[j] * (ds[j][i]'(by omega)))
          rw [getD_of aj, getD_of dj, getD_of di]
        rw [List.take_add_one, ewk, List.map_append]
        exact (t8.keep ((Same.kt s9).trans kw)).app (.cons (tv.keep kw) .nil)
      · rw [upd_ne (ne_of_none z nw)]
        exact s9 _ _ (s8 _ _ z)
    · rintro H8 ⟨vs, h8, t8, s8⟩
      have lw : (wk W ahead ds i).length = W := by
        unfold wk
        rw [List.length_map, List.length_range]
      rw [List.take_of_length_le (by omega)] at t8
      refine ⟨wd', vs, rfl, SqL.of h8, fun wt H9 s9 q9 => ?_⟩
      have s79 := s8.trans s9
      have twt : Td K H9 (.ref wt) (wsD (wk W ahead ds i)) := .tup q9 (t8.keep (Same.kt s9))
      -- found.append(..)
      have h9 := s79 _ _ h7
      refine ⟨_, rfl, .inl ⟨rfl, _, SqL.of h9⟩, _, rfl, _, _, rfl, rfl, cmul_small (by decide) (by omega), (by show 1 ≤ sizeLine; decide), fun p1 n1 => ?_⟩
      obtain ⟨xa, xs, rfl, xS, xT⟩ := tx7.tupE
      have xe := tdAll_intsE xT
      subst xe
      refine ⟨_, rfl, p1, xa, _, _, rfl, rfl, .inl (.inl upd_same), Same.kt (same_upd n1) _ _ (Same.kt s79 _ _ xS), ?_, fun pw H10 s10 q10 => ?_⟩
      · rw [List.length_map]
        have := hwok.1
        exact Nat.le_of_lt (small1000 (by simp; omega))
      have s910 : Same H9 H10 := (same_upd n1).trans s10
      have s710 := s79.trans s910
      have B10 := B7.keep s710
      have hlev : (((m + 1 : Nat) : Int)) - 1 = (m : Int) := by omega
      refine ⟨_, rfl, _, rfl, _, rfl, _, rfl, _, rfl, _, _, rfl, rfl, _, rfl, ?_⟩
      have hdr : ∀ (a : An m), NdF W m a.2.1 a.2.2 → a.1 = 11 * (i : Int) :: wd → a.2.1 = wk W ahead ds i → ∀ j a', (qs ++ [a])[j]? = some a' → AnIs W m ahead ds j a' := by
        intro a o1 o2 o3 j a' ea
        by_cases hj : j < qs.length
        · rw [List.getElem?_append_left hj] at ea
          exact hA j a' ea
        · have ej : j = qs.length := by
            have := (List.getElem?_eq_some_iff.mp ea).1
            rw [List.length_append] at this
            simp at this
            omega
          subst ej
          rw [List.getElem?_append_right (Nat.le_refl _), Nat.sub_self] at ea
          cases ea
          exact ⟨⟨wd, by rw [o2, hq], hwok.1, hwok.2⟩, by rw [o3, hq], o1⟩
      have chk : ∀ r ∈ wk W ahead ds i, Ch (e + 1) r := by
        intro r hr
        unfold wk at hr
        obtain ⟨j, hj, rfl⟩ := List.mem_map.mp hr
        have hj := List.mem_range.mp hj
        have hj2 : j < ds.length := by omega
        rw [getD_of (List.getElem?_eq_getElem hj2)]
        obtain ⟨p, s, s0, s1, ps, e1⟩ := share_at (hS _ (List.getElem_mem hj2)) hi
        rw [e1]
        exact (mem_getD0 hch (by omega)).mul s0 (by omega) ps
      refine ⟨b, g, l, W, e + 1, .ref wt, wk W ahead ds i, L4, congrArg (fun z => [V.ref b, V.int (W : Int), V.ref wt, V.int z, V.ref l]) hlev, B10, twt.keep (Same.kt s910), lw, chk, by omega, hW1, hW5, fun v tn L5 H11 tv nok hcnt hlow5 B11 F11 => ?_⟩
      refine ⟨(by show 3 ≤ sizeLine; decide), fun pa na => ?_⟩
      have F911 : Frl b g l H7 H11 := (Frl.of s710).trans F11
      have k711 : KT K H7 H11 := (Same.kt s710).trans (B10.kt F11)
      have h11 := F911 φ _ h7 φb φg φl
      have naφ : φ ≠ pa := ne_of_none h11 na
      have h12 : (upd H11 pa (.tup [.ref pw, .ref wt, v])) φ = some (.lst us) := by
        rw [upd_ne naφ]
        exact h11
      have s12 : Same H11 (upd H11 pa (.tup [.ref pw, .ref wt, v])) := same_upd na
      refine ⟨φ, us, _, rfl, rfl, h12, ?_, ?_⟩
      · rw [t7.len, List.length_map]
        exact small1000 (by omega)
      have kf : KT K (upd H11 pa (.tup [.ref pw, .ref wt, v])) (upd (upd H11 pa (.tup [.ref pw, .ref wt, v])) φ (.lst (us ++ [.ref pa]))) := KT.updL h12
      have kall : KT K H7 (upd (upd H11 pa (.tup [.ref pw, .ref wt, v])) φ (.lst (us ++ [.ref pa]))) := (k711.trans (Same.kt s12)).trans kf
      have k1011 : KT K H10 (upd (upd H11 pa (.tup [.ref pw, .ref wt, v])) φ (.lst (us ++ [.ref pa]))) := ((B10.kt F11).trans (Same.kt s12)).trans kf
      have tan : Td K (upd (upd H11 pa (.tup [.ref pw, .ref wt, v])) φ (.lst (us ++ [.ref pa]))) (.ref pa) (anD m (11 * (i : Int) :: wd, wk W ahead ds i, tn)) := by
        refine .tup (kf _ _ (.inl (.inl upd_same))) (.cons ?_ (.cons ?_ (.cons (tv.keep ((Same.kt s12).trans kf)) .nil)))
        · exact .tup (k1011 _ _ q10) (tdAll_ints (11 * (i : Int) :: wd))
        · exact twt.keep ((Same.kt s910).trans k1011)
      have F712 : Frl b g l H7 (upd H11 pa (.tup [.ref pw, .ref wt, v])) := F911.trans (.of s12)
      have R12 := hR7.keep (k711.trans (Same.kt s12)) F712
      refine ⟨qs ++ [(11 * (i : Int) :: wd, wk W ahead ds i, tn)], us ++ [.ref pa], L5, _, _, _, _, rfl, by rw [List.length_append, hq]; rfl, upd_same, ?_, hdr _ nok rfl rfl, ?_, ?_, ?_, hRφ, hav7.keep kall, ?_, ?_⟩
      · rw [List.map_append]
        exact (t7.keep kall).app (.cons tan .nil)
      · rw [cntB_snoc]
        show ((cntB m qs + cnt m tn : Nat) : Int) + L5 = _
        omega
      · rcases hlow with hl | hl <;> rcases hlow5 with hl5 | hl5 <;> omega
      · obtain ⟨_, _, _, _, rs, h1, h2, h3⟩ := R12
        refine ⟨Rb, Rg, Rl, hRφ, rs, by rw [upd_ne hRφ]; exact h1, h2, fun j r d e1 e2 => ?_⟩
        obtain ⟨m0, m1, m2, m3, us', u1, u2⟩ := h3 j r d e1 e2
        exact ⟨m0, m1, m2, m3, us', by rw [upd_ne m0.2]; exact u1, u2.keep kf⟩
      · exact (B11.keep s12).updN φb φg φl
      · exact (F07.trans F712).updN hφ0
  · rintro σ H4 ⟨qs, us, L4, o7, o9, o10, o11, rfl, hq, h4, t4, hA, hc, hlow, hRows, hRφ, hav4, B4, F4⟩
    refine ⟨_, rfl, φ, us, rfl, SqL.of h4, fun v H5 s5 q5 => ?_⟩
    obtain ⟨ok1, ok2⟩ := drawn_ok mm1 mm3 hq hd hla hS hch (by omega) hA
    refine q (.ref v) qs L4 H5 (.tup q5 (t4.keep (Same.kt s5))) ⟨ok1, by omega⟩ ?_ ?_ ?_ (B4.keep s5) (F4.trans (.of s5))
    · intro a ha
      obtain ⟨j, hj, rfl⟩ := List.getElem_of_mem ha
      exact (hA j _ (List.getElem?_eq_getElem hj)).ok
    · rw [cntQ_eq]
      omega
    · rcases hlow with hl | hl
      · exact .inl (by omega)
      · exact .inr hl
end
end Tl
namespace Tl
open PySem PySem.Spec PyProof.Rows L2 RZ
theorem cnt_snoc (n : Nat) (qs : List (Qn n)) (q : Qn n) : cnt (n + 1) (qs ++ [q] : List (Qn n)) = cnt (n + 1) qs + cntQ n q := by
  rw [cnt_succ, cnt_succ, List.map_append, List.sum_append]
  rfl
section
variable {P : Program} {w : World} {K : PySem.W.Frag} {mg : Str → Option Value} {base : Heap}
theorem ok_law_node {n : Nat} {f f1 f2 : Addr} {fd fd1 fd2 : FuncData} (D : Dn K mg "_law_node" s_law_node ["bag", "worlds", "ahead", "levels", "left"] f fd) (B : Blt mg) (D_law_pick : Dn K mg "_law_pick" s_law_pick ["bag", "many"] f1 fd1)
    (D_law_question : Dn K mg "_law_question" s_law_question ["bag", "worlds", "ahead", "levels", "left"] f2 fd2) (G_law_question : FnOk P w K mg base CX0 (5 + 2 * n) f2 fd2 ["bag", "worlds", "ahead", "levels", "left"] (spQ K n)) :
    FnOk P w K mg base CX0 (6 + 2 * n) f fd ["bag", "worlds", "ahead", "levels", "left"] (spN K n) := by
  have G_law_pick : FnOk P w K mg base CX0 1 f1 fd1 ["bag", "many"] spPick := ok_law_pick D_law_pick B
  rw [show 6 + 2 * n = (5 + 2 * n) + 1 by omega]
  refine D.F.ok sc_law_node (fun vs H Q E h => ?_) (fun cdv A outer s H vs Q E hr h => ?_)
  · obtain ⟨b, g, l, W, e, av, ahead, L, rfl, _⟩ := h
    rfl
  obtain ⟨b, g, l, W, e, av, ahead, L, rfl, hB, hav, hla, hch, hel, hW1, hW5, q⟩ := h
  have nd := sc_law_node.nd
  refine ⟨_, (pss_cons (ps_if (PW.pt (pw_or (pt_cmpR op_eq (pv 3) pe_int (nomark _)) (pw_or1 (pt_cmpR op_le (pe_ix (k_ixL (K := K) rfl) (pv 4) pe_int (fun _ _ => rfl)) pe_int (nomark _))))) (pss_one (ps_ret (pe_tup pa_nil))) pss_nil)
      (pss_one (ps_ret (pe_callTy (k_tupOf (K := K) rfl) (by rfl) B.tuple (by decide +kernel) (pa_cons (pe_lc (own := [("k", 5)]) rfl nd (pi_range1 (by rfl) B.range (pa_cons (pe_call G_law_pick (hr.mono (by omega)) (by rfl) D_law_pick.m D_law_pick.F.kp D_law_pick.b .nil pass0 (pa_cons (pv 0) (pa_cons pe_int pa_nil))) pa_nil)) (blkOk_by (own := [("k", 5)]) (by kernel_rfl)) (fun _ _ _ _ _ => (pg_name (i := 5) nd rfl (.inl rfl))) (fun _ _ _ _ _ => pts_nil) (fun _ _ _ _ _ => (pe_call G_law_question (hr.mono (by omega)) (by rfl) D_law_question.m D_law_question.F.kp D_law_question.b .nil pass0 (pa_cons (pv 0) (pa_cons (pv 1) (pa_cons (pv 2) (pa_cons (pv 3) (pa_cons (pv 4) pa_nil)))))))) pa_nil))))), ?_⟩
  have none_ : ∀ p, H p = none → Q (.ref p) (upd H p (.tup [])) := fun p np => by
    refine q (.ref p) (emptyNd n) L _ ?_ (ndF_empty _ _ _) (by rw [cnt_empty]; omega) (.inl (Int.le_refl _)) (hB.keep (same_upd np)) (.of (same_upd np))
    rw [ndD_empty]
    exact .tup (.inl (.inl upd_same)) .nil
  refine ⟨_, rfl, rfl, _, rfl, ?_⟩
  refine ite2 (fun c => ?_) (fun c => ?_)
  · exact iteT ⟨Nat.zero_le _, none_⟩
  refine ⟨_, rfl, l, _, 0, _, rfl, rfl, SqL.of hB.hl, at_of (j := 0) rfl rfl, _, _, rfl, rfl, _, rfl, ?_⟩
  refine ite2 (fun c2 => ?_) (fun c2 => ?_)
  · exact ⟨Nat.zero_le _, none_⟩
  have hL : 0 < L := by
    have : ¬ L ≤ 0 := by simpa using c2
    omega
  cases n with
  | zero => exact absurd rfl c
  | succ n =>
    refine ⟨_, rfl, b, g, 3, rfl, hB.B, by decide, by decide, fun r H1 r0 r1 B1 F1 => ⟨_, rfl, by omega, by omega, fun T hT => ?_⟩⟩
    have B1 := hB.bag B1 F1
    have F1 : Frl b g l H H1 := .ofF F1
    have hav1 := hav.keep (hB.kt F1)
    obtain ⟨Tb, Tg, Tl'⟩ := B1.neNew hT
    obtain ⟨mm, em⟩ : ∃ mm : Nat, r = (mm : Int) := ⟨r.toNat, by omega⟩
    have emm : r.toNat = mm := by omega
    rw [emm]
    have T0 : H T = none := F1.none hT Tb Tg Tl'
    refine lc_range (lo := 0) (n := mm) (fun i H2 => ∃ (us : List V) (qs : List (Qn n)) (L2 : Int), qs.length = i ∧ H2 T = some (.lst us) ∧ TdAll K H2 us (qs.map (qnD n)) ∧ (∀ q ∈ qs, (QnOk W ahead q ∧ q.length ≤ 3) ∧ ∀ a ∈ q, NdF W n a.2.1 a.2.2) ∧ ((cnt (n + 1) qs : Nat) : Int) + L2 = L ∧
        (L2 = L ∨ lowL (n + 1) + 3 * ((2 : Int) - i) ≤ L2) ∧ Td K H2 av (wsD ahead) ∧ BagL H2 b g l L2 ∧ Frl b g l H H2)
      ⟨[], [], L, rfl, upd_same, .nil, fun q h => absurd h List.not_mem_nil, by show ((0 : Nat) : Int) + L = L; omega, .inl rfl, hav1.keep (Same.kt (same_upd hT)), B1.updN Tb Tg Tl', F1.updN T0⟩ ?_ ?_
    · rintro i H2 hi ⟨us, qs, L2, hq, h2, t2, ok2, c2, low2, av2, B2, F2⟩
      refine ⟨rfl, ?_⟩
      refine iteT (B := ∃ (us : List V) (qs : List (Qn n)) (L2 : Int), qs.length = i + 1 ∧ H2 T = some (.lst us) ∧ TdAll K H2 us (qs.map (qnD n)) ∧ (∀ q ∈ qs, (QnOk W ahead q ∧ q.length ≤ 3) ∧ ∀ a ∈ q, NdF W n a.2.1 a.2.2) ∧ ((cnt (n + 1) qs : Nat) : Int) + L2 = L ∧
        (L2 = L ∨ lowL (n + 1) + 3 * ((2 : Int) - ((i + 1 : Nat) : Int)) ≤ L2) ∧ Td K H2 av (wsD ahead) ∧ BagL H2 b g l L2 ∧ Frl b g l H H2) ?_
      refine ⟨_, rfl, _, rfl, _, rfl, _, rfl, _, rfl, ?_⟩
      refine ⟨b, g, l, W, e, av, ahead, L2, rfl, B2, av2, hla, hch, hel, hW1, hW5, fun v qn L3 H3 tv ok3 nok3 c3 low3 B3 F3 => ?_⟩
      have k3 := B2.kt (K := K) F3
      have h3 := F3 T _ h2 Tb Tg Tl'
      have kT : KT K H3 (upd H3 T (.lst (us ++ [v]))) := KT.updL h3
      refine ⟨us, h3, ?_, us ++ [v], qs ++ [qn], L3, by rw [List.length_append, hq]; rfl, upd_same, ?_, ?_, ?_, ?_, av2.keep (k3.trans kT), B3.updN Tb Tg Tl', (F2.trans F3).updN T0⟩
      · rw [t2.len, List.length_map]
        exact small1000 (by omega)
      · rw [List.map_append]
        exact (t2.keep (k3.trans kT)).app (.cons (tv.keep kT) .nil)
      · intro q' hq'
        rcases List.mem_append.mp hq' with h | h
        · exact ok2 q' h
        · rw [List.mem_singleton.mp h]
          exact ⟨ok3, nok3⟩
      · rw [cnt_snoc]
        omega
      · have e1 : lowL (n + 1) = lowL n - 3 := by
          unfold lowL
          omega
        have e2 : lowL n = -(3 * (n : Int) + 2) := rfl
        refine .inr ?_
        rcases low2 with l2 | l2 <;> rcases low3 with l3 | l3 <;> omega
    · rintro H2 ⟨us, qs, L2, hq, h2, t2, ok2, c2, low2, av2, B2, F2⟩
      refine ⟨T, us, rfl, SqL.of h2, fun v H3 s3 q3 => ?_⟩
      refine q (.ref v) qs L2 H3 (.tup q3 (t2.keep (Same.kt s3))) ⟨by show qs.length ≤ 5; omega, ok2⟩ c2 ?_ (B2.keep s3) (F2.trans (.of s3))
      rcases low2 with l2 | l2
      · exact .inl (by omega)
      · exact .inr (by omega)
/-- both, by the number of levels -/
theorem ok_law_qn {f f1 f2 f3 f4 f5 f6 f7 : Addr} {fd fd1 fd2 fd3 fd4 fd5 fd6 fd7 : FuncData} (D_law_question : Dn K mg "_law_question" s_law_question ["bag", "worlds", "ahead", "levels", "left"] f fd) (B : Blt mg) (D_law_low : Dn K mg "_law_low" s_law_low ["top", "bottom"] f1 fd1) (D_law_common : Dn K mg "_law_common" s_law_common ["one", "other"] f2 fd2)
    (D_law_pick : Dn K mg "_law_pick" s_law_pick ["bag", "many"] f3 fd3) (D_law_shares : Dn K mg "_law_shares" s_law_shares ["bag", "many", "least"] f4 fd4) (D_law_some : Dn K mg "_law_some" s_law_some ["bag", "things"] f5 fd5) (D_law_times : Dn K mg "_law_times" s_law_times ["one", "other"] f6 fd6)
    (D_law_node : Dn K mg "_law_node" s_law_node ["bag", "worlds", "ahead", "levels", "left"] f7 fd7) :
    ∀ n : Nat, FnOk P w K mg base CX0 (5 + 2 * n) f fd ["bag", "worlds", "ahead", "levels", "left"] (spQ K n) ∧ FnOk P w K mg base CX0 (6 + 2 * n) f7 fd7 ["bag", "worlds", "ahead", "levels", "left"] (spN K n)
  | 0 => by
    have h0 : FnOk P w K mg base CX0 (5 + 2 * 0) f fd ["bag", "worlds", "ahead", "levels", "left"] (spQ K 0) := ⟨fun vs H Q E h => h.elim, fun A outer s H args us vs Q E _ _ _ _ h => h.elim⟩
    exact ⟨h0, ok_law_node D_law_node B D_law_pick D_law_question h0⟩
  | n + 1 => by
    have ih := ok_law_qn D_law_question B D_law_low D_law_common D_law_pick D_law_shares D_law_some D_law_times D_law_node n
    have h1 : FnOk P w K mg base CX0 (5 + 2 * (n + 1)) f fd ["bag", "worlds", "ahead", "levels", "left"] (spQ K (n + 1)) := by
      have := ok_law_question D_law_question B D_law_low D_law_common D_law_pick D_law_shares D_law_some D_law_times D_law_node ih.2
      rw [show 5 + 2 * (n + 1) = 7 + 2 * n by omega]
      exact this
    exact ⟨h1, ok_law_node D_law_node B D_law_pick D_law_question h1⟩
end
end Tl
namespace Tl
open PySem PySem.Spec PyProof.Rows L2 RZ
def ones (W : Nat) : List Rat := List.replicate W 1
theorem ones_ch {W e : Nat} : ∀ r ∈ ones W, Ch e r := fun r hr => by
  rw [(List.mem_replicate.mp hr).2]
  exact ch_one
theorem rD_one : rD 1 = .tuple [.int 1, .int 1] := rfl
theorem rD_zero : rD 0 = .tuple [.int 0, .int 1] := rfl
theorem tdAll_rep {K : PySem.W.Frag} {H : Hp} {v : V} {d : PyData} (h : Td K H v d) : ∀ n : Nat, TdAll K H (List.replicate n v) (List.replicate n d)
  | 0 => .nil
  | n + 1 => by
    rw [List.replicate_succ, List.replicate_succ]
    exact .cons h (tdAll_rep h n)
theorem flat_rep {α : Type} (v : α) : ∀ n : Nat, (List.replicate n [v]).flatten = List.replicate n v
  | 0 => rfl
  | n + 1 => by
    rw [List.replicate_succ, List.flatten_cons, flat_rep v n, List.replicate_succ]
    rfl
theorem ones_td {K : PySem.W.Frag} {H : Hp} {p q : Addr} {W : Nat} (hq : Td K H (.ref q) (rD 1)) (hp : SqT K H p (List.replicate (W : Int).toNat [V.ref q]).flatten) : Td K H (.ref p) (wsD (ones W)) := by
  rw [flat_rep, Int.toNat_natCast] at hp
  refine .tup hp ?_
  unfold ones
  rw [List.map_replicate]
  exact tdAll_rep hq W
/-- a drawn tree -/
def spTree (K : PySem.W.Frag) (n : Nat) : Sp := fun vs H Q _ => ∃ (b g : Addr) (W : Nat) (A : Nat), vs = [.ref b, .int (W : Int), .int ((n + 1 : Nat) : Int), .int (A : Int)] ∧ Bag H b g ∧ n + 1 ≤ 6 ∧ 1 ≤ W ∧ W ≤ 5 ∧
  ∀ (v : V) (t : Nd (n + 1)) (H' : Hp), Td K H' v (ndD (n + 1) t) → NdF W (n + 1) (ones W) t → cnt (n + 1) t ≤ A + 3 * n + 8 → Bag H' b g → Frm b g H H' → Q v H'
section
variable {P : Program} {w : World} {K : PySem.W.Frag} {mg : Str → Option Value} {base : Heap}
theorem ok_law_tree {n : Nat} {f f1 f2 : Addr} {fd fd1 fd2 : FuncData} (D : Dn K mg "_law_tree" s_law_tree ["bag", "worlds", "levels", "answers"] f fd) (B : Blt mg) (D_law_pick : Dn K mg "_law_pick" s_law_pick ["bag", "many"] f1 fd1)
    (D_law_question : Dn K mg "_law_question" s_law_question ["bag", "worlds", "ahead", "levels", "left"] f2 fd2) (G_law_question : FnOk P w K mg base CX0 (5 + 2 * (n + 1)) f2 fd2 ["bag", "worlds", "ahead", "levels", "left"] (spQ K (n + 1))) :
    FnOk P w K mg base CX0 (6 + 2 * (n + 1)) f fd ["bag", "worlds", "levels", "answers"] (spTree K n) := by
  have G_law_pick : FnOk P w K mg base CX0 1 f1 fd1 ["bag", "many"] spPick := ok_law_pick D_law_pick B
  rw [show 6 + 2 * (n + 1) = (5 + 2 * (n + 1)) + 1 by omega]
  refine D.F.ok sc_law_tree (fun vs H Q E h => ?_) (fun cdv A outer s H vs Q E hr h => ?_)
  · obtain ⟨b, g, W, A, rfl, _⟩ := h
    rfl
  obtain ⟨b, g, W, A, rfl, hB, hn, hW1, hW5, q⟩ := h
  have nd := sc_law_tree.nd
  refine ⟨_, (pss_cons (ps_asg (pe_tup (pa_cons (pe_op (k_rep (K := K) rfl) (pe_tup (pa_cons (pe_tup (pa_cons pe_int (pa_cons pe_int pa_nil))) pa_nil)) (pv 1)) (pa_cons (pe_lst (pa_cons (pv 3) pa_nil)) pa_nil))) (k_tup (K := K) (n := 2) rfl rfl (pgs_cons (pg_name (i := 4) nd rfl (.inr rfl)) (pgs_cons (pg_name (i := 5) nd rfl (.inr rfl)) pgs_nil))))
      (pss_cons (ps_setLc (i := 6) (own := [("k", 7)]) rfl nd rfl rfl (sw_true rfl rfl rfl (by decide +kernel)) (pi_range1 (by rfl) B.range (pa_cons (pe_op op_add pe_int (pe_call G_law_pick (hr.mono (by omega)) (by rfl) D_law_pick.m D_law_pick.F.kp D_law_pick.b .nil pass0 (pa_cons (pv 0) (pa_cons pe_int pa_nil)))) pa_nil)) (blkOk_by (own := [("k", 7)]) (by kernel_rfl)) (fun _ _ _ _ _ => (pg_name (i := 7) nd rfl (.inl rfl))) (fun _ _ _ _ _ => pts_nil) (fun _ _ _ _ _ => (pe_call G_law_question (hr.mono (by omega)) (by rfl) D_law_question.m D_law_question.F.kp D_law_question.b .nil pass0 (pa_cons (pv 0) (pa_cons (pv 1) (pa_cons (pv 4) (pa_cons (pv 2) (pa_cons (pv 5) pa_nil))))))))
      (pss_one (ps_ret (pe_callTy (k_tupOf (K := K) rfl) (by rfl) B.tuple (by decide +kernel) (pa_cons (pv 6) pa_nil)))))), ?_⟩
  refine ⟨(by show 2 ≤ sizeLine; decide), fun p1 n1 => ⟨(by show 1 ≤ sizeLine; decide), fun p2 n2 => ?_⟩⟩
  have s2 : Same H (upd (upd H p1 (.tup [.int 1, .int 1])) p2 (.tup [.ref p1])) := (same_upd n1).trans (same_upd n2)
  refine ⟨_, rfl, p2, (W : Int), _, rfl, rfl, .inl (.inl upd_same), by simp, by omega, by omega, by simp, fun pa H3 s3 q3 => ?_⟩
  refine ⟨_, rfl, (by show 1 ≤ sizeLine; decide), fun l nl => ?_⟩
  refine ⟨(by show 2 ≤ sizeLine; decide), fun pt npt => ?_⟩
  have hl : (upd (upd H3 l (.lst [.int (A : Int)])) pt (.tup [.ref pa, .ref l])) l = some (.lst [.int (A : Int)]) := by
    rw [upd_ne (ne_of_none (H := upd H3 l (.lst [.int (A : Int)])) upd_same npt)]
    exact upd_same
  have s35 : Same H3 (upd (upd H3 l (.lst [.int (A : Int)])) pt (.tup [.ref pa, .ref l])) := (same_upd nl).trans (same_upd npt)
  have s5 := (s2.trans s3).trans s35
  have t1 : Td K (upd (upd H3 l (.lst [.int (A : Int)])) pt (.tup [.ref pa, .ref l])) (.ref p1) (rD 1) := by
    rw [rD_one]
    exact .tup (Same.kt s35 _ _ (Same.kt s3 _ _ (Same.kt (same_upd n2) _ _ (.inl (.inl upd_same))))) (tdAll_ints [1, 1])
  have ta : Td K (upd (upd H3 l (.lst [.int (A : Int)])) pt (.tup [.ref pa, .ref l])) (.ref pa) (wsD (ones W)) := ones_td t1 (Same.kt s35 _ _ q3)
  have nl0 : H l = none := (s2.trans s3).free nl
  obtain ⟨lb, lg⟩ := hB.neNew nl0
  refine ⟨pt, [.ref pa, .ref l], rfl, .inl (.inl upd_same), rfl, _, _, rfl, _, _, rfl, rfl, ?_⟩
  generalize upd (upd H3 l (.lst [.int (A : Int)])) pt (.tup [.ref pa, .ref l]) = H5 at hl s5 ta
  have B5 : BagL H5 b g l (A : Int) := ⟨hB.keep s5, hl, lb, lg⟩
  clear t1
  -- some
  refine ⟨_, rfl, b, g, 2, rfl, B5.B, by decide, by decide, fun r H6 r0 r1 B6 F6 => ⟨_, _, rfl, rfl, _, rfl, by omega, by omega, fun T hT => ?_⟩⟩
  have B6 := B5.bag B6 F6
  have F6 : Frl b g l H5 H6 := .ofF F6
  have ta6 := ta.keep (B5.kt F6)
  obtain ⟨Tb, Tg, Tl'⟩ := B6.neNew hT
  obtain ⟨mm, em⟩ : ∃ mm : Nat, (1 + r).toNat = mm := ⟨_, rfl⟩
  rw [em]
  have F06 : Frl b g l H H6 := (Frl.of s5).trans F6
  have T0 : H T = none := F06.none hT Tb Tg Tl'
  refine lc_range (lo := 0) (n := mm) (fun i H2 => ∃ (us : List V) (qs : List (Qn n)) (L2 : Int), qs.length = i ∧ H2 T = some (.lst us) ∧ TdAll K H2 us (qs.map (qnD n)) ∧ (∀ q ∈ qs, (QnOk W (ones W) q ∧ q.length ≤ 3) ∧ ∀ a ∈ q, NdF W n a.2.1 a.2.2) ∧ ((cnt (n + 1) qs : Nat) : Int) + L2 = (A : Int) ∧
      ((A : Int) - 3 * i ≤ L2 ∨ lowL n - 3 * i ≤ L2) ∧ Td K H2 (.ref pa) (wsD (ones W)) ∧ BagL H2 b g l L2 ∧ Frl b g l H H2)
    ⟨[], [], (A : Int), rfl, upd_same, .nil, fun q h => absurd h List.not_mem_nil, by show ((0 : Nat) : Int) + (A : Int) = A; omega, .inl (by omega), ta6.keep (Same.kt (same_upd hT)), B6.updN Tb Tg Tl', F06.updN T0⟩ ?_ ?_
  · rintro i H2 hi ⟨us, qs, L2, hq, h2, t2, ok2, c2, low2, av2, B2, F2⟩
    refine ⟨rfl, ?_⟩
    refine iteT (B := ∃ (us : List V) (qs : List (Qn n)) (L2 : Int), qs.length = i + 1 ∧ H2 T = some (.lst us) ∧ TdAll K H2 us (qs.map (qnD n)) ∧ (∀ q ∈ qs, (QnOk W (ones W) q ∧ q.length ≤ 3) ∧ ∀ a ∈ q, NdF W n a.2.1 a.2.2) ∧ ((cnt (n + 1) qs : Nat) : Int) + L2 = (A : Int) ∧
      ((A : Int) - 3 * ((i + 1 : Nat) : Int) ≤ L2 ∨ lowL n - 3 * ((i + 1 : Nat) : Int) ≤ L2) ∧ Td K H2 (.ref pa) (wsD (ones W)) ∧ BagL H2 b g l L2 ∧ Frl b g l H H2) ?_
    refine ⟨_, rfl, _, rfl, _, rfl, _, rfl, _, rfl, ?_⟩
    refine ⟨b, g, l, W, 0, .ref pa, ones W, L2, rfl, B2, av2, by unfold ones; rw [List.length_replicate], ones_ch, by omega, hW1, hW5, fun v qn L3 H3 tv ok3 nok3 c3 low3 B3 F3 => ?_⟩
    have k3 := B2.kt (K := K) F3
    have h3 := F3 T _ h2 Tb Tg Tl'
    have kT : KT K H3 (upd H3 T (.lst (us ++ [v]))) := KT.updL h3
    refine ⟨us, h3, ?_, us ++ [v], qs ++ [qn], L3, by rw [List.length_append, hq]; rfl, upd_same, ?_, ?_, ?_, ?_, av2.keep (k3.trans kT), B3.updN Tb Tg Tl', (F2.trans F3).updN T0⟩
    · rw [t2.len, List.length_map]
      exact small1000 (by omega)
    · rw [List.map_append]
      exact (t2.keep (k3.trans kT)).app (.cons (tv.keep kT) .nil)
    · intro q' hq'
      rcases List.mem_append.mp hq' with h | h
      · exact ok2 q' h
      · rw [List.mem_singleton.mp h]
        exact ⟨ok3, nok3⟩
    · rw [cnt_snoc]
      omega
    · rcases low2 with l2 | l2 <;> rcases low3 with l3 | l3 <;> omega
  · rintro H2 ⟨us, qs, L2, hq, h2, t2, ok2, c2, low2, av2, B2, F2⟩
    refine ⟨_, rfl, T, us, rfl, SqL.of h2, fun v H3 s3 q3 => ?_⟩
    refine q (.ref v) qs H3 (.tup q3 (t2.keep (Same.kt s3))) ⟨by show qs.length ≤ 5; omega, ok2⟩ ?_ ((B2.keep s3).B) ?_
    · have e2 : lowL n = -(3 * (n : Int) + 2) := rfl
      rcases low2 with l2 | l2 <;> omega
    · intro a o ha h1 h2'
      exact (F2.trans (.of s3)) a o ha h1 h2' (fun z => by rw [z, nl0] at ha; cases ha)
end
end Tl
namespace Tl
open PySem PySem.Spec PyProof.Rows L2 RZ
/-- the module's constants -/
structure Cst (K : PySem.W.Frag) (mg : Str → Option Value) (aN aO : Addr) (t1 t2 t3 t4 t5 t6 t7 : Tok) : Prop where
  gcd : mg "gcd" = some (.builtin "math.gcd")
  lcm : mg "lcm" = some (.builtin "math.lcm")
  NOUGHT : mg "NOUGHT" = some (.ref aN)
  ONE : mg "ONE" = some (.ref aO)
  tN : ∀ H, SqT K H aN [.int 0, .int 1]
  tO : ∀ H, SqT K H aO [.int 1, .int 1]
  MOST_QUESTIONS : mg "MOST_QUESTIONS" = some (.int 5 t1)
  MOST_WORDS : mg "MOST_WORDS" = some (.int 12 t2)
  MOST_NUMBERS : mg "MOST_NUMBERS" = some (.int 8 t3)
  MOST_ON_A_WAY : mg "MOST_ON_A_WAY" = some (.int 8 t4)
  MOST_PASSED : mg "MOST_PASSED" = some (.int 1500 t5)
  MOST_ROUNDS : mg "MOST_ROUNDS" = some (.int 12 t6)
  MOST_ANSWERS : mg "MOST_ANSWERS" = some (.int 3000 t7)
theorem tyx_tup {K : PySem.W.Frag} {H : Hp} {a : Addr} {xs : List V} (h : SqT K H a xs) : TyX K H (.ref a) (.type "tuple") := by
  rcases h with (h | ⟨o, h⟩) | ⟨o, its, n, h, c, _⟩
  · exact .base (.tup h)
  · exact .fTuple h
  · exact .kTuple h c
def spIntegral : Sp := fun vs H Q _ => ∃ i : Int, vs = [.int i] ∧ Q (.bl true) H
def spNumber : Sp := fun vs H Q _ => ∃ i lo hi : Int, vs = [.int i, .int lo, .int hi] ∧ Q (.bl (decide (lo ≤ i) && decide (i ≤ hi))) H
def spFraction (K : PySem.W.Frag) : Sp := fun vs H Q _ => ∃ (v : V) (q : Rat), vs = [v] ∧ Td K H v (rD q) ∧ Q (.bl true) H
def spChance (K : PySem.W.Frag) : Sp := fun vs H Q _ => ∃ (v : V) (q : Rat), vs = [v] ∧ Td K H v (rD q) ∧ 0 ≤ q ∧ q ≤ 1 ∧ Q (.bl true) H
def spReduced (K : PySem.W.Frag) : Sp := fun vs H Q _ => ∃ (t : Int) (b : Nat), vs = [.int t, .int (b : Int)] ∧ 0 < b ∧ b < 2 ^ 4000 ∧ ∀ v H', Same H H' → Td K H' v (rD (mkRat t b)) → Q v H'
/-- small enough to be reckoned with -/
def Sm (q : Rat) : Prop := q.den < 2 ^ 1500 ∧ q.num.natAbs < 2 ^ 1500
theorem ll_lt1500 {e : Nat} (h : e ≤ 16) : LL ^ e < 2 ^ 1500 := Nat.lt_of_le_of_lt (ll_small (k := 1450) (by omega)) (Nat.pow_lt_pow_right (by decide) (by decide))
theorem Ch.sm {e : Nat} {q : Rat} (h : Ch e q) (he : e ≤ 16) : Sm q := ⟨Nat.lt_of_le_of_lt h.den (ll_lt1500 he), Nat.lt_of_le_of_lt h.num (ll_lt1500 he)⟩
def spAdded (K : PySem.W.Frag) : Sp := fun vs H Q _ => ∃ (x y : V) (p q : Rat), vs = [x, y] ∧ Td K H x (rD p) ∧ Td K H y (rD q) ∧ Sm p ∧ Sm q ∧ ∀ v H', Same H H' → Td K H' v (rD (p + q)) → Q v H'
theorem mapAt {α β : Type} {l : List α} {f : α → β} {i : Nat} {y : β} (h : (l.map f)[i]? = some y) : ∃ x, l[i]? = some x ∧ y = f x := by
  rw [List.getElem?_map] at h
  cases e : l[i]? with
  | none =>
    rw [e] at h
    cases h
  | some x =>
    rw [e] at h
    exact ⟨x, rfl, (Option.some.inj h).symm⟩
/-! fractions with one bottom -/
def fr (D : Nat) (n : Int) : Rat := mkRat n D
theorem fr_add {D : Nat} (hD : 0 < D) (m n : Int) : fr D m + fr D n = fr D (m + n) := mk_add m n D hD
theorem fsum_fr {D : Nat} (hD : 0 < D) : ∀ ns : List Int, fsum (ns.map (fr D)) = fr D ns.sum
  | [] => by
    show (0 : Rat) = mkRat 0 D
    rw [Rat.zero_mkRat]
  | n :: r => by
    rw [List.map_cons, fsum_cons, fsum_fr hD r, fr_add hD]
    rfl
def abssum (ns : List Int) : Nat := (ns.map Int.natAbs).sum
theorem abssum_cons (n : Int) (r : List Int) : abssum (n :: r) = n.natAbs + abssum r := rfl
theorem abssum_mem {ns : List Int} {n : Int} (h : n ∈ ns) : n.natAbs ≤ abssum ns := by
  induction ns with
  | nil => exact absurd h List.not_mem_nil
  | cons x r ih =>
    rw [abssum_cons]
    rcases List.mem_cons.mp h with rfl | h
    · omega
    · have := ih h
      omega
theorem fr_sm {D : Nat} (hD : 0 < D) (h : D < 2 ^ 1500) {n : Int} (hn : n.natAbs < 2 ^ 1500) : Sm (fr D n) := by
  refine ⟨Nat.lt_of_le_of_lt (mkRat_den_le n D hD) h, Nat.lt_of_le_of_lt ?_ hn⟩
  show (mkRat n D).num.natAbs ≤ _
  rw [(mkRat_parts n D hD).1]
  exact Int.natAbs_ediv_le_natAbs _ _
/-- the sums of pairs -/
def prs : List Int → List Int
  | a :: b :: r => (a + b) :: prs r
  | _ => []
theorem prs_len : ∀ ns : List Int, (prs ns).length = ns.length / 2
  | [] => by
    show 0 = 0 / 2
    decide
  | [a] => by
    show 0 = 1 / 2
    decide
  | a :: b :: r => by
    show (prs r).length + 1 = (r.length + 1 + 1) / 2
    rw [prs_len r]
    omega
theorem prs_at : ∀ (ns : List Int) (i : Nat) (x y : Int), ns[2 * i]? = some x → ns[2 * i + 1]? = some y → (prs ns)[i]? = some (x + y)
  | [], i, x, y, h, _ => by simp at h
  | [a], i, x, y, _, h => by simp at h
  | a :: b :: r, 0, x, y, h1, h2 => by
    cases h1
    cases h2
    rfl
  | a :: b :: r, i + 1, x, y, h1, h2 => by
    rw [show 2 * (i + 1) = 2 * i + 1 + 1 by omega] at h1 h2
    exact prs_at r i x y (by simpa using h1) (by simpa using h2)
def pw (ns : List Int) : List Int := prs ns ++ ns.drop (2 * (prs ns).length)
theorem pw_cons (a b : Int) (r : List Int) : pw (a :: b :: r) = (a + b) :: pw r := rfl
theorem pw_sum : ∀ ns : List Int, (pw ns).sum = ns.sum
  | [] => rfl
  | [a] => rfl
  | a :: b :: r => by
    rw [pw_cons]
    show (a + b) + (pw r).sum = a + (b + r.sum)
    rw [pw_sum r]
    omega
theorem pw_abs : ∀ ns : List Int, abssum (pw ns) ≤ abssum ns
  | [] => Nat.le_refl _
  | [a] => Nat.le_refl _
  | a :: b :: r => by
    rw [pw_cons, abssum_cons, abssum_cons, abssum_cons]
    have := pw_abs r
    omega
theorem pw_len (ns : List Int) : (pw ns).length = ns.length - (prs ns).length := by
  unfold pw
  have := prs_len ns
  rw [List.length_append, List.length_drop]
  omega
def frN (D : Nat) (r : Rat) : Int := r.num * ((D / r.den : Nat) : Int)
theorem fr_frN {D : Nat} (hD : 0 < D) {r : Rat} (h : r.den ∣ D) : fr D (frN D r) = r := by
  obtain ⟨k, e⟩ := h
  have d0 : 0 < r.den := Nat.pos_of_ne_zero r.den_nz
  have k0 : k ≠ 0 := fun z => by
    rw [z, Nat.mul_zero] at e
    omega
  have ek : D / r.den = k := by rw [e]; exact Nat.mul_div_cancel_left k d0
  unfold fr frN
  rw [ek]
  show mkRat (r.num * (k : Int)) D = r
  rw [e, Rat.mkRat_mul_right k0]
  exact rat_mk r
theorem frs_frN {D : Nat} (hD : 0 < D) : ∀ {rs : List Rat}, (∀ r ∈ rs, r.den ∣ D) → (rs.map (frN D)).map (fr D) = rs
  | [], _ => rfl
  | r :: rs, h => by
    rw [List.map_cons, List.map_cons, fr_frN hD (h r (List.mem_cons_self ..)), frs_frN hD fun x hx => h x (List.mem_cons_of_mem _ hx)]
theorem frN_abs {D : Nat} {r : Rat} (h : r.den ∣ D) (h0 : 0 ≤ r) (h1 : r ≤ 1) : (frN D r).natAbs ≤ D := by
  have a := (Rat.le_iff r 1).mp h1
  have b := Rat.num_nonneg.mpr h0
  have c : (1 : Rat).num = 1 := rfl
  have d : (1 : Rat).den = 1 := rfl
  rw [c, d] at a
  have n1 : r.num.natAbs ≤ r.den := by omega
  unfold frN
  rw [Int.natAbs_mul, Int.natAbs_natCast]
  have := Nat.mul_le_mul_right (D / r.den) n1
  rw [Nat.mul_div_cancel' h] at this
  exact this
theorem frNs_abs {D : Nat} : ∀ {rs : List Rat}, (∀ r ∈ rs, r.den ∣ D ∧ 0 ≤ r ∧ r ≤ 1) → abssum (rs.map (frN D)) ≤ rs.length * D
  | [], _ => by
    rw [List.length_nil, Nat.zero_mul]
    exact Nat.le_refl 0
  | r :: rs, h => by
    rw [List.map_cons, abssum_cons, List.length_cons, Nat.add_mul, Nat.one_mul]
    obtain ⟨a, b, c⟩ := h r (List.mem_cons_self ..)
    have := frN_abs a b c
    have := frNs_abs fun x hx => h x (List.mem_cons_of_mem _ hx)
    omega
theorem TdAll.drop {K : PySem.W.Frag} {H : Hp} : ∀ {us : List V} {ds : List PyData} (k : Nat), TdAll K H us ds → TdAll K H (us.drop k) (ds.drop k)
  | _, _, 0, h => h
  | _, _, _ + 1, .nil => .nil
  | _, _, k + 1, .cons _ t => TdAll.drop k t
theorem cut_drop {xs : List V} {k : Nat} (h : k ≤ xs.length) : cutV xs (some (k : Int)) none = xs.drop k := by
  unfold cutV
  rw [HT.sIx_nat, HT.sIx_none, Nat.min_eq_left h]
  exact List.take_of_length_le (by rw [List.length_drop]; omega)
theorem rat0_td {K : PySem.W.Frag} {H : Hp} {a : Addr} (h : SqT K H a [.int 0, .int 1]) : Td K H (.ref a) (rD 0) := by
  have e : rD 0 = .tuple [.int 0, .int 1] := rfl
  rw [e]
  exact .tup h (tdAll_ints [0, 1])
def spTotal (K : PySem.W.Frag) : Sp := fun vs H Q _ => ∃ (r : Addr) (us : List V) (D : Nat) (ns : List Int), vs = [.ref r] ∧ (SqL K H r us ∨ SqT K H r us) ∧ TdAll K H us ((ns.map (fr D)).map rD) ∧ 0 < D ∧ D < 2 ^ 1500 ∧ abssum ns < 2 ^ 1500 ∧ ns.length ≤ 1000 ∧
  ∀ v H', Same H H' → Td K H' v (rD (fsum (ns.map (fr D)))) → Q v H'
def tot (W : Nat) (rows : List (List Rat)) : List Rat := (List.range W).map fun j => fsum (rows.map fun r => r.getD j 0)
def spTotW (K : PySem.W.Frag) : Sp := fun vs H Q _ => ∃ (r : Addr) (us : List V) (W : Nat) (rows : List (List Rat)), vs = [.ref r, .int (W : Int)] ∧ SqL K H r us ∧ TdAll K H us (rows.map wsD) ∧ 1 ≤ W ∧ W ≤ 5 ∧ rows.length ≤ 900 ∧ (∀ x ∈ rows, x.length = W) ∧
  (∀ j, j < W → ∃ D : Nat, 0 < D ∧ D < 2 ^ 1500 ∧ (∀ x ∈ rows, (x.getD j 0).den ∣ D) ∧ abssum ((rows.map fun x => x.getD j 0).map (frN D)) < 2 ^ 1500) ∧ ∀ v H', Same H H' → Td K H' v (wsD (tot W rows)) → Q v H'
def spChances (K : PySem.W.Frag) : Sp := fun vs H Q _ => ∃ (v : V) (ws : List Rat), vs = [v, .int ((ws.length : Nat) : Int)] ∧ Td K H v (wsD ws) ∧ ws.length ≤ 100 ∧ (∀ r ∈ ws, 0 ≤ r ∧ r ≤ 1) ∧ ∀ H', Same H H' → Q (.bl true) H'
theorem tot_len (W : Nat) (rows : List (List Rat)) : (tot W rows).length = W := by
  unfold tot
  rw [List.length_map, List.length_range]
/-! the least common bottom -/
def lcmL (rs : List Rat) : Nat := rs.foldl (fun b r => Nat.lcm b r.den) 1
theorem lcmL_snoc (rs : List Rat) (r : Rat) : lcmL (rs ++ [r]) = Nat.lcm (lcmL rs) r.den := by
  unfold lcmL
  rw [List.foldl_append]
  rfl
theorem foldlcm : ∀ (rs : List Rat) (b : Nat), b ∣ rs.foldl (fun b r => Nat.lcm b r.den) b ∧ (∀ r ∈ rs, r.den ∣ rs.foldl (fun b r => Nat.lcm b r.den) b) ∧ (∀ D, b ∣ D → (∀ r ∈ rs, r.den ∣ D) → rs.foldl (fun b r => Nat.lcm b r.den) b ∣ D)
  | [], b => ⟨Nat.dvd_refl _, fun r h => absurd h List.not_mem_nil, fun D h _ => h⟩
  | x :: rs, b => by
    obtain ⟨h1, h2, h3⟩ := foldlcm rs (Nat.lcm b x.den)
    rw [List.foldl_cons]
    refine ⟨Nat.dvd_trans (Nat.dvd_lcm_left b x.den) h1, fun r hr => ?_, fun D hb hr => h3 D (Nat.lcm_dvd hb (hr x (List.mem_cons_self ..))) fun r h => hr r (List.mem_cons_of_mem _ h)⟩
    rcases List.mem_cons.mp hr with rfl | hr
    · exact Nat.dvd_trans (Nat.dvd_lcm_right b r.den) h1
    · exact h2 r hr
theorem lcmL_mem {rs : List Rat} {r : Rat} (h : r ∈ rs) : r.den ∣ lcmL rs := (foldlcm rs 1).2.1 r h
theorem lcmL_dvd {rs : List Rat} {D : Nat} (h : ∀ r ∈ rs, r.den ∣ D) : lcmL rs ∣ D := (foldlcm rs 1).2.2 D (Nat.one_dvd _) h
theorem lcmL_pos {rs : List Rat} {D : Nat} (hD : 0 < D) (h : ∀ r ∈ rs, r.den ∣ D) : 0 < lcmL rs := Nat.pos_of_dvd_of_pos (lcmL_dvd h) hD
theorem fr_den {D : Nat} (hD : 0 < D) (n : Int) : (fr D n).den ∣ D := by
  unfold fr
  rw [Rat.den_mkRat, if_neg (by omega)]
  exact Nat.div_dvd_of_dvd (Nat.gcd_dvd_left _ _)
theorem fr_num_le {D : Nat} (hD : 0 < D) (n : Int) : (fr D n).num.natAbs ≤ n.natAbs := by
  show (mkRat n D).num.natAbs ≤ _
  rw [(mkRat_parts n D hD).1]
  exact Int.natAbs_ediv_le_natAbs _ _
theorem fsum_lcm {rs : List Rat} {D : Nat} (hD : 0 < D) (h : ∀ r ∈ rs, r.den ∣ D) : mkRat (rs.map (frN (lcmL rs))).sum (lcmL rs) = fsum rs := by
  have e := frs_frN (lcmL_pos hD h) (rs := rs) fun r hr => lcmL_mem hr
  have s := fsum_fr (lcmL_pos hD h) (rs.map (frN (lcmL rs)))
  rw [e] at s
  exact s.symm
def spCB (K : PySem.W.Frag) : Sp := fun vs H Q _ => ∃ (r : Addr) (us : List V) (D : Nat) (rs : List Rat), vs = [.ref r] ∧ (SqL K H r us ∨ SqT K H r us) ∧ TdAll K H us (rs.map rD) ∧ 0 < D ∧ D < 2 ^ 1500 ∧ (∀ x ∈ rs, x.den ∣ D) ∧ Q (.int ((lcmL rs : Nat) : Int)) H
def spTW (K : PySem.W.Frag) : Sp := fun vs H Q _ => ∃ (v : V) (r : Rat) (m : Nat), vs = [v, .int (m : Int)] ∧ Td K H v (rD r) ∧ m < 2 ^ 1500 ∧ r.num.natAbs < 2 ^ 1500 ∧ r.den < 2 ^ 1500 ∧ Q (.int (frN m r)) H
def DTot (K : PySem.W.Frag) (mg : Str → Option Value) (f : Addr) (fd : FuncData) : Prop := Dn K mg "common_bottom" s_common_bottom ["fractions"] f fd ∧ ∃ f2 fd2, Dn K mg "times_whole" s_times_whole ["fraction", "whole"] f2 fd2
section
variable {P : Program} {w : World} {K : PySem.W.Frag} {mg : Str → Option Value} {base : Heap} {aN aO : Addr} {t1 t2 t3 t4 t5 t6 t7 : Tok}
theorem ok_is_integral {f : Addr} {fd : FuncData} (D : Dn K mg "is_integral" s_is_integral ["thing"] f fd) (B : Blt mg) : FnOk P w K mg base CX0 1 f fd ["thing"] spIntegral := by
  refine D.F.ok sc_is_integral (fun vs H Q E h => ?_) (fun cdv A outer s H vs Q E hr h => ?_)
  · obtain ⟨i, rfl, _⟩ := h
    rfl
  obtain ⟨i, rfl, q⟩ := h
  have nd := sc_is_integral.nd
  refine ⟨_, (pss_one (ps_ret (pe_and (pe_callB (k_isi (K := K) rfl) (by rfl) B.isinstance (by decide +kernel) (pa_cons (pv 0) (pa_cons (pe_bltn (v := .ty "int") (u := .type "int") (by rfl) B.int (by decide +kernel) rfl) pa_nil))) (pe_one (pe_not (pe_callB (k_isi (K := K) rfl) (by rfl) B.isinstance (by decide +kernel) (pa_cons (pv 0) (pa_cons (pe_bltn (v := .ty "bool") (u := .type "bool") (by rfl) B.bool (by decide +kernel) rfl) pa_nil)))))))), ?_⟩
  refine ⟨_, rfl, _, _, _, _, true, rfl, .ty "int", .base (.int i), kit_ty (by decide +kernel), _, rfl, ?_⟩
  refine iteT ⟨_, rfl, _, _, _, _, false, rfl, .ty "bool", .base (.int i), kit_ty (by decide +kernel), _, rfl, q⟩
theorem ok_is_number {f f1 : Addr} {fd fd1 : FuncData} (D : Dn K mg "is_number" s_is_number ["thing", "least", "most"] f fd) (B : Blt mg) (D_is_integral : Dn K mg "is_integral" s_is_integral ["thing"] f1 fd1) : FnOk P w K mg base CX0 2 f fd ["thing", "least", "most"] spNumber := by
  have G_is_integral : FnOk P w K mg base CX0 1 f1 fd1 ["thing"] spIntegral := ok_is_integral D_is_integral B
  refine D.F.ok sc_is_number (fun vs H Q E h => ?_) (fun cdv A outer s H vs Q E hr h => ?_)
  · obtain ⟨i, lo, hi, rfl, _⟩ := h
    rfl
  obtain ⟨i, lo, hi, rfl, q⟩ := h
  have nd := sc_is_number.nd
  refine ⟨_, (pss_one (ps_ret (pe_and (pe_call G_is_integral (hr.mono (by omega)) (by rfl) D_is_integral.m D_is_integral.F.kp D_is_integral.b .nil pass0 (pa_cons (pv 0) pa_nil)) (pe_one (pe_chain op_le op_le (pv 1) (pv 0) (pv 2)))))), ?_⟩
  refine ⟨_, rfl, i, rfl, _, rfl, iteT ⟨_, rfl, _, rfl, _, _, rfl, rfl, _, rfl, ?_⟩⟩
  refine ite2 (fun c => ?_) (fun c => ?_)
  · have e : (decide (lo ≤ i) && decide (i ≤ hi)) = decide (i ≤ hi) := by rw [c, Bool.true_and]
    rw [e] at q
    exact ⟨_, rfl, _, _, rfl, rfl, q⟩
  · have c : decide (lo ≤ i) = false := Bool.eq_false_iff.mpr c
    rw [c, Bool.false_and] at q
    exact q
theorem ok_is_fraction {f f1 : Addr} {fd fd1 : FuncData} (D : Dn K mg "is_fraction" s_is_fraction ["thing"] f fd) (B : Blt mg) (C : Cst K mg aN aO t1 t2 t3 t4 t5 t6 t7) (D_is_integral : Dn K mg "is_integral" s_is_integral ["thing"] f1 fd1) : FnOk P w K mg base CX0 2 f fd ["thing"] (spFraction K) := by
  have G_is_integral : FnOk P w K mg base CX0 1 f1 fd1 ["thing"] spIntegral := ok_is_integral D_is_integral B
  refine D.F.ok sc_is_fraction (fun vs H Q E h => ?_) (fun cdv A outer s H vs Q E hr h => ?_)
  · obtain ⟨v, r, rfl, _⟩ := h
    rfl
  obtain ⟨v, r, rfl, hv, q⟩ := h
  have nd := sc_is_fraction.nd
  refine ⟨_, (pss_cons (ps_if (PW.pt (pw_or (pt_not (pt_val (pe_callB (k_isi (K := K) rfl) (by rfl) B.isinstance (by decide +kernel) (pa_cons (pv 0) (pa_cons (pe_bltn (v := .ty "tuple") (u := .type "tuple") (by rfl) B.tuple (by decide +kernel) rfl) pa_nil))))) (pw_or1 (pt_cmpR op_ne (pe_callB (k_len (K := K) rfl) (by rfl) B.len PySem.boot_len (pa_cons (pv 0) pa_nil)) pe_int (nomark _))))) (pss_one (ps_ret pe_bl)) pss_nil)
      (pss_cons (ps_asg (pv 0) (k_tup (K := K) (n := 2) rfl rfl (pgs_cons (pg_name (i := 1) nd rfl (.inl rfl)) (pgs_cons (pg_name (i := 2) nd rfl (.inl rfl)) pgs_nil))))
      (pss_one (ps_ret (pe_and (pe_call G_is_integral (hr.mono (by omega)) (by rfl) D_is_integral.m D_is_integral.F.kp D_is_integral.b .nil pass0 (pa_cons (pv 1) pa_nil)) (pe_and (pe_call G_is_integral (hr.mono (by omega)) (by rfl) D_is_integral.m D_is_integral.F.kp D_is_integral.b .nil pass0 (pa_cons (pv 2) pa_nil)) (pe_and (pe_cmpR op_ge (pv 2) pe_int (nomark _)) (pe_one (pe_cmpR op_eq (pe_callBfun cr_gcd (by rfl) C.gcd (pa_cons (pv 1) (pa_cons (pv 2) pa_nil))) pe_int (nomark _)))))))))), ?_⟩
  obtain ⟨a, rfl, hs⟩ := hv.rE
  refine ⟨_, rfl, _, _, _, _, true, rfl, .ty "tuple", tyx_tup hs, kit_ty (by decide +kernel), _, rfl, iteF ?_⟩
  refine ⟨_, rfl, a, _, rfl, .inr hs, rfl, _, rfl, iteF ?_⟩
  refine ⟨_, rfl, a, _, rfl, hs, rfl, _, _, rfl, _, _, rfl, rfl, ?_⟩
  have hd : 0 < r.den := Nat.pos_of_ne_zero r.den_nz
  have hd1 : decide ((r.den : Int) ≥ 1) = true := decide_eq_true (by omega)
  refine ⟨_, rfl, _, rfl, _, rfl, iteT ⟨_, rfl, _, rfl, _, rfl, iteT ⟨_, rfl, _, _, rfl, rfl, _, rfl, ?_⟩⟩⟩
  rw [hd1]
  refine iteT ⟨_, rfl, _, rfl, _, _, rfl, rfl, ?_⟩
  have hg : Nat.gcd r.num.natAbs ((r.den : Int)).natAbs = 1 := by
    rw [Int.natAbs_natCast]
    exact r.reduced
  show Q (.bl (decide (V.int ((Nat.gcd r.num.natAbs ((r.den : Int)).natAbs : Nat) : Int) = V.int 1))) H
  rw [hg]
  exact q
theorem rat_bound {q : Rat} (h0 : 0 ≤ q) (h1 : q ≤ 1) : 0 ≤ q.num ∧ q.num ≤ (q.den : Int) := by
  have a := (Rat.le_iff q 1).mp h1
  have b := Rat.num_nonneg.mpr h0
  have c : (1 : Rat).num = 1 := rfl
  have d : (1 : Rat).den = 1 := rfl
  rw [c, d] at a
  omega
theorem ok_is_chance {f f1 f2 : Addr} {fd fd1 fd2 : FuncData} (D : Dn K mg "is_chance" s_is_chance ["thing"] f fd) (B : Blt mg) (C : Cst K mg aN aO t1 t2 t3 t4 t5 t6 t7) (D_is_integral : Dn K mg "is_integral" s_is_integral ["thing"] f1 fd1) (D_is_fraction : Dn K mg "is_fraction" s_is_fraction ["thing"] f2 fd2) : FnOk P w K mg base CX0 3 f fd ["thing"] (spChance K) := by
  have G_is_fraction : FnOk P w K mg base CX0 2 f2 fd2 ["thing"] (spFraction K) := ok_is_fraction D_is_fraction B C D_is_integral
  refine D.F.ok sc_is_chance (fun vs H Q E h => ?_) (fun cdv A outer s H vs Q E hr h => ?_)
  · obtain ⟨v, r, rfl, _⟩ := h
    rfl
  obtain ⟨v, r, rfl, hv, h0, h1, q⟩ := h
  have nd := sc_is_chance.nd
  refine ⟨_, (pss_one (ps_ret (pe_and (pe_call G_is_fraction (hr.mono (by omega)) (by rfl) D_is_fraction.m D_is_fraction.F.kp D_is_fraction.b .nil pass0 (pa_cons (pv 0) pa_nil)) (pe_one (pe_chain op_le op_le pe_int (pe_ix (k_ixT (K := K) rfl) (pv 0) pe_int (fun _ _ => rfl)) (pe_ix (k_ixT (K := K) rfl) (pv 0) pe_int (fun _ _ => rfl))))))), ?_⟩
  obtain ⟨a, rfl, hs⟩ := id hv.rE
  obtain ⟨b0, b1⟩ := rat_bound h0 h1
  refine ⟨_, rfl, _, r, rfl, hv, _, rfl, iteT ⟨_, rfl, a, _, 0, _, rfl, rfl, hs, at_of (j := 0) rfl rfl, _, _, rfl, rfl, _, rfl, ?_⟩⟩
  rw [decide_eq_true b0]
  refine iteT ⟨_, rfl, a, _, 1, _, rfl, rfl, hs, at_of (j := 1) rfl rfl, _, _, rfl, rfl, ?_⟩
  show Q (.bl (decide (r.num ≤ (r.den : Int)))) H
  rw [decide_eq_true b1]
  exact q
theorem ok_reduced {f : Addr} {fd : FuncData} (D : Dn K mg "reduced" s_reduced ["top", "bottom"] f fd) (B : Blt mg) (C : Cst K mg aN aO t1 t2 t3 t4 t5 t6 t7) : FnOk P w K mg base CX0 1 f fd ["top", "bottom"] (spReduced K) := by
  refine D.F.ok sc_reduced (fun vs H Q E h => ?_) (fun cdv A outer s H vs Q E hr h => ?_)
  · obtain ⟨a, b, rfl, _⟩ := h
    rfl
  obtain ⟨t, b, rfl, hb, hz, q⟩ := h
  have nd := sc_reduced.nd
  refine ⟨_, (pss_cons (ps_set (i := 2) nd rfl (.inl rfl) (pe_callBfun cr_gcd (by rfl) C.gcd (pa_cons (pv 0) (pa_cons (pv 1) pa_nil))))
      (pss_one (ps_ret (pe_tup (pa_cons (pe_op op_fdivW (pv 0) (pv 2)) (pa_cons (pe_op op_fdivW (pv 1) (pv 2)) pa_nil)))))), ?_⟩
  refine ⟨_, rfl, _, rfl, _, _, rfl, ?_⟩
  rw [Int.natAbs_natCast]
  have hg0 : 0 < Nat.gcd t.natAbs b := Nat.gcd_pos_of_pos_right _ hb
  have hg1 : Nat.gcd t.natAbs b ≤ b := Nat.gcd_le_right _ hb
  have hg2 : ((Nat.gcd t.natAbs b : Nat) : Int).natAbs < 2 ^ 4000 := by
    rw [Int.natAbs_natCast]
    omega
  have dv : ∀ i : Int, CDivW i ((Nat.gcd t.natAbs b : Nat) : Int) := fun i => wide_div (b := 4000) (by omega) hg2 (by decide) (by decide)
  refine ⟨_, rfl, _, rfl, _, _, rfl, rfl, dv _, _, rfl, _, rfl, _, _, rfl, rfl, dv _, (by show 2 ≤ sizeLine; decide), fun p hp => ?_⟩
  exact q _ _ (same_upd hp) (td_rD hb upd_same)
theorem ok_common_bottom {f : Addr} {fd : FuncData} (D : Dn K mg "common_bottom" s_common_bottom ["fractions"] f fd) (B : Blt mg) (C : Cst K mg aN aO t1 t2 t3 t4 t5 t6 t7) : FnOk P w K mg base CX0 1 f fd ["fractions"] (spCB K) := by
  refine D.F.ok sc_common_bottom (fun vs H Q E h => ?_) (fun cdv A outer s H vs Q E hr h => ?_)
  · obtain ⟨r, us, D, rs, rfl, _⟩ := h
    rfl
  obtain ⟨r, us, d, rs, rfl, hS, tS, d0, d1, hdv, q⟩ := h
  have nd := sc_common_bottom.nd
  refine ⟨_, (pss_cons (ps_set (i := 1) nd rfl (.inl rfl) pe_int)
      (pss_cons (ps_for PassesOwn.never rfl (k_iLT (K := K) rfl (pv 0)) (pg_name (i := 2) nd rfl (.inl rfl)) (pss_one (ps_set (i := 1) nd rfl (.inl rfl) (pe_callBfun cr_lcm (by rfl) C.lcm (pa_cons (pv 1) (pa_cons (pe_ix (k_ixT (K := K) rfl) (pv 2) pe_int (fun _ _ => rfl)) pa_nil))))))
      (pss_one (ps_ret (pv 1))))), ?_⟩
  have lu : us.length = rs.length := by rw [tS.len, List.length_map]
  refine ⟨_, rfl, r, us, rfl, hS, fun J G w1 hG => for_it w1 (fun i σ H2 => H2 = H ∧ ∃ o2 : Option V, σ = [some (.ref r), some (.int ((lcmL (rs.take i) : Nat) : Int)), o2]) ⟨rfl, none, rfl⟩ (fun i σ H2 _ h => by rw [h.1]; exact hG _ (Same.refl _)) ?_ ?_⟩
  · rintro i x σ H0 H2 hi ⟨rfl, o2, rfl⟩ ⟨rfl, e1⟩
    obtain ⟨dx, ex, tx⟩ := tS.getV e1
    obtain ⟨x', er, rfl⟩ := mapAt ex
    obtain ⟨a, rfl, ha⟩ := tx.rE
    have l1 : lcmL (rs.take i) ∣ d := lcmL_dvd fun z hz => hdv z (List.mem_of_mem_take hz)
    have l2 := hdv x' (List.mem_of_getElem? er)
    have z : ∀ {m : Nat}, m ∣ d → m < 2 ^ 6000 := fun {m} h => Nat.lt_of_le_of_lt (Nat.le_of_dvd d0 h) (Nat.lt_trans d1 (Nat.pow_lt_pow_right (by decide) (by decide)))
    refine ⟨_, rfl, _, rfl, a, _, 1, _, rfl, rfl, ha, at_of (j := 1) rfl rfl, _, _, rfl, z l1, z l2, rfl, some (.ref a), ?_⟩
    rw [List.take_add_one, er]
    show [some (V.ref r), some (.int ((Nat.lcm (lcmL (rs.take i)) x'.den : Nat) : Int)), some (V.ref a)] = [some (V.ref r), some (.int ((lcmL (rs.take i ++ [x']) : Nat) : Int)), _]
    rw [lcmL_snoc]
  · rintro σ H2 ⟨rfl, o2, rfl⟩
    rw [lu, List.take_length]
    exact ⟨_, rfl, q⟩
theorem ok_times_whole {f : Addr} {fd : FuncData} (D : Dn K mg "times_whole" s_times_whole ["fraction", "whole"] f fd) (B : Blt mg) (C : Cst K mg aN aO t1 t2 t3 t4 t5 t6 t7) : FnOk P w K mg base CX0 1 f fd ["fraction", "whole"] (spTW K) := by
  refine D.F.ok sc_times_whole (fun vs H Q E h => ?_) (fun cdv A outer s H vs Q E hr h => ?_)
  · obtain ⟨v, r, m, rfl, _⟩ := h
    rfl
  obtain ⟨v, r, m, rfl, tv, m0, n0, b0, q⟩ := h
  have nd := sc_times_whole.nd
  refine ⟨_, (pss_one (ps_ret (pe_op op_mulW (pe_ix (k_ixT (K := K) rfl) (pv 0) pe_int (fun _ _ => rfl)) (pe_op op_fdivW (pv 1) (pe_ix (k_ixT (K := K) rfl) (pv 0) pe_int (fun _ _ => rfl)))))), ?_⟩
  obtain ⟨a, rfl, ha⟩ := tv.rE
  have hd : 0 < r.den := Nat.pos_of_ne_zero r.den_nz
  have q0 : ((m : Int) / (r.den : Int)) = ((m / r.den : Nat) : Int) := (Int.natCast_ediv _ _).symm
  have q1 : m / r.den < 2 ^ 1500 := Nat.lt_of_le_of_lt (Nat.div_le_self _ _) m0
  refine ⟨_, rfl, a, _, 0, _, rfl, rfl, ha, at_of (j := 0) rfl rfl, _, rfl, _, rfl, a, _, 1, _, rfl, rfl, ha, at_of (j := 1) rfl rfl, _, _, rfl, rfl, wide_div (b := 1500) (by omega) (by rw [Int.natAbs_natCast]; exact b0) (by decide) (by decide), _, _, rfl, rfl, ?_, ?_⟩
  · rw [q0]
    exact wide_mul n0 (by rw [Int.natAbs_natCast]; exact q1) (by decide) (by decide) (by decide)
  · show Q (.int (r.num * ((m : Int) / (r.den : Int)))) H
    rw [q0]
    exact q
theorem ok_total {f f1 f2 : Addr} {fd fd1 fd2 : FuncData} (D : Dn K mg "total" s_total ["fractions"] f fd) (B : Blt mg) (C : Cst K mg aN aO t1 t2 t3 t4 t5 t6 t7) (D_reduced : Dn K mg "reduced" s_reduced ["top", "bottom"] f1 fd1) (D_added : DTot K mg f2 fd2) : FnOk P w K mg base CX0 3 f fd ["fractions"] (spTotal K) := by
  obtain ⟨D_common_bottom, f3, fd3, D_times_whole⟩ := D_added
  have G_reduced : FnOk P w K mg base CX0 1 f1 fd1 ["top", "bottom"] (spReduced K) := ok_reduced D_reduced B C
  have G_common_bottom : FnOk P w K mg base CX0 1 f2 fd2 ["fractions"] (spCB K) := ok_common_bottom D_common_bottom B C
  have G_times_whole : FnOk P w K mg base CX0 1 f3 fd3 ["fraction", "whole"] (spTW K) := ok_times_whole D_times_whole B C
  refine D.F.ok sc_total (fun vs H Q E h => ?_) (fun cdv A outer s H vs Q E hr h => ?_)
  · obtain ⟨r, us, d, ns, rfl, _⟩ := h
    rfl
  obtain ⟨r, us, d, ns, rfl, hS, tS, hd0, hd1, hb, hl, k⟩ := h
  have nd := sc_total.nd
  refine ⟨_, (pss_cons (ps_set (i := 1) nd rfl (.inr rfl) (pe_call G_common_bottom (hr.mono (by omega)) (by rfl) D_common_bottom.m D_common_bottom.F.kp D_common_bottom.b .nil pass0 (pa_cons (pv 0) pa_nil)))
      (pss_one (ps_ret (pe_call G_reduced (hr.mono (by omega)) (by rfl) D_reduced.m D_reduced.F.kp D_reduced.b .nil pass0 (pa_cons (pe_callB (k_sum (K := K) rfl rfl) (by rfl) B.sum (by decide +kernel) (pa_cons (pe_lc (own := [("fraction", 2)]) rfl nd (k_iLT (K := K) rfl (pv 0)) (blkOk_by (own := [("fraction", 2)]) (by kernel_rfl)) (fun _ _ _ _ _ => (pg_name (i := 2) nd rfl (.inl rfl))) (fun _ _ _ _ _ => pts_nil) (fun _ _ _ _ _ => (pe_call G_times_whole (hr.mono (by omega)) (by rfl) D_times_whole.m D_times_whole.F.kp D_times_whole.b .nil pass0 (pa_cons (pv 2) (pa_cons (pv 1) pa_nil))))) pa_nil)) (pa_cons (pv 1) pa_nil)))))), ?_⟩
  have hdv : ∀ x ∈ ns.map (fr d), x.den ∣ d := fun x hx => by
    obtain ⟨n, _, rfl⟩ := List.mem_map.mp hx
    exact fr_den hd0 n
  have hnum : ∀ x ∈ ns.map (fr d), x.num.natAbs < 2 ^ 1500 := fun x hx => by
    obtain ⟨n, hn, rfl⟩ := List.mem_map.mp hx
    exact Nat.lt_of_le_of_lt (Nat.le_trans (fr_num_le hd0 n) (abssum_mem hn)) hb
  have lu : us.length = ns.length := by rw [tS.len, List.length_map, List.length_map]
  have lr : (ns.map (fr d)).length = ns.length := List.length_map ..
  have esum := fsum_lcm hd0 hdv
  have lpos := lcmL_pos hd0 hdv
  have lle := Nat.le_of_dvd hd0 (lcmL_dvd hdv)
  generalize ns.map (fr d) = rs at tS hdv hnum k esum lpos lle lr
  refine ⟨_, rfl, r, us, d, rs, rfl, hS, tS, hd0, hd1, hdv, ?_⟩
  refine ⟨_, rfl, r, us, rfl, hS, fun J G w1 hG T hT => lc_it w1 (fun i H2 => H2 T = some (.lst (((rs.map (frN (lcmL rs))).take i).map V.int)) ∧ Same H H2) ⟨upd_same, same_upd hT⟩ (fun i H2 _ h => hG H2 h.2) ?_ ?_⟩
  · rintro i x H0 H2 hi ⟨h2, s2⟩ ⟨rfl, e1⟩
    obtain ⟨dx, ex, tx⟩ := tS.getV e1
    obtain ⟨x', er, rfl⟩ := mapAt ex
    have m1 := List.mem_of_getElem? er
    refine ⟨rfl, ?_⟩
    refine iteT (B := H2 T = some (.lst (((rs.map (frN (lcmL rs))).take (i + 1)).map V.int)) ∧ Same H H2) ?_
    refine ⟨_, rfl, _, rfl, x, x', lcmL rs, rfl, tx.keep (Same.kt s2), Nat.lt_of_le_of_lt lle hd1, hnum _ m1, Nat.lt_of_le_of_lt (Nat.le_of_dvd hd0 (hdv _ m1)) hd1, _, h2, ?_, ?_, fun c o y => ?_⟩
    · rw [List.length_map, List.length_take]
      exact small1000 (by omega)
    · rw [upd_same, List.take_add_one, List.getElem?_map, er, List.map_append]
      rfl
    · rw [upd_ne (ne_of_none y hT)]
      exact s2 _ _ y
  · rintro H2 ⟨h2, s2⟩
    rw [lu, ← lr] at h2
    rw [List.take_of_length_le (by rw [List.length_map]; exact Nat.le_refl _)] at h2
    refine ⟨T, _, rfl, SqL.of h2, _, rfl, _, lcmL rs, rfl, lpos, Nat.lt_of_le_of_lt lle (Nat.lt_trans hd1 (Nat.pow_lt_pow_right (by decide) (by decide))), fun v H3 s3 tv => ?_⟩
    rw [esum] at tv
    exact k v H3 (s2.trans s3) tv
theorem ok_total_weights {f f1 f2 f3 : Addr} {fd fd1 fd2 fd3 : FuncData} (D : Dn K mg "total_weights" s_total_weights ["rows", "worlds"] f fd) (B : Blt mg) (C : Cst K mg aN aO t1 t2 t3 t4 t5 t6 t7) (D_reduced : Dn K mg "reduced" s_reduced ["top", "bottom"] f1 fd1) (D_added : DTot K mg f2 fd2)
    (D_total : Dn K mg "total" s_total ["fractions"] f3 fd3) : FnOk P w K mg base CX0 4 f fd ["rows", "worlds"] (spTotW K) := by
  have G_total : FnOk P w K mg base CX0 3 f3 fd3 ["fractions"] (spTotal K) := ok_total D_total B C D_reduced D_added
  refine D.F.ok sc_total_weights (fun vs H Q E h => ?_) (fun cdv A outer s H vs Q E hr h => ?_)
  · obtain ⟨x, y, p, q, rfl, _⟩ := h
    rfl
  obtain ⟨r, us, W, rows, rfl, hS, tS, hW1, hW5, hlr, hrow, hcol, k⟩ := h
  have nd := sc_total_weights.nd
  refine ⟨_, (pss_one (ps_ret (pe_callTy (k_tupOf (K := K) rfl) (by rfl) B.tuple (by decide +kernel) (pa_cons (pe_lc (own := [("world", 3)]) rfl nd (pi_range1 (by rfl) B.range (pa_cons (pv 1) pa_nil)) (blkOk_by (own := [("world", 3)]) (by kernel_rfl)) (fun _ _ _ _ _ => (pg_name (i := 3) nd rfl (.inr rfl))) (fun _ _ _ _ _ => pts_nil) (fun _ _ _ _ _ => (pe_call G_total (hr.mono (by omega)) (by rfl) D_total.m D_total.F.kp D_total.b .nil pass0 (pa_cons (pe_lc (own := [("weights", 2)]) rfl nd (k_iL (K := K) rfl (pv 0)) (blkOk_by (own := [("weights", 2)]) (by kernel_rfl)) (fun _ _ _ _ _ => (pg_name (i := 2) nd rfl (.inl rfl))) (fun _ _ _ _ _ => pts_nil) (fun _ _ _ _ _ => (pe_ix (k_ixT (K := K) rfl) (pv 2) (pv 3) (fun _ _ => rfl)))) pa_nil)))) pa_nil)))), ?_⟩
  have lu : us.length = rows.length := by rw [tS.len, List.length_map]
  refine ⟨_, rfl, _, rfl, by omega, by omega, fun T hT => ?_⟩
  refine lc_range (lo := 0) (n := W) (fun i H2 => ∃ vs : List V, H2 T = some (.lst vs) ∧ TdAll K H2 vs (((tot W rows).take i).map rD) ∧ Same H H2) ⟨[], upd_same, .nil, same_upd hT⟩ ?_ ?_
  · rintro i H2 hi ⟨vs, h2, t2, s2⟩
    refine ⟨rfl, ?_⟩
    refine iteT (B := ∃ vs : List V, H2 T = some (.lst vs) ∧ TdAll K H2 vs (((tot W rows).take (i + 1)).map rD) ∧ Same H H2) ?_
    obtain ⟨d, d0, d1, hdv, hab⟩ := hcol i hi
    refine ⟨_, rfl, r, rfl, ⟨_, s2.seq hS⟩, fun T2 hT2 => ?_⟩
    refine lc_list (K := K) (a := r) (xs := us) (fun j H3 => ∃ ws : List V, H3 T2 = some (.lst ws) ∧ TdAll K H3 ws (((rows.take j).map fun x => x.getD i 0).map rD) ∧ Same H2 H3) ⟨[], upd_same, .nil, same_upd hT2⟩ (fun j H3 _ h => ?_) ?_ ?_
    · obtain ⟨_, _, _, s3⟩ := h
      exact s3.seq (s2.seq hS)
    · rintro j y H3 hj ⟨ws, h3, t3, s3⟩
      obtain ⟨dy, ey, ty⟩ := tS.getV hj
      obtain ⟨x, hx, rfl⟩ := mapAt ey
      have lx := hrow x (List.mem_of_getElem? hx)
      have ty3 := ty.keep (Same.kt (s2.trans s3))
      obtain ⟨b, zs, rfl, hb, tz⟩ := ty3.tupE
      have gx : x[i]? = some (x.getD i 0) := by
        rw [List.getD_eq_getElem?_getD, List.getElem?_eq_getElem (show i < x.length by omega)]
        rfl
      obtain ⟨z, ez, tz1⟩ := tz.get (i := i) (d := rD (x.getD i 0)) (by rw [List.getElem?_map, gx]; rfl)
      have kT : KT K H3 (upd H3 T2 (.lst (ws ++ [z]))) := KT.updL h3
      refine ⟨rfl, ?_⟩
      refine iteT (B := ∃ ws : List V, H3 T2 = some (.lst ws) ∧ TdAll K H3 ws (((rows.take (j + 1)).map fun x => x.getD i 0).map rD) ∧ Same H2 H3) ?_
      refine ⟨_, rfl, _, rfl, b, zs, (0 + (i : Int)), z, rfl, rfl, hb, at_of (j := i) (by omega) ez, ws, h3, ?_, ws ++ [z], upd_same, ?_, fun c o w => ?_⟩
      · rw [t3.len, List.length_map, List.length_map, List.length_take]
        exact small1000 (by omega)
      · rw [List.take_add_one, hx, List.map_append, List.map_append]
        exact (t3.keep kT).app (.cons (tz1.keep kT) .nil)
      · rw [upd_ne (ne_of_none w hT2)]
        exact s3 _ _ w
    · rintro H3 ⟨ws, h3, t3, s3⟩
      rw [lu, List.take_length] at t3
      have er : ((rows.map fun x => x.getD i 0).map (frN d)).map (fr d) = rows.map fun x => x.getD i 0 := frs_frN d0 fun q hq => by
        obtain ⟨x, hx, rfl⟩ := List.mem_map.mp hq
        exact hdv x hx
      refine ⟨T2, ws, d, (rows.map fun x => x.getD i 0).map (frN d), rfl, .inl (SqL.of h3), by rw [er]; exact t3, d0, d1, hab, by rw [List.length_map, List.length_map]; omega, fun v H4 s4 tv => ?_⟩
      rw [er] at tv
      have s34 := s3.trans s4
      have h4 := s34 _ _ h2
      have kT : KT K H4 (upd H4 T (.lst (vs ++ [v]))) := KT.updL h4
      refine ⟨vs, h4, ?_, vs ++ [v], upd_same, ?_, fun c o w => ?_⟩
      · rw [t2.len, List.length_map, List.length_take]
        exact small1000 (by omega)
      · have et : (tot W rows)[i]? = some (fsum (rows.map fun x => x.getD i 0)) := by
          unfold tot
          rw [List.getElem?_map, List.getElem?_range hi]
          rfl
        rw [List.take_add_one, et, List.map_append]
        exact (t2.keep ((Same.kt s34).trans kT)).app (.cons (tv.keep kT) .nil)
      · rw [upd_ne (ne_of_none w hT)]
        exact s34 _ _ (s2 _ _ w)
  · rintro H2 ⟨vs, h2, t2, s2⟩
    rw [show (tot W rows).take W = tot W rows from List.take_of_length_le (by rw [tot_len]; omega)] at t2
    refine ⟨T, vs, rfl, SqL.of h2, fun l H3 s3 q3 => k (.ref l) H3 (s2.trans s3) (.tup q3 (t2.keep (Same.kt s3)))⟩
theorem ok_are_chances {f f2 f4 f5 : Addr} {fd fd2 fd4 fd5 : FuncData} (D : Dn K mg "are_chances" s_are_chances ["thing", "many"] f fd) (B : Blt mg) (C : Cst K mg aN aO t1 t2 t3 t4 t5 t6 t7) (D_is_integral : Dn K mg "is_integral" s_is_integral ["thing"] f2 fd2) (D_is_fraction : Dn K mg "is_fraction" s_is_fraction ["thing"] f4 fd4) (D_is_chance : Dn K mg "is_chance" s_is_chance ["thing"] f5 fd5) : FnOk P w K mg base CX0 4 f fd ["thing", "many"] (spChances K) := by
  have G_is_chance : FnOk P w K mg base CX0 3 f5 fd5 ["thing"] (spChance K) := ok_is_chance D_is_chance B C D_is_integral D_is_fraction
  refine D.F.ok sc_are_chances (fun vs H Q E h => ?_) (fun cdv A outer s H vs Q E hr h => ?_)
  · obtain ⟨v, ws, rfl, _⟩ := h
    rfl
  obtain ⟨v, ws, rfl, hv, hl, hch, q⟩ := h
  have nd := sc_are_chances.nd
  refine ⟨_, (pss_cons (ps_if (PW.pt (pw_or (pt_not (pt_val (pe_callB (k_isi (K := K) rfl) (by rfl) B.isinstance (by decide +kernel) (pa_cons (pv 0) (pa_cons (pe_bltn (v := .ty "tuple") (u := .type "tuple") (by rfl) B.tuple (by decide +kernel) rfl) pa_nil))))) (pw_or1 (pt_cmpR op_ne (pe_callB (k_len (K := K) rfl) (by rfl) B.len PySem.boot_len (pa_cons (pv 0) pa_nil)) (pv 1) (nomark _))))) (pss_one (ps_ret pe_bl)) pss_nil)
      (pss_one (ps_ret (pe_callB (k_all (K := K) rfl rfl) (by rfl) B.all (by decide +kernel) (pa_cons (pe_lc (own := [("chance", 2)]) rfl nd (k_iT (K := K) rfl (pv 0)) (blkOk_by (own := [("chance", 2)]) (by kernel_rfl)) (fun _ _ _ _ _ => (pg_name (i := 2) nd rfl (.inl rfl))) (fun _ _ _ _ _ => pts_nil) (fun _ _ _ _ _ => (pe_call G_is_chance (hr.mono (by omega)) (by rfl) D_is_chance.m D_is_chance.F.kp D_is_chance.b .nil pass0 (pa_cons (pv 2) pa_nil)))) pa_nil))))), ?_⟩
  obtain ⟨b, ys, rfl, hb, tb⟩ := hv.tupE
  have ly : ys.length = ws.length := by rw [tb.len, List.length_map]
  refine ⟨_, rfl, _, _, _, _, true, rfl, .ty "tuple", tyx_tup hb, kit_ty (by decide +kernel), _, rfl, iteF ?_⟩
  refine ⟨_, rfl, b, _, rfl, .inr hb, _, rfl, rfl, _, rfl, ?_⟩
  rw [ly, decide_eq_true rfl]
  refine iteF ?_
  refine ⟨_, rfl, b, rfl, ⟨_, hb⟩, fun T hT => ?_⟩
  refine lc_it (walk_tup (K := K) (a := b) (xs := ys)) (fun i H2 => H2 T = some (.lst ((List.replicate i true).map V.bl)) ∧ Same H H2) ⟨upd_same, same_upd hT⟩ (fun i H2 _ h => Same.kt h.2 _ _ hb) ?_ ?_
  · rintro i x H0 H2 hi ⟨h2, s2⟩ ⟨rfl, e1⟩
    obtain ⟨dx, ex, tx⟩ := tb.getV e1
    obtain ⟨r, er, rfl⟩ := mapAt ex
    obtain ⟨r0, r1⟩ := hch r (List.mem_of_getElem? er)
    refine ⟨rfl, ?_⟩
    refine iteT (B := H2 T = some (.lst ((List.replicate (i + 1) true).map V.bl)) ∧ Same H H2) ?_
    refine ⟨_, rfl, x, r, rfl, tx.keep (Same.kt s2), r0, r1, _, h2, ?_, ?_, fun c o y => ?_⟩
    · rw [List.length_map, List.length_replicate]
      exact small1000 (by omega)
    · rw [upd_same, List.replicate_succ', List.map_append]
      rfl
    · rw [upd_ne (ne_of_none y hT)]
      exact s2 _ _ y
  · rintro H2 ⟨h2, s2⟩
    refine ⟨T, _, rfl, SqL.of h2, ?_⟩
    have e : ∀ n : Nat, (List.replicate n true).all id = true := fun n => by
      induction n with
      | zero => rfl
      | succ n ih =>
        rw [List.replicate_succ]
        exact ih
    rw [e]
    exact q H2 s2
end
end Tl
namespace Tl
open PySem PySem.Spec PyProof.Rows L2 RZ
/-- data that may be compared -/
structure Good (k : Nat) (d : PyData) : Prop where
  lay : d.canLay0 = true
  deep : d.depth ≤ k
  dict : d.hasDict = false
theorem Good.mono {k k' : Nat} {d : PyData} (h : Good k d) (l : k ≤ k') : Good k' d := ⟨h.lay, Nat.le_trans h.deep l, h.dict⟩
theorem good_int (k : Nat) (i : Int) : Good k (.int i) := ⟨rfl, Nat.zero_le _, rfl⟩
theorem good_all {k : Nat} : ∀ {xs : List PyData}, (∀ x ∈ xs, Good k x) → PyData.canLayAll0 xs = true ∧ PyData.depthAll xs ≤ k ∧ PyData.hasDictAll xs = false
  | [], _ => ⟨rfl, Nat.zero_le _, rfl⟩
  | x :: xs, h => by
    obtain ⟨h1, h2, h3⟩ := h x (List.mem_cons_self ..)
    obtain ⟨a1, a2, a3⟩ := good_all fun y hy => h y (List.mem_cons_of_mem _ hy)
    refine ⟨?_, ?_, ?_⟩
    · show (PyData.canLay0 x && PyData.canLayAll0 xs) = true
      rw [h1, a1]
      rfl
    · show max (PyData.depth x) (PyData.depthAll xs) ≤ k
      omega
    · show (PyData.hasDict x || PyData.hasDictAll xs) = false
      rw [h3, a3]
      rfl
theorem good_tup {k : Nat} {xs : List PyData} (h : ∀ x ∈ xs, Good k x) : Good (k + 1) (.tuple xs) := by
  obtain ⟨a1, a2, a3⟩ := good_all h
  exact ⟨a1, Nat.succ_le_succ a2, a3⟩
theorem good_ints (ns : List Int) : Good 1 (.tuple (ns.map PyData.int)) := good_tup fun x hx => by
  obtain ⟨i, _, rfl⟩ := List.mem_map.mp hx
  exact good_int 0 i
theorem good_rD (q : Rat) : Good 1 (rD q) := good_ints [q.num, (q.den : Int)]
theorem good_wdD (w : List Int) : Good 1 (wdD w) := good_ints w
theorem good_wsD (ws : List Rat) : Good 2 (wsD ws) := good_tup fun x hx => by
  obtain ⟨q, _, rfl⟩ := List.mem_map.mp hx
  exact good_rD q
theorem good_ndD : ∀ (n : Nat) (t : Nd n), Good (3 * n + 2) (ndD n t)
  | 0, _ => (good_tup (k := 0) (xs := []) fun x hx => absurd hx List.not_mem_nil).mono (by decide)
  | n + 1, qs => by
    rw [show 3 * (n + 1) + 2 = ((3 * n + 2 + 1) + 1) + 1 by omega]
    refine good_tup fun x hx => ?_
    obtain ⟨q, _, rfl⟩ := List.mem_map.mp hx
    refine good_tup fun y hy => ?_
    obtain ⟨a, _, rfl⟩ := List.mem_map.mp hy
    refine good_tup fun z hz => ?_
    simp only [List.mem_cons, List.not_mem_nil, or_false] at hz
    rcases hz with rfl | rfl | rfl
    · exact (good_wdD _).mono (by omega)
    · exact (good_wsD _).mono (by omega)
    · exact good_ndD n _
theorem Good.shaped {k : Nat} {d : PyData} (h : Good k d) (l : k ≤ 64) : SeqAt.shaped d = true := by
  show (d.canLay0 && decide (d.depth ≤ 64)) = true
  rw [h.lay, decide_eq_true (Nat.le_trans h.deep l)]
  rfl
theorem Good.refl {k : Nat} {d : PyData} (h : Good k d) : PyData.eqv d d = true := SeqAt.eqv_refl d h.lay
theorem eqv_rD (p q : Rat) : PyData.eqv (rD p) (rD q) = decide (p = q) := by
  show ((p.num == q.num) && (((p.den : Int) == (q.den : Int)) && true)) = decide (p = q)
  rw [Bool.and_true]
  by_cases h : p = q
  · subst h
    rw [beq_self_eq_true, beq_self_eq_true, decide_eq_true rfl]
    rfl
  · rw [decide_eq_false h]
    by_cases h1 : p.num = q.num
    · have h2 : (p.den : Int) ≠ (q.den : Int) := fun e => h (Rat.ext h1 (by omega))
      rw [beq_eq_false_iff_ne.mpr h2, Bool.and_false]
    · rw [beq_eq_false_iff_ne.mpr h1, Bool.false_and]
end Tl
namespace Tl
open PySem PySem.Spec PyProof.Rows L2 RZ
def isZ (ws : List Rat) : Bool := ws.all fun q => decide (q = 0)
def spNought (K : PySem.W.Frag) : Sp := fun vs H Q _ => ∃ (v : V) (ws : List Rat), vs = [v] ∧ Td K H v (wsD ws) ∧ ws.length ≤ 100 ∧ ∀ H', Same H H' → Q (.bl (isZ ws)) H'
def spWord (K : PySem.W.Frag) : Sp := fun vs H Q _ => ∃ (v : V) (r : List Int), vs = [v] ∧ Td K H v (wdD r) ∧ WordOk r ∧ ∀ H', Same H H' → Q (.bl true) H'
def spAnswer (K : PySem.W.Frag) (n : Nat) : Sp := fun vs H Q _ => ∃ (v : V) (a : An n), vs = [v, .int ((a.2.1.length : Nat) : Int)] ∧ Td K H v (anD n a) ∧ WordOk a.1 ∧ a.2.1.length ≤ 100 ∧ (∀ r ∈ a.2.1, 0 ≤ r ∧ r ≤ 1) ∧ ∀ H', Same H H' → Q (.bl true) H'
def spAsc (K : PySem.W.Frag) : Sp := fun vs H Q _ => ∃ (r : Addr) (us : List V) (ws : List (List Int)), vs = [.ref r] ∧ SqL K H r us ∧ TdAll K H us (ws.map wdD) ∧ ws.length ≤ 900 ∧ (∀ i x y, ws[i]? = some x → ws[i + 1]? = some y → HT.lexLt x y = true) ∧ ∀ H', Same H H' → Q (.bl true) H'
theorem map_at {α β : Type} {l : List α} {f : α → β} {i : Nat} {y : β} (h : (l.map f)[i]? = some y) : ∃ x, l[i]? = some x ∧ y = f x := by
  rw [List.getElem?_map] at h
  cases e : l[i]? with
  | none =>
    rw [e] at h
    cases h
  | some x =>
    rw [e] at h
    exact ⟨x, rfl, (Option.some.inj h).symm⟩
theorem all_rep : ∀ n : Nat, (List.replicate n true).all id = true
  | 0 => rfl
  | n + 1 => by
    rw [List.replicate_succ]
    exact all_rep n
theorem rep_snoc {α : Type} (x : α) (n : Nat) : List.replicate n x ++ [x] = List.replicate (n + 1) x := List.replicate_succ'.symm
section
variable {P : Program} {w : World} {K : PySem.W.Frag} {mg : Str → Option Value} {base : Heap} {aN aO : Addr} {t1 t2 t3 t4 t5 t6 t7 : Tok}
theorem ok_are_nought {f : Addr} {fd : FuncData} (D : Dn K mg "are_nought" s_are_nought ["weights"] f fd) (B : Blt mg) (C : Cst K mg aN aO t1 t2 t3 t4 t5 t6 t7) : FnOk P w K mg base CX0 1 f fd ["weights"] (spNought K) := by
  refine D.F.ok sc_are_nought (fun vs H Q E h => ?_) (fun cdv A outer s H vs Q E hr h => ?_)
  · obtain ⟨v, ws, rfl, _⟩ := h
    rfl
  obtain ⟨v, ws, rfl, hv, hl, q⟩ := h
  have nd := sc_are_nought.nd
  refine ⟨_, (pss_one (ps_ret (pe_callB (k_all (K := K) rfl rfl) (by rfl) B.all (by decide +kernel) (pa_cons (pe_lc (own := [("weight", 1)]) rfl nd (k_iT (K := K) rfl (pv 0)) (blkOk_by (own := [("weight", 1)]) (by kernel_rfl)) (fun _ _ _ _ _ => (pg_name (i := 1) nd rfl (.inl rfl))) (fun _ _ _ _ _ => pts_nil) (fun _ _ _ _ _ => (pe_cmpR (k_eqD (K := K) rfl hr.units) (pv 1) (pe_glob (v := .ref _) rfl C.NOUGHT rfl) (nomark _)))) pa_nil)))), ?_⟩
  obtain ⟨a, xs, rfl, ha, ta⟩ := hv.tupE
  have lx : xs.length = ws.length := by rw [ta.len, List.length_map]
  refine ⟨_, rfl, a, rfl, ⟨_, ha⟩, fun T hT => ?_⟩
  refine lc_it (walk_tup (K := K) (a := a) (xs := xs)) (fun i H2 => H2 T = some (.lst (((ws.take i).map fun q => decide (q = 0)).map V.bl)) ∧ Same H H2) ⟨upd_same, same_upd hT⟩ (fun i H2 _ h => Same.kt h.2 _ _ ha) ?_ ?_
  · rintro i x H0 H2 hi ⟨h2, s2⟩ ⟨rfl, e1⟩
    obtain ⟨dx, ex, tx⟩ := ta.getV e1
    obtain ⟨r, er, rfl⟩ := map_at ex
    have tz : Td K H2 (.ref aN) (rD 0) := by
      rw [rD_zero]
      exact .tup (C.tN _) (tdAll_ints [0, 1])
    refine ⟨rfl, ?_⟩
    refine iteT (B := H2 T = some (.lst (((ws.take (i + 1)).map fun q => decide (q = 0)).map V.bl)) ∧ Same H H2) ?_
    refine ⟨_, rfl, rD r, rD 0, (tx.keep (Same.kt s2)).dp, tz.dp, (good_rD r).shaped (by decide), (good_rD 0).shaped (by decide), _, h2, ?_, ?_, fun c o z => ?_⟩
    · rw [List.length_map, List.length_map, List.length_take]
      exact small1000 (by omega)
    · rw [upd_same, eqv_rD, List.take_add_one, er, List.map_append, List.map_append]
      rfl
    · rw [upd_ne (ne_of_none z hT)]
      exact s2 _ _ z
  · rintro H2 ⟨h2, s2⟩
    rw [lx, List.take_length] at h2
    refine ⟨T, _, rfl, SqL.of h2, ?_⟩
    have e : ((ws.map fun q => decide (q = 0)).all id) = isZ ws := by
      unfold isZ
      rw [List.all_map]
      rfl
    rw [e]
    exact q H2 s2
theorem ok_is_word {f f1 f2 : Addr} {fd fd1 fd2 : FuncData} (D : Dn K mg "is_word" s_is_word ["thing"] f fd) (B : Blt mg) (C : Cst K mg aN aO t1 t2 t3 t4 t5 t6 t7) (D_is_number : Dn K mg "is_number" s_is_number ["thing", "least", "most"] f1 fd1) (D_is_integral : Dn K mg "is_integral" s_is_integral ["thing"] f2 fd2) : FnOk P w K mg base CX0 3 f fd ["thing"] (spWord K) := by
  have G_is_number : FnOk P w K mg base CX0 2 f1 fd1 ["thing", "least", "most"] spNumber := ok_is_number D_is_number B D_is_integral
  refine D.F.ok sc_is_word (fun vs H Q E h => ?_) (fun cdv A outer s H vs Q E hr h => ?_)
  · obtain ⟨v, ws, rfl, _⟩ := h
    rfl
  obtain ⟨v, ws, rfl, hv, hok, q⟩ := h
  have nd := sc_is_word.nd
  refine ⟨_, (pss_cons (ps_if (PW.pt (pw_or (pt_not (pt_val (pe_callB (k_isi (K := K) rfl) (by rfl) B.isinstance (by decide +kernel) (pa_cons (pv 0) (pa_cons (pe_bltn (v := .ty "tuple") (u := .type "tuple") (by rfl) B.tuple (by decide +kernel) rfl) pa_nil))))) (pw_or1 (pt_cmpR op_gt (pe_callB (k_len (K := K) rfl) (by rfl) B.len PySem.boot_len (pa_cons (pv 0) pa_nil)) (pe_glob (v := .int _) rfl C.MOST_NUMBERS ⟨_, rfl⟩) (nomark _))))) (pss_one (ps_ret pe_bl)) pss_nil)
      (pss_one (ps_ret (pe_callB (k_all (K := K) rfl rfl) (by rfl) B.all (by decide +kernel) (pa_cons (pe_lc (own := [("number", 1)]) rfl nd (k_iT (K := K) rfl (pv 0)) (blkOk_by (own := [("number", 1)]) (by kernel_rfl)) (fun _ _ _ _ _ => (pg_name (i := 1) nd rfl (.inl rfl))) (fun _ _ _ _ _ => pts_nil) (fun _ _ _ _ _ => (pe_call G_is_number (hr.mono (by omega)) (by rfl) D_is_number.m D_is_number.F.kp D_is_number.b .nil pass0 (pa_cons (pv 1) (pa_cons pe_int (pa_cons pe_int pa_nil)))))) pa_nil))))), ?_⟩
  obtain ⟨a, xs, rfl, ha, ta⟩ := hv.tupE
  have ex := tdAll_intsE ta
  subst ex
  have l8 := hok.1
  refine ⟨_, rfl, _, _, _, _, true, rfl, .ty "tuple", tyx_tup ha, kit_ty (by decide +kernel), _, rfl, iteF ?_⟩
  refine ⟨_, rfl, a, _, rfl, .inr ha, _, _, rfl, rfl, _, rfl, ?_⟩
  rw [List.length_map, decide_eq_false (show ¬ (8 : Int) < ((ws.length : Nat) : Int) by omega)]
  refine iteF ?_
  refine ⟨_, rfl, a, rfl, ⟨_, ha⟩, fun T hT => ?_⟩
  refine lc_it (walk_tup (K := K) (a := a) (xs := ws.map V.int)) (fun i H2 => H2 T = some (.lst ((List.replicate i true).map V.bl)) ∧ Same H H2) ⟨upd_same, same_upd hT⟩ (fun i H2 _ h => Same.kt h.2 _ _ ha) ?_ ?_
  · rintro i x H0 H2 hi ⟨h2, s2⟩ ⟨rfl, e1⟩
    obtain ⟨z, ez, rfl⟩ := int_at e1
    obtain ⟨z0, z1⟩ := hok.2 z (List.mem_of_getElem? ez)
    rw [List.length_map] at hi
    refine ⟨rfl, ?_⟩
    refine iteT (B := H2 T = some (.lst ((List.replicate (i + 1) true).map V.bl)) ∧ Same H H2) ?_
    refine ⟨_, rfl, z, 0, 99, rfl, _, h2, ?_, ?_, fun c o y => ?_⟩
    · rw [List.length_map, List.length_replicate]
      exact small1000 (by omega)
    · rw [upd_same, decide_eq_true z0, decide_eq_true z1, ← rep_snoc, List.map_append]
      rfl
    · rw [upd_ne (ne_of_none y hT)]
      exact s2 _ _ y
  · rintro H2 ⟨h2, s2⟩
    refine ⟨T, _, rfl, SqL.of h2, ?_⟩
    rw [all_rep]
    exact q H2 s2
theorem ok_is_answer {n : Nat} {f f1 f2 f3 f4 f5 f6 : Addr} {fd fd1 fd2 fd3 fd4 fd5 fd6 : FuncData} (D : Dn K mg "is_answer" s_is_answer ["thing", "worlds"] f fd) (B : Blt mg) (C : Cst K mg aN aO t1 t2 t3 t4 t5 t6 t7) (D_is_number : Dn K mg "is_number" s_is_number ["thing", "least", "most"] f1 fd1) (D_is_integral : Dn K mg "is_integral" s_is_integral ["thing"] f2 fd2)
    (D_is_word : Dn K mg "is_word" s_is_word ["thing"] f3 fd3) (D_is_fraction : Dn K mg "is_fraction" s_is_fraction ["thing"] f4 fd4) (D_is_chance : Dn K mg "is_chance" s_is_chance ["thing"] f5 fd5) (D_are_chances : Dn K mg "are_chances" s_are_chances ["thing", "many"] f6 fd6) : FnOk P w K mg base CX0 5 f fd ["thing", "worlds"] (spAnswer K n) := by
  have G_is_word : FnOk P w K mg base CX0 3 f3 fd3 ["thing"] (spWord K) := ok_is_word D_is_word B C D_is_number D_is_integral
  have G_are_chances : FnOk P w K mg base CX0 4 f6 fd6 ["thing", "many"] (spChances K) := ok_are_chances D_are_chances B C D_is_integral D_is_fraction D_is_chance
  refine D.F.ok sc_is_answer (fun vs H Q E h => ?_) (fun cdv A outer s H vs Q E hr h => ?_)
  · obtain ⟨v, ws, rfl, _⟩ := h
    rfl
  obtain ⟨v, an, rfl, hv, hok, hl, hch, q⟩ := h
  have nd := sc_is_answer.nd
  refine ⟨_, (pss_cons (ps_if (PW.pt (pw_or (pt_not (pt_val (pe_callB (k_isi (K := K) rfl) (by rfl) B.isinstance (by decide +kernel) (pa_cons (pv 0) (pa_cons (pe_bltn (v := .ty "tuple") (u := .type "tuple") (by rfl) B.tuple (by decide +kernel) rfl) pa_nil))))) (pw_or (pt_cmpR op_ne (pe_callB (k_len (K := K) rfl) (by rfl) B.len PySem.boot_len (pa_cons (pv 0) pa_nil)) pe_int (nomark _)) (pw_or1 (pt_not (pt_val (pe_call G_is_word (hr.mono (by omega)) (by rfl) D_is_word.m D_is_word.F.kp D_is_word.b .nil pass0 (pa_cons (pe_ix (k_ixT (K := K) rfl) (pv 0) pe_int (fun _ _ => rfl)) pa_nil)))))))) (pss_one (ps_ret pe_bl)) pss_nil)
      (pss_one (ps_ret (pe_call G_are_chances (hr.mono (by omega)) (by rfl) D_are_chances.m D_are_chances.F.kp D_are_chances.b .nil pass0 (pa_cons (pe_ix (k_ixT (K := K) rfl) (pv 0) pe_int (fun _ _ => rfl)) (pa_cons (pv 1) pa_nil)))))), ?_⟩
  obtain ⟨a, xs, rfl, ha, ta⟩ := id hv.tupE
  obtain ⟨vw, ew, tw⟩ := ta.get (i := 0) rfl
  obtain ⟨vs, es, ts⟩ := ta.get (i := 1) rfl
  have l3 : xs.length = 3 := ta.len
  refine ⟨_, rfl, _, _, _, _, true, rfl, .ty "tuple", tyx_tup ha, kit_ty (by decide +kernel), _, rfl, iteF ?_⟩
  refine ⟨_, rfl, a, _, rfl, .inr ha, rfl, _, rfl, ?_⟩
  rw [l3]
  refine iteF ?_
  refine ⟨_, rfl, a, _, 0, vw, rfl, rfl, ha, at_of (j := 0) rfl ew, vw, an.1, rfl, tw, hok, fun H1 s1 => ⟨_, rfl, iteF ?_⟩⟩
  have ha1 := Same.kt s1 _ _ ha
  exact ⟨_, rfl, a, _, 1, vs, rfl, rfl, ha1, at_of (j := 1) rfl es, _, rfl, vs, an.2.1, rfl, ts.keep (Same.kt s1), hl, hch, fun H2 s2 => q H2 (s1.trans s2)⟩
theorem ok_is_ascending {f : Addr} {fd : FuncData} (D : Dn K mg "is_ascending" s_is_ascending ["rows"] f fd) (B : Blt mg) : FnOk P w K mg base CX0 1 f fd ["rows"] (spAsc K) := by
  refine D.F.ok sc_is_ascending (fun vs H Q E h => ?_) (fun cdv A outer s H vs Q E hr h => ?_)
  · obtain ⟨v, ws, x, rfl, _⟩ := h
    rfl
  obtain ⟨r, us, ws, rfl, hS, tS, hl, hasc, q⟩ := h
  have nd := sc_is_ascending.nd
  refine ⟨_, (pss_one (ps_ret (pe_callB (k_all (K := K) rfl rfl) (by rfl) B.all (by decide +kernel) (pa_cons (pe_lc (own := [("low", 1), ("high", 2)]) rfl nd (k_zip (K := K) rfl (by rfl) B.zip (pa_cons (pv 0) (pa_cons (pe_slice (k_slL (K := K) rfl) (pv 0) (po_some pe_int) po_none) pa_nil))) (blkOk_by (own := [("low", 1), ("high", 2)]) (by kernel_rfl)) (fun _ _ _ _ _ => (k_tup (K := K) (n := 2) rfl rfl (pgs_cons (pg_name (i := 1) nd rfl (.inl rfl)) (pgs_cons (pg_name (i := 2) nd rfl (.inl rfl)) pgs_nil)))) (fun _ _ _ _ _ => pts_nil) (fun _ _ _ _ _ => (pe_cmpR (k_ltT (K := K) rfl hr.units0) (pv 1) (pv 2) (nomark _)))) pa_nil)))), ?_⟩
  have lu : us.length = ws.length := by rw [tS.len, List.length_map]
  refine ⟨_, rfl, _, rfl, _, rfl, r, us, rfl, hS, fun p hp => ?_⟩
  have s1 : Same H (upd H p (.lst (cutV us (some 1) none))) := same_upd hp
  have ec : cutV us (some 1) none = us.drop 1 := by
    unfold cutV
    rw [show HT.sIx us.length 0 (some 1) = min 1 us.length from HT.sIx_nat us.length 0 1, HT.sIx_none]
    cases us with
    | nil => rfl
    | cons x rr =>
      rw [show min 1 (x :: rr).length = 1 by rw [List.length_cons]; omega]
      exact List.take_of_length_le (by simp)
  rw [ec] at s1 ⊢
  refine ⟨r, p, us, us.drop 1, rfl, .inl ⟨s1.seq hS, SqL.of upd_same, fun T hT => ?_⟩⟩
  generalize hH1 : upd H p (.lst (us.drop 1)) = H1 at s1 hT ⊢
  have hp1 : H1 p = some (.lst (us.drop 1)) := by
    rw [← hH1]
    exact upd_same
  refine lc_it (walk_zip (K := K) (a := r) (b := p) (xs := us) (ys := us.drop 1) (n := min us.length (us.drop 1).length) rfl) (fun i H2 => H2 T = some (.lst ((List.replicate i true).map V.bl)) ∧ Same H1 H2) ⟨upd_same, same_upd hT⟩ (fun i H2 _ h => ⟨h.2.seq (s1.seq hS), h.2.seq (SqL.of hp1)⟩) ?_ ?_
  · rintro i x H2 H3 hi ⟨h2, s2⟩ ⟨T2, x', y', rfl, n2, rfl, e1, e2⟩
    replace e2 : (us.drop 1)[i]? = some y' := e2
    rw [List.getElem?_drop, Nat.add_comm 1 i] at e2
    obtain ⟨dx, ex, tx⟩ := tS.getV e1
    obtain ⟨dy, ey, ty⟩ := tS.getV e2
    obtain ⟨wx, gx, rfl⟩ := map_at ex
    obtain ⟨wy, gy, rfl⟩ := map_at ey
    have s3 : Same H2 (upd H2 T2 (.tup [x', y'])) := same_upd n2
    have k3 : KT K H (upd H2 T2 (.tup [x', y'])) := Same.kt ((s1.trans s2).trans s3)
    obtain ⟨ax, xs, rfl, hx, sx⟩ := (tx.keep k3).tupE
    obtain ⟨ay, ys, rfl, hy, sy⟩ := (ty.keep k3).tupE
    have e3 := tdAll_intsE sx
    have e4 := tdAll_intsE sy
    subst e3
    subst e4
    refine ⟨T2, _, rfl, .inl (.inl upd_same), rfl, _, _, rfl, _, _, rfl, rfl, rfl, ?_⟩
    refine iteT (B := (upd H2 T2 (.tup [V.ref ax, V.ref ay])) T = some (.lst ((List.replicate (i + 1) true).map V.bl)) ∧ Same H1 (upd H2 T2 (.tup [V.ref ax, V.ref ay]))) ?_
    have h3 := s3 _ _ h2
    refine ⟨_, rfl, _, rfl, ax, ay, wx, wy, rfl, rfl, hx, hy, _, h3, ?_, ?_, fun c o y => ?_⟩
    · rw [List.length_map, List.length_replicate]
      exact small1000 (by omega)
    · rw [upd_same, hasc i wx wy gx gy, ← rep_snoc, List.map_append]
      rfl
    · rw [upd_ne (ne_of_none y hT)]
      exact s3 _ _ (s2 _ _ y)
  · rintro H2 ⟨h2, s2⟩
    refine ⟨T, _, rfl, SqL.of h2, ?_⟩
    rw [all_rep]
    exact q H2 (s1.trans s2)
end
end Tl
namespace Tl
open PySem PySem.Spec PyProof.Rows L2 RZ
/-- a node judged: d answers ahead of it -/
def spCkN (K : PySem.W.Frag) (n : Nat) : Sp := fun vs H Q _ => ∃ (W d : Nat) (v av : V) (pl : Addr) (ps : List V) (ahead : List Rat) (t : Nd n), vs = [v, .ref pl, av] ∧ Td K H v (ndD n t) ∧ Td K H av (wsD ahead) ∧ SqT K H pl ps ∧ ps.length = 2 * d ∧ d + n ≤ 8 ∧
  1 ≤ W ∧ W ≤ 5 ∧ ahead.length = W ∧ NdOk W n ahead t ∧ ∀ H', Same H H' → Q .non H'
def spCkQ (K : PySem.W.Frag) : Nat → Sp
  | 0 => fun _ _ _ _ => False
  | n + 1 => fun vs H Q _ => ∃ (W d : Nat) (v av : V) (pl : Addr) (ps : List V) (ahead : List Rat) (q : Qn n), vs = [v, .ref pl, av] ∧ Td K H v (qnD n q) ∧ Td K H av (wsD ahead) ∧ SqT K H pl ps ∧ ps.length = 2 * d + 1 ∧ d + (n + 1) ≤ 8 ∧
      1 ≤ W ∧ W ≤ 5 ∧ ahead.length = W ∧ QnOk W ahead q ∧ (∀ a ∈ q, NdOk W n a.2.1 a.2.2) ∧ ∀ H', Same H H' → Q .non H'
theorem small25 {n : Nat} (h : n ≤ 25) : n ≤ sizeLine := Nat.le_of_lt (small1000 (by omega))
theorem tot_whole {W n : Nat} {ahead : List Rat} {q : Qn n} (ha : ahead.length = W) (h : QnOk W ahead q) : tot W (q.map fun a => a.2.1) = ahead := by
  refine List.ext_getElem? fun j => ?_
  unfold tot
  rw [List.getElem?_map]
  by_cases hj : j < W
  · rw [List.getElem?_range hj, List.getElem?_eq_getElem (show j < ahead.length by omega)]
    show some (fsum ((q.map fun a => a.2.1).map fun r => r.getD j 0)) = some _
    have e : ((q.map fun a => a.2.1).map fun r => r.getD j 0) = col q j := by
      unfold col
      rw [List.map_map]
      rfl
    rw [e, h.whole j hj, getD_of (List.getElem?_eq_getElem (show j < ahead.length by omega))]
  · rw [List.getElem?_eq_none (by rw [List.length_range]; omega), List.getElem?_eq_none (by omega)]
    rfl
theorem tot_cols {W n : Nat} {ahead : List Rat} {q : Qn n} (h : QnOk W ahead q) (j : Nat) (hj : j < W) : ∃ D : Nat, 0 < D ∧ D < 2 ^ 1500 ∧ (∀ x ∈ q.map (fun a => a.2.1), (x.getD j 0).den ∣ D) ∧ abssum (((q.map fun a => a.2.1).map fun x => x.getD j 0).map (frN D)) < 2 ^ 1500 := by
  have z2 : 12 * LL ^ 6 < 2 ^ 1500 := by
    have := @ll_small 6 800 (by decide)
    have z3 : 12 * 2 ^ 800 < 2 ^ 1500 := by
      rw [show (1500 : Nat) = 700 + 800 from rfl, Nat.pow_add]
      exact Nat.mul_lt_mul_of_pos_right (by decide) (Nat.two_pow_pos 800)
    exact Nat.lt_of_le_of_lt (Nat.mul_le_mul_left 12 this) z3
  have d2 : ∀ r ∈ col q j, r.den ∣ LL ^ 6 ∧ 0 ≤ r ∧ r ≤ 1 := fun r hr => by
    unfold col at hr
    obtain ⟨a, ha, rfl⟩ := List.mem_map.mp hr
    have hw := h.wide a ha
    have hm := h.chs a ha (a.2.1.getD j 0) (by rw [getD_of (List.getElem?_eq_getElem (show j < a.2.1.length by omega))]; exact List.getElem_mem _)
    exact ⟨hm.2.2, hm.1, hm.2.1⟩
  have e : ((q.map fun a => a.2.1).map fun x => x.getD j 0) = col q j := by
    unfold col
    rw [List.map_map]
    rfl
  refine ⟨LL ^ 6, ll_pos 6, ll_lt1500 (by decide), fun x hx => ?_, ?_⟩
  · obtain ⟨a, ha, rfl⟩ := List.mem_map.mp hx
    exact (d2 _ (List.mem_map.mpr ⟨a, ha, rfl⟩)).1
  · rw [e]
    exact Nat.lt_of_le_of_lt (frNs_abs d2) (Nat.lt_of_le_of_lt (Nat.mul_le_mul_right _ (show (col q j).length ≤ 12 by unfold col; rw [List.length_map]; exact h.most)) z2)
section
variable {P : Program} {w : World} {K : PySem.W.Frag} {mg : Str → Option Value} {base : Heap} {aN aO : Addr} {t1 t2 t3 t4 t5 t6 t7 : Tok}
theorem ok_check_node {n : Nat} {f f1 : Addr} {fd fd1 : FuncData} (D : Dn K mg "check_node" s_check_node ["node", "place", "ahead"] f fd) (B : Blt mg) (C : Cst K mg aN aO t1 t2 t3 t4 t5 t6 t7) (D_check_question : Dn K mg "check_question" s_check_question ["question", "place", "ahead"] f1 fd1)
    (G_check_question : FnOk P w K mg base CX0 (5 + 2 * n) f1 fd1 ["question", "place", "ahead"] (spCkQ K n)) : FnOk P w K mg base CX0 (6 + 2 * n) f fd ["node", "place", "ahead"] (spCkN K n) := by
  rw [show 6 + 2 * n = (5 + 2 * n) + 1 by omega]
  refine D.F.ok sc_check_node (fun vs H Q E h => ?_) (fun cdv A outer s H vs Q E hr h => ?_)
  · obtain ⟨W, d, v, av, pl, ps, ahead, t, rfl, _⟩ := h
    rfl
  obtain ⟨W, d, v, av, pl, ps, ahead, t, rfl, hv, hav, hpl, lp, hd, hW1, hW5, hla, hok, q⟩ := h
  have nd := sc_check_node.nd
  refine ⟨_, (pss_cons (ps_if (PW.pt (pw_or (pt_not (pt_val (pe_callB (k_isi (K := K) rfl) (by rfl) B.isinstance (by decide +kernel) (pa_cons (pv 0) (pa_cons (pe_bltn (v := .ty "tuple") (u := .type "tuple") (by rfl) B.tuple (by decide +kernel) rfl) pa_nil))))) (pw_or1 (pt_cmpR op_gt (pe_callB (k_len (K := K) rfl) (by rfl) B.len PySem.boot_len (pa_cons (pv 0) pa_nil)) (pe_glob (v := .int _) rfl C.MOST_QUESTIONS ⟨_, rfl⟩) (nomark _))))) (pss_one ps_never) pss_nil)
      (pss_cons (ps_if (PW.pt (pw_and (pt_cmpR op_gt (pe_callB (k_len (K := K) rfl) (by rfl) B.len PySem.boot_len (pa_cons (pv 0) pa_nil)) pe_int (nomark _)) (pw_and1 (pt_cmpR op_ge (pe_callB (k_len (K := K) rfl) (by rfl) B.len PySem.boot_len (pa_cons (pv 1) pa_nil)) (pe_op op_mulW pe_int (pe_glob (v := .int _) rfl C.MOST_ON_A_WAY ⟨_, rfl⟩)) (nomark _))))) (pss_one ps_never) pss_nil)
      (pss_one (ps_for PassesOwn.never rfl (k_enum (K := K) rfl (by rfl) B.enumerate (pa_cons (pv 0) pa_nil)) (k_tup (K := K) (n := 2) rfl rfl (pgs_cons (pg_name (i := 3) nd rfl (.inl rfl)) (pgs_cons (pg_name (i := 4) nd rfl (.inl rfl)) pgs_nil))) (pss_one (ps_expr (pe_call G_check_question (hr.mono (by omega)) (by rfl) D_check_question.m D_check_question.F.kp D_check_question.b .nil pass0 (pa_cons (pv 4) (pa_cons (pe_op (k_cat (K := K) rfl) (pv 1) (pe_tup (pa_cons (pv 3) pa_nil))) (pa_cons (pv 2) pa_nil)))))))))), ?_⟩
  obtain ⟨ds, eds, l5, l0⟩ : ∃ ds, ndD n t = .tuple ds ∧ ds.length ≤ 5 ∧ (n = 0 → ds.length = 0) := by
    cases n with
    | zero => exact ⟨[], rfl, by decide, fun _ => rfl⟩
    | succ n => exact ⟨_, rfl, by rw [List.length_map]; exact hok.1, fun h => by cases h⟩
  have hv2 := hv
  rw [eds] at hv2
  obtain ⟨a, xs, rfl, ha, ta⟩ := hv2.tupE
  have lx := ta.len
  refine ⟨_, rfl, _, _, _, _, true, rfl, .ty "tuple", tyx_tup ha, kit_ty (by decide +kernel), _, rfl, iteF ?_⟩
  refine ⟨_, rfl, a, _, rfl, .inr ha, _, _, rfl, rfl, _, rfl, ?_⟩
  rw [decide_eq_false (show ¬ (5 : Int) < ((xs.length : Nat) : Int) by omega)]
  refine iteF ?_
  refine ⟨_, rfl, a, _, rfl, .inr ha, _, _, rfl, rfl, _, rfl, ?_⟩
  have rest : tFor (iEnumT K (tCons (tVar 0) tNil)) (gTup K 2 (gCons (gName 3) (gCons (gName 4) gNil))) (tDrop (tCall (spCkQ K n) [] E0 (tCons (tVar 4) (tCons (tOp (rCatP K) (tVar 1) (tTup (tCons (tVar 3) tNil))) (tCons (tVar 2) tNil))))) { nx := fun _ H' => Q .non H', rt := Q } [some (.ref a), some (.ref pl), some av, none, none] H := by
    refine ⟨_, rfl, a, xs, rfl, ha, for_it (walk_enumT (K := K) (a := a) (xs := xs)) (fun i σ H2 => ∃ o3 o4 : Option V, σ = [some (.ref a), some (.ref pl), some av, o3, o4] ∧ Same H H2) ⟨none, none, rfl, Same.refl _⟩ (fun i σ H2 _ h => ?_) ?_ ?_⟩
    · obtain ⟨_, _, _, s2⟩ := h
      exact Same.kt s2 _ _ ha
    · rintro i x σ H2 H3 hi ⟨o3, o4, rfl, s2⟩ ⟨T, x1, x2, rfl, nT, rfl, e1, e2⟩
      cases n with
      | zero =>
        have := l0 rfl
        omega
      | succ n =>
        cases eds
        have s3 : Same H2 (upd H2 T (.tup [x1, x2])) := same_upd nT
        cases e1
        obtain ⟨dx, ex, tx⟩ := ta.getV e2
        obtain ⟨qn, eq, rfl⟩ := map_at ex
        obtain ⟨qok, nok⟩ := hok.2 qn (List.mem_of_getElem? eq)
        refine ⟨T, _, rfl, .inl (.inl upd_same), rfl, _, _, rfl, _, _, rfl, rfl, ?_⟩
        refine ⟨_, rfl, _, rfl, _, rfl, (by show 1 ≤ sizeLine; decide), fun p np => ?_⟩
        have s4 : Same (upd H2 T (.tup [.int (i : Int), x2])) (upd (upd H2 T (.tup [.int (i : Int), x2])) p (.tup [.int (i : Int)])) := same_upd np
        have s24 := (s2.trans s3).trans s4
        refine ⟨pl, p, ps, _, rfl, rfl, Same.kt s24 _ _ hpl, .inl (.inl upd_same), by rw [lp]; exact small25 (by simp; omega), fun p2 H5 s5 q5 => ?_⟩
        have s25 := s24.trans s5
        refine ⟨_, rfl, W, d, x2, av, p2, _, ahead, qn, rfl, tx.keep (Same.kt s25), hav.keep (Same.kt s25), q5, by rw [List.length_append, lp]; rfl, by omega, hW1, hW5, hla, qok, nok, fun H6 s6 => ?_⟩
        exact ⟨_, _, rfl, s25.trans s6⟩
    · rintro σ H2 ⟨o3, o4, rfl, s2⟩
      exact q H2 s2
  refine ite2 (fun c => ?_) (fun c => ?_)
  · refine ⟨_, rfl, pl, _, rfl, .inr hpl, _, _, rfl, rfl, cmul_small (by decide) (by decide), _, _, rfl, rfl, _, rfl, ?_⟩
    have c0 : 0 < xs.length := by
      have := of_decide_eq_true c
      omega
    have n0 : n ≠ 0 := fun e => by
      have := l0 e
      omega
    rw [decide_eq_false (show ¬ ((ps.length : Nat) : Int) ≥ 2 * 8 by omega)]
    refine iteF ?_
    exact rest
  · refine iteF ?_
    exact rest
end
end Tl
namespace Tl
open PySem PySem.Spec PyProof.Rows L2 RZ
section
variable {P : Program} {w : World} {K : PySem.W.Frag} {mg : Str → Option Value} {base : Heap} {aN aO : Addr} {t1 t2 t3 t4 t5 t6 t7 : Tok}
theorem ok_check_question {n : Nat} {f f1 f2 f3 f4 : Addr} {fd fd1 fd2 fd3 fd4 : FuncData} (D : Dn K mg "check_question" s_check_question ["question", "place", "ahead"] f fd) (B : Blt mg) (C : Cst K mg aN aO t1 t2 t3 t4 t5 t6 t7) (D_check_node : Dn K mg "check_node" s_check_node ["node", "place", "ahead"] f1 fd1)
    (G_check_node : FnOk P w K mg base CX0 (6 + 2 * n) f1 fd1 ["node", "place", "ahead"] (spCkN K n)) (D_is_answer : Dn K mg "is_answer" s_is_answer ["thing", "worlds"] f2 fd2) (G_is_answer : FnOk P w K mg base CX0 5 f2 fd2 ["thing", "worlds"] (spAnswer K n))
    (D_is_ascending : Dn K mg "is_ascending" s_is_ascending ["rows"] f3 fd3) (G_is_ascending : FnOk P w K mg base CX0 1 f3 fd3 ["rows"] (spAsc K)) (D_total_weights : Dn K mg "total_weights" s_total_weights ["rows", "worlds"] f4 fd4) (G_total_weights : FnOk P w K mg base CX0 4 f4 fd4 ["rows", "worlds"] (spTotW K)) :
    FnOk P w K mg base CX0 (7 + 2 * n) f fd ["question", "place", "ahead"] (spCkQ K (n + 1)) := by
  rw [show 7 + 2 * n = (6 + 2 * n) + 1 by omega]
  refine D.F.ok sc_check_question (fun vs H Q E h => ?_) (fun cdv A outer s H vs Q E hr h => ?_)
  · obtain ⟨W, d, v, av, pl, ps, ahead, t, rfl, _⟩ := h
    rfl
  obtain ⟨W, d, v, av, pl, ps, ahead, qn, rfl, hv, hav, hpl, lp, hd, hW1, hW5, hla, qok, nok, q⟩ := h
  have nd := sc_check_question.nd
  refine ⟨_, (pss_cons (ps_if (PW.pt (pw_or (pt_not (pt_val (pe_callB (k_isi (K := K) rfl) (by rfl) B.isinstance (by decide +kernel) (pa_cons (pv 0) (pa_cons (pe_bltn (v := .ty "tuple") (u := .type "tuple") (by rfl) B.tuple (by decide +kernel) rfl) pa_nil))))) (pw_or1 (pt_not (pt_chain op_le op_le pe_int (pe_callB (k_len (K := K) rfl) (by rfl) B.len PySem.boot_len (pa_cons (pv 0) pa_nil)) (pe_glob (v := .int _) rfl C.MOST_WORDS ⟨_, rfl⟩)))))) (pss_one ps_never) pss_nil)
      (pss_cons (ps_for PassesOwn.never rfl (k_enum (K := K) rfl (by rfl) B.enumerate (pa_cons (pv 0) pa_nil)) (k_tup (K := K) (n := 2) rfl rfl (pgs_cons (pg_name (i := 3) nd rfl (.inl rfl)) (pgs_cons (pg_name (i := 4) nd rfl (.inl rfl)) pgs_nil))) (pss_one (ps_if (pt_not (pt_val (pe_call G_is_answer (hr.mono (by omega)) (by rfl) D_is_answer.m D_is_answer.F.kp D_is_answer.b .nil pass0 (pa_cons (pv 4) (pa_cons (pe_callB (k_len (K := K) rfl) (by rfl) B.len PySem.boot_len (pa_cons (pv 2) pa_nil)) pa_nil))))) (pss_one ps_never) pss_nil)))
      (pss_cons (ps_if (pt_not (pt_val (pe_call G_is_ascending (hr.mono (by omega)) (by rfl) D_is_ascending.m D_is_ascending.F.kp D_is_ascending.b .nil pass0 (pa_cons (pe_lc (own := [("answer", 4)]) rfl nd (k_iT (K := K) rfl (pv 0)) (blkOk_by (own := [("answer", 4)]) (by kernel_rfl)) (fun _ _ _ _ _ => (pg_name (i := 4) nd rfl (.inl rfl))) (fun _ _ _ _ _ => pts_nil) (fun _ _ _ _ _ => (pe_ix (k_ixT (K := K) rfl) (pv 4) pe_int (fun _ _ => rfl)))) pa_nil)))) (pss_one ps_never) pss_nil)
      (pss_cons (ps_if (pt_cmpR (k_neD (K := K) rfl hr.units) (pe_call G_total_weights (hr.mono (by omega)) (by rfl) D_total_weights.m D_total_weights.F.kp D_total_weights.b .nil pass0 (pa_cons (pe_lc (own := [("answer", 4)]) rfl nd (k_iT (K := K) rfl (pv 0)) (blkOk_by (own := [("answer", 4)]) (by kernel_rfl)) (fun _ _ _ _ _ => (pg_name (i := 4) nd rfl (.inl rfl))) (fun _ _ _ _ _ => pts_nil) (fun _ _ _ _ _ => (pe_ix (k_ixT (K := K) rfl) (pv 4) pe_int (fun _ _ => rfl)))) (pa_cons (pe_callB (k_len (K := K) rfl) (by rfl) B.len PySem.boot_len (pa_cons (pv 2) pa_nil)) pa_nil))) (pv 2) (nomark _)) (pss_one ps_never) pss_nil)
      (pss_one (ps_for PassesOwn.never rfl (k_enum (K := K) rfl (by rfl) B.enumerate (pa_cons (pv 0) pa_nil)) (k_tup (K := K) (n := 2) rfl rfl (pgs_cons (pg_name (i := 3) nd rfl (.inl rfl)) (pgs_cons (pg_name (i := 4) nd rfl (.inl rfl)) pgs_nil))) (pss_one (ps_expr (pe_call G_check_node (hr.mono (by omega)) (by rfl) D_check_node.m D_check_node.F.kp D_check_node.b .nil pass0 (pa_cons (pe_ix (k_ixT (K := K) rfl) (pv 4) pe_int (fun _ _ => rfl)) (pa_cons (pe_op (k_cat (K := K) rfl) (pv 1) (pe_tup (pa_cons (pv 3) pa_nil))) (pa_cons (pe_ix (k_ixT (K := K) rfl) (pv 4) pe_int (fun _ _ => rfl)) pa_nil)))))))))))), ?_⟩
  obtain ⟨a, xs, rfl, ha, ta⟩ := id hv.tupE
  obtain ⟨aa, axs, rfl, haa, taa⟩ := id hav.tupE
  have lx : xs.length = qn.length := by rw [ta.len, List.length_map]
  have la : axs.length = W := by rw [taa.len, List.length_map, hla]
  have o1 := qok.one
  have o12 := qok.most
  -- the answers at their places
  have at_ : ∀ {i : Nat} {x : V} {H2 : Hp}, xs[i]? = some x → Same H H2 → ∃ an, qn[i]? = some an ∧ an ∈ qn ∧ Td K H2 x (anD n an) ∧ ∃ p vw vs vt, x = .ref p ∧ SqT K H2 p [vw, vs, vt] ∧ Td K H2 vw (wdD an.1) ∧ Td K H2 vs (wsD an.2.1) ∧ Td K H2 vt (ndD n an.2.2) := by
    intro i x H2 e s2
    obtain ⟨dx, ex, tx⟩ := ta.getV e
    obtain ⟨an, ea, rfl⟩ := map_at ex
    have tx2 := tx.keep (Same.kt s2)
    obtain ⟨p, ys, rfl, hp, tp⟩ := id tx2.tupE
    cases tp with
    | cons h1 tp => cases tp with
      | cons h2 tp => cases tp with
        | cons h3 tp =>
          cases tp
          exact ⟨an, ea, List.mem_of_getElem? ea, tx2, p, _, _, _, rfl, hp, h1, h2, h3⟩
  refine ⟨_, rfl, _, _, _, _, true, rfl, .ty "tuple", tyx_tup ha, kit_ty (by decide +kernel), _, rfl, iteF ?_⟩
  refine ⟨_, rfl, a, _, rfl, .inr ha, _, _, rfl, rfl, _, rfl, ?_⟩
  rw [decide_eq_true (show (1 : Int) ≤ ((xs.length : Nat) : Int) by omega)]
  refine iteT ⟨_, _, rfl, rfl, _, rfl, ?_⟩
  rw [decide_eq_true (show ((xs.length : Nat) : Int) ≤ 12 by omega)]
  refine iteF ?_
  -- each answer
  refine ⟨_, rfl, a, xs, rfl, ha, for_it (walk_enumT (K := K) (a := a) (xs := xs)) (fun i σ H2 => ∃ o3 o4 : Option V, σ = [some (.ref a), some (.ref pl), some (.ref aa), o3, o4] ∧ Same H H2) ⟨none, none, rfl, Same.refl _⟩ (fun i σ H2 _ h => ?_) ?_ ?_⟩
  · obtain ⟨_, _, _, s2⟩ := h
    exact Same.kt s2 _ _ ha
  · rintro i x σ H2 H3 hi ⟨o3, o4, rfl, s2⟩ ⟨T, x1, x2, rfl, nT, rfl, e1, e2⟩
    have s3 : Same H2 (upd H2 T (.tup [x1, x2])) := same_upd nT
    have s23 := s2.trans s3
    obtain ⟨an, ea, ma, tan, _⟩ := at_ e2 s23
    refine ⟨T, _, rfl, .inl (.inl upd_same), rfl, _, _, rfl, _, _, rfl, rfl, ?_⟩
    refine ⟨_, rfl, _, rfl, aa, _, rfl, .inr (Same.kt s23 _ _ haa), x2, an, ?_, tan, qok.words _ ma, ?_, fun r hr => ?_, fun H4 s4 => ⟨_, rfl, iteF ⟨_, _, rfl, s23.trans s4⟩⟩⟩
    · rw [la, qok.wide _ ma]
      rfl
    · rw [qok.wide _ ma]
      omega
    · have := qok.chs _ ma r hr
      exact ⟨this.1, this.2.1⟩
  rintro σ H2 ⟨o3, o4, rfl, s2⟩
  -- ascending
  have ha2 := Same.kt s2 _ _ ha
  refine ⟨_, rfl, a, rfl, ⟨_, ha2⟩, fun T hT => ?_⟩
  refine lc_it (walk_tup (K := K) (a := a) (xs := xs)) (fun i H3 => ∃ us : List V, H3 T = some (.lst us) ∧ TdAll K H3 us ((qn.take i).map fun an => wdD an.1) ∧ Same H2 H3) ⟨[], upd_same, .nil, same_upd hT⟩ (fun i H3 _ h => ?_) ?_ ?_
  · obtain ⟨_, _, _, s3⟩ := h
    exact Same.kt s3 _ _ ha2
  · rintro i x H0 H3 hi ⟨us, h3, t3, s3⟩ ⟨rfl, e1⟩
    obtain ⟨an, ea, ma, tan, p, vw, vs, vt, rfl, hp, h1, h2, h4⟩ := at_ e1 (s2.trans s3)
    have kT : KT K H3 (upd H3 T (.lst (us ++ [vw]))) := KT.updL h3
    refine ⟨rfl, ?_⟩
    refine iteT (B := ∃ us : List V, H3 T = some (.lst us) ∧ TdAll K H3 us ((qn.take (i + 1)).map fun an => wdD an.1) ∧ Same H2 H3) ?_
    refine ⟨_, rfl, p, _, 0, vw, rfl, rfl, hp, at_of (j := 0) rfl rfl, us, h3, ?_, us ++ [vw], upd_same, ?_, fun c o y => ?_⟩
    · rw [t3.len, List.length_map, List.length_take]
      exact small1000 (by omega)
    · rw [List.take_add_one, ea, List.map_append]
      exact (t3.keep kT).app (.cons (h1.keep kT) .nil)
    · rw [upd_ne (ne_of_none y hT)]
      exact s3 _ _ y
  rintro H3 ⟨us, h3, t3, s3⟩
  rw [lx, List.take_length] at t3
  have s03 := s2.trans s3
  refine ⟨T, us, qn.map (fun an => an.1), rfl, SqL.of h3, by rw [List.map_map]; exact t3, by rw [List.length_map]; omega, ?_, fun H4 s4 => ⟨_, rfl, iteF ?_⟩⟩
  · intro i x y hx hy
    obtain ⟨ax, gx, rfl⟩ := map_at hx
    obtain ⟨ay, gy, rfl⟩ := map_at hy
    exact qok.asc i ax ay gx gy
  have s04 := s03.trans s4
  clear t3 h3 s3
  -- the weights
  have ha4 := Same.kt s04 _ _ ha
  refine ⟨_, rfl, a, rfl, ⟨_, ha4⟩, fun T2 hT2 => ?_⟩
  refine lc_it (walk_tup (K := K) (a := a) (xs := xs)) (fun i H3 => ∃ us : List V, H3 T2 = some (.lst us) ∧ TdAll K H3 us ((qn.take i).map fun an => wsD an.2.1) ∧ Same H4 H3) ⟨[], upd_same, .nil, same_upd hT2⟩ (fun i H3 _ h => ?_) ?_ ?_
  · obtain ⟨_, _, _, s3⟩ := h
    exact Same.kt s3 _ _ ha4
  · rintro i x H0 H5 hi ⟨us, h3, t3, s3⟩ ⟨rfl, e1⟩
    obtain ⟨an, ea, ma, tan, p, vw, vs, vt, rfl, hp, h1, h2, h4⟩ := at_ e1 (s04.trans s3)
    have kT : KT K H5 (upd H5 T2 (.lst (us ++ [vs]))) := KT.updL h3
    refine ⟨rfl, ?_⟩
    refine iteT (B := ∃ us : List V, H5 T2 = some (.lst us) ∧ TdAll K H5 us ((qn.take (i + 1)).map fun an => wsD an.2.1) ∧ Same H4 H5) ?_
    refine ⟨_, rfl, p, _, 1, vs, rfl, rfl, hp, at_of (j := 1) rfl rfl, us, h3, ?_, us ++ [vs], upd_same, ?_, fun c o y => ?_⟩
    · rw [t3.len, List.length_map, List.length_take]
      exact small1000 (by omega)
    · rw [List.take_add_one, ea, List.map_append]
      exact (t3.keep kT).app (.cons (h2.keep kT) .nil)
    · rw [upd_ne (ne_of_none y hT2)]
      exact s3 _ _ y
  rintro H5 ⟨us5, h5, t5, s5⟩
  rw [lx, List.take_length] at t5
  have s05 := s04.trans s5
  refine ⟨_, rfl, aa, _, rfl, .inr (Same.kt s05 _ _ haa), ?_⟩
  refine ⟨T2, us5, W, qn.map (fun an => an.2.1), by rw [la]; rfl, SqL.of h5, by rw [List.map_map]; exact t5, hW1, hW5, by rw [List.length_map]; omega, fun x hx => ?_, tot_cols qok, fun v6 H6 s6 t6 => ?_⟩
  · obtain ⟨an, ma, rfl⟩ := List.mem_map.mp hx
    exact qok.wide _ ma
  rw [tot_whole hla qok] at t6
  have s06 := s05.trans s6
  have g2 := good_wsD ahead
  refine ⟨_, rfl, wsD ahead, wsD ahead, t6.dp, (hav.keep (Same.kt s06)).dp, g2.shaped (by decide), g2.shaped (by decide), _, rfl, ?_⟩
  rw [g2.refl]
  refine iteF ?_
  clear t6 t5 h5 s5 s6 ha4 ha2 s4 s03 s2
  -- the nodes behind
  have ha6 := Same.kt s06 _ _ ha
  refine ⟨_, rfl, a, xs, rfl, ha6, for_it (walk_enumT (K := K) (a := a) (xs := xs)) (fun i σ H2 => ∃ o3 o4 : Option V, σ = [some (.ref a), some (.ref pl), some (.ref aa), o3, o4] ∧ Same H H2) ⟨_, _, rfl, s06⟩ (fun i σ H2 _ h => ?_) ?_ ?_⟩
  · obtain ⟨_, _, _, s2⟩ := h
    exact Same.kt s2 _ _ ha
  · rintro i x σ H2 H3 hi ⟨o3, o4, rfl, s2⟩ ⟨T, x1, x2, rfl, nT, rfl, e1, e2⟩
    have s3 : Same H2 (upd H2 T (.tup [x1, x2])) := same_upd nT
    cases e1
    have s23 := s2.trans s3
    obtain ⟨an, ea, ma, tan, p, vw, vs, vt, rfl, hp, h1, h2, h4⟩ := at_ e2 s23
    refine ⟨T, _, rfl, .inl (.inl upd_same), rfl, _, _, rfl, _, _, rfl, rfl, ?_⟩
    refine ⟨_, rfl, p, _, 2, vt, rfl, rfl, hp, at_of (j := 2) rfl rfl, ?_⟩
    refine ⟨_, rfl, _, rfl, (by show 1 ≤ sizeLine; decide), fun p3 np => ?_⟩
    have s4 : Same (upd H2 T (.tup [.int (i : Int), .ref p])) (upd (upd H2 T (.tup [.int (i : Int), .ref p])) p3 (.tup [.int (i : Int)])) := same_upd np
    have s24 := s23.trans s4
    refine ⟨pl, p3, ps, _, rfl, rfl, Same.kt s24 _ _ hpl, .inl (.inl upd_same), by rw [lp]; exact small25 (by simp; omega), fun p2 H5 s5 q5 => ?_⟩
    have s25 := s24.trans s5
    have k35 : KT K (upd H2 T (.tup [.int (i : Int), .ref p])) H5 := Same.kt (s4.trans s5)
    refine ⟨_, rfl, p, _, 1, vs, rfl, rfl, k35 _ _ hp, at_of (j := 1) rfl rfl, ?_⟩
    refine ⟨W, d + 1, vt, vs, p2, _, an.2.1, an.2.2, rfl, h4.keep k35, h2.keep k35, q5, by rw [List.length_append, lp]; show 2 * d + 1 + 1 = 2 * (d + 1); omega, by omega, hW1, hW5, qok.wide _ ma, nok _ ma, fun H6 s6 => ?_⟩
    exact ⟨_, _, rfl, s25.trans s6⟩
  · rintro σ H2 ⟨o3, o4, rfl, s2⟩
    exact q H2 s2
end
end Tl
namespace Tl
open PySem PySem.Spec PyProof.Rows L2 RZ
/-- a comprehension over two walks -/
theorem lc2_it {J : It} {n : Nat} {G : Hp → Prop} {Y : Nat → Hp → V → Hp → Prop} (w1 : Walk J n G Y) {wi1 : TI} {g g1 : TG} {tt tt1 : TT} {te : TE} {vs vs1 : List Nat} {σ : L2.St} {H1 : Hp} {D : Addr} {Qd : Hp → Prop} (Pv : Nat → Hp → Prop) (h0 : Pv 0 (upd H1 D (.lst []))) (hG : ∀ i H, i ≤ n → Pv i H → G H)
    (hs : ∀ i x H H', i < n → Pv i H → Y i H x H' → g x (wipe σ vs) H' fun σ2 H2 => wipe σ2 vs = wipe σ vs ∧ tt σ2 H2 fun b H3 => if b = true then wi1 σ2 H3 fun J1 H4 => ∃ (k : Nat) (G1 : Hp → Prop) (Y1 : Nat → Hp → V → Hp → Prop) (Pw : Nat → Hp → Prop), Walk J1 k G1 Y1 ∧ Pw 0 H4 ∧ (∀ j H, j ≤ k → Pw j H → G1 H) ∧ (∀ H, Pw k H → Pv (i + 1) H) ∧
        ∀ j y H H', j < k → Pw j H → Y1 j H y H' → g1 y (wipe σ2 vs1) H' fun σ3 H5 => wipe σ3 vs1 = wipe σ2 vs1 ∧ tt1 σ3 H5 fun b H6 => if b = true then te σ3 H6 fun z H7 => ∃ acc, H7 D = some (.lst acc) ∧ acc.length < sizeLine ∧ Pw (j + 1) (upd H7 D (.lst (acc ++ [z]))) else Pw (j + 1) H6 else Pv (i + 1) H3) (hd : ∀ H, Pv n H → Qd H)
    (mg1 : ∀ x σ H Q Q', (∀ σ' H', Q σ' H' → Q' σ' H') → g x σ H Q → g x σ H Q') (mt : ∀ σ H Q Q', (∀ b H', Q b H' → Q' b H') → tt σ H Q → tt σ H Q') (mw : ∀ σ H (Q Q' : It → Hp → Prop), (∀ J H', Q J H' → Q' J H') → wi1 σ H Q → wi1 σ H Q') :
    ∃ W : Nat → Nat → Hp → Prop, (∃ m, W 0 m (upd H1 D (.lst []))) ∧ ∀ i m H, W i m H →
      (J.stop i H ∧ Qd H) ∨ (J.go i H ∧ ∃ Nx : Hp → Prop, (∀ H', Nx H' → ∃ m', m' < m ∧ W (i + 1) m' H') ∧ ∀ x H', J.yld i H x H' → g x (wipe σ vs) H' fun σ2 H2 => wipe σ2 vs = wipe σ vs ∧ tt σ2 H2 fun b H3 =>
        if b = true then wi1 σ2 H3 fun J1 H4 => ∃ W1 : Nat → Nat → Hp → Prop, (∃ m, W1 0 m H4) ∧ ∀ j k H, W1 j k H →
          (J1.stop j H ∧ Nx H) ∨ (J1.go j H ∧ ∃ Nx1 : Hp → Prop, (∀ H', Nx1 H' → ∃ k', k' < k ∧ W1 (j + 1) k' H') ∧ ∀ x H', J1.yld j H x H' → g1 x (wipe σ2 vs1) H' fun σ3 H5 => wipe σ3 vs1 = wipe σ2 vs1 ∧ tt1 σ3 H5 fun b H6 =>
            if b = true then te σ3 H6 fun y H7 => ∃ acc, H7 D = some (.lst acc) ∧ acc.length < sizeLine ∧ Nx1 (upd H7 D (.lst (acc ++ [y]))) else Nx1 H6)
        else Nx H3) := by
  refine ⟨fun i m H => m = n - i ∧ i ≤ n ∧ Pv i H, ⟨n, by simp, Nat.zero_le _, h0⟩, ?_⟩
  rintro i m H ⟨rfl, hi, p⟩
  have q := hG i H hi p
  by_cases hlt : i < n
  · refine .inr ⟨w1.goes i H hlt q, Pv (i + 1), fun H' p' => ⟨n - (i + 1), by omega, rfl, hlt, p'⟩, fun x H' y => ?_⟩
    refine mg1 _ _ _ _ _ (fun σ2 H2 h => ⟨h.1, mt _ _ _ _ (fun b H3 h => ?_) h.2⟩) (hs i x H H' hlt p (w1.yields i H x H' hlt q y))
    cases b with
    | false => exact h
    | true =>
      refine mw _ _ _ _ (fun J1 H4 h => ?_) h
      obtain ⟨k, G1, Y1, Pw, v1, p0, pG, pe, ps⟩ := h
      refine ⟨fun j l H => l = k - j ∧ j ≤ k ∧ Pw j H, ⟨k, by simp, Nat.zero_le _, p0⟩, ?_⟩
      rintro j l H ⟨rfl, hj, pp⟩
      have q2 := pG j H hj pp
      by_cases hl2 : j < k
      · exact .inr ⟨v1.goes j H hl2 q2, Pw (j + 1), fun H' p' => ⟨k - (j + 1), by omega, rfl, hl2, p'⟩, fun x H' y => ps j x H H' hl2 pp (v1.yields j H x H' hl2 q2 y)⟩
      · obtain rfl : j = k := by omega
        exact .inl ⟨v1.stops H q2, pe H pp⟩
  · obtain rfl : i = n := by omega
    exact .inl ⟨w1.stops H q, hd H p⟩
def spCnt (K : PySem.W.Frag) (n : Nat) : Sp := fun vs H Q _ => ∃ (v : V) (t : Nd n), vs = [v] ∧ Td K H v (ndD n t) ∧ Q (.int ((cnt n t : Nat) : Int)) H
def spRnd (K : PySem.W.Frag) (n : Nat) : Sp := fun vs H Q _ => ∃ (v : V) (t : Nd n), vs = [v] ∧ Td K H v (ndD n t) ∧ cnt n t ≤ 10000 ∧ ∀ (r : Int) (H' : Hp), 0 ≤ r → r ≤ n → Same H H' → Q (.int r) H'
/-- the questions of a node at their places -/
theorem td_qs {K : PySem.W.Frag} {H : Hp} {n : Nat} {t : Nd n} {v : V} (h : Td K H v (ndD n t)) : ∃ (a : Addr) (xs : List V) (ds : List PyData), v = .ref a ∧ SqT K H a xs ∧ ndD n t = .tuple ds ∧ TdAll K H xs ds ∧ (n = 0 → xs = []) := by
  cases n with
  | zero =>
    obtain ⟨a, xs, e, hs, ht⟩ := Td.tupE (ds := []) h
    refine ⟨a, xs, [], e, hs, rfl, ht, fun _ => ?_⟩
    cases ht
    rfl
  | succ n =>
    obtain ⟨a, xs, e, hs, ht⟩ := Td.tupE h
    exact ⟨a, xs, _, e, hs, rfl, ht, fun z => by cases z⟩
theorem cntQ_take (n : Nat) (q : Qn n) (i : Nat) (an : An n) (h : q[i]? = some an) : cntQ n (q.take (i + 1)) = cntQ n (q.take i) + (1 + cnt n an.2.2) := by
  unfold cntQ
  rw [List.take_add_one, h, List.map_append, List.sum_append]
  rfl
theorem cnt_take (n : Nat) (qs : List (Qn n)) (i : Nat) (q : Qn n) (h : qs[i]? = some q) : cnt (n + 1) (qs.take (i + 1) : List (Qn n)) = cnt (n + 1) (qs.take i : List (Qn n)) + cntQ n q := by
  rw [List.take_add_one, h]
  exact cnt_snoc n _ q
section
variable {P : Program} {w : World} {K : PySem.W.Frag} {mg : Str → Option Value} {base : Heap} {aN aO : Addr} {t1 t2 t3 t4 t5 t6 t7 : Tok}
theorem ok_answers_in {f : Addr} {fd : FuncData} (D : Dn K mg "answers_in" s_answers_in ["node"] f fd) (B : Blt mg) : ∀ n : Nat, FnOk P w K mg base CX0 (1 + n) f fd ["node"] (spCnt K n) := by
  intro n
  have G_answers_in : n = 0 ∨ ∃ m, n = m + 1 ∧ FnOk P w K mg base CX0 n f fd ["node"] (spCnt K m) := by
    cases n with
    | zero => exact .inl rfl
    | succ m =>
      have := ok_answers_in D B m
      rw [show 1 + m = m + 1 by omega] at this
      exact .inr ⟨m, rfl, this⟩
  obtain ⟨sp0, G_answers_in, hsp⟩ : ∃ sp0, FnOk P w K mg base CX0 n f fd ["node"] sp0 ∧ (∀ m, n = m + 1 → sp0 = spCnt K m) := by
    rcases G_answers_in with h | ⟨m, h, G⟩
    · exact ⟨fun _ _ _ _ => False, ⟨fun vs H Q E h => h.elim, fun A outer s H args us vs Q E _ _ _ _ h => h.elim⟩, fun m e => by omega⟩
    · exact ⟨_, G, fun m' e => by rw [show m' = m by omega]⟩
  rw [show 1 + n = n + 1 by omega]
  refine D.F.ok sc_answers_in (fun vs H Q E h => ?_) (fun cdv A outer s H vs Q E hr h => ?_)
  · obtain ⟨v, t, rfl, _⟩ := h
    rfl
  obtain ⟨v, t, rfl, hv, q⟩ := h
  have nd := sc_answers_in.nd
  have D_answers_in := D
  refine ⟨_, (pss_cons (ps_set (i := 1) nd rfl (.inl rfl) pe_int)
      (pss_cons (ps_for PassesOwn.never rfl (k_iT (K := K) rfl (pv 0)) (pg_name (i := 2) nd rfl (.inl rfl)) (pss_one (ps_for PassesOwn.never rfl (k_iT (K := K) rfl (pv 2)) (pg_name (i := 3) nd rfl (.inl rfl)) (pss_one (ps_aug (i := 1) nd rfl (.inl rfl) (pe_op op_add pe_int (pe_call G_answers_in (hr.mono (by omega)) (by rfl) D_answers_in.m D_answers_in.F.kp D_answers_in.b .nil pass0 (pa_cons (pe_ix (k_ixT (K := K) rfl) (pv 3) pe_int (fun _ _ => rfl)) pa_nil))) ip_add)))))
      (pss_one (ps_ret (pv 1))))), ?_⟩
  obtain ⟨a, xs, ds, rfl, ha, ed, ta, l0⟩ := td_qs hv
  cases n with
  | zero =>
    have := l0 rfl
    subst this
    refine ⟨_, rfl, a, rfl, ⟨_, ha⟩, for_it (walk_tup (K := K) (a := a) (xs := [])) (fun i σ H2 => H2 = H ∧ σ = [some (.ref a), some (.int 0), none, none]) ⟨rfl, rfl⟩ (fun i σ H2 _ h => by rw [h.1]; exact ha) ?_ ?_⟩
    · rintro i x σ H2 H3 hi
      exact absurd hi (Nat.not_lt_zero _)
    · rintro σ H2 ⟨rfl, rfl⟩
      exact ⟨_, rfl, q⟩
  | succ n =>
    cases ed
    have hsp := hsp n rfl
    subst hsp
    have lx : xs.length = (show List (Qn n) from t).length := by rw [ta.len, List.length_map]
    refine ⟨_, rfl, a, rfl, ⟨_, ha⟩, for_it (walk_tup (K := K) (a := a) (xs := xs)) (fun i σ H2 => H2 = H ∧ ∃ o2 o3 : Option V, σ = [some (.ref a), some (.int ((cnt (n + 1) ((show List (Qn n) from t).take i : List (Qn n)) : Nat) : Int)), o2, o3]) ⟨rfl, none, none, rfl⟩ (fun i σ H2 _ h => by rw [h.1]; exact ha) ?_ ?_⟩
    · rintro i x σ H0 H2 hi ⟨rfl, o2, o3, rfl⟩ ⟨e0, e1⟩
      subst e0
      obtain ⟨dx, ex, tx⟩ := ta.getV e1
      obtain ⟨qn, eq, rfl⟩ := map_at ex
      obtain ⟨b, ys, rfl, hb, tb⟩ := id tx.tupE
      have ly : ys.length = qn.length := by rw [tb.len, List.length_map]
      refine ⟨_, rfl, b, rfl, ⟨_, hb⟩, for_it (walk_tup (K := K) (a := b) (xs := ys)) (fun j σ H3 => H3 = H2 ∧ ∃ o3 : Option V, σ = [some (.ref a), some (.int ((cnt (n + 1) ((show List (Qn n) from t).take i : List (Qn n)) + cntQ n (qn.take j) : Nat) : Int)), some (.ref b), o3]) ⟨rfl, _, rfl⟩ (fun j σ H3 _ h => by rw [h.1]; exact hb) ?_ ?_⟩
      · rintro j y σ H0 H3 hj ⟨rfl, o3, rfl⟩ ⟨e0, e2⟩
        subst e0
        obtain ⟨dy, ey, ty⟩ := tb.getV e2
        obtain ⟨an, ea, rfl⟩ := map_at ey
        obtain ⟨p, zs, rfl, hp, tp⟩ := id ty.tupE
        obtain ⟨vt, et, tt⟩ := tp.get (i := 2) rfl
        refine ⟨_, rfl, _, rfl, p, zs, 2, vt, rfl, rfl, hp, at_of (j := 2) rfl et, vt, an.2.2, rfl, tt, _, _, rfl, rfl, _, _, rfl, rfl, ?_⟩
        refine ⟨rfl, some (.ref p), ?_⟩
        rw [cntQ_take n qn j an ea]
        show [some (V.ref a), some (V.int (_ + (1 + ((cnt n an.2.2 : Nat) : Int)))), _, _] = _
        have e9 : (((cnt (n + 1) ((show List (Qn n) from t).take i : List (Qn n)) + cntQ n (qn.take j) : Nat) : Int)) + (1 + ((cnt n an.2.2 : Nat) : Int)) = ((cnt (n + 1) ((show List (Qn n) from t).take i : List (Qn n)) + (cntQ n (qn.take j) + (1 + cnt n an.2.2)) : Nat) : Int) := by omega
        rw [e9]
      · rintro σ H3 ⟨rfl, o3, rfl⟩
        refine ⟨rfl, some (.ref b), o3, ?_⟩
        rw [ly, List.take_length, cnt_take n _ i qn eq]
    · rintro σ H2 ⟨rfl, o2, o3, rfl⟩
      rw [lx, List.take_length]
      exact ⟨_, rfl, q⟩
end
end Tl
namespace Tl
open PySem PySem.Spec PyProof.Rows L2 RZ
theorem max_le {n : Int} : ∀ (l : List Int) (x : Int), 0 ≤ x → x ≤ n → (∀ y ∈ l, 0 ≤ y ∧ y ≤ n) → 0 ≤ l.foldl max x ∧ l.foldl max x ≤ n
  | [], x, h0, h1, _ => ⟨h0, h1⟩
  | y :: r, x, h0, h1, h => by
    obtain ⟨y0, y1⟩ := h y (List.mem_cons_self ..)
    exact max_le r (max x y) (by omega) (by omega) fun z hz => h z (List.mem_cons_of_mem _ hz)
theorem top_le {n : Int} (hn : 0 ≤ n) (l : List Int) (h : ∀ y ∈ l, 0 ≤ y ∧ y ≤ n) : 0 ≤ topOf 0 l ∧ topOf 0 l ≤ n := by
  cases l with
  | nil => exact ⟨Int.le_refl _, hn⟩
  | cons x r =>
    obtain ⟨x0, x1⟩ := h x (List.mem_cons_self ..)
    exact max_le r x x0 x1 fun z hz => h z (List.mem_cons_of_mem _ hz)
theorem cntQ_len (n : Nat) (q : Qn n) : q.length ≤ cntQ n q := by
  rw [cntQ_eq]
  omega
theorem cnt_le_of_mem {n : Nat} {q : Qn n} : ∀ {qs : List (Qn n)}, q ∈ qs → cntQ n q ≤ cnt (n + 1) qs
  | [], h => absurd h List.not_mem_nil
  | x :: r, h => by
    rw [cnt_succ, List.map_cons, List.sum_cons]
    rcases List.mem_cons.mp h with rfl | h
    · omega
    · have := cnt_le_of_mem h
      rw [cnt_succ] at this
      omega
theorem cnt_le_ans {n : Nat} {an : An n} : ∀ {q : Qn n}, an ∈ q → cnt n an.2.2 ≤ cntQ n q
  | [], h => absurd h List.not_mem_nil
  | x :: r, h => by
    unfold cntQ
    rw [List.map_cons, List.sum_cons]
    rcases List.mem_cons.mp h with rfl | h
    · omega
    · have := cnt_le_ans h
      unfold cntQ at this
      omega
theorem cnt_take_le {n : Nat} (qs : List (Qn n)) (i : Nat) : cnt (n + 1) (qs.take i : List (Qn n)) ≤ cnt (n + 1) qs := by
  have e : cnt (n + 1) (qs.take i ++ qs.drop i : List (Qn n)) = cnt (n + 1) (qs.take i : List (Qn n)) + cnt (n + 1) (qs.drop i : List (Qn n)) := by
    rw [cnt_succ, cnt_succ, cnt_succ, List.map_append, List.sum_append]
  rw [List.take_append_drop] at e
  omega
section
variable {P : Program} {w : World} {K : PySem.W.Frag} {mg : Str → Option Value} {base : Heap} {aN aO : Addr} {t1 t2 t3 t4 t5 t6 t7 : Tok}
theorem ok_rounds_in {f : Addr} {fd : FuncData} (D : Dn K mg "rounds_in" s_rounds_in ["node"] f fd) (B : Blt mg) : ∀ n : Nat, FnOk P w K mg base CX0 (1 + n) f fd ["node"] (spRnd K n) := by
  intro n
  obtain ⟨sp0, G_rounds_in, hsp⟩ : ∃ sp0, FnOk P w K mg base CX0 n f fd ["node"] sp0 ∧ (∀ m, n = m + 1 → sp0 = spRnd K m) := by
    cases n with
    | zero => exact ⟨fun _ _ _ _ => False, ⟨fun vs H Q E h => h.elim, fun A outer s H args us vs Q E _ _ _ _ h => h.elim⟩, fun m e => by omega⟩
    | succ m =>
      have G := ok_rounds_in D B m
      rw [show 1 + m = m + 1 by omega] at G
      exact ⟨_, G, fun m' e => by rw [show m' = m by omega]⟩
  rw [show 1 + n = n + 1 by omega]
  refine D.F.ok sc_rounds_in (fun vs H Q E h => ?_) (fun cdv A outer s H vs Q E hr h => ?_)
  · obtain ⟨v, t, rfl, _⟩ := h
    rfl
  obtain ⟨v, t, rfl, hv, hc, q⟩ := h
  have nd := sc_rounds_in.nd
  have D_rounds_in := D
  refine ⟨_, (pss_one (ps_ret (pe_callBK (k_maxDf (K := K) rfl rfl hr.units) (by rfl) B.max (by decide +kernel) (pa_cons (pe_lc2 (own := [("question", 1), ("answer", 2)]) (vs1 := [2]) rfl nd (k_iT (K := K) rfl (pv 0)) (blkOk_by (own := [("question", 1), ("answer", 2)]) (by kernel_rfl)) (by decide) (fun _ _ _ _ _ => (pg_name (i := 1) nd rfl (.inl rfl))) (fun _ _ _ _ _ => pts_nil) (fun _ _ _ _ _ => (k_iT (K := K) rfl (pv 1))) (fun _ _ _ _ _ => (pg_name (i := 2) nd rfl (.inl rfl))) (fun _ _ _ _ _ => pts_nil) (fun _ _ _ _ _ => (pe_op op_add pe_int (pe_call G_rounds_in (hr.mono (by omega)) (by rfl) D_rounds_in.m D_rounds_in.F.kp D_rounds_in.b .nil pass0 (pa_cons (pe_ix (k_ixT (K := K) rfl) (pv 2) pe_int (fun _ _ => rfl)) pa_nil))))) pa_nil) (pk_cons pe_int pk_nil)))), ?_⟩
  obtain ⟨a, xs, ds, rfl, ha, ed, ta, l0⟩ := td_qs hv
  refine ⟨_, rfl, a, rfl, ⟨_, ha⟩, fun T hT => ?_⟩
  refine lc2_it (walk_tup (K := K) (a := a) (xs := xs)) (fun i H2 => ∃ ns : List Int, H2 T = some (.lst (ns.map V.int)) ∧ (∀ y ∈ ns, 0 ≤ y ∧ y ≤ (n : Int)) ∧ (∀ m, n = m + 1 → ∃ qs : List (Qn m), HEq t qs ∧ ns.length ≤ cnt (m + 1) (qs.take i : List (Qn m))) ∧ Same H H2) ⟨[], upd_same, fun y h => absurd h List.not_mem_nil, fun m e => by subst e; exact ⟨t, HEq.rfl, Nat.zero_le _⟩, same_upd hT⟩ (fun i H2 _ h => ?_) ?_ ?_ ?_ ?_ ?_
  · obtain ⟨_, _, _, _, s2⟩ := h
    exact Same.kt s2 _ _ ha
  · rintro i x H0 H2 hi ⟨ns, h2, b2, l2, s2⟩ ⟨rfl, e1⟩
    cases n with
    | zero =>
      have := l0 rfl
      subst this
      exact absurd hi (Nat.not_lt_zero _)
    | succ n =>
      have hsp := hsp n rfl
      subst hsp
      obtain ⟨qs', hq', l2⟩ := l2 n rfl
      obtain ⟨qs0, hq0⟩ : ∃ qs0 : List (Qn n), (qs0 : Nd (n + 1)) = t := ⟨t, rfl⟩
      subst hq0
      cases ed
      have hq2 := eq_of_heq hq'
      subst hq2
      obtain ⟨dx, ex, tx⟩ := ta.getV e1
      obtain ⟨qn, eq0, rfl⟩ := map_at ex
      have eq : qs0[i]? = some qn := eq0
      obtain ⟨b, ys, rfl, hb, tb⟩ := id tx.tupE
      have ly : ys.length = qn.length := by rw [tb.len, List.length_map]
      refine ⟨rfl, ?_⟩
      refine iteT (B := ∃ ns : List Int, H2 T = some (.lst (ns.map V.int)) ∧ (∀ y ∈ ns, 0 ≤ y ∧ y ≤ ((n + 1 : Nat) : Int)) ∧ (∀ m, n + 1 = m + 1 → ∃ qs : List (Qn m), HEq qs0 qs ∧ ns.length ≤ cnt (m + 1) (qs.take (i + 1) : List (Qn m))) ∧ Same H H2) ?_
      refine ⟨_, rfl, b, rfl, ⟨_, Same.kt s2 _ _ hb⟩, ?_⟩
      refine ⟨_, _, _, fun j H3 => ∃ ns : List Int, H3 T = some (.lst (ns.map V.int)) ∧ (∀ y ∈ ns, 0 ≤ y ∧ y ≤ ((n + 1 : Nat) : Int)) ∧ ns.length ≤ cnt (n + 1) (qs0.take i : List (Qn n)) + j ∧ Same H H3, walk_tup (K := K) (a := b) (xs := ys), ⟨ns, h2, b2, l2, s2⟩, fun j H3 _ h => ?_, ?_, ?_⟩
      · obtain ⟨_, _, _, _, s3⟩ := h
        exact Same.kt s3 _ _ hb
      · rintro H3 ⟨ns3, h3, b3, l3, s3⟩
        refine ⟨ns3, h3, b3, fun m e => ?_, s3⟩
        cases e
        refine ⟨qs0, HEq.rfl, ?_⟩
        rw [cnt_take n qs0 i qn eq]
        have := cntQ_len n qn
        omega
      · rintro j y H0 H3 hj ⟨ns3, h3, b3, l3, s3⟩ ⟨rfl, e2⟩
        obtain ⟨dy, ey, ty⟩ := tb.getV e2
        obtain ⟨an, ea, rfl⟩ := map_at ey
        obtain ⟨p, zs, rfl, hp, tp⟩ := id ty.tupE
        obtain ⟨vt, et, tt⟩ := tp.get (i := 2) rfl
        refine ⟨rfl, ?_⟩
        refine iteT (B := ∃ ns : List Int, H3 T = some (.lst (ns.map V.int)) ∧ (∀ y ∈ ns, 0 ≤ y ∧ y ≤ ((n + 1 : Nat) : Int)) ∧ ns.length ≤ cnt (n + 1) (qs0.take i : List (Qn n)) + (j + 1) ∧ Same H H3) ?_
        have hc2 : cnt n an.2.2 ≤ 10000 := Nat.le_trans (Nat.le_trans (cnt_le_ans (List.mem_of_getElem? ea)) (cnt_le_of_mem (List.mem_of_getElem? eq))) hc
        refine ⟨_, rfl, p, zs, 2, vt, rfl, rfl, Same.kt s3 _ _ hp, at_of (j := 2) rfl et, vt, an.2.2, rfl, tt.keep (Same.kt s3), hc2, fun r H4 r0 r1 s4 => ⟨_, _, rfl, rfl, ?_⟩⟩
        refine ⟨_, s4 _ _ h3, ?_, ns3 ++ [1 + r], ?_, ?_, ?_, fun c o z => ?_⟩
        · rw [List.length_map]
          have := cnt_take_le qs0 i
          have hjl : j < 13000 := by
            have e5 := cntQ_len n qn
            have e6 : cntQ n qn ≤ cnt (n + 1) qs0 := cnt_le_of_mem (List.mem_of_getElem? eq)
            rw [ly] at hj
            exact Nat.lt_of_lt_of_le hj (by omega)
          show ns3.length < sizeLine
          rw [sizeLine_eq]
          omega
        · rw [upd_same, List.map_append]
          rfl
        · intro z hz
          rcases List.mem_append.mp hz with h | h
          · exact b3 z h
          · rw [List.mem_singleton.mp h]
            omega
        · rw [List.length_append]
          show ns3.length + 1 ≤ _
          omega
        · rw [upd_ne (ne_of_none z hT)]
          exact s4 _ _ (s3 _ _ z)
  · rintro H2 ⟨ns, h2, b2, l2, s2⟩
    obtain ⟨m0, m1⟩ := top_le (n := (n : Int)) (by omega) ns b2
    exact ⟨T, ns, 0, rfl, rfl, SqL.of h2, q _ H2 m0 m1 s2⟩
  · intro x σ H Q Q' h z
    exact h _ _ z
  · intro σ H Q Q' h z
    exact h _ _ z
  · rintro σ H Q Q' h ⟨x, hx, a', e', z1, z2⟩
    exact ⟨x, hx, a', e', z1, h _ _ z2⟩
end
end Tl
namespace Tl
open PySem PySem.Spec PyProof.Rows L2 RZ
/-- a method as it stands behind the top -/
structure Dm (K : PySem.W.Frag) (x q : Str) (st : Stmt) (ps : List Str) (f : Addr) (fd : FuncData) : Prop where
  F : Fun K x q st f fd
  b : Binds K fd ps []
/-- the class House -/
structure Hcl (K : PySem.W.Frag) (mg : Str → Option Value) (C fi fe : Addr) : Prop where
  cl : Cls K C
  nw : NoAttr K C "worlds"
  nt : NoAttr K C "tree"
  mkH : Mk K C fi
  eq : PySem.W.findIn K (.ref C) "__eq__" = some (some (.ref fe))
  eqf : PySem.W.isFn K (.ref fe) = true
  gHouse : mg "House" = some (.ref C)
  ha : PySem.W.findIn K (.ref C) "__class__" = some (some (.builtin "object.__class__"))
  hn : PySem.W.specialIn K (.builtin "object.__class__") "__get__" = some (some (.builtin "getset_descriptor.__get__"))
  htk : PySem.W.takesIn K (.builtin "object.__class__") = some true
  hm : PySem.W.mroIn K C (.type "object") = some true
def hf (W : Nat) (v : V) : List (Str × V) := putF "tree" v (putF "worlds" (.int (W : Int)) [])
theorem wt : ¬ (("worlds" : Str) = "tree") := by decide +kernel
theorem hf_eq (W : Nat) (v : V) : hf W v = ([("worlds", .int (W : Int)), ("tree", v)] : List (Str × V)) := by
  show (if ("worlds" : Str) = "tree" then [(("worlds" : Str), v)] else (("worlds" : Str), V.int (W : Int)) :: putF "tree" v []) = ([("worlds", V.int (W : Int)), ("tree", v)] : List (Str × V))
  rw [if_neg wt]
  all_goals rfl
theorem hf_w (W : Nat) (v : V) : (hf W v).lookup ("worlds" : Str) = some (.int (W : Int)) := by
  unfold hf
  rw [lookup_putF, if_neg wt, lookup_putF, if_pos rfl]
theorem hf_t (W : Nat) (v : V) : (hf W v).lookup ("tree" : Str) = some v := by
  unfold hf
  rw [lookup_putF, if_pos rfl]
theorem hf_putw (W : Nat) (v : V) (W' : Nat) : putF "worlds" (.int (W' : Int)) (hf W v) = hf W' v := by
  rw [hf_eq, hf_eq]
  show (if ("worlds" : Str) = "worlds" then (("worlds" : Str), V.int (W' : Int)) :: [(("tree" : Str), v)] else _) = _
  rw [if_pos rfl]
theorem hf_putt (W : Nat) (v v' : V) : putF "tree" v' (hf W v) = hf W v' := by
  rw [hf_eq, hf_eq]
  show (if ("worlds" : Str) = "tree" then _ else (("worlds" : Str), V.int (W : Int)) :: (if ("tree" : Str) = "tree" then [(("tree" : Str), v')] else _)) = _
  rw [if_neg wt, if_pos rfl]
/-- a house of W worlds stands at p, its tree is v -/
def HouseAt (C : Addr) (H : Hp) (p : Addr) (W : Nat) (v : V) : Prop := ∃ dx, H p = some (.ins C dx (hf W v))
theorem HouseAt.keep {C p : Addr} {H H' : Hp} {W : Nat} {v : V} (h : HouseAt C H p W v) (s : Same H H') : HouseAt C H' p W v := let ⟨dx, e⟩ := h; ⟨dx, s _ _ e⟩
/-- the tree of a right house -/
structure TreeOk (K : PySem.W.Frag) (H : Hp) (W n : Nat) (v : V) (t : Nd n) : Prop where
  td : Td K H v (ndD n t)
  ok : NdOk W n (ones W) t
  few : cnt n t ≤ 1500
  deep : n ≤ 8
  w1 : 1 ≤ W
  w5 : W ≤ 5
def spCkT (K : PySem.W.Frag) (n : Nat) : Sp := fun vs H Q _ => ∃ (W : Nat) (v : V) (t : Nd n), vs = [.int (W : Int), v] ∧ TreeOk K H W n v t ∧ ∀ H', Same H H' → Q .non H'
def spInit (K : PySem.W.Frag) (C : Addr) (n : Nat) : Sp := fun vs H Q _ => ∃ (p dx : Addr) (W : Nat) (v : V) (t : Nd n), vs = [.ref p, .int (W : Int), v] ∧ H p = some (.ins C dx []) ∧ TreeOk K H W n v t ∧ ∀ H', H' p = some (.ins C dx (hf W v)) → (∀ b o, H b = some o → b ≠ p → H' b = some o) → Q .non H'
def spMade (K : PySem.W.Frag) (C : Addr) (n : Nat) : Sp := fun vs H Q _ => ∃ (W : Nat) (v : V) (t : Nd n), vs = [.int (W : Int), v] ∧ Td K H v (ndD n t) ∧ n ≤ 12 ∧ cnt n t ≤ 3000 ∧ ∀ p H', Same H H' → HouseAt C H' p W v → Q (.ref p) H'
/-- two houses of equal worlds and trees -/
def HEq2 (K : PySem.W.Frag) (C : Addr) : Addr → Addr → Hp → Prop := fun a b H => ∃ (W : Nat) (v v' : V) (d : PyData) (k : Nat), HouseAt C H a W v ∧ HouseAt C H b W v' ∧ Td K H v d ∧ Td K H v' d ∧ Good k d ∧ k ≤ 64
section
variable {P : Program} {w : World} {K : PySem.W.Frag} {mg : Str → Option Value} {base : Heap} {aN aO : Addr} {t1 t2 t3 t4 t5 t6 t7 : Tok}
/-- both judges, by the rounds -/
theorem ok_checks {f1 f2 f3 f4 f5 f6 f7 f8 f9 g1 g2 g3 : Addr} {fd1 fd2 fd3 fd4 fd5 fd6 fd7 fd8 fd9 gd1 gd2 gd3 : FuncData} (B : Blt mg) (C : Cst K mg aN aO t1 t2 t3 t4 t5 t6 t7) (D_check_node : Dn K mg "check_node" s_check_node ["node", "place", "ahead"] f1 fd1) (D_check_question : Dn K mg "check_question" s_check_question ["question", "place", "ahead"] f2 fd2)
    (D_is_answer : Dn K mg "is_answer" s_is_answer ["thing", "worlds"] f3 fd3) (D_is_ascending : Dn K mg "is_ascending" s_is_ascending ["rows"] f4 fd4) (D_total_weights : Dn K mg "total_weights" s_total_weights ["rows", "worlds"] f5 fd5)
    (D_is_number : Dn K mg "is_number" s_is_number ["thing", "least", "most"] f6 fd6) (D_is_integral : Dn K mg "is_integral" s_is_integral ["thing"] f7 fd7) (D_is_word : Dn K mg "is_word" s_is_word ["thing"] f8 fd8) (D_is_fraction : Dn K mg "is_fraction" s_is_fraction ["thing"] f9 fd9) (D_is_chance : Dn K mg "is_chance" s_is_chance ["thing"] g1 gd1)
    (D_reduced : Dn K mg "reduced" s_reduced ["top", "bottom"] g2 gd2) (D_added : DTot K mg g3 gd3) {h1 h2 : Addr} {hd1 hd2 : FuncData} (D_total : Dn K mg "total" s_total ["fractions"] h1 hd1) (D_are_chances : Dn K mg "are_chances" s_are_chances ["thing", "many"] h2 hd2) :
    ∀ n : Nat, FnOk P w K mg base CX0 (5 + 2 * n) f2 fd2 ["question", "place", "ahead"] (spCkQ K n) ∧ FnOk P w K mg base CX0 (6 + 2 * n) f1 fd1 ["node", "place", "ahead"] (spCkN K n)
  | 0 => by
    have h0 : FnOk P w K mg base CX0 (5 + 2 * 0) f2 fd2 ["question", "place", "ahead"] (spCkQ K 0) := ⟨fun vs H Q E h => h.elim, fun A outer s H args us vs Q E _ _ _ _ h => h.elim⟩
    exact ⟨h0, ok_check_node D_check_node B C D_check_question h0⟩
  | n + 1 => by
    have ih := ok_checks B C D_check_node D_check_question D_is_answer D_is_ascending D_total_weights D_is_number D_is_integral D_is_word D_is_fraction D_is_chance D_reduced D_added D_total D_are_chances n
    have h1 : FnOk P w K mg base CX0 (5 + 2 * (n + 1)) f2 fd2 ["question", "place", "ahead"] (spCkQ K (n + 1)) := by
      have := ok_check_question D_check_question B C D_check_node ih.2 D_is_answer (ok_is_answer D_is_answer B C D_is_number D_is_integral D_is_word D_is_fraction D_is_chance D_are_chances) D_is_ascending (ok_is_ascending D_is_ascending B) D_total_weights (ok_total_weights D_total_weights B C D_reduced D_added D_total)
      rw [show 5 + 2 * (n + 1) = 7 + 2 * n by omega]
      exact this
    exact ⟨h1, ok_check_node D_check_node B C D_check_question h1⟩
theorem ok_check_tree {n : Nat} {f f1 f2 : Addr} {fd fd1 fd2 : FuncData} (D : Dn K mg "check_tree" s_check_tree ["worlds", "tree"] f fd) (B : Blt mg) (C : Cst K mg aN aO t1 t2 t3 t4 t5 t6 t7) (D_check_node : Dn K mg "check_node" s_check_node ["node", "place", "ahead"] f1 fd1) (G_check_node : FnOk P w K mg base CX0 (6 + 2 * n) f1 fd1 ["node", "place", "ahead"] (spCkN K n))
    (D_answers_in : Dn K mg "answers_in" s_answers_in ["node"] f2 fd2) : FnOk P w K mg base CX0 (7 + 2 * n) f fd ["worlds", "tree"] (spCkT K n) := by
  have G_answers_in : FnOk P w K mg base CX0 (1 + n) f2 fd2 ["node"] (spCnt K n) := ok_answers_in D_answers_in B n
  rw [show 7 + 2 * n = (6 + 2 * n) + 1 by omega]
  refine D.F.ok sc_check_tree (fun vs H Q E h => ?_) (fun cdv A outer s H vs Q E hr h => ?_)
  · obtain ⟨W, v, t, rfl, _⟩ := h
    rfl
  obtain ⟨W, v, t, rfl, T, q⟩ := h
  have nd := sc_check_tree.nd
  refine ⟨_, (pss_cons (ps_expr (pe_call G_check_node (hr.mono (by omega)) (by rfl) D_check_node.m D_check_node.F.kp D_check_node.b .nil pass0 (pa_cons (pv 1) (pa_cons (pe_tup pa_nil) (pa_cons (pe_op (k_rep (K := K) rfl) (pe_tup (pa_cons (pe_glob (v := .ref _) rfl C.ONE rfl) pa_nil)) (pv 0)) pa_nil)))))
      (pss_one (ps_if (pt_cmpR op_gt (pe_call G_answers_in (hr.mono (by omega)) (by rfl) D_answers_in.m D_answers_in.F.kp D_answers_in.b .nil pass0 (pa_cons (pv 1) pa_nil)) (pe_glob (v := .int _) rfl C.MOST_PASSED ⟨_, rfl⟩) (nomark _)) (pss_one ps_never) pss_nil))), ?_⟩
  have w1 := T.w1
  have w5 := T.w5
  refine ⟨_, rfl, Nat.zero_le _, fun p1 n1 => ⟨(by show 1 ≤ sizeLine; decide), fun p2 n2 => ?_⟩⟩
  have s2 : Same H (upd (upd H p1 (.tup [])) p2 (.tup [.ref aO])) := (same_upd n1).trans (same_upd n2)
  refine ⟨_, rfl, p2, (W : Int), _, rfl, rfl, .inl (.inl upd_same), by simp, by omega, by omega, by simp, fun pa H3 s3 q3 => ?_⟩
  have s03 := s2.trans s3
  have tO : Td K H3 (.ref aO) (rD 1) := by
    rw [rD_one]
    exact .tup (C.tO _) (tdAll_ints [1, 1])
  refine ⟨W, 0, v, .ref pa, p1, [], ones W, t, rfl, T.td.keep (Same.kt s03), ones_td tO q3, Same.kt (((same_upd n2)).trans s3) _ _ (.inl (.inl upd_same)), rfl, by have := T.deep; omega, w1, w5, by unfold ones; rw [List.length_replicate], T.ok, fun H4 s4 => ?_⟩
  have s04 := s03.trans s4
  refine ⟨_, rfl, v, t, rfl, T.td.keep (Same.kt s04), _, _, rfl, rfl, _, rfl, ?_⟩
  have few := T.few
  rw [decide_eq_false (show ¬ (1500 : Int) < ((cnt n t : Nat) : Int) by omega)]
  exact iteF (q H4 s04)
theorem ok_House_init {n : Nat} {Cc f fe f1 f2 f3 : Addr} {fd fd1 fd2 fd3 : FuncData} (D : Dm K "__init__" "House.__init__" s_House_init ["self", "worlds", "tree"] f fd) (B : Blt mg) (C : Cst K mg aN aO t1 t2 t3 t4 t5 t6 t7) (U : Hcl K mg Cc f fe) (D_check_tree : Dn K mg "check_tree" s_check_tree ["worlds", "tree"] f1 fd1) (G_check_tree : FnOk P w K mg base CX0 (7 + 2 * n) f1 fd1 ["worlds", "tree"] (spCkT K n))
    (D_is_number : Dn K mg "is_number" s_is_number ["thing", "least", "most"] f2 fd2) (D_is_integral : Dn K mg "is_integral" s_is_integral ["thing"] f3 fd3) : FnOk P w K mg base CX0 (8 + 2 * n) f fd ["self", "worlds", "tree"] (spInit K Cc n) := by
  have G_is_number : FnOk P w K mg base CX0 2 f2 fd2 ["thing", "least", "most"] spNumber := ok_is_number D_is_number B D_is_integral
  rw [show 8 + 2 * n = (7 + 2 * n) + 1 by omega]
  refine D.F.ok sc_House_init (fun vs H Q E h => ?_) (fun cdv A outer s H vs Q E hr h => ?_)
  · obtain ⟨p, dx, W, v, t, rfl, _⟩ := h
    rfl
  obtain ⟨p, dx, W, v, t, rfl, hp, T, q⟩ := h
  have nd := sc_House_init.nd
  refine ⟨_, (pss_cons (ps_if (pt_not (pt_val (pe_call G_is_number (hr.mono (by omega)) (by rfl) D_is_number.m D_is_number.F.kp D_is_number.b .nil pass0 (pa_cons (pv 1) (pa_cons pe_int (pa_cons pe_int pa_nil)))))) (pss_one ps_never) pss_nil)
      (pss_cons (ps_expr (pe_call G_check_tree (hr.mono (by omega)) (by rfl) D_check_tree.m D_check_tree.F.kp D_check_tree.b .nil pass0 (pa_cons (pv 1) (pa_cons (pv 2) pa_nil))))
      (pss_cons (ps_fld (pv 0) (pv 1) rfl)
      (pss_one (ps_fld (pv 0) (pv 2) rfl))))), ?_⟩
  have w1 := T.w1
  have w5 := T.w5
  refine ⟨_, rfl, _, _, _, rfl, _, rfl, ?_⟩
  rw [decide_eq_true (show (1 : Int) ≤ (W : Int) by omega), decide_eq_true (show (W : Int) ≤ 5 by omega)]
  refine iteF ?_
  refine ⟨_, rfl, _, rfl, W, v, t, rfl, T, fun H1 s1 => ?_⟩
  have h1 := s1 _ _ hp
  refine ⟨_, rfl, _, rfl, p, Cc, dx, [], rfl, h1, U.cl, U.nw, (by show 0 < 1000; decide), ?_⟩
  refine ⟨_, rfl, _, rfl, p, Cc, dx, _, rfl, upd_same, U.cl, U.nt, (by show 1 < 1000; decide), ?_⟩
  exact q _ upd_same fun b o e hb => by
    rw [upd_ne hb, upd_ne hb]
    exact s1 _ _ e
theorem ok_House_eq {Cc fi f : Addr} {fd : FuncData} (D : Dm K "__eq__" "House.__eq__" s_House_eq ["self", "other"] f fd) (B : Blt mg) (U : Hcl K mg Cc fi f) : FnOk P w K mg base CX0 1 f fd ["self", "other"] (spEq (HEq2 K Cc)) := by
  refine D.F.ok sc_House_eq (fun vs H Q E h => ?_) (fun cdv A outer s H vs Q E hr h => ?_)
  · obtain ⟨a, b, rfl, _⟩ := h
    rfl
  obtain ⟨a, b, rfl, ⟨W, v, v', d, k, ⟨dx, h1⟩, ⟨dy, h2⟩, e1, e2, g, hk⟩, q⟩ := h
  have nd := sc_House_eq.nd
  refine ⟨_, (pss_one (ps_ret (pe_and (pe_callB (k_isi (K := K) rfl) (by rfl) B.isinstance (by decide +kernel) (pa_cons (pv 1) (pa_cons (pe_glob (v := .ref _) rfl U.gHouse rfl) pa_nil))) (pe_and (pe_cmpR op_eq (k_fld (K := K) rfl (pv 0) rfl) (k_fld (K := K) rfl (pv 1) rfl) (nomark _)) (pe_one (pe_cmpR (k_eqD (K := K) rfl hr.units) (k_fld (K := K) rfl (pv 0) rfl) (k_fld (K := K) rfl (pv 1) rfl) (nomark _))))))), ?_⟩
  have kk : PySem.W.kitOne K (.ref Cc) (.ref Cc) = some true := by
    unfold PySem.W.kitOne
    rw [if_pos (beq_self_eq_true _)]
  refine ⟨_, rfl, _, .ref Cc, .ref Cc, .ref Cc, true, rfl, .own Cc, .base (.ins h2 U.cl U.ha U.hn U.htk U.hm), kk, _, rfl, iteT ?_⟩
  refine ⟨_, rfl, a, Cc, dx, _, _, rfl, h1, U.cl, U.nw, hf_w _ _, _, rfl, b, Cc, dy, _, _, rfl, h2, U.cl, U.nw, hf_w _ _, rfl, _, rfl, ?_⟩
  rw [decide_eq_true rfl]
  refine iteT ?_
  refine ⟨_, rfl, a, Cc, dx, _, _, rfl, h1, U.cl, U.nt, hf_t _ _, _, rfl, b, Cc, dy, _, _, rfl, h2, U.cl, U.nt, hf_t _ _, d, d, e1.dp, e2.dp, g.shaped hk, g.shaped hk, ?_⟩
  rw [g.refl]
  exact q H Ext.rfl'
end
end Tl
namespace Tl
open PySem PySem.Spec PyProof.Rows L2 RZ
/-! the house without hopeless answers -/
def hope : (n : Nat) → Nd n → Nd n
  | 0, t => t
  | n + 1, qs => (show List (Qn n) from qs).map fun q => (q.filter fun a => !isZ a.2.1).map fun a => (a.1, a.2.1, hope n a.2.2)
def hopeA (n : Nat) (a : An n) : An n := (a.1, a.2.1, hope n a.2.2)
def hopeQ (n : Nat) (q : Qn n) : Qn n := (q.filter fun a => !isZ a.2.1).map (hopeA n)
theorem hope_succ (n : Nat) (qs : List (Qn n)) : hope (n + 1) qs = (qs.map (hopeQ n) : List (Qn n)) := rfl
theorem cntQ_nil (n : Nat) : cntQ n [] = 0 := rfl
theorem cntQ_cons (n : Nat) (a : An n) (q : Qn n) : cntQ n (a :: q) = 1 + cnt n a.2.2 + cntQ n q := rfl
theorem cnt_cons (n : Nat) (q : Qn n) (qs : List (Qn n)) : cnt (n + 1) (q :: qs : List (Qn n)) = cntQ n q + cnt (n + 1) qs := rfl
theorem hopeQ_cons (n : Nat) (a : An n) (q : Qn n) : hopeQ n (a :: q) = if isZ a.2.1 = true then hopeQ n q else hopeA n a :: hopeQ n q := by
  unfold hopeQ
  rw [List.filter_cons]
  cases isZ a.2.1 <;> rfl
theorem cnt_hope : ∀ (n : Nat) (t : Nd n), cnt n (hope n t) ≤ cnt n t
  | 0, _ => Nat.le_refl _
  | n + 1, qs => by
    have hq : ∀ q : Qn n, cntQ n (hopeQ n q) ≤ cntQ n q := by
      intro q
      induction q with
      | nil => exact Nat.le_refl _
      | cons a r ih =>
        rw [hopeQ_cons, cntQ_cons]
        have := cnt_hope n a.2.2
        split
        · omega
        · rw [cntQ_cons]
          show 1 + cnt n (hope n a.2.2) + _ ≤ _
          omega
    have all : ∀ l : List (Qn n), cnt (n + 1) (l.map (hopeQ n) : List (Qn n)) ≤ cnt (n + 1) l := by
      intro l
      induction l with
      | nil => exact Nat.le_refl _
      | cons q r ih =>
        have := hq q
        rw [List.map_cons, cnt_cons, cnt_cons]
        omega
    exact all qs
theorem isZ_false {ws : List Rat} (h : isZ ws = true) {j : Nat} : ws.getD j 0 = 0 := by
  by_cases hj : j < ws.length
  · rw [getD_of (List.getElem?_eq_getElem hj)]
    unfold isZ at h
    exact of_decide_eq_true (List.all_eq_true.mp h _ (List.getElem_mem hj))
  · rw [List.getD_eq_getElem?_getD, List.getElem?_eq_none (by omega)]
    rfl
theorem isZ_of {W : Nat} {ws : List Rat} (hl : ws.length = W) (h : ∀ j, j < W → ws.getD j 0 = 0) : isZ ws = true := by
  unfold isZ
  refine List.all_eq_true.mpr fun x hx => ?_
  obtain ⟨j, hj, rfl⟩ := List.getElem_of_mem hx
  have := h j (by omega)
  rw [getD_of (List.getElem?_eq_getElem hj)] at this
  exact decide_eq_true this
theorem fsum_zero : ∀ l : List Rat, (∀ x ∈ l, x = 0) → fsum l = 0
  | [], _ => rfl
  | x :: r, h => by
    rw [fsum_cons, h x (List.mem_cons_self ..), fsum_zero r fun y hy => h y (List.mem_cons_of_mem _ hy), Rat.zero_add]
theorem col_cons {n : Nat} (a : An n) (q : Qn n) (j : Nat) : col (a :: q) j = a.2.1.getD j 0 :: col q j := rfl
theorem hope_sub {n : Nat} (j : Nat) (q : Qn n) : ∀ r ∈ col (hopeQ n q) j, r ∈ col q j := by
  intro r hr
  unfold col hopeQ at hr
  rw [List.map_map] at hr
  obtain ⟨a, ha, rfl⟩ := List.mem_map.mp hr
  exact List.mem_map.mpr ⟨a, (List.mem_filter.mp ha).1, rfl⟩
theorem hope_whole {n : Nat} (j : Nat) : ∀ q : Qn n, fsum (col (hopeQ n q) j) = fsum (col q j)
  | [] => rfl
  | a :: q => by
    rw [hopeQ_cons]
    by_cases h : isZ a.2.1 = true
    · rw [if_pos h, hope_whole j q, col_cons, fsum_cons, isZ_false h, Rat.zero_add]
    · rw [if_neg h, col_cons, col_cons, fsum_cons, fsum_cons, hope_whole j q]
      rfl
theorem lex_trans : ∀ {a b c : List Int}, HT.lexLt a b = true → HT.lexLt b c = true → HT.lexLt a c = true
  | [], [], _, h, _ => by cases h
  | [], _ :: _, [], _, h => by cases h
  | [], _ :: _, _ :: _, _, _ => rfl
  | _ :: _, [], _, h, _ => by cases h
  | _ :: _, _ :: _, [], _, h => by cases h
  | x :: xs, y :: ys, z :: zs, h1, h2 => by
    unfold HT.lexLt at h1 h2 ⊢
    by_cases e1 : x = y
    · subst e1
      rw [if_pos rfl] at h1
      by_cases e2 : x = z
      · subst e2
        rw [if_pos rfl] at h2 ⊢
        exact lex_trans h1 h2
      · rw [if_neg e2] at h2 ⊢
        exact h2
    · rw [if_neg e1] at h1
      have l1 := of_decide_eq_true h1
      by_cases e2 : y = z
      · subst e2
        rw [if_neg (by omega)]
        exact h1
      · rw [if_neg e2] at h2
        have l2 := of_decide_eq_true h2
        rw [if_neg (by omega)]
        exact decide_eq_true (by omega)
def AscP {n : Nat} (q : Qn n) : Prop := q.Pairwise fun x y => HT.lexLt x.1 y.1 = true
theorem asc_pair {n : Nat} : ∀ {q : Qn n}, (∀ i (x y : An n), q[i]? = some x → q[i + 1]? = some y → HT.lexLt x.1 y.1 = true) → AscP q
  | [], _ => List.Pairwise.nil
  | [a], _ => List.pairwise_singleton _ _
  | a :: b :: r, h => by
    have ih : AscP (b :: r) := asc_pair fun i x y hx hy => h (i + 1) x y hx hy
    have ab := h 0 a b rfl rfl
    refine List.Pairwise.cons (fun z hz => ?_) ih
    rcases List.mem_cons.mp hz with rfl | hz
    · exact ab
    · exact lex_trans ab (List.rel_of_pairwise_cons ih hz)
theorem pair_asc {n : Nat} {q : Qn n} (h : AscP q) (i : Nat) (x y : An n) (hx : q[i]? = some x) (hy : q[i + 1]? = some y) : HT.lexLt x.1 y.1 = true := by
  have h1 := (List.getElem?_eq_some_iff.mp hx)
  have h2 := (List.getElem?_eq_some_iff.mp hy)
  obtain ⟨l1, e1⟩ := h1
  obtain ⟨l2, e2⟩ := h2
  have := (List.pairwise_iff_getElem.mp h) i (i + 1) l1 l2 (by omega)
  rw [e1, e2] at this
  exact this
theorem hope_asc {n : Nat} {q : Qn n} (h : AscP q) : AscP (hopeQ n q) := by
  unfold AscP hopeQ
  rw [List.pairwise_map]
  exact List.Pairwise.filter _ h
theorem hope_ok : ∀ {W n : Nat} {ahead : List Rat} {t : Nd n}, ahead.length = W → isZ ahead = false → NdOk W n ahead t → NdOk W n ahead (hope n t)
  | _, 0, _, _, _, _, _ => trivial
  | W, n + 1, ahead, qs, hl, hz, h => by
    refine ⟨?_, ?_⟩
    · show (List.map _ _).length ≤ 5
      rw [List.length_map]
      exact h.1
    · intro q' hq'
      obtain ⟨q, hq, rfl⟩ := List.mem_map.mp hq'
      obtain ⟨ok, nok⟩ := h.2 q hq
      have mem : ∀ a' ∈ hopeQ n q, ∃ a ∈ q, isZ a.2.1 = false ∧ a' = hopeA n a := by
        intro a' ha'
        unfold hopeQ at ha'
        obtain ⟨a, ha, rfl⟩ := List.mem_map.mp ha'
        obtain ⟨h1, h2⟩ := List.mem_filter.mp ha
        exact ⟨a, h1, by simpa using h2, rfl⟩
      refine ⟨⟨?_, ?_, ?_, ?_, ?_, ?_, ?_⟩, ?_⟩
      · show 1 ≤ (hopeQ n q).length
        cases e : hopeQ n q with
        | cons a r => simp
        | nil =>
          have : isZ ahead = true := isZ_of hl fun j hj => by
            rw [← ok.whole j hj, ← hope_whole j q, e]
            rfl
          rw [hz] at this
          cases this
      · show (hopeQ n q).length ≤ 12
        unfold hopeQ
        rw [List.length_map]
        exact Nat.le_trans (List.length_filter_le _ _) ok.most
      · intro a' ha'
        obtain ⟨a, h1, h2, rfl⟩ := mem a' ha'
        exact ok.words a h1
      · exact fun i x y => pair_asc (hope_asc (asc_pair ok.asc)) i x y
      · intro a' ha'
        obtain ⟨a, h1, h2, rfl⟩ := mem a' ha'
        exact ok.wide a h1
      · intro a' ha'
        obtain ⟨a, h1, h2, rfl⟩ := mem a' ha'
        exact ok.chs a h1
      · intro j hj
        show fsum (col (hopeQ n q) j) = _
        rw [hope_whole]
        exact ok.whole j hj
      · intro a' ha'
        obtain ⟨a, h1, h2, rfl⟩ := mem a' ha'
        exact hope_ok (ok.wide a h1) h2 (nok a h1)
theorem ones_not {W : Nat} (h : 1 ≤ W) : isZ (ones W) = false := by
  cases W with
  | zero => omega
  | succ W =>
    unfold isZ ones
    rw [List.replicate_succ, List.all_cons]
    rfl
/-- without hopeless answers once more -/
theorem hope_hope : ∀ (n : Nat) (t : Nd n), hope n (hope n t) = hope n t
  | 0, _ => rfl
  | n + 1, qs => by
    have hq : ∀ q : Qn n, hopeQ n (hopeQ n q) = hopeQ n q := by
      intro q
      induction q with
      | nil => rfl
      | cons a r ih =>
        rw [hopeQ_cons]
        by_cases h : isZ a.2.1 = true
        · rw [if_pos h, ih]
        · rw [if_neg h, hopeQ_cons]
          have h2 : ¬ isZ (hopeA n a).2.1 = true := h
          rw [if_neg h2, ih]
          have e : hopeA n (hopeA n a) = hopeA n a := by
            unfold hopeA
            rw [hope_hope n a.2.2]
          rw [e]
    have all : ∀ l : List (Qn n), (l.map (hopeQ n)).map (hopeQ n) = l.map (hopeQ n) := by
      intro l
      rw [List.map_map]
      exact List.map_congr_left fun q _ => hq q
    exact all qs
end Tl
namespace Tl
open PySem PySem.Spec PyProof.Rows L2 RZ
def spHope (K : PySem.W.Frag) (n : Nat) : Sp := fun vs H Q _ => ∃ (W : Nat) (v : V) (ahead : List Rat) (t : Nd n), vs = [v] ∧ Td K H v (ndD n t) ∧ NdOk W n ahead t ∧ W ≤ 5 ∧ ∀ v' H', Same H H' → Td K H' v' (ndD n (hope n t)) → Q v' H'
theorem hopeQ_snoc {n : Nat} (q : Qn n) (i : Nat) (an : An n) (h : q[i]? = some an) : hopeQ n (q.take (i + 1)) = hopeQ n (q.take i) ++ (if isZ an.2.1 = true then [] else [hopeA n an]) := by
  unfold hopeQ
  rw [List.take_add_one, h, List.filter_append, List.map_append]
  congr 1
  show List.map (hopeA n) (List.filter _ [an]) = _
  rw [List.filter_cons]
  cases isZ an.2.1 <;> rfl
theorem hopeQ_len {n : Nat} (q : Qn n) : (hopeQ n q).length ≤ q.length := by
  unfold hopeQ
  rw [List.length_map]
  exact List.length_filter_le _ _
/-- an answer at its place -/
theorem td_an {K : PySem.W.Frag} {H : Hp} {n : Nat} {an : An n} {v : V} (h : Td K H v (anD n an)) : ∃ p vw vs vt, v = .ref p ∧ SqT K H p [vw, vs, vt] ∧ Td K H vw (wdD an.1) ∧ Td K H vs (wsD an.2.1) ∧ Td K H vt (ndD n an.2.2) := by
  obtain ⟨p, ys, rfl, hp, tp⟩ := id h.tupE
  cases tp with
  | cons h1 tp => cases tp with
    | cons h2 tp => cases tp with
      | cons h3 tp =>
        cases tp
        exact ⟨p, _, _, _, rfl, hp, h1, h2, h3⟩
section
variable {P : Program} {w : World} {K : PySem.W.Frag} {mg : Str → Option Value} {base : Heap} {aN aO : Addr} {t1 t2 t3 t4 t5 t6 t7 : Tok}
theorem ok_hopeful_node {f f1 : Addr} {fd fd1 : FuncData} (D : Dn K mg "hopeful_node" s_hopeful_node ["node"] f fd) (B : Blt mg) (C : Cst K mg aN aO t1 t2 t3 t4 t5 t6 t7) (D_are_nought : Dn K mg "are_nought" s_are_nought ["weights"] f1 fd1) : ∀ n : Nat, FnOk P w K mg base CX0 (2 + n) f fd ["node"] (spHope K n) := by
  intro n
  have G_are_nought : FnOk P w K mg base CX0 1 f1 fd1 ["weights"] (spNought K) := ok_are_nought D_are_nought B C
  obtain ⟨sp0, G_hopeful_node, hsp⟩ : ∃ sp0, FnOk P w K mg base CX0 (1 + n) f fd ["node"] sp0 ∧ (∀ m, n = m + 1 → sp0 = spHope K m) := by
    cases n with
    | zero => exact ⟨fun _ _ _ _ => False, ⟨fun vs H Q E h => h.elim, fun A outer s H args us vs Q E _ _ _ _ h => h.elim⟩, fun m e => by omega⟩
    | succ m =>
      have G := ok_hopeful_node D B C D_are_nought m
      rw [show 2 + m = 1 + (m + 1) by omega] at G
      exact ⟨_, G, fun m' e => by rw [show m' = m by omega]⟩
  rw [show 2 + n = (1 + n) + 1 by omega]
  refine D.F.ok sc_hopeful_node (fun vs H Q E h => ?_) (fun cdv A outer s H vs Q E hr h => ?_)
  · obtain ⟨W, v, ahead, t, rfl, _⟩ := h
    rfl
  obtain ⟨W, v, ahead, t, rfl, hv, hok, hW, q⟩ := h
  have nd := sc_hopeful_node.nd
  have D_hopeful_node := D
  refine ⟨_, (pss_one (ps_ret (pe_callTy (k_tupOf (K := K) rfl) (by rfl) B.tuple (by decide +kernel) (pa_cons (pe_lc (own := [("question", 4)]) rfl nd (k_iT (K := K) rfl (pv 0)) (blkOk_by (own := [("question", 4)]) (by kernel_rfl)) (fun _ _ _ _ _ => (pg_name (i := 4) nd rfl (.inl rfl))) (fun _ _ _ _ _ => pts_nil) (fun _ _ _ _ _ => (pe_callTy (k_tupOf (K := K) rfl) (by rfl) B.tuple (by decide +kernel) (pa_cons (pe_lc (own := [("word", 1), ("weights", 2), ("behind", 3)]) rfl nd (k_iT (K := K) rfl (pv 4)) (blkOk_by (own := [("word", 1), ("weights", 2), ("behind", 3)]) (by kernel_rfl)) (fun _ _ _ _ _ => (k_tup (K := K) (n := 3) rfl rfl (pgs_cons (pg_name (i := 1) nd rfl (.inl rfl)) (pgs_cons (pg_name (i := 2) nd rfl (.inl rfl)) (pgs_cons (pg_name (i := 3) nd rfl (.inl rfl)) pgs_nil))))) (fun _ _ _ _ _ => pts_one (pt_not (pt_val (pe_call G_are_nought (hr.mono (by omega)) (by rfl) D_are_nought.m D_are_nought.F.kp D_are_nought.b .nil pass0 (pa_cons (pv 2) pa_nil))))) (fun _ _ _ _ _ => (pe_tup (pa_cons (pv 1) (pa_cons (pv 2) (pa_cons (pe_call G_hopeful_node (hr.mono (by omega)) (by rfl) D_hopeful_node.m D_hopeful_node.F.kp D_hopeful_node.b .nil pass0 (pa_cons (pv 3) pa_nil)) pa_nil)))))) pa_nil)))) pa_nil)))), ?_⟩
  obtain ⟨a, xs, ds, rfl, ha, ed, ta, l0⟩ := td_qs hv
  refine ⟨_, rfl, a, rfl, ⟨_, ha⟩, fun T hT => ?_⟩
  cases n with
  | zero =>
    have := l0 rfl
    subst this
    refine lc_it (walk_tup (K := K) (a := a) (xs := [])) (fun i H2 => H2 = upd H T (.lst [])) rfl (fun i H2 _ h => by rw [h]; exact Same.kt (same_upd hT) _ _ ha) ?_ ?_
    · rintro i x H0 H2 hi
      exact absurd hi (Nat.not_lt_zero _)
    · rintro H2 rfl
      refine ⟨T, [], rfl, SqL.of upd_same, fun l H' s' q' => q _ _ ((same_upd hT).trans s') (.tup q' .nil)⟩
  | succ n =>
    have hsp := hsp n rfl
    subst hsp
    obtain ⟨qs, hqs⟩ : ∃ qs : List (Qn n), (qs : Nd (n + 1)) = t := ⟨t, rfl⟩
    subst hqs
    cases ed
    have lx : xs.length = qs.length := by rw [ta.len, List.length_map]
    have l5 : qs.length ≤ 5 := hok.1
    refine lc_it (walk_tup (K := K) (a := a) (xs := xs)) (fun i H2 => ∃ us : List V, H2 T = some (.lst us) ∧ TdAll K H2 us ((qs.take i).map fun q => qnD n (hopeQ n q)) ∧ Same H H2) ⟨[], upd_same, .nil, same_upd hT⟩ (fun i H2 _ h => ?_) ?_ ?_
    · obtain ⟨_, _, _, s2⟩ := h
      exact Same.kt s2 _ _ ha
    · rintro i x H0 H2 hi ⟨us, h2, t2, s2⟩ ⟨rfl, e1⟩
      obtain ⟨dx, ex, tx⟩ := ta.getV e1
      obtain ⟨qn, eq, rfl⟩ := map_at ex
      obtain ⟨qok, nok⟩ := hok.2 qn (List.mem_of_getElem? eq)
      have o12 := qok.most
      obtain ⟨b, ys, rfl, hb, tb⟩ := id (tx.keep (Same.kt s2)).tupE
      have ly : ys.length = qn.length := by rw [tb.len, List.length_map]
      refine ⟨rfl, ?_⟩
      refine iteT (B := ∃ us : List V, H2 T = some (.lst us) ∧ TdAll K H2 us ((qs.take (i + 1)).map fun q => qnD n (hopeQ n q)) ∧ Same H H2) ?_
      refine ⟨_, rfl, b, rfl, ⟨_, hb⟩, fun T2 hT2 => ?_⟩
      refine lc_it (walk_tup (K := K) (a := b) (xs := ys)) (fun j H3 => ∃ vs : List V, H3 T2 = some (.lst vs) ∧ TdAll K H3 vs ((hopeQ n (qn.take j)).map (anD n)) ∧ Same H2 H3) ⟨[], upd_same, .nil, same_upd hT2⟩ (fun i H2 _ h => ?_) ?_ ?_
      · obtain ⟨_, _, _, s3⟩ := h
        exact Same.kt s3 _ _ hb
      · rintro j y H0 H3 hj ⟨vs, h3, t3, s3⟩ ⟨rfl, e2⟩
        obtain ⟨dy, ey, ty⟩ := tb.getV e2
        obtain ⟨an, ea, rfl⟩ := map_at ey
        have ma := List.mem_of_getElem? ea
        obtain ⟨p, vw, vz, vt, rfl, hp, tw, tz, tt⟩ := td_an (ty.keep (Same.kt s3))
        refine ⟨p, _, rfl, hp, rfl, _, _, rfl, _, _, rfl, _, _, rfl, rfl, rfl, ?_⟩
        refine ⟨_, rfl, vz, an.2.1, rfl, tz, by rw [qok.wide an ma]; omega, fun H4 s4 => ⟨_, rfl, ?_⟩⟩
        have e9 := hopeQ_snoc qn j an ea
        cases hz : isZ an.2.1 with
        | true =>
          rw [if_pos hz, List.append_nil] at e9
          refine iteF ?_
          refine ⟨vs, s4 _ _ h3, ?_, s3.trans s4⟩
          rw [e9]
          exact t3.keep (Same.kt s4)
        | false =>
          rw [if_neg (by rw [hz]; decide)] at e9
          refine iteT (B := ∃ vs : List V, H4 T2 = some (.lst vs) ∧ TdAll K H4 vs ((hopeQ n (qn.take (j + 1))).map (anD n)) ∧ Same H2 H4) ?_
          refine ⟨_, rfl, _, rfl, _, rfl, W, vt, an.2.1, an.2.2, rfl, tt.keep (Same.kt s4), nok an ma, hW, fun v5 H5 s5 t5 => ?_⟩
          refine ⟨by show 3 ≤ sizeLine; decide, fun p6 n6 => ?_⟩
          have s6 : Same H5 (upd H5 p6 (.tup [vw, vz, v5])) := same_upd n6
          have s36 := (s4.trans s5).trans s6
          have h6 := s36 _ _ h3
          refine ⟨vs, h6, ?_, vs ++ [.ref p6], upd_same, ?_, fun c o z => ?_⟩
          · rw [t3.len, List.length_map]
            have := hopeQ_len (qn.take j)
            rw [List.length_take] at this
            exact small1000 (by omega)
          · have kT : KT K (upd H5 p6 (.tup [vw, vz, v5])) (upd (upd H5 p6 (.tup [vw, vz, v5])) T2 (.lst (vs ++ [.ref p6]))) := KT.updL h6
            have k3 := (Same.kt s36).trans kT
            rw [e9, List.map_append]
            exact (t3.keep k3).app (.cons (.tup (kT _ _ (.inl (.inl upd_same))) (.cons (tw.keep k3) (.cons (tz.keep k3) (.cons (t5.keep ((Same.kt s6).trans kT)) .nil)))) .nil)
          · rw [upd_ne (ne_of_none z hT2)]
            exact s36 _ _ (s3 _ _ z)
      · rintro H3 ⟨vs, h3, t3, s3⟩
        rw [ly, List.take_length] at t3
        refine ⟨T2, vs, rfl, SqL.of h3, fun l H4 s4 q4 => ?_⟩
        have h4 := s4 _ _ (s3 _ _ h2)
        have kT : KT K H4 (upd H4 T (.lst (us ++ [.ref l]))) := KT.updL h4
        refine ⟨us, h4, ?_, us ++ [.ref l], upd_same, ?_, fun c o z => ?_⟩
        · rw [t2.len, List.length_map, List.length_take]
          exact small1000 (by omega)
        · rw [List.take_add_one, eq, List.map_append]
          exact (t2.keep ((Same.kt (s3.trans s4)).trans kT)).app (.cons (.tup (kT _ _ q4) (t3.keep ((Same.kt s4).trans kT))) .nil)
        · rw [upd_ne (ne_of_none z hT)]
          exact s4 _ _ (s3 _ _ (s2 _ _ z))
    · rintro H2 ⟨us, h2, t2, s2⟩
      rw [lx, List.take_length] at t2
      refine ⟨T, us, rfl, SqL.of h2, fun l H' s' q' => q _ _ (s2.trans s') (.tup q' ?_)⟩
      have e : (qs.map fun q => qnD n (hopeQ n q)) = (qs.map (hopeQ n)).map (qnD n) := by rw [List.map_map]; rfl
      rw [e] at t2
      exact t2.keep (Same.kt s')
end
end Tl
namespace Tl
open PySem PySem.Spec PyProof.Rows L2 RZ
/-- how many questions -/
def nq : (n : Nat) → Nd n → Nat
  | 0, _ => 0
  | n + 1, qs => (show List (Qn n) from qs).length
/-- answers told by their numbers and by what is behind -/
def cntd : (n : Nat) → Nd n → Nd n
  | 0, t => t
  | n + 1, qs => (show List (Qn n) from qs).map fun q => q.mapIdx fun i a => ([(i : Int), (nq n a.2.2 : Int)], a.2.1, cntd n a.2.2)
def cntdA (n : Nat) (i : Nat) (a : An n) : An n := ([(i : Int), (nq n a.2.2 : Int)], a.2.1, cntd n a.2.2)
def cntdQ (n : Nat) (q : Qn n) : Qn n := q.mapIdx (cntdA n)
theorem cntdQ_snoc {n : Nat} (q : Qn n) (i : Nat) (an : An n) (h : q[i]? = some an) : cntdQ n (q.take (i + 1)) = cntdQ n (q.take i) ++ [cntdA n i an] := by
  unfold cntdQ
  have hi := (List.getElem?_eq_some_iff.mp h).1
  rw [List.take_add_one, h]
  show List.mapIdx _ (_ ++ [an]) = _
  rw [List.mapIdx_concat, List.length_take, Nat.min_eq_left (Nat.le_of_lt hi)]
theorem cnt_cntd : ∀ (n : Nat) (t : Nd n), cnt n (cntd n t) = cnt n t
  | 0, _ => rfl
  | n + 1, qs => by
    have hq : ∀ q : Qn n, cntQ n (cntdQ n q) = cntQ n q := by
      intro q
      unfold cntQ cntdQ
      congr 1
      refine List.ext_getElem? fun i => ?_
      rw [List.getElem?_map, List.getElem?_map, List.getElem?_mapIdx]
      cases q[i]? with
      | none => rfl
      | some a =>
        show some (1 + cnt n (cntd n a.2.2)) = some (1 + cnt n a.2.2)
        rw [cnt_cntd n]
    have all : ∀ l : List (Qn n), cnt (n + 1) (l.map (cntdQ n) : List (Qn n)) = cnt (n + 1) l := by
      intro l
      induction l with
      | nil => rfl
      | cons q r ih =>
        have := hq q
        rw [List.map_cons, cnt_cons, cnt_cons]
        omega
    exact all qs
theorem nq_td {K : PySem.W.Frag} {H : Hp} {n : Nat} {t : Nd n} {v : V} (h : Td K H v (ndD n t)) : ∃ (a : Addr) (xs : List V), v = .ref a ∧ SqT K H a xs ∧ xs.length = nq n t := by
  obtain ⟨a, xs, ds, rfl, ha, ed, ta, l0⟩ := td_qs h
  refine ⟨a, xs, rfl, ha, ?_⟩
  cases n with
  | zero => rw [l0 rfl]; rfl
  | succ n =>
    cases ed
    rw [ta.len, List.length_map]
    rfl
def spCntd (K : PySem.W.Frag) (n : Nat) : Sp := fun vs H Q _ => ∃ (W : Nat) (v : V) (ahead : List Rat) (t : Nd n), vs = [v] ∧ Td K H v (ndD n t) ∧ NdOk W n ahead t ∧ ∀ v' H', Same H H' → Td K H' v' (ndD n (cntd n t)) → Q v' H'
section
variable {P : Program} {w : World} {K : PySem.W.Frag} {mg : Str → Option Value} {base : Heap} {aN aO : Addr} {t1 t2 t3 t4 t5 t6 t7 : Tok}
theorem ok_counted_node {f : Addr} {fd : FuncData} (D : Dn K mg "counted_node" s_counted_node ["node"] f fd) (B : Blt mg) : ∀ n : Nat, FnOk P w K mg base CX0 (1 + n) f fd ["node"] (spCntd K n) := by
  intro n
  obtain ⟨sp0, G_counted_node, hsp⟩ : ∃ sp0, FnOk P w K mg base CX0 n f fd ["node"] sp0 ∧ (∀ m, n = m + 1 → sp0 = spCntd K m) := by
    cases n with
    | zero => exact ⟨fun _ _ _ _ => False, ⟨fun vs H Q E h => h.elim, fun A outer s H args us vs Q E _ _ _ _ h => h.elim⟩, fun m e => by omega⟩
    | succ m =>
      have G := ok_counted_node D B m
      rw [show 1 + m = m + 1 by omega] at G
      exact ⟨_, G, fun m' e => by rw [show m' = m by omega]⟩
  rw [show 1 + n = n + 1 by omega]
  refine D.F.ok sc_counted_node (fun vs H Q E h => ?_) (fun cdv A outer s H vs Q E hr h => ?_)
  · obtain ⟨W, v, ahead, t, rfl, _⟩ := h
    rfl
  obtain ⟨W, v, ahead, t, rfl, hv, hok, q⟩ := h
  have nd := sc_counted_node.nd
  have D_counted_node := D
  refine ⟨_, (pss_one (ps_ret (pe_callTy (k_tupOf (K := K) rfl) (by rfl) B.tuple (by decide +kernel) (pa_cons (pe_lc (own := [("question", 3)]) rfl nd (k_iT (K := K) rfl (pv 0)) (blkOk_by (own := [("question", 3)]) (by kernel_rfl)) (fun _ _ _ _ _ => (pg_name (i := 3) nd rfl (.inl rfl))) (fun _ _ _ _ _ => pts_nil) (fun _ _ _ _ _ => (pe_callTy (k_tupOf (K := K) rfl) (by rfl) B.tuple (by decide +kernel) (pa_cons (pe_lc (own := [("number", 1), ("answer", 2)]) rfl nd (k_enum (K := K) rfl (by rfl) B.enumerate (pa_cons (pv 3) pa_nil)) (blkOk_by (own := [("number", 1), ("answer", 2)]) (by kernel_rfl)) (fun _ _ _ _ _ => (k_tup (K := K) (n := 2) rfl rfl (pgs_cons (pg_name (i := 1) nd rfl (.inl rfl)) (pgs_cons (pg_name (i := 2) nd rfl (.inl rfl)) pgs_nil)))) (fun _ _ _ _ _ => pts_nil) (fun _ _ _ _ _ => (pe_tup (pa_cons (pe_tup (pa_cons (pv 1) (pa_cons (pe_callB (k_len (K := K) rfl) (by rfl) B.len PySem.boot_len (pa_cons (pe_ix (k_ixT (K := K) rfl) (pv 2) pe_int (fun _ _ => rfl)) pa_nil)) pa_nil))) (pa_cons (pe_ix (k_ixT (K := K) rfl) (pv 2) pe_int (fun _ _ => rfl)) (pa_cons (pe_call G_counted_node (hr.mono (by omega)) (by rfl) D_counted_node.m D_counted_node.F.kp D_counted_node.b .nil pass0 (pa_cons (pe_ix (k_ixT (K := K) rfl) (pv 2) pe_int (fun _ _ => rfl)) pa_nil)) pa_nil)))))) pa_nil)))) pa_nil)))), ?_⟩
  obtain ⟨a, xs, ds, rfl, ha, ed, ta, l0⟩ := td_qs hv
  refine ⟨_, rfl, a, rfl, ⟨_, ha⟩, fun T hT => ?_⟩
  cases n with
  | zero =>
    have := l0 rfl
    subst this
    refine lc_it (walk_tup (K := K) (a := a) (xs := [])) (fun i H2 => H2 = upd H T (.lst [])) rfl (fun i H2 _ h => by rw [h]; exact Same.kt (same_upd hT) _ _ ha) ?_ ?_
    · rintro i x H0 H2 hi
      exact absurd hi (Nat.not_lt_zero _)
    · rintro H2 rfl
      refine ⟨T, [], rfl, SqL.of upd_same, fun l H' s' q' => q _ _ ((same_upd hT).trans s') (.tup q' .nil)⟩
  | succ n =>
    have hsp := hsp n rfl
    subst hsp
    obtain ⟨qs, hqs⟩ : ∃ qs : List (Qn n), (qs : Nd (n + 1)) = t := ⟨t, rfl⟩
    subst hqs
    cases ed
    have lx : xs.length = qs.length := by rw [ta.len, List.length_map]
    have l5 : qs.length ≤ 5 := hok.1
    refine lc_it (walk_tup (K := K) (a := a) (xs := xs)) (fun i H2 => ∃ us : List V, H2 T = some (.lst us) ∧ TdAll K H2 us ((qs.take i).map fun q => qnD n (cntdQ n q)) ∧ Same H H2) ⟨[], upd_same, .nil, same_upd hT⟩ (fun i H2 _ h => ?_) ?_ ?_
    · obtain ⟨_, _, _, s2⟩ := h
      exact Same.kt s2 _ _ ha
    · rintro i x H0 H2 hi ⟨us, h2, t2, s2⟩ ⟨rfl, e1⟩
      obtain ⟨dx, ex, tx⟩ := ta.getV e1
      obtain ⟨qn, eq, rfl⟩ := map_at ex
      obtain ⟨qok, nok⟩ := hok.2 qn (List.mem_of_getElem? eq)
      have o12 := qok.most
      obtain ⟨b, ys, rfl, hb, tb⟩ := id (tx.keep (Same.kt s2)).tupE
      have ly : ys.length = qn.length := by rw [tb.len, List.length_map]
      refine ⟨rfl, ?_⟩
      refine iteT (B := ∃ us : List V, H2 T = some (.lst us) ∧ TdAll K H2 us ((qs.take (i + 1)).map fun q => qnD n (cntdQ n q)) ∧ Same H H2) ?_
      refine ⟨_, rfl, b, ys, rfl, hb, fun T2 hT2 => ?_⟩
      refine lc_it (walk_enumT (K := K) (a := b) (xs := ys)) (fun j H3 => ∃ vs : List V, H3 T2 = some (.lst vs) ∧ TdAll K H3 vs ((cntdQ n (qn.take j)).map (anD n)) ∧ Same H2 H3) ⟨[], upd_same, .nil, same_upd hT2⟩ (fun i H2 _ h => ?_) ?_ ?_
      · obtain ⟨_, _, _, s3⟩ := h
        exact Same.kt s3 _ _ hb
      · rintro j y H0 H3 hj ⟨vs, h3, t3, s3⟩ ⟨Te, x1, x2, rfl, nT, rfl, e1, e2⟩
        cases e1
        have sE : Same H0 (upd H0 Te (.tup [.int (j : Int), x2])) := same_upd nT
        obtain ⟨dy, ey, ty⟩ := tb.getV e2
        obtain ⟨an, ea, rfl⟩ := map_at ey
        have ma := List.mem_of_getElem? ea
        obtain ⟨p, vw, vz, vt, rfl, hp, tw, tz, tt⟩ := td_an (ty.keep (Same.kt (s3.trans sE)))
        refine ⟨Te, _, rfl, .inl (.inl upd_same), rfl, _, _, rfl, _, _, rfl, rfl, rfl, ?_⟩
        refine iteT (B := ∃ vs : List V, (upd H0 Te (.tup [.int (j : Int), .ref p])) T2 = some (.lst vs) ∧ TdAll K (upd H0 Te (.tup [.int (j : Int), .ref p])) vs ((cntdQ n (qn.take (j + 1))).map (anD n)) ∧ Same H2 (upd H0 Te (.tup [.int (j : Int), .ref p]))) ?_
        obtain ⟨pa, ps, rfl, hpa, lpa⟩ := nq_td tt
        refine ⟨_, rfl, _, rfl, p, _, 2, _, rfl, rfl, hp, at_of (j := 2) rfl rfl, pa, ps, rfl, .inr hpa, (by show 2 ≤ sizeLine; decide), fun pw nw => ?_⟩
        have s4 := same_upd (o := .tup [.int (j : Int), .int ((ps.length : Nat) : Int)]) nw
        refine ⟨_, rfl, p, _, 1, vz, rfl, rfl, Same.kt s4 _ _ hp, at_of (j := 1) rfl rfl, _, rfl, p, _, 2, _, rfl, rfl, Same.kt s4 _ _ hp, at_of (j := 2) rfl rfl, W, .ref pa, an.2.1, an.2.2, rfl, tt.keep (Same.kt s4), nok an ma, fun v5 H5 s5 t5 => ?_⟩
        refine ⟨by show 3 ≤ sizeLine; decide, fun p6 n6 => ?_⟩
        have s6 : Same H5 (upd H5 p6 (.tup [.ref pw, vz, v5])) := same_upd n6
        have s46 := (s4.trans s5).trans s6
        have s36 := sE.trans s46
        have h6 := s36 _ _ h3
        refine ⟨vs, h6, ?_, vs ++ [.ref p6], upd_same, ?_, fun c o z => ?_⟩
        · rw [t3.len, List.length_map]
          unfold cntdQ
          rw [List.length_mapIdx, List.length_take]
          exact small1000 (by omega)
        · have kT : KT K (upd H5 p6 (.tup [.ref pw, vz, v5])) (upd (upd H5 p6 (.tup [.ref pw, vz, v5])) T2 (.lst (vs ++ [.ref p6]))) := KT.updL h6
          have k3 := (Same.kt s36).trans kT
          have k4 := (Same.kt s46).trans kT
          have k5 := (Same.kt (s5.trans s6)).trans kT
          rw [cntdQ_snoc qn j an ea, List.map_append]
          refine (t3.keep k3).app (.cons (.tup (kT _ _ (.inl (.inl upd_same))) (.cons ?_ (.cons (tz.keep k4) (.cons (t5.keep ((Same.kt s6).trans kT)) .nil)))) .nil)
          have tw2 : Td K (upd (upd H5 p6 (.tup [.ref pw, vz, v5])) T2 (.lst (vs ++ [.ref p6]))) (.ref pw) (wdD [(j : Int), ((ps.length : Nat) : Int)]) := .tup (k5 _ _ (.inl (.inl upd_same))) (tdAll_ints [(j : Int), ((ps.length : Nat) : Int)])
          rw [lpa] at tw2
          exact tw2
        · rw [upd_ne (ne_of_none z hT2)]
          exact s36 _ _ (s3 _ _ z)
      · rintro H3 ⟨vs, h3, t3, s3⟩
        rw [ly, List.take_length] at t3
        refine ⟨T2, vs, rfl, SqL.of h3, fun l H4 s4 q4 => ?_⟩
        have h4 := s4 _ _ (s3 _ _ h2)
        have kT : KT K H4 (upd H4 T (.lst (us ++ [.ref l]))) := KT.updL h4
        refine ⟨us, h4, ?_, us ++ [.ref l], upd_same, ?_, fun c o z => ?_⟩
        · rw [t2.len, List.length_map, List.length_take]
          exact small1000 (by omega)
        · rw [List.take_add_one, eq, List.map_append]
          exact (t2.keep ((Same.kt (s3.trans s4)).trans kT)).app (.cons (.tup (kT _ _ q4) (t3.keep ((Same.kt s4).trans kT))) .nil)
        · rw [upd_ne (ne_of_none z hT)]
          exact s4 _ _ (s3 _ _ (s2 _ _ z))
    · rintro H2 ⟨us, h2, t2, s2⟩
      rw [lx, List.take_length] at t2
      refine ⟨T, us, rfl, SqL.of h2, fun l H' s' q' => q _ _ (s2.trans s') (.tup q' ?_)⟩
      have e : (qs.map fun q => qnD n (cntdQ n q)) = (qs.map (cntdQ n)).map (qnD n) := by rw [List.map_map]; rfl
      rw [e] at t2
      exact t2.keep (Same.kt s')
end
end Tl
namespace Tl
open PySem PySem.Spec PyProof.Rows L2 RZ
section
variable {P : Program} {w : World} {K : PySem.W.Frag} {mg : Str → Option Value} {base : Heap} {aN aO : Addr} {t1 t2 t3 t4 t5 t6 t7 : Tok}
theorem ok_made_house {n : Nat} {Cc fi fe f f1 f2 : Addr} {fd fd1 fd2 fdi : FuncData} (D : Dn K mg "made_house" s_made_house ["worlds", "tree"] f fd) (B : Blt mg) (C : Cst K mg aN aO t1 t2 t3 t4 t5 t6 t7) (U : Hcl K mg Cc fi fe) (D_rounds_in : Dn K mg "rounds_in" s_rounds_in ["node"] f1 fd1) (D_answers_in : Dn K mg "answers_in" s_answers_in ["node"] f2 fd2)
    (D_House_init : Dm K "__init__" "House.__init__" s_House_init ["self", "worlds", "tree"] fi fdi) (G_House_init : FnOk P w K mg base CX0 8 fi fdi ["self", "worlds", "tree"] (spInit K Cc 0)) : FnOk P w K mg base CX0 (12 + n) f fd ["worlds", "tree"] (spMade K Cc n) := by
  have G_rounds_in : FnOk P w K mg base CX0 (1 + n) f1 fd1 ["node"] (spRnd K n) := ok_rounds_in D_rounds_in B n
  have G_answers_in : FnOk P w K mg base CX0 (1 + n) f2 fd2 ["node"] (spCnt K n) := ok_answers_in D_answers_in B n
  rw [show 12 + n = (11 + n) + 1 by omega]
  refine D.F.ok sc_made_house (fun vs H Q E h => ?_) (fun cdv A outer s H vs Q E hr h => ?_)
  · obtain ⟨W, v, t, rfl, _⟩ := h
    rfl
  obtain ⟨W, v, t, rfl, hv, hn, hc, q⟩ := h
  have nd := sc_made_house.nd
  refine ⟨_, (pss_cons (ps_if (PW.pt (pw_or (pt_cmpR op_gt (pe_call G_rounds_in (hr.mono (by omega)) (by rfl) D_rounds_in.m D_rounds_in.F.kp D_rounds_in.b .nil pass0 (pa_cons (pv 1) pa_nil)) (pe_glob (v := .int _) rfl C.MOST_ROUNDS ⟨_, rfl⟩) (nomark _)) (pw_or1 (pt_cmpR op_gt (pe_call G_answers_in (hr.mono (by omega)) (by rfl) D_answers_in.m D_answers_in.F.kp D_answers_in.b .nil pass0 (pa_cons (pv 1) pa_nil)) (pe_glob (v := .int _) rfl C.MOST_ANSWERS ⟨_, rfl⟩) (nomark _))))) (pss_one ps_never) pss_nil)
      (pss_cons (ps_set (i := 2) nd rfl (.inl rfl) (pe_make U.mkH G_House_init (hr.mono (by omega)) (by rfl) U.gHouse D_House_init.b .nil pass0 (pa_cons pe_int (pa_cons (pe_tup pa_nil) pa_nil))))
      (pss_cons (ps_fld (pv 2) (pv 0) rfl)
      (pss_cons (ps_fld (pv 2) (pv 1) rfl)
      (pss_one (ps_ret (pv 2))))))), ?_⟩
  refine ⟨_, rfl, v, t, rfl, hv, by omega, fun r H1 r0 r1 s1 => ?_⟩
  refine ⟨_, _, rfl, rfl, _, rfl, ?_⟩
  rw [decide_eq_false (show ¬ (12 : Int) < r by omega)]
  refine iteF ?_
  refine ⟨_, rfl, v, t, rfl, hv.keep (Same.kt s1), _, _, rfl, rfl, _, rfl, ?_⟩
  rw [decide_eq_false (show ¬ (3000 : Int) < ((cnt n t : Nat) : Int) by omega)]
  refine iteF ?_
  refine ⟨by show 0 ≤ sizeLine; decide, fun p1 n1 => ?_⟩
  have s2 := s1.trans (same_upd (o := .tup []) n1)
  refine fun x dx nx ndx ne => ?_
  have nz : ∀ {b : Addr} {o : HO}, upd H1 p1 (.tup []) b = some o → b ≠ x ∧ b ≠ dx := fun e => ⟨ne_of_none e nx, ne_of_none e ndx⟩
  have s3 : Same (upd H1 p1 (.tup [])) (upd (upd (upd H1 p1 (.tup [])) dx (.own x)) x (.ins Cc dx [])) := fun b o e => by
    rw [upd_ne (nz e).1, upd_ne (nz e).2]
    exact e
  refine ⟨x, dx, 1, .ref p1, (), rfl, upd_same, ⟨.tup (Same.kt s3 _ _ (.inl (.inl upd_same))) .nil, trivial, Nat.zero_le _, by omega, by omega, by omega⟩, fun H3 h3 k3 => ⟨rfl, ?_⟩⟩
  refine ⟨_, rfl, _, rfl, x, Cc, dx, _, rfl, h3, U.cl, U.nw, (by rw [hf_eq]; show 2 < 1000; decide), ?_⟩
  refine ⟨_, rfl, _, rfl, x, Cc, dx, _, rfl, upd_same, U.cl, U.nt, (by rw [hf_putw, hf_eq]; show 2 < 1000; decide), ?_⟩
  refine ⟨_, rfl, q x _ (fun b o e => ?_) ⟨dx, by rw [upd_same, hf_putw, hf_putt]⟩⟩
  have e2 := s2 _ _ e
  have nx2 := (nz e2).1
  rw [upd_ne nx2, upd_ne nx2]
  exact k3 _ _ (s3 _ _ e2) nx2
/-- a house and its tree -/
structure HsOk (K : PySem.W.Frag) (C : Addr) (H : Hp) (p : Addr) (W n : Nat) (t : Nd n) (v : V) : Prop where
  at_ : HouseAt C H p W v
  td : Td K H v (ndD n t)
  ok : NdOk W n (ones W) t
  few : cnt n t ≤ 1500
  deep : n ≤ 8
  w1 : 1 ≤ W
  w5 : W ≤ 5
theorem HsOk.tree {C p : Addr} {H : Hp} {W n : Nat} {t : Nd n} {v : V} (h : HsOk K C H p W n t v) : TreeOk K H W n v t := ⟨h.td, h.ok, h.few, h.deep, h.w1, h.w5⟩
theorem HsOk.keep {C p : Addr} {H H' : Hp} {W n : Nat} {t : Nd n} {v : V} (h : HsOk K C H p W n t v) (s : Same H H') : HsOk K C H' p W n t v := ⟨h.at_.keep s, h.td.keep (Same.kt s), h.ok, h.few, h.deep, h.w1, h.w5⟩
def spHopeful (K : PySem.W.Frag) (C : Addr) (n : Nat) : Sp := fun vs H Q _ => ∃ (p : Addr) (W : Nat) (t : Nd n) (v : V), vs = [.ref p] ∧ HsOk K C H p W n t v ∧ ∀ p' v' H', Same H H' → HsOk K C H' p' W n (hope n t) v' → Q (.ref p') H'
theorem ok_hopeful {n : Nat} {Cc fi fe f f1 f2 : Addr} {fd fd1 fd2 : FuncData} (D : Dn K mg "hopeful" s_hopeful ["house"] f fd) (U : Hcl K mg Cc fi fe) (D_made_house : Dn K mg "made_house" s_made_house ["worlds", "tree"] f1 fd1) (G_made_house : FnOk P w K mg base CX0 (12 + n) f1 fd1 ["worlds", "tree"] (spMade K Cc n))
    (D_hopeful_node : Dn K mg "hopeful_node" s_hopeful_node ["node"] f2 fd2) (G_hopeful_node : FnOk P w K mg base CX0 (2 + n) f2 fd2 ["node"] (spHope K n)) : FnOk P w K mg base CX0 (13 + n) f fd ["house"] (spHopeful K Cc n) := by
  rw [show 13 + n = (12 + n) + 1 by omega]
  refine D.F.ok sc_hopeful (fun vs H Q E h => ?_) (fun cdv A outer s H vs Q E hr h => ?_)
  · obtain ⟨p, W, t, v, rfl, _⟩ := h
    rfl
  obtain ⟨p, W, t, v, rfl, h, q⟩ := h
  have nd := sc_hopeful.nd
  refine ⟨_, (pss_one (ps_ret (pe_call G_made_house (hr.mono (by omega)) (by rfl) D_made_house.m D_made_house.F.kp D_made_house.b .nil pass0 (pa_cons (k_fld (K := K) rfl (pv 0) rfl) (pa_cons (pe_call G_hopeful_node (hr.mono (by omega)) (by rfl) D_hopeful_node.m D_hopeful_node.F.kp D_hopeful_node.b .nil pass0 (pa_cons (k_fld (K := K) rfl (pv 0) rfl) pa_nil)) pa_nil))))), ?_⟩
  obtain ⟨dx, hp⟩ := h.at_
  have w1 := h.w1
  have w5 := h.w5
  have few := h.few
  have deep := h.deep
  refine ⟨_, rfl, p, Cc, dx, _, _, rfl, hp, U.cl, U.nw, hf_w _ _, _, rfl, p, Cc, dx, _, _, rfl, hp, U.cl, U.nt, hf_t _ _, W, v, ones W, t, rfl, h.td, h.ok, w5, fun v2 H2 s2 t2 => ?_⟩
  have c2 := cnt_hope n t
  refine ⟨W, v2, hope n t, rfl, t2, by omega, by omega, fun p3 H3 s3 h3 => ?_⟩
  exact q p3 v2 H3 (s2.trans s3) ⟨h3, t2.keep (Same.kt s3), hope_ok (by unfold ones; rw [List.length_replicate]) (ones_not w1) h.ok, by omega, deep, w1, w5⟩
/-- the one answer with which a house begins -/
def beg (W n : Nat) (t : Nd n) : Nd (n + 1) := ([[([(nq n t : Int)], ones W, cntd n t)]] : List (Qn n))
theorem cnt_beg (W n : Nat) (t : Nd n) : cnt (n + 1) (beg W n t) = 1 + cnt n t := by
  show 1 + cnt n (cntd n t) + 0 + 0 = _
  rw [cnt_cntd]
  rfl
def spBegun (K : PySem.W.Frag) (C : Addr) (n : Nat) : Sp := fun vs H Q _ => ∃ (p : Addr) (W : Nat) (t : Nd n) (v : V), vs = [.ref p] ∧ HsOk K C H p W n t v ∧ ∀ p' v' H', Same H H' → HouseAt C H' p' W v' → Td K H' v' (ndD (n + 1) (beg W n t)) → Q (.ref p') H'
theorem ok_begun {n : Nat} {Cc fi fe f f1 f2 : Addr} {fd fd1 fd2 : FuncData} (D : Dn K mg "begun" s_begun ["house"] f fd) (B : Blt mg) (C : Cst K mg aN aO t1 t2 t3 t4 t5 t6 t7) (U : Hcl K mg Cc fi fe) (D_made_house : Dn K mg "made_house" s_made_house ["worlds", "tree"] f1 fd1) (G_made_house : FnOk P w K mg base CX0 (12 + (n + 1)) f1 fd1 ["worlds", "tree"] (spMade K Cc (n + 1)))
    (D_counted_node : Dn K mg "counted_node" s_counted_node ["node"] f2 fd2) (G_counted_node : FnOk P w K mg base CX0 (1 + n) f2 fd2 ["node"] (spCntd K n)) : FnOk P w K mg base CX0 (14 + n) f fd ["house"] (spBegun K Cc n) := by
  rw [show 14 + n = (12 + (n + 1)) + 1 by omega]
  refine D.F.ok sc_begun (fun vs H Q E h => ?_) (fun cdv A outer s H vs Q E hr h => ?_)
  · obtain ⟨p, W, t, v, rfl, _⟩ := h
    rfl
  obtain ⟨p, W, t, v, rfl, h, q⟩ := h
  have nd := sc_begun.nd
  refine ⟨_, (pss_cons (ps_set (i := 1) nd rfl (.inl rfl) (pe_tup (pa_cons (pe_tup (pa_cons (pe_callB (k_len (K := K) rfl) (by rfl) B.len PySem.boot_len (pa_cons (k_fld (K := K) rfl (pv 0) rfl) pa_nil)) pa_nil)) (pa_cons (pe_op (k_rep (K := K) rfl) (pe_tup (pa_cons (pe_glob (v := .ref _) rfl C.ONE rfl) pa_nil)) (k_fld (K := K) rfl (pv 0) rfl)) (pa_cons (pe_call G_counted_node (hr.mono (by omega)) (by rfl) D_counted_node.m D_counted_node.F.kp D_counted_node.b .nil pass0 (pa_cons (k_fld (K := K) rfl (pv 0) rfl) pa_nil)) pa_nil)))))
      (pss_one (ps_ret (pe_call G_made_house (hr.mono (by omega)) (by rfl) D_made_house.m D_made_house.F.kp D_made_house.b .nil pass0 (pa_cons (k_fld (K := K) rfl (pv 0) rfl) (pa_cons (pe_tup (pa_cons (pe_tup (pa_cons (pv 1) pa_nil)) pa_nil)) pa_nil)))))), ?_⟩
  obtain ⟨dx, hp⟩ := h.at_
  have w1 := h.w1
  have w5 := h.w5
  have few := h.few
  have deep := h.deep
  obtain ⟨a, xs, ev, ha, la⟩ := nq_td h.td
  refine ⟨_, rfl, p, Cc, dx, _, _, rfl, hp, U.cl, U.nt, hf_t _ _, a, xs, (by rw [ev]), .inr ha, (by show 1 ≤ sizeLine; decide), fun pw nw => ?_⟩
  have s2 := same_upd (o := .tup [.int ((xs.length : Nat) : Int)]) nw
  refine ⟨by show 1 ≤ sizeLine; decide, fun p2 n2 => ?_⟩
  have s3 := s2.trans (same_upd (o := .tup [.ref aO]) n2)
  refine ⟨_, rfl, p, Cc, dx, _, _, rfl, s3 _ _ hp, U.cl, U.nw, hf_w _ _, p2, (W : Int), _, rfl, rfl, .inl (.inl upd_same), by simp, by omega, by omega, by simp, fun pa H4 s4 q4 => ?_⟩
  have s04 := s3.trans s4
  have t4 := h.td.keep (Same.kt s04)
  refine ⟨_, rfl, p, Cc, dx, _, _, rfl, s04 _ _ hp, U.cl, U.nt, hf_t _ _, W, v, ones W, t, rfl, t4, h.ok, fun v5 H5 s5 t5 => ?_⟩
  refine ⟨by show 3 ≤ sizeLine; decide, fun p6 n6 => ?_⟩
  have s6 := same_upd (o := .tup [.ref pw, .ref pa, v5]) n6
  have s06 := (s04.trans s5).trans s6
  refine ⟨_, rfl, p, Cc, dx, _, _, rfl, s06 _ _ hp, U.cl, U.nw, hf_w _ _, _, rfl, (by show 1 ≤ sizeLine; decide), fun p7 n7 => ?_⟩
  have s7 := same_upd (o := .tup [.ref p6]) n7
  refine ⟨by show 1 ≤ sizeLine; decide, fun p8 n8 => ?_⟩
  have s8 := same_upd (o := .tup [.ref p7]) n8
  have s08 := (s06.trans s7).trans s8
  have k68 := Same.kt (K := K) (s7.trans s8)
  have k48 := Same.kt (K := K) ((s5.trans s6).trans (s7.trans s8))
  have k28 := Same.kt (K := K) (((same_upd (o := .tup [.ref aO]) n2).trans s4).trans ((s5.trans s6).trans (s7.trans s8)))
  have tw : Td K _ (.ref pw) (wdD [((xs.length : Nat) : Int)]) := .tup (k28 _ _ (.inl (.inl upd_same))) (tdAll_ints [((xs.length : Nat) : Int)])
  rw [la] at tw
  have tO : Td K H4 (.ref aO) (rD 1) := by
    rw [rD_one]
    exact .tup (C.tO _) (tdAll_ints [1, 1])
  have to := (ones_td tO q4).keep k48
  have tall := Td.tup (K := K) (ds := [.tuple [.tuple [wdD [(nq n t : Int)], wsD (ones W), ndD n (cntd n t)]]]) (.inl (.inl upd_same)) (.cons (.tup (Same.kt s8 _ _ (.inl (.inl upd_same))) (.cons (.tup (k68 _ _ (.inl (.inl upd_same))) (.cons tw (.cons to (.cons (t5.keep ((Same.kt s6).trans k68)) .nil)))) .nil)) .nil)
  refine ⟨W, .ref p8, beg W n t, rfl, tall, by omega, by rw [cnt_beg]; omega, fun p9 H9 s9 h9 => ?_⟩
  exact q p9 (.ref p8) H9 (s08.trans s9) h9 (tall.keep (Same.kt s9))
end
end Tl
namespace Tl
open PySem PySem.Spec PyProof.Rows L2 RZ
section
variable {P : Program} {w : World} {K : PySem.W.Frag} {mg : Str → Option Value} {base : Heap} {aN aO : Addr} {t1 t2 t3 t4 t5 t6 t7 : Tok}
theorem ok_law_numbered {f : Addr} {fd : FuncData} (D : Dn K mg "_law_numbered" s_law_numbered ["node"] f fd) (B : Blt mg) : ∀ n : Nat, FnOk P w K mg base CX0 (1 + n) f fd ["node"] (spCntd K n) := by
  intro n
  obtain ⟨sp0, G_law_numbered, hsp⟩ : ∃ sp0, FnOk P w K mg base CX0 n f fd ["node"] sp0 ∧ (∀ m, n = m + 1 → sp0 = spCntd K m) := by
    cases n with
    | zero => exact ⟨fun _ _ _ _ => False, ⟨fun vs H Q E h => h.elim, fun A outer s H args us vs Q E _ _ _ _ h => h.elim⟩, fun m e => by omega⟩
    | succ m =>
      have G := ok_law_numbered D B m
      rw [show 1 + m = m + 1 by omega] at G
      exact ⟨_, G, fun m' e => by rw [show m' = m by omega]⟩
  rw [show 1 + n = n + 1 by omega]
  refine D.F.ok sc_law_numbered (fun vs H Q E h => ?_) (fun cdv A outer s H vs Q E hr h => ?_)
  · obtain ⟨W, v, ahead, t, rfl, _⟩ := h
    rfl
  obtain ⟨W, v, ahead, t, rfl, hv, hok, q⟩ := h
  have nd := sc_law_numbered.nd
  have D_law_numbered := D
  refine ⟨_, (pss_cons (ps_set (i := 1) nd rfl (.inl rfl) (pe_lst pa_nil))
      (pss_cons (ps_for PassesOwn.never rfl (k_iT (K := K) rfl (pv 0)) (pg_name (i := 2) nd rfl (.inl rfl)) (pss_cons (ps_set (i := 3) nd rfl (.inl rfl) (pe_lst pa_nil))
      (pss_cons (ps_for PassesOwn.never rfl (k_enum (K := K) rfl (by rfl) B.enumerate (pa_cons (pv 2) pa_nil)) (k_tup (K := K) (n := 2) rfl rfl (pgs_cons (pg_name (i := 4) nd rfl (.inl rfl)) (pgs_cons (k_tup (K := K) (n := 3) rfl rfl (pgs_cons (pg_name (i := 5) nd rfl (.inl rfl)) (pgs_cons (pg_name (i := 6) nd rfl (.inl rfl)) (pgs_cons (pg_name (i := 7) nd rfl (.inl rfl)) pgs_nil)))) pgs_nil))) (pss_one (ps_expr (pe_bm PySem.F.plainAttrs_list PySem.F.slot_list_append PySem.F.type_list_append mt_append (pv 3) (pa_cons (pe_tup (pa_cons (pe_tup (pa_cons (pv 4) (pa_cons (pe_callB (k_len (K := K) rfl) (by rfl) B.len PySem.boot_len (pa_cons (pv 7) pa_nil)) pa_nil))) (pa_cons (pv 6) (pa_cons (pe_call G_law_numbered (hr.mono (by omega)) (by rfl) D_law_numbered.m D_law_numbered.F.kp D_law_numbered.b .nil pass0 (pa_cons (pv 7) pa_nil)) pa_nil)))) pa_nil)))))
      (pss_one (ps_expr (pe_bm PySem.F.plainAttrs_list PySem.F.slot_list_append PySem.F.type_list_append mt_append (pv 1) (pa_cons (pe_callTy (k_tupOf (K := K) rfl) (by rfl) B.tuple (by decide +kernel) (pa_cons (pv 3) pa_nil)) pa_nil)))))))
      (pss_one (ps_ret (pe_callTy (k_tupOf (K := K) rfl) (by rfl) B.tuple (by decide +kernel) (pa_cons (pv 1) pa_nil)))))), ?_⟩
  obtain ⟨a, xs, ds, rfl, ha, ed, ta, l0⟩ := td_qs hv
  refine ⟨by show 0 ≤ sizeLine; decide, fun T hT => ?_⟩
  cases n with
  | zero =>
    have := l0 rfl
    subst this
    refine ⟨_, rfl, a, rfl, ⟨_, Same.kt (same_upd hT) _ _ ha⟩, for_it (walk_tup (K := K) (a := a) (xs := [])) (fun i σ H2 => H2 = upd H T (.lst []) ∧ ∃ o2 o3 o4 o5 o6 o7 : Option V, σ = [some (.ref a), some (.ref T), o2, o3, o4, o5, o6, o7]) ⟨rfl, none, none, none, none, none, none, rfl⟩ (fun i σ H2 _ h => by rw [h.1]; exact Same.kt (same_upd hT) _ _ ha) ?_ ?_⟩
    · rintro i x σ H2 H3 hi
      exact absurd hi (Nat.not_lt_zero _)
    · rintro σ H2 ⟨rfl, o2, o3, o4, o5, o6, o7, rfl⟩
      exact ⟨_, rfl, T, [], rfl, SqL.of upd_same, fun l H' s' q' => q _ _ ((same_upd hT).trans s') (.tup q' .nil)⟩
  | succ n =>
    have hsp := hsp n rfl
    subst hsp
    obtain ⟨qs, hqs⟩ : ∃ qs : List (Qn n), (qs : Nd (n + 1)) = t := ⟨t, rfl⟩
    subst hqs
    cases ed
    have lx : xs.length = qs.length := by rw [ta.len, List.length_map]
    have l5 : qs.length ≤ 5 := hok.1
    refine ⟨_, rfl, a, rfl, ⟨_, Same.kt (same_upd hT) _ _ ha⟩, for_it (walk_tup (K := K) (a := a) (xs := xs)) (fun i σ H2 => ∃ (us : List V) (o2 o3 o4 o5 o6 o7 : Option V), σ = [some (.ref a), some (.ref T), o2, o3, o4, o5, o6, o7] ∧ H2 T = some (.lst us) ∧ TdAll K H2 us ((qs.take i).map fun q => qnD n (cntdQ n q)) ∧ Same H H2) ⟨[], none, none, none, none, none, none, rfl, upd_same, .nil, same_upd hT⟩ (fun i σ H2 _ h => ?_) ?_ ?_⟩
    · obtain ⟨_, _, _, _, _, _, _, _, _, _, s2⟩ := h
      exact Same.kt s2 _ _ ha
    · rintro i x σ H0 H2 hi ⟨us, o2, o3, o4, o5, o6, o7, rfl, h2, t2, s2⟩ ⟨rfl, e1⟩
      obtain ⟨dx, ex, tx⟩ := ta.getV e1
      obtain ⟨qn, eq, rfl⟩ := map_at ex
      obtain ⟨qok, nok⟩ := hok.2 qn (List.mem_of_getElem? eq)
      have o12 := qok.most
      obtain ⟨b, ys, rfl, hb, tb⟩ := id (tx.keep (Same.kt s2)).tupE
      have ly : ys.length = qn.length := by rw [tb.len, List.length_map]
      refine ⟨by show 0 ≤ sizeLine; decide, fun T2 hT2 => ?_⟩
      have sS := same_upd (o := .lst []) hT2
      refine ⟨_, rfl, b, ys, rfl, Same.kt sS _ _ hb, for_it (walk_enumT (K := K) (a := b) (xs := ys)) (fun j σ H3 => ∃ (vs : List V) (o4 o5 o6 o7 : Option V), σ = [some (.ref a), some (.ref T), some (.ref b), some (.ref T2), o4, o5, o6, o7] ∧ H3 T2 = some (.lst vs) ∧ TdAll K H3 vs ((cntdQ n (qn.take j)).map (anD n)) ∧ Same H2 H3) ⟨[], _, _, _, _, rfl, upd_same, .nil, sS⟩ (fun i σ H2 _ h => ?_) ?_ ?_⟩
      · obtain ⟨_, _, _, _, _, _, _, _, s3⟩ := h
        exact Same.kt s3 _ _ hb
      · rintro j y σ H0 H3 hj ⟨vs, o4, o5, o6, o7, rfl, h3, t3, s3⟩ ⟨Te, x1, x2, rfl, nT, rfl, e1, e2⟩
        cases e1
        have sE : Same H0 (upd H0 Te (.tup [.int (j : Int), x2])) := same_upd nT
        obtain ⟨dy, ey, ty⟩ := tb.getV e2
        obtain ⟨an, ea, rfl⟩ := map_at ey
        have ma := List.mem_of_getElem? ea
        obtain ⟨p, vw, vz, vt, rfl, hp, tw, tz, tt⟩ := td_an (ty.keep (Same.kt (s3.trans sE)))
        refine ⟨Te, _, rfl, .inl (.inl upd_same), rfl, _, _, rfl, _, _, rfl, p, _, rfl, hp, rfl, _, _, rfl, _, _, rfl, _, _, rfl, rfl, rfl, ?_⟩
        obtain ⟨pa, ps, rfl, hpa, lpa⟩ := nq_td tt
        refine ⟨_, rfl, .inl ⟨rfl, _, SqL.of (sE _ _ h3)⟩, ?_⟩
        refine ⟨_, rfl, _, rfl, pa, ps, rfl, .inr hpa, (by show 2 ≤ sizeLine; decide), fun pw nw => ?_⟩
        have s4 := same_upd (o := .tup [.int (j : Int), .int ((ps.length : Nat) : Int)]) nw
        refine ⟨_, rfl, _, rfl, W, .ref pa, an.2.1, an.2.2, rfl, tt.keep (Same.kt s4), nok an ma, fun v5 H5 s5 t5 => ?_⟩
        refine ⟨by show 3 ≤ sizeLine; decide, fun p6 n6 => ?_⟩
        have s6 : Same H5 (upd H5 p6 (.tup [.ref pw, vz, v5])) := same_upd n6
        have s46 := (s4.trans s5).trans s6
        have s36 := sE.trans s46
        have h6 := s36 _ _ h3
        refine ⟨T2, vs, _, rfl, rfl, h6, ?_, vs ++ [.ref p6], _, _, _, _, rfl, upd_same, ?_, fun c o z => ?_⟩
        · rw [t3.len, List.length_map]
          unfold cntdQ
          rw [List.length_mapIdx, List.length_take]
          exact small1000 (by omega)
        · have kT : KT K (upd H5 p6 (.tup [.ref pw, vz, v5])) (upd (upd H5 p6 (.tup [.ref pw, vz, v5])) T2 (.lst (vs ++ [.ref p6]))) := KT.updL h6
          have k3 := (Same.kt s36).trans kT
          have k4 := (Same.kt s46).trans kT
          have k5 := (Same.kt (s5.trans s6)).trans kT
          rw [cntdQ_snoc qn j an ea, List.map_append]
          refine (t3.keep k3).app (.cons (.tup (kT _ _ (.inl (.inl upd_same))) (.cons ?_ (.cons (tz.keep k4) (.cons (t5.keep ((Same.kt s6).trans kT)) .nil)))) .nil)
          have tw2 : Td K (upd (upd H5 p6 (.tup [.ref pw, vz, v5])) T2 (.lst (vs ++ [.ref p6]))) (.ref pw) (wdD [(j : Int), ((ps.length : Nat) : Int)]) := .tup (k5 _ _ (.inl (.inl upd_same))) (tdAll_ints [(j : Int), ((ps.length : Nat) : Int)])
          rw [lpa] at tw2
          exact tw2
        · rw [upd_ne (ne_of_none z hT2)]
          exact s36 _ _ (s3 _ _ z)
      · rintro σ H3 ⟨vs, o4, o5, o6, o7, rfl, h3, t3, s3⟩
        rw [ly, List.take_length] at t3
        refine ⟨_, rfl, .inl ⟨rfl, _, SqL.of (s3 _ _ h2)⟩, ?_⟩
        refine ⟨_, rfl, T2, vs, rfl, SqL.of h3, fun l H4 s4 q4 => ?_⟩
        have h4 := s4 _ _ (s3 _ _ h2)
        have kT : KT K H4 (upd H4 T (.lst (us ++ [.ref l]))) := KT.updL h4
        refine ⟨T, us, _, rfl, rfl, h4, ?_, us ++ [.ref l], _, _, _, _, _, _, rfl, upd_same, ?_, fun c o z => ?_⟩
        · rw [t2.len, List.length_map, List.length_take]
          exact small1000 (by omega)
        · rw [List.take_add_one, eq, List.map_append]
          exact (t2.keep ((Same.kt (s3.trans s4)).trans kT)).app (.cons (.tup (kT _ _ q4) (t3.keep ((Same.kt s4).trans kT))) .nil)
        · rw [upd_ne (ne_of_none z hT)]
          exact s4 _ _ (s3 _ _ (s2 _ _ z))
    · rintro σ H2 ⟨us, o2, o3, o4, o5, o6, o7, rfl, h2, t2, s2⟩
      rw [lx, List.take_length] at t2
      refine ⟨_, rfl, T, us, rfl, SqL.of h2, fun l H' s' q' => q _ _ (s2.trans s') (.tup q' ?_)⟩
      have e : (qs.map fun q => qnD n (cntdQ n q)) = (qs.map (cntdQ n)).map (qnD n) := by rw [List.map_map]; rfl
      rw [e] at t2
      exact t2.keep (Same.kt s')
end
end Tl
namespace Tl
open PySem PySem.Spec PyProof.Rows L2 RZ
def fq {n : Nat} (q : Qn n) : Qn n := q.filter fun a => !isZ a.2.1
theorem fq_snoc {n : Nat} (q : Qn n) (i : Nat) (an : An n) (h : q[i]? = some an) : fq (q.take (i + 1)) = fq (q.take i) ++ (if isZ an.2.1 = true then [] else [an]) := by
  unfold fq
  rw [List.take_add_one, h, List.filter_append]
  congr 1
  show List.filter _ [an] = _
  rw [List.filter_cons]
  cases isZ an.2.1 <;> rfl
theorem fq_len {n : Nat} (q : Qn n) : (fq q).length ≤ q.length := List.length_filter_le _ _
theorem hopeQ_fq {n : Nat} (q : Qn n) : hopeQ n q = (fq q).map (hopeA n) := rfl
theorem any_pos : ∀ ws : List Rat, (∀ r ∈ ws, 0 ≤ r) → (ws.map fun r => decide (0 < r.num)).any id = !isZ ws
  | [], _ => rfl
  | r :: l, h => by
    have ih := any_pos l fun x hx => h x (List.mem_cons_of_mem _ hx)
    have h0 := Rat.num_nonneg.mpr (h r (List.mem_cons_self ..))
    show (decide (0 < r.num) || ((l.map fun r => decide (0 < r.num)).any id)) = !(decide (r = 0) && isZ l)
    rw [ih]
    by_cases e : r = 0
    · subst e
      rw [decide_eq_false (show ¬ 0 < (0 : Rat).num by decide), decide_eq_true rfl]
      rfl
    · have hn : r.num ≠ 0 := fun z => e (Rat.num_eq_zero.mp z)
      rw [decide_eq_true (show 0 < r.num by omega), decide_eq_false e]
      rfl
section
variable {P : Program} {w : World} {K : PySem.W.Frag} {mg : Str → Option Value} {base : Heap} {aN aO : Addr} {t1 t2 t3 t4 t5 t6 t7 : Tok}
theorem ok_law_hoped {f : Addr} {fd : FuncData} (D : Dn K mg "_law_hoped" s_law_hoped ["node"] f fd) (B : Blt mg) : ∀ n : Nat, FnOk P w K mg base CX0 (1 + n) f fd ["node"] (spHope K n) := by
  intro n
  obtain ⟨sp0, G_law_hoped, hsp⟩ : ∃ sp0, FnOk P w K mg base CX0 n f fd ["node"] sp0 ∧ (∀ m, n = m + 1 → sp0 = spHope K m) := by
    cases n with
    | zero => exact ⟨fun _ _ _ _ => False, ⟨fun vs H Q E h => h.elim, fun A outer s H args us vs Q E _ _ _ _ h => h.elim⟩, fun m e => by omega⟩
    | succ m =>
      have G := ok_law_hoped D B m
      rw [show 1 + m = m + 1 by omega] at G
      exact ⟨_, G, fun m' e => by rw [show m' = m by omega]⟩
  rw [show 1 + n = n + 1 by omega]
  refine D.F.ok sc_law_hoped (fun vs H Q E h => ?_) (fun cdv A outer s H vs Q E hr h => ?_)
  · obtain ⟨W, v, ahead, t, rfl, _⟩ := h
    rfl
  obtain ⟨W, v, ahead, t, rfl, hv, hok, hW, q⟩ := h
  have nd := sc_law_hoped.nd
  have D_law_hoped := D
  refine ⟨_, (pss_cons (ps_set (i := 1) nd rfl (.inl rfl) (pe_lst pa_nil))
      (pss_cons (ps_for PassesOwn.never rfl (k_iT (K := K) rfl (pv 0)) (pg_name (i := 2) nd rfl (.inl rfl)) (pss_cons (ps_setLc (i := 3) (own := [("answer", 4)]) rfl nd rfl rfl (sw_true rfl rfl rfl (by decide +kernel)) (k_iT (K := K) rfl (pv 2)) (blkOk_by (own := [("answer", 4)]) (by kernel_rfl)) (fun _ _ _ _ _ => (pg_name (i := 4) nd rfl (.inl rfl))) (fun _ _ _ _ _ => pts_one (pt_val (pe_callB (k_any (K := K) rfl rfl) (by rfl) B.any (by decide +kernel) (pa_cons (pe_lc (own := [("weight", 5)]) rfl nd (k_iT (K := K) rfl (pe_ix (k_ixT (K := K) rfl) (pv 4) pe_int (fun _ _ => rfl))) (blkOk_by (own := [("weight", 5)]) (by kernel_rfl)) (fun _ _ _ _ _ => (pg_name (i := 5) nd rfl (.inl rfl))) (fun _ _ _ _ _ => pts_nil) (fun _ _ _ _ _ => (pe_cmpR op_gt (pe_ix (k_ixT (K := K) rfl) (pv 5) pe_int (fun _ _ => rfl)) pe_int (nomark _)))) pa_nil)))) (fun _ _ _ _ _ => (pv 4)))
      (pss_one (ps_expr (pe_bm PySem.F.plainAttrs_list PySem.F.slot_list_append PySem.F.type_list_append mt_append (pv 1) (pa_cons (pe_callTy (k_tupOf (K := K) rfl) (by rfl) B.tuple (by decide +kernel) (pa_cons (pe_lc (own := [("word", 6), ("weights", 7), ("behind", 8)]) rfl nd (k_iL (K := K) rfl (pv 3)) (blkOk_by (own := [("word", 6), ("weights", 7), ("behind", 8)]) (by kernel_rfl)) (fun _ _ _ _ _ => (k_tup (K := K) (n := 3) rfl rfl (pgs_cons (pg_name (i := 6) nd rfl (.inl rfl)) (pgs_cons (pg_name (i := 7) nd rfl (.inl rfl)) (pgs_cons (pg_name (i := 8) nd rfl (.inl rfl)) pgs_nil))))) (fun _ _ _ _ _ => pts_nil) (fun _ _ _ _ _ => (pe_tup (pa_cons (pv 6) (pa_cons (pv 7) (pa_cons (pe_call G_law_hoped (hr.mono (by omega)) (by rfl) D_law_hoped.m D_law_hoped.F.kp D_law_hoped.b .nil pass0 (pa_cons (pv 8) pa_nil)) pa_nil)))))) pa_nil)) pa_nil))))))
      (pss_one (ps_ret (pe_callTy (k_tupOf (K := K) rfl) (by rfl) B.tuple (by decide +kernel) (pa_cons (pv 1) pa_nil)))))), ?_⟩
  obtain ⟨a, xs, ds, rfl, ha, ed, ta, l0⟩ := td_qs hv
  refine ⟨by show 0 ≤ sizeLine; decide, fun T hT => ?_⟩
  cases n with
  | zero =>
    have := l0 rfl
    subst this
    refine ⟨_, rfl, a, rfl, ⟨_, Same.kt (same_upd hT) _ _ ha⟩, for_it (walk_tup (K := K) (a := a) (xs := [])) (fun i σ H2 => H2 = upd H T (.lst []) ∧ ∃ o2 o3 o4 o5 o6 o7 o8 : Option V, σ = [some (.ref a), some (.ref T), o2, o3, o4, o5, o6, o7, o8]) ⟨rfl, none, none, none, none, none, none, none, rfl⟩ (fun i σ H2 _ h => by rw [h.1]; exact Same.kt (same_upd hT) _ _ ha) ?_ ?_⟩
    · rintro i x σ H2 H3 hi
      exact absurd hi (Nat.not_lt_zero _)
    · rintro σ H2 ⟨rfl, o2, o3, o4, o5, o6, o7, o8, rfl⟩
      exact ⟨_, rfl, T, [], rfl, SqL.of upd_same, fun l H' s' q' => q _ _ ((same_upd hT).trans s') (.tup q' .nil)⟩
  | succ n =>
    have hsp := hsp n rfl
    subst hsp
    obtain ⟨qs, hqs⟩ : ∃ qs : List (Qn n), (qs : Nd (n + 1)) = t := ⟨t, rfl⟩
    subst hqs
    cases ed
    have lx : xs.length = qs.length := by rw [ta.len, List.length_map]
    have l5 : qs.length ≤ 5 := hok.1
    refine ⟨_, rfl, a, rfl, ⟨_, Same.kt (same_upd hT) _ _ ha⟩, for_it (walk_tup (K := K) (a := a) (xs := xs)) (fun i σ H2 => ∃ (us : List V) (o2 o3 o4 o5 o6 o7 o8 : Option V), σ = [some (.ref a), some (.ref T), o2, o3, o4, o5, o6, o7, o8] ∧ H2 T = some (.lst us) ∧ TdAll K H2 us ((qs.take i).map fun q => qnD n (hopeQ n q)) ∧ Same H H2) ⟨[], none, none, none, none, none, none, none, rfl, upd_same, .nil, same_upd hT⟩ (fun i σ H2 _ h => ?_) ?_ ?_⟩
    · obtain ⟨_, _, _, _, _, _, _, _, _, _, _, s2⟩ := h
      exact Same.kt s2 _ _ ha
    · rintro i x σ H0 H2 hi ⟨us, o2, o3, o4, o5, o6, o7, o8, rfl, h2, t2, s2⟩ ⟨rfl, e1⟩
      obtain ⟨dx, ex, tx⟩ := ta.getV e1
      obtain ⟨qn, eq, rfl⟩ := map_at ex
      obtain ⟨qok, nok⟩ := hok.2 qn (List.mem_of_getElem? eq)
      have o12 := qok.most
      obtain ⟨b, ys, rfl, hb, tb⟩ := id (tx.keep (Same.kt s2)).tupE
      have ly : ys.length = qn.length := by rw [tb.len, List.length_map]
      -- the answers with a weight above nought
      refine ⟨_, rfl, b, rfl, ⟨_, hb⟩, fun T2 hT2 => ?_⟩
      refine lc_it (walk_tup (K := K) (a := b) (xs := ys)) (fun j H3 => ∃ vs : List V, H3 T2 = some (.lst vs) ∧ TdAll K H3 vs ((fq (qn.take j)).map (anD n)) ∧ Same H2 H3) ⟨[], upd_same, .nil, same_upd hT2⟩ (fun i H2 _ h => ?_) ?_ ?_
      · obtain ⟨_, _, _, s3⟩ := h
        exact Same.kt s3 _ _ hb
      · rintro j y H0 H3 hj ⟨vs, h3, t3, s3⟩ ⟨rfl, e2⟩
        obtain ⟨dy, ey, ty⟩ := tb.getV e2
        obtain ⟨an, ea, rfl⟩ := map_at ey
        have ma := List.mem_of_getElem? ea
        have tan := ty.keep (Same.kt s3)
        obtain ⟨p, vw, vz, vt, rfl, hp, tw, tz, tt⟩ := td_an tan
        obtain ⟨az, zs, rfl, haz, tzs⟩ := id tz.tupE
        have lz : zs.length = an.2.1.length := by rw [tzs.len, List.length_map]
        have wz : an.2.1.length ≤ 5 := by rw [qok.wide an ma]; exact hW
        refine ⟨rfl, _, rfl, p, _, 1, _, rfl, rfl, hp, at_of (j := 1) rfl rfl, az, rfl, ⟨_, haz⟩, fun T3 hT3 => ?_⟩
        refine lc_it (walk_tup (K := K) (a := az) (xs := zs)) (fun k H4 => H4 T3 = some (.lst (((an.2.1.take k).map fun r => decide (0 < r.num)).map V.bl)) ∧ Same H3 H4) ⟨upd_same, same_upd hT3⟩ (fun i H2 _ h => Same.kt h.2 _ _ haz) ?_ ?_
        · rintro k z H6 H4 hk ⟨h4, s4⟩ ⟨rfl, e3⟩
          obtain ⟨dz, ez, tz3⟩ := tzs.getV e3
          obtain ⟨r, er, rfl⟩ := map_at ez
          obtain ⟨pr, xr, rfl, hpr, txr⟩ := id (tz3.keep (Same.kt s4)).tupE
          have exr : xr = [V.int r.num, V.int (r.den : Int)] := tdAll_intsE (ns := [r.num, (r.den : Int)]) txr
          subst exr
          refine ⟨rfl, ?_⟩
          refine iteT (B := H4 T3 = some (.lst (((an.2.1.take (k + 1)).map fun r => decide (0 < r.num)).map V.bl)) ∧ Same H3 H4) ?_
          refine ⟨_, rfl, pr, _, 0, _, rfl, rfl, hpr, at_of (j := 0) rfl rfl, _, _, rfl, rfl, _, h4, ?_, ?_, fun c o z => ?_⟩
          · rw [List.length_map, List.length_map, List.length_take]
            exact small1000 (by omega)
          · rw [upd_same, List.take_add_one, er, List.map_append, List.map_append]
            rfl
          · rw [upd_ne (ne_of_none z hT3)]
            exact s4 _ _ z
        · rintro H4 ⟨h4, s4⟩
          rw [lz, List.take_length] at h4
          refine ⟨T3, _, rfl, SqL.of h4, _, rfl, ?_⟩
          rw [any_pos _ fun r hr => (qok.chs an ma r hr).1]
          have e9 := fq_snoc qn j an ea
          cases hz : isZ an.2.1 with
          | true =>
            rw [if_pos hz, List.append_nil] at e9
            refine iteF ?_
            refine ⟨vs, s4 _ _ h3, ?_, s3.trans s4⟩
            rw [e9]
            exact t3.keep (Same.kt s4)
          | false =>
            rw [if_neg (by rw [hz]; decide)] at e9
            refine iteT (B := ∃ vs : List V, H4 T2 = some (.lst vs) ∧ TdAll K H4 vs ((fq (qn.take (j + 1))).map (anD n)) ∧ Same H2 H4) ?_
            have h6 := s4 _ _ h3
            refine ⟨_, rfl, vs, h6, ?_, vs ++ [.ref p], upd_same, ?_, fun c o z => ?_⟩
            · rw [t3.len, List.length_map]
              have := fq_len (qn.take j)
              rw [List.length_take] at this
              exact small1000 (by omega)
            · have kT : KT K H4 (upd H4 T2 (.lst (vs ++ [.ref p]))) := KT.updL h6
              have k3 := (Same.kt s4).trans kT
              rw [e9, List.map_append]
              exact (t3.keep k3).app (.cons (tan.keep k3) .nil)
            · rw [upd_ne (ne_of_none z hT2)]
              exact s4 _ _ (s3 _ _ z)
      rintro H3 ⟨vs, h3, t3, s3⟩
      rw [ly, List.take_length] at t3
      have lv : vs.length = (fq qn).length := by rw [t3.len, List.length_map]
      have lf := fq_len qn
      -- and what is behind them
      refine ⟨_, rfl, .inl ⟨rfl, _, SqL.of (s3 _ _ h2)⟩, ?_⟩
      refine ⟨_, rfl, T2, rfl, ⟨_, SqL.of h3⟩, fun T4 hT4 => ?_⟩
      refine lc_it (walk_list (K := K) (a := T2) (xs := vs)) (fun j H4 => ∃ zs : List V, H4 T4 = some (.lst zs) ∧ TdAll K H4 zs (((fq qn).take j).map fun a => anD n (hopeA n a)) ∧ Same H3 H4) ⟨[], upd_same, .nil, same_upd hT4⟩ (fun i H2 _ h => ?_) ?_ ?_
      · obtain ⟨_, _, _, s4⟩ := h
        exact SqL.of (s4 _ _ h3)
      · rintro j y H0 H4 hj ⟨zs, h4, t4, s4⟩ ⟨rfl, e2⟩
        obtain ⟨dy, ey, ty⟩ := t3.getV e2
        obtain ⟨an, ea, rfl⟩ := map_at ey
        have ma : an ∈ qn := (List.mem_filter.mp (List.mem_of_getElem? ea)).1
        obtain ⟨p, vw, vz, vt, rfl, hp, tw, tz, tt⟩ := td_an (ty.keep (Same.kt s4))
        refine ⟨p, _, rfl, hp, rfl, _, _, rfl, _, _, rfl, _, _, rfl, rfl, rfl, ?_⟩
        refine iteT (B := ∃ zs : List V, H4 T4 = some (.lst zs) ∧ TdAll K H4 zs (((fq qn).take (j + 1)).map fun a => anD n (hopeA n a)) ∧ Same H3 H4) ?_
        refine ⟨_, rfl, _, rfl, _, rfl, W, vt, an.2.1, an.2.2, rfl, tt, nok an ma, hW, fun v5 H5 s5 t5 => ?_⟩
        refine ⟨by show 3 ≤ sizeLine; decide, fun p6 n6 => ?_⟩
        have s6 : Same H5 (upd H5 p6 (.tup [vw, vz, v5])) := same_upd n6
        have s36 := s5.trans s6
        have h6 := s36 _ _ h4
        refine ⟨zs, h6, ?_, zs ++ [.ref p6], upd_same, ?_, fun c o z => ?_⟩
        · rw [t4.len, List.length_map, List.length_take]
          exact small1000 (by omega)
        · have kT : KT K (upd H5 p6 (.tup [vw, vz, v5])) (upd (upd H5 p6 (.tup [vw, vz, v5])) T4 (.lst (zs ++ [.ref p6]))) := KT.updL h6
          have k3 := (Same.kt s36).trans kT
          rw [List.take_add_one, ea, List.map_append]
          exact (t4.keep k3).app (.cons (.tup (kT _ _ (.inl (.inl upd_same))) (.cons (tw.keep k3) (.cons (tz.keep k3) (.cons (t5.keep ((Same.kt s6).trans kT)) .nil)))) .nil)
        · rw [upd_ne (ne_of_none z hT4)]
          exact s36 _ _ (s4 _ _ z)
      · rintro H4 ⟨zs, h4, t4, s4⟩
        rw [lv, List.take_length] at t4
        refine ⟨T4, zs, rfl, SqL.of h4, fun l H5 s5 q5 => ?_⟩
        have s35 := s4.trans s5
        have h5 := s35 _ _ (s3 _ _ h2)
        have kT : KT K H5 (upd H5 T (.lst (us ++ [.ref l]))) := KT.updL h5
        refine ⟨T, us, _, rfl, rfl, h5, ?_, us ++ [.ref l], _, _, _, _, _, _, _, rfl, upd_same, ?_, fun c o z => ?_⟩
        · rw [t2.len, List.length_map, List.length_take]
          exact small1000 (by omega)
        · rw [List.take_add_one, eq, List.map_append]
          refine (t2.keep ((Same.kt (s3.trans s35)).trans kT)).app (.cons ?_ .nil)
          show Td K _ _ (qnD n (hopeQ n qn))
          rw [hopeQ_fq]
          unfold qnD
          rw [List.map_map]
          exact .tup (kT _ _ q5) (t4.keep ((Same.kt s5).trans kT))
        · rw [upd_ne (ne_of_none z hT)]
          exact s35 _ _ (s3 _ _ (s2 _ _ z))
    · rintro σ H2 ⟨us, o2, o3, o4, o5, o6, o7, o8, rfl, h2, t2, s2⟩
      rw [lx, List.take_length] at t2
      refine ⟨_, rfl, T, us, rfl, SqL.of h2, fun l H' s' q' => q _ _ (s2.trans s') (.tup q' ?_)⟩
      have e : (qs.map fun q => qnD n (hopeQ n q)) = (qs.map (hopeQ n)).map (qnD n) := by rw [List.map_map]; rfl
      rw [e] at t2
      exact t2.keep (Same.kt s')
end
end Tl
namespace Tl
open PySem PySem.Spec PyProof.Rows L2 RZ
def key {n : Nat} (a : An n) : List Int × List Rat := (a.1, a.2.1)
theorem key_at {n m : Nat} {q : Qn n} {q' : Qn m} (e : q'.map key = q.map key) {i : Nat} {x : An m} (h : q'[i]? = some x) : ∃ y : An n, q[i]? = some y ∧ y.1 = x.1 ∧ y.2.1 = x.2.1 := by
  have h1 : (q'.map key)[i]? = some (key x) := by rw [List.getElem?_map, h]; rfl
  rw [e] at h1
  obtain ⟨y, ey, ky⟩ := map_at h1
  have k1 : x.1 = y.1 := congrArg Prod.fst ky
  have k2 : x.2.1 = y.2.1 := congrArg Prod.snd ky
  exact ⟨y, ey, k1.symm, k2.symm⟩
theorem key_col {n m : Nat} {q : Qn n} {q' : Qn m} (e : q'.map key = q.map key) (j : Nat) : col q' j = col q j := by
  have f : ∀ {k : Nat} (r : Qn k), col r j = (r.map key).map fun z => z.2.getD j 0 := fun r => by
    rw [List.map_map]
    rfl
  rw [f q', f q, e]
theorem qnOk_key {W n m : Nat} {ahead : List Rat} {q : Qn n} {q' : Qn m} (e : q'.map key = q.map key) (h : QnOk W ahead q) : QnOk W ahead q' := by
  have hl : q'.length = q.length := by
    have := congrArg List.length e
    rw [List.length_map, List.length_map] at this
    exact this
  have mem : ∀ a ∈ q', ∃ y ∈ q, y.1 = a.1 ∧ y.2.1 = a.2.1 := fun a ha => by
    obtain ⟨i, hi, rfl⟩ := List.getElem_of_mem ha
    obtain ⟨y, ey, k⟩ := key_at e (List.getElem?_eq_getElem hi)
    exact ⟨y, List.mem_of_getElem? ey, k⟩
  refine ⟨by have := h.one; omega, by have := h.most; omega, fun a ha => ?_, fun i x y hx hy => ?_, fun a ha => ?_, fun a ha => ?_, fun j hj => ?_⟩
  · obtain ⟨y, hy, k1, k2⟩ := mem a ha
    rw [← k1]
    exact h.words y hy
  · obtain ⟨x', ex, k1, _⟩ := key_at e hx
    obtain ⟨y', ey, k2, _⟩ := key_at e hy
    rw [← k1, ← k2]
    exact h.asc i x' y' ex ey
  · obtain ⟨y, hy, k1, k2⟩ := mem a ha
    rw [← k2]
    exact h.wide y hy
  · obtain ⟨y, hy, k1, k2⟩ := mem a ha
    rw [← k2]
    exact h.chs y hy
  · rw [key_col e]
    exact h.whole j hj
def zer (W : Nat) : List Rat := List.replicate W 0
theorem zer_at (W j : Nat) : (zer W).getD j 0 = 0 := by
  unfold zer
  by_cases h : j < W
  · exact getD_of (by rw [List.getElem?_replicate, if_pos h])
  · rw [List.getD_eq_getElem?_getD, List.getElem?_eq_none (by rw [List.length_replicate]; omega)]
    rfl
/-- a hopeless answer more at the end -/
theorem qnOk_more {W n : Nat} {ahead : List Rat} {q : Qn n} (h : QnOk W ahead q) (l : q.length ≤ 11) {wd : List Int} (hw : WordOk wd) {nd : Nd n} {x : An n} (hx : q[q.length - 1]? = some x) (hlt : HT.lexLt x.1 wd = true) : QnOk W ahead (q ++ [(wd, zer W, nd)]) := by
  have c : ∀ j, col (q ++ [((wd, zer W, nd) : An n)]) j = col q j ++ [0] := fun j => by
    unfold col
    rw [List.map_append]
    show _ ++ [(zer W).getD j 0] = _
    rw [zer_at]
  have o1 := h.one
  refine ⟨by rw [List.length_append]; omega, by rw [List.length_append]; show q.length + 1 ≤ 12; omega, fun a ha => ?_, fun i x' y' h1 h2 => ?_, fun a ha => ?_, fun a ha => ?_, fun j hj => ?_⟩
  · rcases List.mem_append.mp ha with z | z
    · exact h.words a z
    · rw [List.mem_singleton.mp z]
      exact hw
  · by_cases hi : i + 1 < q.length
    · rw [List.getElem?_append_left hi] at h2
      rw [List.getElem?_append_left (by omega)] at h1
      exact h.asc i x' y' h1 h2
    · have hb := (List.getElem?_eq_some_iff.mp h2).1
      rw [List.length_append] at hb
      have hb2 : i + 1 < q.length + 1 := hb
      have ei : i + 1 = q.length := by omega
      rw [ei, List.getElem?_append_right (Nat.le_refl _), Nat.sub_self] at h2
      rw [List.getElem?_append_left (by omega), show i = q.length - 1 by omega, hx] at h1
      cases h1
      cases h2
      exact hlt
  · rcases List.mem_append.mp ha with z | z
    · exact h.wide a z
    · rw [List.mem_singleton.mp z]
      show (zer W).length = W
      unfold zer
      rw [List.length_replicate]
  · rcases List.mem_append.mp ha with z | z
    · exact h.chs a z
    · rw [List.mem_singleton.mp z]
      intro r hr
      have : r = 0 := (List.mem_replicate.mp hr).2
      rw [this]
      exact ch_zero
  · rw [c, fsum_snoc, Rat.add_zero]
    exact h.whole j hj
/-- a node of one round where more may be -/
def upA (m : Nat) (a : An 0) : An m := (a.1, a.2.1, emptyNd m)
def upN (m : Nat) (qs : List (Qn 0)) : Nd (m + 1) := (qs.map fun q => q.map (upA m) : List (Qn m))
theorem upN_D (m : Nat) (qs : List (Qn 0)) : ndD (m + 1) (upN m qs) = ndD 1 (show Nd 1 from qs) := by
  show PyData.tuple _ = PyData.tuple _
  refine congrArg PyData.tuple ?_
  unfold upN
  show List.map _ (List.map _ qs) = _
  rw [List.map_map]
  refine List.map_congr_left fun q _ => ?_
  show PyData.tuple (List.map _ (List.map _ q)) = PyData.tuple _
  rw [List.map_map]
  refine congrArg PyData.tuple (List.map_congr_left fun a _ => ?_)
  show PyData.tuple [wdD a.1, wsD a.2.1, ndD m (emptyNd m)] = PyData.tuple [wdD a.1, wsD a.2.1, ndD 0 a.2.2]
  rw [ndD_empty]
  rfl
theorem upN_cnt (m : Nat) (qs : List (Qn 0)) : cnt (m + 1) (upN m qs) = cnt 1 (show Nd 1 from qs) := by
  show List.sum _ = List.sum _
  congr 1
  unfold upN
  show List.map _ (List.map _ qs) = _
  rw [List.map_map]
  refine List.map_congr_left fun q _ => ?_
  show List.sum (List.map _ (List.map _ q)) = List.sum _
  rw [List.map_map]
  congr 1
  refine List.map_congr_left fun a _ => ?_
  show 1 + cnt m (emptyNd m) = 1 + 0
  rw [cnt_empty]
theorem upN_ok {W m : Nat} {ws : List Rat} {qs : List (Qn 0)} (h : NdOk W 1 ws (show Nd 1 from qs)) : NdOk W (m + 1) ws (upN m qs) := by
  refine ⟨by show (List.map _ qs).length ≤ 5; rw [List.length_map]; exact h.1, fun q' hq' => ?_⟩
  obtain ⟨q, hq, rfl⟩ := List.mem_map.mp hq'
  refine ⟨qnOk_key (by rw [List.map_map]; rfl) (h.2 q hq).1, fun a' ha' => ?_⟩
  obtain ⟨a, ha, rfl⟩ := List.mem_map.mp ha'
  exact ndOk_empty _ _ _
end Tl
namespace Tl
open PySem PySem.Spec PyProof.Rows L2 RZ
theorem atI_neg1 {xs : List V} {v : V} (h : xs[xs.length - 1]? = some v) : atI xs (-1) = some v := by
  have hl := (List.getElem?_eq_some_iff.mp h).1
  have hne : xs ≠ [] := fun e => by subst e; exact absurd hl (Nat.not_lt_zero _)
  have e := List.dropLast_concat_getLast hne
  have g : xs.getLast hne = v := by
    rw [List.getLast_eq_getElem]
    exact (List.getElem?_eq_some_iff.mp h).2
  rw [g] at e
  rw [← e]
  exact atI_last _ _
theorem zer_td {K : PySem.W.Frag} {H : Hp} {p q : Addr} {W : Nat} (hq : Td K H (.ref q) (rD 0)) (hp : SqT K H p (List.replicate (W : Int).toNat [V.ref q]).flatten) : Td K H (.ref p) (wsD (zer W)) := by
  rw [flat_rep, Int.toNat_natCast] at hp
  refine .tup hp ?_
  unfold zer
  rw [List.map_replicate]
  exact tdAll_rep hq W
def spWH (K : PySem.W.Frag) (n : Nat) : Sp := fun vs H Q _ => ∃ (b g : Addr) (W : Nat) (v : V) (ahead : List Rat) (t : Nd n), vs = [.ref b, .int (W : Int), v] ∧ Bag H b g ∧ Td K H v (ndD n t) ∧ NdF W n ahead t ∧ 1 ≤ W ∧ W ≤ 5 ∧
  ∀ (v' : V) (t' : Nd (n + 1)) (H' : Hp), Td K H' v' (ndD (n + 1) t') → NdOk W (n + 1) ahead t' → cnt (n + 1) t' ≤ 11 * cnt n t → Bag H' b g → Frm b g H H' → Q v' H'
/-- what stands when i questions are done -/
structure WhI (K : PySem.W.Frag) (b g T : Addr) (W n : Nat) (ahead : List Rat) (qs : List (Qn n)) (H : Hp) (i : Nat) (H2 : Hp) (us : List V) (qs' : List (Qn (n + 1))) : Prop where
  len : qs'.length = i
  h : H2 T = some (.lst us)
  t : TdAll K H2 us (qs'.map (qnD (n + 1)))
  ok : ∀ q ∈ qs', QnOk W ahead q ∧ ∀ a ∈ q, NdOk W (n + 1) a.2.1 a.2.2
  c : cnt (n + 2) (qs' : List (Qn (n + 1))) ≤ 11 * cnt (n + 1) (qs.take i : List (Qn n))
  B : Bag H2 b g
  F : Frm b g H H2
theorem wh_fin {K : PySem.W.Frag} {b g T : Addr} {W n : Nat} {ahead : List Rat} {qs : List (Qn n)} {H H2 H5 : Hp} {i : Nat} {us : List V} {qs' : List (Qn (n + 1))} {qn : Qn n} {qa : Qn (n + 1)} {l : Addr} (I : WhI K b g T W n ahead qs H i H2 us qs') (eq : qs[i]? = some qn) (F5 : Frm b g H2 H5) (B5 : Bag H5 b g) (t5 : Td K H5 (.ref l) (qnD (n + 1) qa)) (o1 : QnOk W ahead qa)
    (o2 : ∀ a ∈ qa, NdOk W (n + 1) a.2.1 a.2.2) (c5 : cntQ (n + 1) qa ≤ 11 * cntQ n qn) (Tb : T ≠ b) (Tg : T ≠ g) (T0 : H T = none) : H5 T = some (.lst us) ∧ WhI K b g T W n ahead qs H (i + 1) (upd H5 T (.lst (us ++ [.ref l]))) (us ++ [.ref l]) (qs' ++ [qa]) := by
  have h5 := F5 _ _ I.h Tb Tg
  have kT : KT K H5 (upd H5 T (.lst (us ++ [.ref l]))) := KT.updL h5
  refine ⟨h5, by rw [List.length_append, I.len]; rfl, upd_same, ?_, fun q hq => ?_, ?_, B5.updN Tb Tg, (I.F.trans F5).updN T0⟩
  · rw [List.map_append]
    exact (I.t.keep ((I.B.kt F5).trans kT)).app (.cons (t5.keep kT) .nil)
  · rcases List.mem_append.mp hq with z | z
    · exact I.ok q z
    · rw [List.mem_singleton.mp z]
      exact ⟨o1, o2⟩
  · rw [cnt_snoc, cnt_take n qs i qn eq]
    have := I.c
    show cnt (n + 2) (qs' : List (Qn (n + 1))) + _ ≤ _
    omega
section
variable {P : Program} {w : World} {K : PySem.W.Frag} {mg : Str → Option Value} {base : Heap}
theorem ok_law_with_hopeless {f f1 f2 : Addr} {fd fd1 fd2 : FuncData} (D : Dn K mg "_law_with_hopeless" s_law_with_hopeless ["bag", "worlds", "node"] f fd) (B : Blt mg) (D_law_pick : Dn K mg "_law_pick" s_law_pick ["bag", "many"] f1 fd1)
    (D_law_node : Dn K mg "_law_node" s_law_node ["bag", "worlds", "ahead", "levels", "left"] f2 fd2) (G_law_node : FnOk P w K mg base CX0 8 f2 fd2 ["bag", "worlds", "ahead", "levels", "left"] (spN K 1)) : ∀ n : Nat, FnOk P w K mg base CX0 (9 + n) f fd ["bag", "worlds", "node"] (spWH K n) := by
  intro n
  have G_law_pick : FnOk P w K mg base CX0 1 f1 fd1 ["bag", "many"] spPick := ok_law_pick D_law_pick B
  obtain ⟨sp0, G_law_with_hopeless, hsp⟩ : ∃ sp0, FnOk P w K mg base CX0 (8 + n) f fd ["bag", "worlds", "node"] sp0 ∧ (∀ m, n = m + 1 → sp0 = spWH K m) := by
    cases n with
    | zero => exact ⟨fun _ _ _ _ => False, ⟨fun vs H Q E h => h.elim, fun A outer s H args us vs Q E _ _ _ _ h => h.elim⟩, fun m e => by omega⟩
    | succ m =>
      have G := ok_law_with_hopeless D B D_law_pick D_law_node G_law_node m
      rw [show 9 + m = 8 + (m + 1) by omega] at G
      exact ⟨_, G, fun m' e => by rw [show m' = m by omega]⟩
  rw [show 9 + n = (8 + n) + 1 by omega]
  refine D.F.ok sc_law_with_hopeless (fun vs H Q E h => ?_) (fun cdv A outer s H vs Q E hr h => ?_)
  · obtain ⟨b, g, W, v, ahead, t, rfl, _⟩ := h
    rfl
  obtain ⟨b, g, W, v, ahead, t, rfl, hB, hv, hok, hW1, hW5, q⟩ := h
  have nd := sc_law_with_hopeless.nd
  have D_law_with_hopeless := D
  refine ⟨_, (pss_cons (ps_set (i := 3) nd rfl (.inl rfl) (pe_lst pa_nil))
      (pss_cons (ps_for PassesOwn.never rfl (k_iT (K := K) rfl (pv 2)) (pg_name (i := 4) nd rfl (.inl rfl)) (pss_cons (ps_setLc (i := 5) (own := [("word", 6), ("weights", 7), ("behind", 8)]) rfl nd rfl rfl (sw_true rfl rfl rfl (by decide +kernel)) (k_iT (K := K) rfl (pv 4)) (blkOk_by (own := [("word", 6), ("weights", 7), ("behind", 8)]) (by kernel_rfl)) (fun _ _ _ _ _ => (k_tup (K := K) (n := 3) rfl rfl (pgs_cons (pg_name (i := 6) nd rfl (.inl rfl)) (pgs_cons (pg_name (i := 7) nd rfl (.inl rfl)) (pgs_cons (pg_name (i := 8) nd rfl (.inl rfl)) pgs_nil))))) (fun _ _ _ _ _ => pts_nil) (fun _ _ _ _ _ => (pe_tup (pa_cons (pv 6) (pa_cons (pv 7) (pa_cons (pe_call G_law_with_hopeless (hr.mono (by omega)) (by rfl) D_law_with_hopeless.m D_law_with_hopeless.F.kp D_law_with_hopeless.b .nil pass0 (pa_cons (pv 0) (pa_cons (pv 1) (pa_cons (pv 8) pa_nil)))) pa_nil))))))
      (pss_cons (ps_if (PW.pt (pw_and (pt_cmpR op_eq (pe_call G_law_pick (hr.mono (by omega)) (by rfl) D_law_pick.m D_law_pick.F.kp D_law_pick.b .nil pass0 (pa_cons (pv 0) (pa_cons pe_int pa_nil))) pe_int (nomark _)) (pw_and1 (pt_cmpR (k_ltT (K := K) rfl hr.units0) (pe_ix (k_ixT (K := K) rfl) (pe_ix (k_ixL (K := K) rfl) (pv 5) (pe_un un_neg pe_int) (fun _ _ => rfl)) pe_int (fun _ _ => rfl)) (pe_tup (pa_cons pe_int pa_nil)) (nomark _))))) (pss_cons (ps_set (i := 9) nd rfl (.inl rfl) (pe_op (k_rep (K := K) rfl) (pe_tup (pa_cons (pe_tup (pa_cons pe_int (pa_cons pe_int pa_nil))) pa_nil)) (pv 1)))
      (pss_one (ps_expr (pe_bm PySem.F.plainAttrs_list PySem.F.slot_list_append PySem.F.type_list_append mt_append (pv 5) (pa_cons (pe_tup (pa_cons (pe_tup (pa_cons pe_int (pa_cons (pe_call G_law_pick (hr.mono (by omega)) (by rfl) D_law_pick.m D_law_pick.F.kp D_law_pick.b .nil pass0 (pa_cons (pv 0) (pa_cons pe_int pa_nil))) pa_nil))) (pa_cons (pv 9) (pa_cons (pe_call G_law_node (hr.mono (by omega)) (by rfl) D_law_node.m D_law_node.F.kp D_law_node.b .nil pass0 (pa_cons (pv 0) (pa_cons (pv 1) (pa_cons (pv 9) (pa_cons pe_int (pa_cons (pe_lst (pa_cons pe_int pa_nil)) pa_nil)))))) pa_nil)))) pa_nil))))) pss_nil)
      (pss_one (ps_expr (pe_bm PySem.F.plainAttrs_list PySem.F.slot_list_append PySem.F.type_list_append mt_append (pv 3) (pa_cons (pe_callTy (k_tupOf (K := K) rfl) (by rfl) B.tuple (by decide +kernel) (pa_cons (pv 5) pa_nil)) pa_nil)))))))
      (pss_one (ps_ret (pe_callTy (k_tupOf (K := K) rfl) (by rfl) B.tuple (by decide +kernel) (pa_cons (pv 3) pa_nil)))))), ?_⟩
  obtain ⟨a, xs, ds, rfl, ha, ed, ta, l0⟩ := td_qs hv
  refine ⟨by show 0 ≤ sizeLine; decide, fun T hT => ?_⟩
  obtain ⟨Tb, Tg⟩ := hB.neNew hT
  have sT := same_upd (o := .lst []) hT
  cases n with
  | zero =>
    have := l0 rfl
    subst this
    refine ⟨_, rfl, a, rfl, ⟨_, Same.kt sT _ _ ha⟩, for_it (walk_tup (K := K) (a := a) (xs := [])) (fun i σ H2 => H2 = upd H T (.lst []) ∧ ∃ o4 o5 o6 o7 o8 o9 : Option V, σ = [some (.ref b), some (.int (W : Int)), some (.ref a), some (.ref T), o4, o5, o6, o7, o8, o9]) ⟨rfl, none, none, none, none, none, none, rfl⟩ (fun i σ H2 _ h => by rw [h.1]; exact Same.kt sT _ _ ha) ?_ ?_⟩
    · rintro i x σ H2 H3 hi
      exact absurd hi (Nat.not_lt_zero _)
    · rintro σ H2 ⟨rfl, o4, o5, o6, o7, o8, o9, rfl⟩
      refine ⟨_, rfl, T, [], rfl, SqL.of upd_same, fun l H' s' q' => q (.ref l) (emptyNd 1) H' (.tup q' .nil) (ndOk_empty _ _ _) (Nat.zero_le _) (hB.keep (sT.trans s')) (.of (sT.trans s'))⟩
  | succ n =>
    have hsp := hsp n rfl
    subst hsp
    obtain ⟨qs, hqs⟩ : ∃ qs : List (Qn n), (qs : Nd (n + 1)) = t := ⟨t, rfl⟩
    subst hqs
    cases ed
    have lx : xs.length = qs.length := by rw [ta.len, List.length_map]
    have l5 : qs.length ≤ 5 := hok.1
    refine ⟨_, rfl, a, rfl, ⟨_, Same.kt sT _ _ ha⟩, for_it (walk_tup (K := K) (a := a) (xs := xs)) (fun i σ H2 => ∃ (us : List V) (qs' : List (Qn (n + 1))) (o4 o5 o6 o7 o8 o9 : Option V), σ = [some (.ref b), some (.int (W : Int)), some (.ref a), some (.ref T), o4, o5, o6, o7, o8, o9] ∧ WhI K b g T W n ahead qs H i H2 us qs') ⟨[], [], none, none, none, none, none, none, rfl, rfl, upd_same, .nil, fun q hq => absurd hq List.not_mem_nil, Nat.zero_le _, hB.keep sT, .of sT⟩ (fun i σ H2 _ h => ?_) ?_ ?_⟩
    · obtain ⟨_, _, _, _, _, _, _, _, _, I⟩ := h
      exact hB.kt I.F _ _ ha
    · rintro i x σ H0 H2 hi ⟨us, qs', o4, o5, o6, o7, o8, o9, rfl, I⟩ ⟨rfl, e1⟩
      obtain ⟨dx, ex, tx⟩ := ta.getV e1
      obtain ⟨qn, eq, rfl⟩ := map_at ex
      obtain ⟨⟨qok, q3⟩, nok⟩ := hok.2 qn (List.mem_of_getElem? eq)
      have q1 := qok.one
      obtain ⟨p0, ys, rfl, hb, tb⟩ := id (tx.keep (hB.kt I.F)).tupE
      have ly : ys.length = qn.length := by rw [tb.len, List.length_map]
      -- the answers
      refine ⟨_, rfl, p0, rfl, ⟨_, hb⟩, fun T2 hT2 => ?_⟩
      obtain ⟨T2b, T2g⟩ := I.B.neNew hT2
      refine lc_it (walk_tup (K := K) (a := p0) (xs := ys)) (fun j H3 => ∃ (vs : List V) (qa : Qn (n + 1)), H3 T2 = some (.lst vs) ∧ TdAll K H3 vs (qa.map (anD (n + 1))) ∧ qa.map key = (qn.take j).map key ∧ (∀ a ∈ qa, NdOk W (n + 1) a.2.1 a.2.2) ∧ cntB (n + 1) qa ≤ 11 * cntB n (qn.take j) ∧ Bag H3 b g ∧ Frm b g H2 H3) ⟨[], [], upd_same, .nil, rfl, fun a h => absurd h List.not_mem_nil, Nat.zero_le _, I.B.keep (same_upd hT2), .of (same_upd hT2)⟩ (fun i H2 _ h => ?_) ?_ ?_
      · obtain ⟨_, _, _, _, _, _, _, _, F3⟩ := h
        exact I.B.kt F3 _ _ hb
      · rintro j y H0 H3 hj ⟨vs, qa, h3, t3, k3, n3, c3, B3, F3⟩ ⟨rfl, e2⟩
        obtain ⟨dy, ey, ty⟩ := tb.getV e2
        obtain ⟨an, ea, rfl⟩ := map_at ey
        have ma := List.mem_of_getElem? ea
        obtain ⟨p, vw, vz, vt, rfl, hp, tw, tz, tt⟩ := td_an (ty.keep (I.B.kt F3))
        refine ⟨p, _, rfl, hp, rfl, _, _, rfl, _, _, rfl, _, _, rfl, rfl, rfl, ?_⟩
        refine iteT (B := ∃ (vs : List V) (qa : Qn (n + 1)), H3 T2 = some (.lst vs) ∧ TdAll K H3 vs (qa.map (anD (n + 1))) ∧ qa.map key = (qn.take (j + 1)).map key ∧ (∀ a ∈ qa, NdOk W (n + 1) a.2.1 a.2.2) ∧ cntB (n + 1) qa ≤ 11 * cntB n (qn.take (j + 1)) ∧ Bag H3 b g ∧ Frm b g H2 H3) ?_
        refine ⟨_, rfl, _, rfl, _, rfl, _, rfl, _, rfl, b, g, W, vt, an.2.1, an.2.2, rfl, B3, tt, nok an ma, hW1, hW5, fun v5 t5 H5 tv5 ok5 c5 B5 F5 => ?_⟩
        refine ⟨by show 3 ≤ sizeLine; decide, fun p6 n6 => ?_⟩
        have s6 : Same H5 (upd H5 p6 (.tup [vw, vz, v5])) := same_upd n6
        have F6 := F5.trans (.of s6)
        have h6 := F6 _ _ h3 T2b T2g
        have kT : KT K (upd H5 p6 (.tup [vw, vz, v5])) (upd (upd H5 p6 (.tup [vw, vz, v5])) T2 (.lst (vs ++ [.ref p6]))) := KT.updL h6
        have kk := (B3.kt F6).trans kT
        have lqa : qa.length ≤ 3 := by
          have := congrArg List.length k3
          rw [List.length_map, List.length_map, List.length_take] at this
          omega
        refine ⟨vs, h6, ?_, vs ++ [.ref p6], qa ++ [((an.1, an.2.1, t5) : An (n + 1))], upd_same, ?_, ?_, fun a' ha' => ?_, ?_, (B5.keep s6).updN T2b T2g, (F3.trans F6).updN hT2⟩
        · rw [t3.len, List.length_map]
          exact small1000 (by omega)
        · rw [List.map_append]
          exact (t3.keep kk).app (.cons (.tup (kT _ _ (.inl (.inl upd_same))) (.cons (tw.keep kk) (.cons (tz.keep kk) (.cons (tv5.keep ((Same.kt s6).trans kT)) .nil)))) .nil)
        · rw [List.map_append, k3, List.take_add_one, ea, List.map_append]
          rfl
        · rcases List.mem_append.mp ha' with z | z
          · exact n3 a' z
          · rw [List.mem_singleton.mp z]
            exact ok5
        · rw [cntB_snoc, List.take_add_one, ea]
          show _ ≤ 11 * cntB n (_ ++ [an])
          rw [cntB_snoc]
          show cntB (n + 1) qa + cnt (n + 1) t5 ≤ _
          omega
      rintro H3 ⟨vs, qa, h3, t3, k3, n3, c3, B3, F3⟩
      rw [ly, List.take_length] at k3 c3
      have lqa : qa.length = qn.length := by
        have := congrArg List.length k3
        rw [List.length_map, List.length_map] at this
        exact this
      have lv : vs.length = qa.length := by rw [t3.len, List.length_map]
      have oka : QnOk W ahead qa := qnOk_key k3 qok
      have cqn := cntQ_eq n qn
      have cqa := cntQ_eq (n + 1) qa
      -- shall a hopeless one stand behind them
      refine ⟨_, rfl, b, g, 4, rfl, B3, by decide, by decide, fun r H4 r0 r1 B4 F4 => ?_⟩
      have h4 := F4 _ _ h3 T2b T2g
      have B24 : Frm b g H2 H4 := F3.trans F4
      have t4 := t3.keep (B3.kt F4)
      -- the answers as they are
      have plain : ∀ {l : Addr} {H5 : Hp}, Same H4 H5 → SqT K H5 l vs → H5 T = some (.lst us) ∧ WhI K b g T W n ahead qs H (i + 1) (upd H5 T (.lst (us ++ [.ref l]))) (us ++ [.ref l]) (qs' ++ [qa]) := fun s5 q5 =>
        wh_fin I eq (B24.trans (.of s5)) (B4.keep s5) (.tup q5 (t4.keep (Same.kt s5))) oka n3 (by omega) Tb Tg hT
      have lus : us.length < sizeLine := by
        rw [I.t.len, List.length_map, I.len]
        exact small1000 (by omega)
      by_cases hr0 : r = 0
      · subst hr0
        refine ⟨rfl, _, rfl, ?_⟩
        rw [dec_int, beq_self_eq_true]
        refine iteT ?_
        have hlast : qa[qa.length - 1]? = some (qa[qa.length - 1]'(by omega)) := List.getElem?_eq_getElem _
        generalize qa[qa.length - 1]'(by omega) = la at hlast
        obtain ⟨vl, el, tl⟩ := t4.get (i := qa.length - 1) (d := anD (n + 1) la) (by rw [List.getElem?_map, hlast]; rfl)
        obtain ⟨p, vw, vz, vt, rfl, hp, tw, tz, tt⟩ := td_an tl
        obtain ⟨pw, ws, rfl, hpw, tws⟩ := id tw.tupE
        have ews := tdAll_intsE tws
        subst ews
        refine ⟨_, rfl, 1, rfl, T2, vs, -1, _, rfl, rfl, SqL.of h4, atI_neg1 (by rw [lv]; exact el), p, _, 0, _, rfl, rfl, hp, at_of (j := 0) rfl rfl, (by show 1 ≤ sizeLine; decide), fun pz nz => ?_⟩
        have s5 := same_upd (o := .tup [.int 99]) nz
        refine ⟨pw, pz, la.1, [99], rfl, rfl, Same.kt s5 _ _ hpw, .inl (.inl upd_same), _, rfl, ?_⟩
        cases hlt : HT.lexLt la.1 [99] with
        | false =>
          refine iteF ?_
          refine ⟨_, rfl, .inl ⟨rfl, _, SqL.of (s5 _ _ (B24 _ _ I.h Tb Tg))⟩, ?_⟩
          refine ⟨_, rfl, T2, vs, rfl, SqL.of (s5 _ _ h4), fun l H6 s6 q6 => ?_⟩
          obtain ⟨h7, I7⟩ := plain (s5.trans s6) q6
          exact ⟨T, us, _, rfl, rfl, h7, lus, _, _, _, _, _, _, _, _, rfl, I7⟩
        | true =>
          refine iteT ?_
          refine ⟨by show 2 ≤ sizeLine; decide, fun p1 n1 => ⟨by show 1 ≤ sizeLine; decide, fun p2 n2 => ?_⟩⟩
          have s7 := (s5.trans (same_upd (o := .tup [.int 0, .int 1]) n1)).trans (same_upd (o := .tup [.ref p1]) n2)
          refine ⟨_, rfl, p2, (W : Int), _, rfl, rfl, .inl (.inl upd_same), by simp, by omega, by omega, by simp, fun pa H8 s8 q8 => ?_⟩
          have s48 := s7.trans s8
          have tz8 : Td K H8 (.ref p1) (rD 0) := by
            rw [rD_zero]
            exact .tup (Same.kt ((same_upd n2).trans s8) _ _ (.inl (.inl upd_same))) (tdAll_ints [0, 1])
          have tzs := zer_td tz8 q8
          refine ⟨_, rfl, .inl ⟨rfl, _, SqL.of (s48 _ _ h4)⟩, ?_⟩
          refine ⟨_, rfl, b, g, 9, rfl, B4.keep s48, by decide, by decide, fun r9 H9 z0 z1 B9 F9 => ?_⟩
          refine ⟨by show 2 ≤ sizeLine; decide, fun pw' nw => ?_⟩
          have s10 := same_upd (o := .tup [.int 99, .int r9]) nw
          have F10 := F9.trans (.of s10)
          have B10 := B9.keep s10
          have tw10 : SqT K (upd H9 pw' (.tup [.int 99, .int r9])) pw' [.int 99, .int r9] := .inl (.inl upd_same)
          have tz10 := tzs.keep ((B4.keep s48).kt F10)
          generalize upd H9 pw' (.tup [.int 99, .int r9]) = H10 at s10 F10 B10 tw10 tz10
          refine ⟨_, rfl, _, rfl, _, rfl, _, rfl, by show 1 ≤ sizeLine; decide, fun l nl => ?_⟩
          have s11 := same_upd (o := .lst [.int 4]) nl
          have nl2 := B10.neNew nl
          have B11 : BagL (upd H10 l (.lst [.int 4])) b g l 4 := ⟨B10.keep s11, upd_same, nl2.1, nl2.2⟩
          refine ⟨b, g, l, W, 0, .ref pa, zer W, 4, rfl, B11, tz10.keep (Same.kt s11), by unfold zer; rw [List.length_replicate], fun r hr => ?_, by omega, hW1, hW5, fun v12 t12 L12 H12 tv12 ok12 c12 low12 B12 F12 => ?_⟩
          · have : r = 0 := (List.mem_replicate.mp hr).2
            rw [this]
            exact ch_zero
          refine ⟨by show 3 ≤ sizeLine; decide, fun p13 n13 => ?_⟩
          have s13 : Same H12 (upd H12 p13 (.tup [.ref pw', .ref pa, v12])) := same_upd n13
          have F1012 : Frm b g H10 H12 := fun a o h ab ag => F12 a o (s11 a o h) ab ag (ne_of_none h nl)
          have F413 := ((Frm.of s48).trans (F10.trans F1012)).trans (Frm.of s13)
          have k1013 := ((Same.kt (K := K) s11).trans (B11.kt F12)).trans (Same.kt s13)
          have B13 := B12.B.keep s13
          have tp13 : SqT K (upd H12 p13 (.tup [.ref pw', .ref pa, v12])) p13 [.ref pw', .ref pa, v12] := .inl (.inl upd_same)
          have tv13 := tv12.keep (Same.kt s13)
          generalize upd H12 p13 (.tup [.ref pw', .ref pa, v12]) = H13 at s13 F413 k1013 B13 tp13 tv13
          have h13 := F413 _ _ h4 T2b T2g
          refine ⟨T2, vs, _, rfl, rfl, h13, ?_, ?_⟩
          · rw [lv]
            exact small1000 (by omega)
          have kT2 : KT K H13 (upd H13 T2 (.lst (vs ++ [.ref p13]))) := KT.updL h13
          have F214 : Frm b g H2 (upd H13 T2 (.lst (vs ++ [.ref p13]))) := (B24.trans F413).updN hT2
          refine ⟨_, rfl, .inl ⟨rfl, _, SqL.of (F214 _ _ I.h Tb Tg)⟩, _, rfl, T2, _, rfl, SqL.of upd_same, fun l15 H15 s15 q15 => ?_⟩
          have k1315 := kT2.trans (Same.kt s15)
          have tw15 : Td K H15 (.ref pw') (wdD [99, r9]) := .tup (k1315 _ _ (k1013 _ _ tw10)) (tdAll_ints [99, r9])
          have tn15 : Td K H15 v12 (ndD (n + 1) (upN n t12)) := by
            have e := upN_D n t12
            rw [e]
            exact tv13.keep k1315
          have tz15 : Td K H15 (.ref p13) (anD (n + 1) ([99, r9], zer W, upN n t12)) := .tup (k1315 _ _ tp13) (.cons tw15 (.cons (tz10.keep (k1013.trans k1315)) (.cons tn15 .nil)))
          have tq15 : Td K H15 (.ref l15) (qnD (n + 1) (qa ++ [(([99, r9], zer W, upN n t12) : An (n + 1))])) := by
            refine .tup q15 ?_
            rw [List.map_append]
            exact (t4.keep ((B4.kt F413).trans k1315)).app (.cons tz15 .nil)
          have wok : WordOk [99, r9] := ⟨by show 2 ≤ 8; decide, fun x hx => by
            simp only [List.mem_cons, List.not_mem_nil, or_false] at hx
            rcases hx with rfl | rfl
            · exact ⟨by decide, by decide⟩
            · exact ⟨by omega, by omega⟩⟩
          have hl9 : HT.lexLt [99] [99, r9] = true := rfl
          have lowv : lowL 1 = -5 := rfl
          obtain ⟨h16, I16⟩ := wh_fin I eq (F214.trans (.of s15)) ((B13.updN T2b T2g).keep s15) tq15 (qnOk_more oka (by omega) wok hlast (lex_trans hlt hl9)) (fun a' ha' => by
            rcases List.mem_append.mp ha' with z | z
            · exact n3 a' z
            · rw [List.mem_singleton.mp z]
              exact upN_ok ok12.ok) (by
            rw [cntQ_eq, cntB_snoc, List.length_append]
            have e9 : cnt (n + 1) (upN n t12) = cnt 1 t12 := upN_cnt n t12
            show qa.length + 1 + (cntB (n + 1) qa + cnt (n + 1) (upN n t12)) ≤ _
            rw [e9]
            rcases low12 with z | z <;> omega) Tb Tg hT
          exact ⟨T, us, _, rfl, rfl, h16, lus, _, _, _, _, _, _, _, _, rfl, I16⟩
      · refine ⟨rfl, _, rfl, ?_⟩
        rw [dec_int, beq_eq_false_iff_ne.mpr hr0]
        refine iteF ?_
        refine ⟨_, rfl, .inl ⟨rfl, _, SqL.of (B24 _ _ I.h Tb Tg)⟩, ?_⟩
        refine ⟨_, rfl, T2, vs, rfl, SqL.of h4, fun l H5 s5 q5 => ?_⟩
        obtain ⟨h6, I6⟩ := plain s5 q5
        exact ⟨T, us, _, rfl, rfl, h6, lus, _, _, _, _, _, _, _, _, rfl, I6⟩
    · rintro σ H2 ⟨us, qs', o4, o5, o6, o7, o8, o9, rfl, I⟩
      refine ⟨_, rfl, T, us, rfl, SqL.of I.h, fun l H' s' q' => q (.ref l) (qs' : List (Qn (n + 1))) H' (.tup q' (I.t.keep (Same.kt s'))) ⟨by show qs'.length ≤ 5; rw [I.len]; omega, I.ok⟩ ?_ (I.B.keep s') (I.F.trans (.of s'))⟩
      have := I.c
      rw [lx, List.take_length] at this
      exact this
end
end Tl
section
set_option exponentiation.threshold 2000
namespace Tl
open PySem PySem.Spec PyProof.Rows L2 RZ
/-! data that may be shown -/
structure Shw (m : Nat) (d : PyData) : Prop where
  sh : d.showable = true
  lv : d.leavesShort 602 = true
  bk : d.bulk ≤ m
theorem Shw.mono {m m' : Nat} {d : PyData} (h : Shw m d) (l : m ≤ m') : Shw m' d := ⟨h.sh, h.lv, Nat.le_trans h.bk l⟩
theorem log2_lt {n : Nat} (h : n ≤ 2 ^ 600) : n.log2 < 601 := by
  by_cases h0 : n = 0
  · subst h0
    decide
  · exact (Nat.log2_lt h0).mpr (Nat.lt_of_le_of_lt h (Nat.pow_lt_pow_right (by decide) (by decide)))
theorem shw_int {i : Int} (h : i.natAbs ≤ 2 ^ 600) : Shw 0 (.int i) := by
  have hl := log2_lt h
  refine ⟨?_, ?_, Nat.le_refl _⟩
  · show decide (i.natAbs.log2 < 1920) = true
    exact decide_eq_true (by omega)
  · show decide ((PyData.shown (.int i)).length ≤ 602) = true
    refine decide_eq_true ?_
    have := int_text_length_le (a := i) (k := 601) (by decide) hl
    have e : (PyData.shown (.int i)).length = (toString i).length := by
      show (Str.ofString (toString i)).length = _
      exact PySem.ofString_length _
    omega
theorem shw_all {m : Nat} : ∀ {xs : List PyData}, (∀ x ∈ xs, Shw m x) → PyData.showableAll xs = true ∧ PyData.leavesShortAll 602 xs = true ∧ PyData.bulkAll xs ≤ xs.length * (m + 1)
  | [], _ => ⟨rfl, rfl, Nat.zero_le _⟩
  | x :: xs, h => by
    obtain ⟨h1, h2, h3⟩ := h x (List.mem_cons_self ..)
    obtain ⟨a1, a2, a3⟩ := shw_all fun y hy => h y (List.mem_cons_of_mem _ hy)
    refine ⟨?_, ?_, ?_⟩
    · show (PyData.showable x && PyData.showableAll xs) = true
      rw [h1, a1]
      rfl
    · show (PyData.leavesShort 602 x && PyData.leavesShortAll 602 xs) = true
      rw [h2, a2]
      rfl
    · show PyData.bulk x + 1 + PyData.bulkAll xs ≤ (xs.length + 1) * (m + 1)
      rw [Nat.add_mul, Nat.one_mul]
      omega
theorem shw_tup {m : Nat} {xs : List PyData} (h : ∀ x ∈ xs, Shw m x) : Shw (xs.length * (m + 1)) (.tuple xs) := by
  obtain ⟨a1, a2, a3⟩ := shw_all h
  exact ⟨a1, a2, a3⟩
theorem shw_wdD {w : List Int} (h : WordOk w) : Shw 8 (wdD w) := by
  refine (shw_tup (m := 0) fun x hx => ?_).mono (by rw [List.length_map]; have := h.1; omega)
  obtain ⟨i, hi, rfl⟩ := List.mem_map.mp hx
  have := h.2 i hi
  exact shw_int (Nat.le_trans (show i.natAbs ≤ 2 ^ 7 by omega) (Nat.pow_le_pow_right (by decide) (by decide)))
theorem shw_rD {r : Rat} (h : Ch 6 r) : Shw 2 (rD r) := by
  refine (shw_tup (m := 0) (xs := [.int r.num, .int (r.den : Int)]) fun x hx => ?_).mono (by show 2 * 1 ≤ 2; decide)
  simp only [List.mem_cons, List.not_mem_nil, or_false] at hx
  rcases hx with rfl | rfl
  · exact shw_int (Nat.le_trans h.num (ll_small (by decide)))
  · exact shw_int (by rw [Int.natAbs_natCast]; exact Nat.le_trans h.den (ll_small (by decide)))
theorem shw_wsD {ws : List Rat} (l : ws.length ≤ 5) (h : ∀ r ∈ ws, Ch 6 r) : Shw 15 (wsD ws) := by
  refine (shw_tup (m := 2) fun x hx => ?_).mono (by rw [List.length_map]; omega)
  obtain ⟨r, hr, rfl⟩ := List.mem_map.mp hx
  exact shw_rD (h r hr)
theorem shw_ndD {W : Nat} (hW : W ≤ 5) : ∀ {n : Nat} {ahead : List Rat} {t : Nd n}, NdOk W n ahead t → Shw (28 * cnt n t) (ndD n t)
  | 0, _, _, _ => ⟨rfl, rfl, Nat.zero_le _⟩
  | n + 1, ahead, qs, h => by
    have one : ∀ a : An n, ∀ q : Qn n, QnOk W ahead q → a ∈ q → Shw (28 * cnt n a.2.2) (ndD n a.2.2) → PyData.showable (anD n a) = true ∧ PyData.leavesShort 602 (anD n a) = true ∧ PyData.bulk (anD n a) ≤ 26 + 28 * cnt n a.2.2 := by
      intro a q ok ha hn
      have h1 := shw_wdD (ok.words a ha)
      have h2 := shw_wsD (by rw [ok.wide a ha]; exact hW) (ok.chs a ha)
      refine ⟨?_, ?_, ?_⟩
      · show (PyData.showable (wdD a.1) && (PyData.showable (wsD a.2.1) && (PyData.showable (ndD n a.2.2) && true))) = true
        rw [h1.sh, h2.sh, hn.sh]
        rfl
      · show (PyData.leavesShort 602 (wdD a.1) && (PyData.leavesShort 602 (wsD a.2.1) && (PyData.leavesShort 602 (ndD n a.2.2) && true))) = true
        rw [h1.lv, h2.lv, hn.lv]
        rfl
      · show PyData.bulk (wdD a.1) + 1 + (PyData.bulk (wsD a.2.1) + 1 + (PyData.bulk (ndD n a.2.2) + 1 + 0)) ≤ _
        have := h1.bk
        have := h2.bk
        have := hn.bk
        omega
    have many : ∀ q : Qn n, QnOk W ahead q → (∀ a ∈ q, NdOk W n a.2.1 a.2.2) → ∀ r : Qn n, (∀ a ∈ r, a ∈ q) → PyData.showableAll (r.map (anD n)) = true ∧ PyData.leavesShortAll 602 (r.map (anD n)) = true ∧ PyData.bulkAll (r.map (anD n)) + r.length ≤ 28 * cntQ n r := by
      intro q ok nok r
      induction r with
      | nil => exact fun _ => ⟨rfl, rfl, Nat.zero_le _⟩
      | cons a r ih =>
        intro sub
        have ma := sub a (List.mem_cons_self ..)
        obtain ⟨i1, i2, i3⟩ := ih fun b hb => sub b (List.mem_cons_of_mem _ hb)
        obtain ⟨o1, o2, o3⟩ := one a q ok ma (shw_ndD hW (nok a ma))
        refine ⟨?_, ?_, ?_⟩
        · show (PyData.showable (anD n a) && PyData.showableAll (r.map (anD n))) = true
          rw [o1, i1]
          rfl
        · show (PyData.leavesShort 602 (anD n a) && PyData.leavesShortAll 602 (r.map (anD n))) = true
          rw [o2, i2]
          rfl
        · show PyData.bulk (anD n a) + 1 + PyData.bulkAll (r.map (anD n)) + (r.length + 1) ≤ _
          rw [cntQ_cons]
          omega
    have all : ∀ l : List (Qn n), (∀ q ∈ l, QnOk W ahead q ∧ ∀ a ∈ q, NdOk W n a.2.1 a.2.2) → PyData.showableAll (l.map (qnD n)) = true ∧ PyData.leavesShortAll 602 (l.map (qnD n)) = true ∧ PyData.bulkAll (l.map (qnD n)) ≤ 28 * cnt (n + 1) l := by
      intro l
      induction l with
      | nil => exact fun _ => ⟨rfl, rfl, Nat.zero_le _⟩
      | cons q r ih =>
        intro sub
        obtain ⟨ok, nok⟩ := sub q (List.mem_cons_self ..)
        obtain ⟨i1, i2, i3⟩ := ih fun b hb => sub b (List.mem_cons_of_mem _ hb)
        obtain ⟨o1, o2, o3⟩ := many q ok nok q fun a ha => ha
        have l1 := ok.one
        refine ⟨?_, ?_, ?_⟩
        · show (PyData.showableAll (q.map (anD n)) && PyData.showableAll (r.map (qnD n))) = true
          rw [o1, i1]
          rfl
        · show (PyData.leavesShortAll 602 (q.map (anD n)) && PyData.leavesShortAll 602 (r.map (qnD n))) = true
          rw [o2, i2]
          rfl
        · show PyData.bulkAll (q.map (anD n)) + 1 + PyData.bulkAll (r.map (qnD n)) ≤ _
          rw [cnt_cons]
          omega
    obtain ⟨h1, h2, h3⟩ := all qs h.2
    exact ⟨h1, h2, h3⟩
/-- worlds and a tree -/
def wtD (W n : Nat) (t : Nd n) : PyData := .tuple [.int (W : Int), ndD n t]
theorem wtD_short {W n : Nat} (hW : W ≤ 5) {ahead : List Rat} {t : Nd n} (h : NdOk W n ahead t) (hc : cnt n t ≤ 400) : (wtD W n t).showable = true ∧ (wtD W n t).shown.length ≤ sizeLine := by
  have h1 := shw_ndD hW h
  have h0 : Shw 0 (.int (W : Int)) := shw_int (Nat.le_trans (show (W : Int).natAbs ≤ 2 ^ 7 by omega) (Nat.pow_le_pow_right (by decide) (by decide)))
  have hs : (wtD W n t).showable = true := by
    show (PyData.showable (.int (W : Int)) && (PyData.showable (ndD n t) && true)) = true
    rw [h0.sh, h1.sh]
    rfl
  have hl : (wtD W n t).leavesShort 602 = true := by
    show (PyData.leavesShort 602 (.int (W : Int)) && (PyData.leavesShort 602 (ndD n t) && true)) = true
    rw [h0.lv, h1.lv]
    rfl
  have hb : (wtD W n t).bulk ≤ 11202 := by
    show PyData.bulk (.int (W : Int)) + 1 + (PyData.bulk (ndD n t) + 1 + 0) ≤ _
    have := h0.bk
    have := h1.bk
    omega
  refine ⟨hs, ?_⟩
  have := PyData.shown_le_bulk 602 (by decide) (wtD W n t) hl
  rw [sizeLine_eq]
  omega
theorem good_wtD (W n : Nat) (t : Nd n) : Good (3 * n + 3) (wtD W n t) := by
  refine good_tup fun x hx => ?_
  simp only [List.mem_cons, List.not_mem_nil, or_false] at hx
  rcases hx with rfl | rfl
  · exact good_int _ _
  · exact good_ndD n t
/-! what is told by numbers is right, too -/
theorem cntdQ_at {n : Nat} {q : Qn n} {i : Nat} {x : An n} (h : (cntdQ n q)[i]? = some x) : ∃ a, q[i]? = some a ∧ x = cntdA n i a := by
  unfold cntdQ at h
  rw [List.getElem?_mapIdx] at h
  cases e : q[i]? with
  | none =>
    rw [e] at h
    cases h
  | some a =>
    rw [e] at h
    exact ⟨a, rfl, (Option.some.inj h).symm⟩
theorem cntdQ_col {n : Nat} (q : Qn n) (j : Nat) : col (cntdQ n q) j = col q j := by
  refine List.ext_getElem? fun i => ?_
  unfold col cntdQ
  rw [List.getElem?_map, List.getElem?_map, List.getElem?_mapIdx]
  cases q[i]? <;> rfl
theorem nq_le {W n : Nat} {ahead : List Rat} {t : Nd n} (h : NdOk W n ahead t) : nq n t ≤ 5 := by
  cases n with
  | zero => exact Nat.zero_le _
  | succ n => exact h.1
theorem cntd_ok : ∀ {W n : Nat} {ahead : List Rat} {t : Nd n}, NdOk W n ahead t → NdOk W n ahead (cntd n t)
  | _, 0, _, _, _ => trivial
  | W, n + 1, ahead, qs, h => by
    refine ⟨Nat.le_trans (Nat.le_of_eq (List.length_map (as := (show List (Qn n) from qs)) _)) h.1, fun q' hq' => ?_⟩
    obtain ⟨q, hq, rfl⟩ := List.mem_map.mp hq'
    obtain ⟨ok, nok⟩ := h.2 q hq
    have hl : (cntdQ n q).length = q.length := by
      unfold cntdQ
      rw [List.length_mapIdx]
    have mem : ∀ a' ∈ cntdQ n q, ∃ i a, a ∈ q ∧ i < q.length ∧ a' = cntdA n i a := fun a' ha' => by
      obtain ⟨i, hi, rfl⟩ := List.getElem_of_mem ha'
      obtain ⟨a, ea, e⟩ := cntdQ_at (List.getElem?_eq_getElem hi)
      exact ⟨i, a, List.mem_of_getElem? ea, by omega, e⟩
    have o12 := ok.most
    refine ⟨⟨by show 1 ≤ (cntdQ n q).length; rw [hl]; exact ok.one, by show (cntdQ n q).length ≤ 12; rw [hl]; exact ok.most, fun a' ha' => ?_, fun i x y hx hy => ?_, fun a' ha' => ?_, fun a' ha' => ?_, fun j hj => ?_⟩, fun a' ha' => ?_⟩
    · obtain ⟨i, a, ha, hi, rfl⟩ := mem a' ha'
      have := nq_le (nok a ha)
      refine ⟨by show 2 ≤ 8; decide, fun x hx => ?_⟩
      have hx2 : x ∈ [(i : Int), (nq n a.2.2 : Int)] := hx
      simp only [List.mem_cons, List.not_mem_nil, or_false] at hx2
      rcases hx2 with rfl | rfl <;> omega
    · obtain ⟨a, ea, rfl⟩ := cntdQ_at hx
      obtain ⟨b, eb, rfl⟩ := cntdQ_at hy
      show HT.lexLt [(i : Int), _] [((i + 1 : Nat) : Int), _] = true
      unfold HT.lexLt
      rw [if_neg (by omega)]
      exact decide_eq_true (by omega)
    · obtain ⟨i, a, ha, hi, rfl⟩ := mem a' ha'
      exact ok.wide a ha
    · obtain ⟨i, a, ha, hi, rfl⟩ := mem a' ha'
      exact ok.chs a ha
    · show fsum (col (cntdQ n q) j) = _
      rw [cntdQ_col]
      exact ok.whole j hj
    · obtain ⟨i, a, ha, hi, rfl⟩ := mem a' ha'
      exact cntd_ok (nok a ha)
theorem ones_at {W j : Nat} (h : j < W) : (ones W).getD j 0 = 1 := by
  unfold ones
  exact getD_of (by rw [List.getElem?_replicate, if_pos h])
theorem beg_ok {W n : Nat} {t : Nd n} (h : NdOk W n (ones W) t) : NdOk W (n + 1) (ones W) (beg W n t) := by
  refine ⟨by show 1 ≤ 5; decide, fun q hq => ?_⟩
  have eq := List.mem_singleton.mp hq
  subst eq
  have nl := nq_le h
  have c : ∀ j, j < W → col ([([(nq n t : Int)], ones W, cntd n t)] : Qn n) j = [1] := fun j hj => by
    show [(ones W).getD j 0] = [1]
    rw [ones_at hj]
  refine ⟨⟨by show 1 ≤ 1; decide, by show 1 ≤ 12; decide, fun a ha => ?_, fun i x y hx hy => ?_, fun a ha => ?_, fun a ha => ?_, fun j hj => ?_⟩, fun a ha => ?_⟩
  · rw [List.mem_singleton.mp ha]
    refine ⟨by show 1 ≤ 8; decide, fun x hx => ?_⟩
    have : x = (nq n t : Int) := List.mem_singleton.mp hx
    omega
  · have := (List.getElem?_eq_some_iff.mp hy).1
    exact absurd this (by show ¬ (i + 1 < 1); omega)
  · rw [List.mem_singleton.mp ha]
    unfold ones
    rw [List.length_replicate]
  · rw [List.mem_singleton.mp ha]
    exact ones_ch
  · rw [c j hj, ones_at hj, fsum_cons, fsum_nil, Rat.add_zero]
  · rw [List.mem_singleton.mp ha]
    exact cntd_ok h
end Tl
end
namespace Tl
open PySem PySem.Spec PyProof.Rows L2 RZ
/-- at some number of rounds -/
def anySp (N : Nat) (sp : Nat → Sp) : Sp := fun vs H Q E => ∃ n, n ≤ N ∧ sp n vs H Q E
section
variable {P : Program} {w : World} {K : PySem.W.Frag} {mg : Str → Option Value} {base : Heap}
theorem FnOk.any {f : Addr} {fd : FuncData} {ps : List Str} {N k : Nat} {sp : Nat → Sp} {lv : Nat → Nat} (h : ∀ n, FnOk P w K mg base CX0 (lv n) f fd ps (sp n)) (hk : ∀ n, n ≤ N → lv n ≤ k) : FnOk P w K mg base CX0 k f fd ps (anySp N sp) :=
  ⟨fun vs H Q E ⟨n, _, q⟩ => (h n).len vs H Q E q, fun A outer s H args us vs Q E hr e0 hb rv ⟨n, hn, q⟩ => ((h n).mono (hk n hn)).run A outer s H args us vs Q E hr e0 hb rv q⟩
def spIs (K : PySem.W.Frag) : Sp := fun vs H Q _ => ∃ (a b : Addr) (W n : Nat) (ahead : List Rat) (t : Nd n), vs = [.ref a, .ref b] ∧ Td K H (.ref a) (wtD W n t) ∧ Td K H (.ref b) (wtD W n t) ∧ W ≤ 5 ∧ NdOk W n ahead t ∧ cnt n t ≤ 400 ∧ n ≤ 6 ∧ Q (.bl true) H
theorem ok_law_is {f : Addr} {fd : FuncData} (D : Dn K mg "_law_is" s_law_is ["found", "due"] f fd) (B : Blt mg) : FnG P w K mg base CX0 1 f fd ["found", "due"] (spIs K) := by
  refine okG D.F sc_law_is (fun vs H Q E h => ?_) (fun cdv A outer s H vs Q E hr hgu h => ?_)
  · obtain ⟨a, b, W, n, ahead, t, rfl, _⟩ := h
    rfl
  obtain ⟨a, b, W, n, ahead, t, rfl, ta, tb, hW, hok, hc, hn, q⟩ := h
  have nd := sc_law_is.nd
  refine ⟨_, (pss_one (ps_ret (pe_and (pe_cmpR (k_eqD (K := K) rfl hr.units) (pv 0) (pv 1) (nomark _)) (pe_one (pe_cmpR op_eq (pe_callB (k_repr (K := K) rfl hr.units hgu) (by rfl) B.repr (by decide +kernel) (pa_cons (pv 0) pa_nil)) (pe_callB (k_repr (K := K) rfl hr.units hgu) (by rfl) B.repr (by decide +kernel) (pa_cons (pv 1) pa_nil)) (nomark _)))))), ?_⟩
  have gd := (good_wtD W n t).mono (show 3 * n + 3 ≤ 60 by omega)
  obtain ⟨h1, h2⟩ := wtD_short hW hok hc
  refine ⟨_, rfl, _, rfl, wtD W n t, wtD W n t, ta.dp, tb.dp, gd.shaped (by decide), gd.shaped (by decide), ?_⟩
  rw [gd.refl]
  refine ⟨_, rfl, iteT ?_⟩
  refine ⟨_, rfl, a, wtD W n t, rfl, ta.dp, h1, gd.dict, gd.deep, h2, _, rfl, b, wtD W n t, rfl, tb.dp, h1, gd.dict, gd.deep, h2, rfl, ?_⟩
  rw [decide_eq_true rfl]
  exact q
end
end Tl
namespace Tl
open PySem PySem.Spec PyProof.Rows L2 RZ
/-- a chosen value: what is known of it both ways -/
def tIfE (t : TT) (ta tb : TE) : TE := fun σ H Q => ∃ R : VK, (∀ v H', R v H' → Q v H') ∧ tIf t ta tb σ H R
theorem pe_ifExpE {X : Cx} {c a b : Expr} {pos : Pos} {tA : TT} {ta tb : TE} (hc : PT X c tA) (ha : PE X a ta) (hb : PE X b tb) : PE X (.IfExp c a b pos) (tIfE tA ta tb) := by
  refine ⟨fun pins s σ H Q I h => ?_⟩
  obtain ⟨R, hm, h'⟩ := h
  refine wpAny_mono ((pe_ifExp hc ha hb).run pins s σ H R I h') (fun u s' z => ?_) fun _ _ x => x
  obtain ⟨v, H', I', r, q⟩ := z
  exact ⟨v, H', I', r, hm v H' q⟩
theorem TreeOk.keep {K : PySem.W.Frag} {H H' : Hp} {W n : Nat} {v : V} {t : Nd n} (T : TreeOk K H W n v t) (s : Same H H') : TreeOk K H' W n v t := ⟨T.td.keep (Same.kt s), T.ok, T.few, T.deep, T.w1, T.w5⟩
theorem own_same {H : Hp} {C x dx : Addr} (nx : H x = none) (ndx : H dx = none) : Same H (upd (upd H dx (.own x)) x (.ins C dx [])) := fun b o e => by
  rw [upd_ne (ne_of_none e nx), upd_ne (ne_of_none e ndx)]
  exact e
theorem mk_hs {K : PySem.W.Frag} {H H7 : Hp} {C x dx : Addr} {W n : Nat} {v : V} {t : Nd n} (nx : H x = none) (ndx : H dx = none) (T : TreeOk K H W n v t) (h7 : H7 x = some (.ins C dx (hf W v))) (k7 : ∀ b o, upd (upd H dx (.own x)) x (.ins C dx []) b = some o → b ≠ x → H7 b = some o) :
    Same H H7 ∧ HsOk K C H7 x W n t v := by
  have s : Same H H7 := fun b o e => k7 _ _ (own_same nx ndx b o e) (ne_of_none e nx)
  exact ⟨s, ⟨dx, h7⟩, T.td.keep (Same.kt s), T.ok, T.few, T.deep, T.w1, T.w5⟩
section
variable {P : Program} {w : World} {K : PySem.W.Frag} {mg : Str → Option Value} {base : Heap}
theorem ok_law {Cc fi fe f f1 f2 f3 f4 f5 f6 f7 f8 f9 : Addr} {fd fd1 fd2 fd3 fd4 fd5 fd6 fd7 fd8 fd9 fdi fde : FuncData} (D : Dn K mg "law" s_law ["script"] f fd) (B : Blt mg) (U : Hcl K mg Cc fi fe)
    (D_law_bag : Dn K mg "_law_bag" s_law_bag ["script"] f1 fd1) (G_law_bag : FnOk P w K mg base CX0 1 f1 fd1 ["script"] (spBag K)) (D_law_pick : Dn K mg "_law_pick" s_law_pick ["bag", "many"] f2 fd2) (G_law_pick : FnOk P w K mg base CX0 1 f2 fd2 ["bag", "many"] spPick)
    (D_law_tree : Dn K mg "_law_tree" s_law_tree ["bag", "worlds", "levels", "answers"] f3 fd3) (G_law_tree : FnOk P w K mg base CX0 30 f3 fd3 ["bag", "worlds", "levels", "answers"] (anySp 3 (spTree K)))
    (D_law_with_hopeless : Dn K mg "_law_with_hopeless" s_law_with_hopeless ["bag", "worlds", "node"] f4 fd4) (G_law_with_hopeless : FnOk P w K mg base CX0 30 f4 fd4 ["bag", "worlds", "node"] (anySp 4 (spWH K)))
    (D_House_init : Dm K "__init__" "House.__init__" s_House_init ["self", "worlds", "tree"] fi fdi) (G_House_init : FnOk P w K mg base CX0 30 fi fdi ["self", "worlds", "tree"] (anySp 5 (spInit K Cc)))
    (D_House_eq : Dm K "__eq__" "House.__eq__" s_House_eq ["self", "other"] fe fde) (G_House_eq : FnOk P w K mg base CX0 1 fe fde ["self", "other"] (spEq (HEq2 K Cc)))
    (D_hopeful : Dn K mg "hopeful" s_hopeful ["house"] f5 fd5) (G_hopeful : FnOk P w K mg base CX0 30 f5 fd5 ["house"] (anySp 5 (spHopeful K Cc)))
    (D_begun : Dn K mg "begun" s_begun ["house"] f6 fd6) (G_begun : FnOk P w K mg base CX0 30 f6 fd6 ["house"] (anySp 5 (spBegun K Cc)))
    (D_law_hoped : Dn K mg "_law_hoped" s_law_hoped ["node"] f7 fd7) (G_law_hoped : FnOk P w K mg base CX0 30 f7 fd7 ["node"] (anySp 5 (spHope K)))
    (D_law_numbered : Dn K mg "_law_numbered" s_law_numbered ["node"] f8 fd8) (G_law_numbered : FnOk P w K mg base CX0 30 f8 fd8 ["node"] (anySp 5 (spCntd K)))
    (D_law_is : Dn K mg "_law_is" s_law_is ["found", "due"] f9 fd9) (G_law_is : FnG P w K mg base CX0 1 f9 fd9 ["found", "due"] (spIs K)) : FnG P w K mg base CX0 32 f fd ["script"] (spTrue K) := by
  refine okG D.F sc_law (fun vs H Q E h => ?_) (fun cdv A outer s H vs Q E hr hgu h => ?_)
  · obtain ⟨a, ns, rfl, _⟩ := h
    rfl
  obtain ⟨a, ns, rfl, hs, h63, q⟩ := h
  have nd := sc_law.nd
  refine ⟨_, (pss_cons (ps_set (i := 1) nd rfl (.inl rfl) (pe_call G_law_bag (hr.mono (by omega)) (by rfl) D_law_bag.m D_law_bag.F.kp D_law_bag.b .nil pass0 (pa_cons (pv 0) pa_nil)))
      (pss_cons (ps_for PassesOwn.never rfl (pi_range1 (by rfl) B.range (pa_cons pe_int pa_nil)) (pg_name (i := 2) nd rfl (.inl rfl)) (pss_cons (ps_set (i := 3) nd rfl (.inl rfl) (pe_op op_add pe_int (pe_call G_law_pick (hr.mono (by omega)) (by rfl) D_law_pick.m D_law_pick.F.kp D_law_pick.b .nil pass0 (pa_cons (pv 1) (pa_cons pe_int pa_nil)))))
      (pss_cons (ps_set (i := 4) nd rfl (.inl rfl) (pe_call G_law_tree (hr.mono (by omega)) (by rfl) D_law_tree.m D_law_tree.F.kp D_law_tree.b .nil pass0 (pa_cons (pv 1) (pa_cons (pv 3) (pa_cons (pe_op op_add pe_int (pe_call G_law_pick (hr.mono (by omega)) (by rfl) D_law_pick.m D_law_pick.F.kp D_law_pick.b .nil pass0 (pa_cons (pv 1) (pa_cons pe_int pa_nil)))) (pa_cons pe_int pa_nil))))))
      (pss_cons (ps_set (i := 5) nd rfl (.inl rfl) (pe_make U.mkH G_House_init (hr.mono (by omega)) (by rfl) U.gHouse D_House_init.b .nil pass0 (pa_cons (pv 3) (pa_cons (pe_ifExpE (pt_cmpR op_gt (pv 2) pe_int (nomark _)) (pe_call G_law_with_hopeless (hr.mono (by omega)) (by rfl) D_law_with_hopeless.m D_law_with_hopeless.F.kp D_law_with_hopeless.b .nil pass0 (pa_cons (pv 1) (pa_cons (pv 3) (pa_cons (pv 4) pa_nil)))) (pv 4)) pa_nil))))
      (pss_cons (ps_set (i := 6) nd rfl (.inl rfl) (pe_call G_hopeful (hr.mono (by omega)) (by rfl) D_hopeful.m D_hopeful.F.kp D_hopeful.b .nil pass0 (pa_cons (pv 5) pa_nil)))
      (pss_cons (ps_if (PW.pt (pw_or (pt_not (pt_val (pe_callB (k_isi (K := K) rfl) (by rfl) B.isinstance (by decide +kernel) (pa_cons (pv 6) (pa_cons (pe_glob (v := .ref _) rfl U.gHouse rfl) pa_nil))))) (pw_or1 (pt_not (pt_val (pe_callG G_law_is (hr.mono (by omega)) hgu (by rfl) D_law_is.m D_law_is.F.kp D_law_is.b .nil pass0 (pa_cons (pe_tup (pa_cons (k_fld (K := K) rfl (pv 6) rfl) (pa_cons (k_fld (K := K) rfl (pv 6) rfl) pa_nil))) (pa_cons (pe_tup (pa_cons (pv 3) (pa_cons (pe_call G_law_hoped (hr.mono (by omega)) (by rfl) D_law_hoped.m D_law_hoped.F.kp D_law_hoped.b .nil pass0 (pa_cons (k_fld (K := K) rfl (pv 5) rfl) pa_nil)) pa_nil))) pa_nil)))))))) (pss_one (ps_ret pe_bl)) pss_nil)
      (pss_cons (ps_if (PW.pt (pw_or (pt_not (pt_cmpR (op_eqG (rcG_ins (X := _) (R := HEq2 K Cc) (E := E0) G_House_eq U.eq U.eqf D_House_eq.b pass0) (hr.mono (by omega))) (pe_call G_hopeful (hr.mono (by omega)) (by rfl) D_hopeful.m D_hopeful.F.kp D_hopeful.b .nil pass0 (pa_cons (pv 6) pa_nil)) (pv 6) (nomark _))) (pw_or1 (pt_not (pt_cmpR (op_eqG (rcG_ins (X := _) (R := HEq2 K Cc) (E := E0) G_House_eq U.eq U.eqf D_House_eq.b pass0) (hr.mono (by omega))) (pv 6) (pe_make U.mkH G_House_init (hr.mono (by omega)) (by rfl) U.gHouse D_House_init.b .nil pass0 (pa_cons (pv 3) (pa_cons (k_fld (K := K) rfl (pv 6) rfl) pa_nil))) (nomark _)))))) (pss_one (ps_ret pe_bl)) pss_nil)
      (pss_cons (ps_set (i := 7) nd rfl (.inl rfl) (pe_call G_begun (hr.mono (by omega)) (by rfl) D_begun.m D_begun.F.kp D_begun.b .nil pass0 (pa_cons (pv 5) pa_nil)))
      (pss_cons (ps_set (i := 8) nd rfl (.inl rfl) (pe_tup (pa_cons (pe_tup (pa_cons (pe_tup (pa_cons (pe_tup (pa_cons (pe_callB (k_len (K := K) rfl) (by rfl) B.len PySem.boot_len (pa_cons (k_fld (K := K) rfl (pv 5) rfl) pa_nil)) pa_nil)) (pa_cons (pe_op (k_rep (K := K) rfl) (pe_tup (pa_cons (pe_tup (pa_cons pe_int (pa_cons pe_int pa_nil))) pa_nil)) (pv 3)) (pa_cons (pe_call G_law_numbered (hr.mono (by omega)) (by rfl) D_law_numbered.m D_law_numbered.F.kp D_law_numbered.b .nil pass0 (pa_cons (k_fld (K := K) rfl (pv 5) rfl) pa_nil)) pa_nil)))) pa_nil)) pa_nil)))
      (pss_one (ps_if (PW.pt (pw_or (pt_not (pt_val (pe_callB (k_isi (K := K) rfl) (by rfl) B.isinstance (by decide +kernel) (pa_cons (pv 7) (pa_cons (pe_glob (v := .ref _) rfl U.gHouse rfl) pa_nil))))) (pw_or1 (pt_not (pt_val (pe_callG G_law_is (hr.mono (by omega)) hgu (by rfl) D_law_is.m D_law_is.F.kp D_law_is.b .nil pass0 (pa_cons (pe_tup (pa_cons (k_fld (K := K) rfl (pv 7) rfl) (pa_cons (k_fld (K := K) rfl (pv 7) rfl) pa_nil))) (pa_cons (pe_tup (pa_cons (pv 3) (pa_cons (pv 8) pa_nil))) pa_nil)))))))) (pss_one (ps_ret pe_bl)) pss_nil)))))))))))
      (pss_one (ps_ret (pe_and (pe_cmpR (op_eqG (rcG_ins (X := _) (R := HEq2 K Cc) (E := E0) G_House_eq U.eq U.eqf D_House_eq.b pass0) (hr.mono (by omega))) (pe_call G_begun (hr.mono (by omega)) (by rfl) D_begun.m D_begun.F.kp D_begun.b .nil pass0 (pa_cons (pe_make U.mkH G_House_init (hr.mono (by omega)) (by rfl) U.gHouse D_House_init.b .nil pass0 (pa_cons pe_int (pa_cons (pe_tup pa_nil) pa_nil))) pa_nil)) (pe_make U.mkH G_House_init (hr.mono (by omega)) (by rfl) U.gHouse D_House_init.b .nil pass0 (pa_cons pe_int (pa_cons (pe_tup (pa_cons (pe_tup (pa_cons (pe_tup (pa_cons (pe_tup (pa_cons pe_int pa_nil)) (pa_cons (pe_tup (pa_cons (pe_tup (pa_cons pe_int (pa_cons pe_int pa_nil))) (pa_cons (pe_tup (pa_cons pe_int (pa_cons pe_int pa_nil))) pa_nil))) (pa_cons (pe_tup pa_nil) pa_nil)))) pa_nil)) pa_nil)) pa_nil))) (nomark _)) (pe_one (pe_cmpR (k_eqD (K := K) rfl hr.units) (k_fld (K := K) rfl (pe_call G_hopeful (hr.mono (by omega)) (by rfl) D_hopeful.m D_hopeful.F.kp D_hopeful.b .nil pass0 (pa_cons (pe_make U.mkH G_House_init (hr.mono (by omega)) (by rfl) U.gHouse D_House_init.b .nil pass0 (pa_cons pe_int (pa_cons (pe_tup pa_nil) pa_nil))) pa_nil)) rfl) (pe_tup pa_nil) (nomark _)))))))), ?_⟩
  have kk : PySem.W.kitOne K (.ref Cc) (.ref Cc) = some true := by
    unfold PySem.W.kitOne
    rw [if_pos (beq_self_eq_true _)]
  refine ⟨_, rfl, a, ns, rfl, hs, h63, fun b g H1 s1 B1 b0 g0 => ?_⟩
  refine ⟨3, rfl, by decide, by decide, for_range (lo := 0) (n := 3) (fun i σ H2 => Bag H2 b g ∧ ∃ o2 o3 o4 o5 o6 o7 o8 : Option V, σ = [some (.ref a), some (.ref b), o2, o3, o4, o5, o6, o7, o8]) ⟨B1, none, none, none, none, none, none, none, rfl⟩ ?_ ?_⟩
  · rintro i σ H2 hi ⟨B2, o2, o3, o4, o5, o6, o7, o8, rfl⟩
    -- worlds
    refine ⟨_, rfl, b, g, 4, rfl, B2, by decide, by decide, fun r H3 r0 r1 B3 F3 => ⟨_, _, rfl, rfl, ?_⟩⟩
    obtain ⟨W, eW⟩ : ∃ W : Nat, 1 + r = (W : Int) := ⟨(1 + r).toNat, by omega⟩
    have w1 : 1 ≤ W := by omega
    have w5 : W ≤ 5 := by omega
    show gName 3 (V.int (1 + r)) _ _ _
    rw [eW]
    -- tree
    refine ⟨_, rfl, _, rfl, _, rfl, b, g, 4, rfl, B3, by decide, by decide, fun r' H4 r2 r3 B4 F4 => ⟨_, _, rfl, rfl, ?_⟩⟩
    obtain ⟨n, en⟩ : ∃ n : Nat, 1 + r' = ((n + 1 : Nat) : Int) := ⟨r'.toNat, by omega⟩
    refine ⟨n, by omega, b, g, W, 14, congrArg (fun z => [V.ref b, V.int (W : Int), V.int z, V.int 14]) en, B4, by omega, w1, w5, fun v t H5 tv ok cn B5 F5 => ?_⟩
    -- house
    refine ⟨_, rfl, fun v6 H6 => ∃ (m : Nat) (t6 : Nd m), m ≤ 5 ∧ TreeOk K H6 W m v6 t6 ∧ cnt m t6 ≤ 350 ∧ Bag H6 b g, fun v6 H6 h6 => ?_, ?_⟩
    · obtain ⟨m, t6, hm, T6, c6, B6⟩ := h6
      refine fun x dx nx ndx ne => ⟨m, hm, x, dx, W, v6, t6, rfl, upd_same, T6.keep (own_same nx ndx), fun H7 h7 k7 => ⟨rfl, ?_⟩⟩
      obtain ⟨s7, hs7⟩ := mk_hs nx ndx T6 h7 k7
      have B7 := B6.keep s7
      clear s7 h7 k7 T6 nx ndx B6
      -- plain
      refine ⟨_, rfl, m, hm, x, W, t6, v6, rfl, hs7, fun p8 v8 H8 s8 hs8 => ?_⟩
      have hs78 := hs7.keep s8
      have B8 := B7.keep s8
      clear hs7 B7 s8 H7
      obtain ⟨d8, e8⟩ := id hs8.at_
      obtain ⟨d7, e7⟩ := id hs78.at_
      refine ⟨_, rfl, _, .ref Cc, .ref Cc, .ref Cc, true, rfl, .own Cc, .base (.ins e8 U.cl U.ha U.hn U.htk U.hm), kk, _, rfl, iteF ?_⟩
      refine ⟨_, rfl, p8, Cc, d8, _, _, rfl, e8, U.cl, U.nw, hf_w _ _, _, rfl, p8, Cc, d8, _, _, rfl, e8, U.cl, U.nt, hf_t _ _, (by show 2 ≤ sizeLine; decide), fun q1 nq1 => ?_⟩
      have s9 := same_upd (o := .tup [.int (W : Int), v8]) nq1
      have hs79 := hs78.keep s9
      refine ⟨_, rfl, _, rfl, x, Cc, d7, _, _, rfl, s9 _ _ e7, U.cl, U.nt, hf_t _ _, m, hm, W, v6, ones W, t6, rfl, hs79.td, hs79.ok, w5, fun v10 H10 s10 t10 => ?_⟩
      refine ⟨(by show 2 ≤ sizeLine; decide), fun q2 nq2 => ?_⟩
      have s11 := same_upd (o := .tup [.int (W : Int), v10]) nq2
      have s8b := (s9.trans s10).trans s11
      have td1 : Td K _ (.ref q1) (wtD W m (hope m t6)) := .tup (Same.kt (s10.trans s11) _ _ (.inl (.inl upd_same))) (.cons (.int _) (.cons (hs8.td.keep (Same.kt s8b)) .nil))
      have td2 : Td K _ (.ref q2) (wtD W m (hope m t6)) := .tup (.inl (.inl upd_same)) (.cons (.int _) (.cons (t10.keep (Same.kt s11)) .nil))
      have ch8 := cnt_hope m t6
      refine ⟨q1, q2, W, m, ones W, hope m t6, rfl, td1, td2, w5, hs8.ok, by omega, by omega, _, rfl, iteF ?_⟩
      have hs8 := hs8.keep s8b
      have hs78 := hs78.keep s8b
      have B8 := B8.keep s8b
      clear td1 td2 t10 s8b s11 s10 hs79 s9 e8 e7 nq1 nq2
      -- plain once more
      refine ⟨_, rfl, m, hm, p8, W, hope m t6, v8, rfl, hs8, fun p12 v12 H12 s12 hs12 => ?_⟩
      rw [hope_hope] at hs12
      have hs8 := hs8.keep s12
      have hs78 := hs78.keep s12
      have B8 := B8.keep s12
      clear s12
      obtain ⟨d8, e8⟩ := id hs8.at_
      obtain ⟨d12, e12⟩ := id hs12.at_
      have g8 := good_ndD m (hope m t6)
      refine ⟨_, rfl, ⟨p12, p8, d12, d8, _, _, rfl, rfl, e12, e8, W, v12, v8, _, 3 * m + 2, ⟨d12, e12⟩, ⟨d8, e8⟩, hs12.td, hs8.td, g8, by omega⟩, fun H13 s13 => ⟨_, rfl, iteF ?_⟩⟩
      have hs8 := hs8.keep s13
      have hs78 := hs78.keep s13
      have B8 := B8.keep s13
      clear hs12 e12 e8 s13
      obtain ⟨d8, e8⟩ := id hs8.at_
      refine ⟨_, rfl, _, rfl, _, rfl, p8, Cc, d8, _, _, rfl, e8, U.cl, U.nt, hf_t _ _, ?_⟩
      refine fun x2 dx2 nx2 ndx2 ne2 => ⟨m, hm, x2, dx2, W, v8, hope m t6, rfl, upd_same, hs8.tree.keep (own_same nx2 ndx2), fun H14 h14 k14 => ⟨rfl, ?_⟩⟩
      obtain ⟨s14, hs14⟩ := mk_hs nx2 ndx2 hs8.tree h14 k14
      have hs8 := hs8.keep s14
      have hs78 := hs78.keep s14
      have B8 := B8.keep s14
      clear e8 s14 h14 k14 nx2 ndx2
      obtain ⟨d8, e8⟩ := id hs8.at_
      obtain ⟨d14, e14⟩ := id hs14.at_
      refine ⟨⟨p8, x2, d8, d14, _, _, rfl, rfl, e8, e14, W, v8, v8, _, 3 * m + 2, ⟨d8, e8⟩, ⟨d14, e14⟩, hs8.td, hs14.td, g8, by omega⟩, fun H15 s15 => ⟨_, rfl, iteF ?_⟩⟩
      have hs78 := hs78.keep s15
      have B8 := B8.keep s15
      clear e8 e14 s15 hs8 hs14 g8
      -- begun
      refine ⟨_, rfl, m, hm, x, W, t6, v6, rfl, hs78, fun p16 v16 H16 s16 h16 t16 => ?_⟩
      have hs78 := hs78.keep s16
      have B8 := B8.keep s16
      clear s16
      obtain ⟨d7, e7⟩ := id hs78.at_
      obtain ⟨an, xn, ev, han, lan⟩ := nq_td hs78.td
      refine ⟨_, rfl, x, Cc, d7, _, _, rfl, e7, U.cl, U.nt, hf_t _ _, an, xn, (by rw [ev]), .inr han, (by show 1 ≤ sizeLine; decide), fun pw nw => ?_⟩
      have z1 := same_upd (o := .tup [.int ((xn.length : Nat) : Int)]) nw
      refine ⟨by show 2 ≤ sizeLine; decide, fun p1 n1 => ⟨by show 1 ≤ sizeLine; decide, fun p2 n2 => ?_⟩⟩
      have z2 := same_upd (o := .tup [.int 1, .int 1]) n1
      have z3 := same_upd (o := .tup [.ref p1]) n2
      refine ⟨_, rfl, p2, (W : Int), _, rfl, rfl, .inl (.inl upd_same), by simp, by omega, by omega, by simp, fun pa H17 z4 q17 => ?_⟩
      have z14 := ((z1.trans z2).trans z3).trans z4
      have tO : Td K H17 (.ref p1) (rD 1) := by
        rw [rD_one]
        exact .tup (Same.kt (z3.trans z4) _ _ (.inl (.inl upd_same))) (tdAll_ints [1, 1])
      have to := ones_td tO q17
      refine ⟨_, rfl, x, Cc, d7, _, _, rfl, z14 _ _ e7, U.cl, U.nt, hf_t _ _, m, hm, W, v6, ones W, t6, rfl, hs78.td.keep (Same.kt z14), hs78.ok, fun v18 H18 z5 t18 => ?_⟩
      refine ⟨by show 3 ≤ sizeLine; decide, fun p6 n6 => ⟨by show 1 ≤ sizeLine; decide, fun p7 n7 => ⟨by show 1 ≤ sizeLine; decide, fun p9 n9 => ?_⟩⟩⟩
      have z6 := same_upd (o := .tup [.ref pw, .ref pa, v18]) n6
      have z7 := same_upd (o := .tup [.ref p6]) n7
      have z8 := same_upd (o := .tup [.ref p7]) n9
      have k68 := Same.kt (K := K) (z7.trans z8)
      have k48 := Same.kt (K := K) ((z5.trans z6).trans (z7.trans z8))
      have k18 := Same.kt (K := K) (((z2.trans z3).trans z4).trans ((z5.trans z6).trans (z7.trans z8)))
      have z08 := z14.trans ((z5.trans z6).trans (z7.trans z8))
      have tw : Td K _ (.ref pw) (wdD [((xn.length : Nat) : Int)]) := .tup (k18 _ _ (.inl (.inl upd_same))) (tdAll_ints [((xn.length : Nat) : Int)])
      rw [lan] at tw
      have tdue : Td K _ (.ref p9) (ndD (m + 1) (beg W m t6)) := Td.tup (K := K) (ds := [.tuple [.tuple [wdD [(nq m t6 : Int)], wsD (ones W), ndD m (cntd m t6)]]]) (.inl (.inl upd_same)) (.cons (.tup (Same.kt z8 _ _ (.inl (.inl upd_same))) (.cons (.tup (k68 _ _ (.inl (.inl upd_same))) (.cons tw (.cons (to.keep k48) (.cons (t18.keep ((Same.kt z6).trans k68)) .nil)))) .nil)) .nil)
      have h16 := h16.keep z08
      have t16 := t16.keep (Same.kt z08)
      have hs78 := hs78.keep z08
      have B8 := B8.keep z08
      generalize upd (upd (upd H18 p6 (.tup [.ref pw, .ref pa, v18])) p7 (.tup [.ref p6])) p9 (.tup [.ref p7]) = H19 at tdue h16 t16 hs78 B8
      clear tw k18 k48 k68 z08 z8 z7 z6 z5 z14 z4 z3 z2 z1 tO to t18 e7 han q17
      obtain ⟨d16, e16⟩ := id h16
      refine ⟨_, rfl, _, .ref Cc, .ref Cc, .ref Cc, true, rfl, .own Cc, .base (.ins e16 U.cl U.ha U.hn U.htk U.hm), kk, _, rfl, iteF ?_⟩
      refine ⟨_, rfl, p16, Cc, d16, _, _, rfl, e16, U.cl, U.nw, hf_w _ _, _, rfl, p16, Cc, d16, _, _, rfl, e16, U.cl, U.nt, hf_t _ _, (by show 2 ≤ sizeLine; decide), fun q3 nq3 => ?_⟩
      have y1 := same_upd (o := .tup [.int (W : Int), v16]) nq3
      refine ⟨_, rfl, _, rfl, (by show 2 ≤ sizeLine; decide), fun q4 nq4 => ?_⟩
      have y2 := same_upd (o := .tup [.int (W : Int), .ref p9]) nq4
      have y12 := y1.trans y2
      have td1 : Td K _ (.ref q3) (wtD W (m + 1) (beg W m t6)) := .tup (Same.kt y2 _ _ (.inl (.inl upd_same))) (.cons (.int _) (.cons (t16.keep (Same.kt y12)) .nil))
      have td2 : Td K _ (.ref q4) (wtD W (m + 1) (beg W m t6)) := .tup (.inl (.inl upd_same)) (.cons (.int _) (.cons (tdue.keep (Same.kt y12)) .nil))
      refine ⟨q3, q4, W, m + 1, ones W, beg W m t6, rfl, td1, td2, w5, beg_ok hs78.ok, by rw [cnt_beg]; omega, by omega, _, rfl, iteF ?_⟩
      exact ⟨B8.keep y12, _, _, _, _, _, _, _, rfl⟩
    · refine ⟨_, rfl, _, _, rfl, rfl, _, rfl, ?_⟩
      have c4 : cnt (n + 1) t ≤ 31 := by omega
      by_cases hi0 : (0 : Int) < 0 + (i : Int)
      · rw [decide_eq_true hi0]
        refine iteT ?_
        refine ⟨_, rfl, _, rfl, _, rfl, n + 1, by omega, b, g, W, v, ones W, t, rfl, B5, tv, ok, w1, w5, fun v' t' H6 tv' ok' c' B6 F6 => ?_⟩
        have c6 : cnt (n + 2) t' ≤ 11 * cnt (n + 1) t := c'
        exact ⟨n + 2, t', by omega, ⟨tv', ok', by omega, by omega, w1, w5⟩, by omega, B6⟩
      · rw [decide_eq_false hi0]
        refine iteF ?_
        exact ⟨_, rfl, n + 1, t, by omega, ⟨tv, ok.ok, by omega, by omega, w1, w5⟩, by omega, B5⟩
  · rintro σ H2 ⟨B2, o2, o3, o4, o5, o6, o7, o8, rfl⟩
    have emp : ∀ {W : Nat} {H3 : Hp} {p : Addr}, 1 ≤ W → W ≤ 5 → SqT K H3 p [] → TreeOk K H3 W 0 (.ref p) (() : Nd 0) := fun h1 h5 hp => ⟨.tup hp .nil, trivial, Nat.zero_le _, by omega, h1, h5⟩
    -- begun(House(2, ()))
    refine ⟨by show 0 ≤ sizeLine; decide, fun p0 n0 => ?_⟩
    have T2 := emp (W := 2) (by decide) (by decide) (H3 := upd H2 p0 (.tup [])) (p := p0) (.inl (.inl upd_same))
    refine fun x dx nx ndx ne => ⟨0, by decide, x, dx, 2, .ref p0, (), rfl, upd_same, T2.keep (own_same nx ndx), fun H4 h4 k4 => ⟨rfl, ?_⟩⟩
    obtain ⟨s4, hs4⟩ := mk_hs nx ndx T2 h4 k4
    refine ⟨0, by decide, x, 2, (), .ref p0, rfl, hs4, fun p5 v5 H5 s5 h5 t5 => ?_⟩
    -- House(2, ..)
    refine ⟨by show 1 ≤ sizeLine; decide, fun pa na => ⟨by show 2 ≤ sizeLine; decide, fun pb nb => ⟨by show 2 ≤ sizeLine; decide, fun pc nc => ⟨by show 2 ≤ sizeLine; decide, fun pd nd' => ⟨by show 0 ≤ sizeLine; decide, fun pe ne' => ⟨by show 3 ≤ sizeLine; decide, fun pf nf => ⟨by show 1 ≤ sizeLine; decide, fun pg ng => ⟨by show 1 ≤ sizeLine; decide, fun ph nh => ?_⟩⟩⟩⟩⟩⟩⟩⟩
    have za := same_upd (o := .tup [.int 0]) na
    have zb := same_upd (o := .tup [.int 1, .int 1]) nb
    have zc := same_upd (o := .tup [.int 1, .int 1]) nc
    have zd := same_upd (o := .tup [.ref pb, .ref pc]) nd'
    have ze := same_upd (o := .tup []) ne'
    have zf := same_upd (o := .tup [.ref pa, .ref pd, .ref pe]) nf
    have zg := same_upd (o := .tup [.ref pf]) ng
    have zh := same_upd (o := .tup [.ref pg]) nh
    have kg := Same.kt (K := K) zh
    have kf := Same.kt (K := K) (zg.trans zh)
    have ke := Same.kt (K := K) (zf.trans (zg.trans zh))
    have kd := Same.kt (K := K) (ze.trans (zf.trans (zg.trans zh)))
    have kc := Same.kt (K := K) (zd.trans (ze.trans (zf.trans (zg.trans zh))))
    have kb := Same.kt (K := K) (zc.trans (zd.trans (ze.trans (zf.trans (zg.trans zh)))))
    have ka := Same.kt (K := K) (zb.trans (zc.trans (zd.trans (ze.trans (zf.trans (zg.trans zh))))))
    have zall := za.trans (zb.trans (zc.trans (zd.trans (ze.trans (zf.trans (zg.trans zh))))))
    have one : ∀ {H : Hp} {p : Addr}, SqT K H p [.int 1, .int 1] → Td K H (.ref p) (rD 1) := fun h => by
      rw [rD_one]
      exact .tup h (tdAll_ints [1, 1])
    have tdue : Td K _ (.ref ph) (ndD 1 (beg 2 0 ())) := Td.tup (K := K) (ds := [.tuple [.tuple [wdD [0], wsD (ones 2), .tuple []]]]) (.inl (.inl upd_same)) (.cons (.tup (kg _ _ (.inl (.inl upd_same))) (.cons (.tup (kf _ _ (.inl (.inl upd_same)))
      (.cons (.tup (ka _ _ (.inl (.inl upd_same))) (tdAll_ints [0])) (.cons (.tup (kd _ _ (.inl (.inl upd_same))) (.cons (one (kb _ _ (.inl (.inl upd_same)))) (.cons (one (kc _ _ (.inl (.inl upd_same)))) .nil))) (.cons (.tup (ke _ _ (.inl (.inl upd_same))) .nil) .nil)))) .nil)) .nil)
    have TT : TreeOk K _ 2 1 (.ref ph) (beg 2 0 ()) := ⟨tdue, beg_ok hs4.ok, Nat.le_trans (Nat.le_of_eq (cnt_beg 2 0 _)) (by show 1 + 0 ≤ 1500; decide), by decide, by decide, by decide⟩
    have h5 := h5.keep zall
    have t5 := t5.keep (Same.kt zall)
    refine fun x2 dx2 nx2 ndx2 ne2 => ⟨1, by decide, x2, dx2, 2, .ref ph, beg 2 0 (), rfl, upd_same, TT.keep (own_same nx2 ndx2), fun H6 h6 k6 => ⟨rfl, ?_⟩⟩
    obtain ⟨s6, hs6⟩ := mk_hs nx2 ndx2 TT h6 k6
    have h5 := h5.keep s6
    have t5 := t5.keep (Same.kt s6)
    obtain ⟨d5, e5⟩ := id h5
    obtain ⟨d6, e6⟩ := id hs6.at_
    refine ⟨⟨p5, x2, d5, d6, _, _, rfl, rfl, e5, e6, 2, v5, .ref ph, _, 5, ⟨d5, e5⟩, ⟨d6, e6⟩, t5, hs6.td, good_ndD 1 _, by decide⟩, fun H7 s7 => ⟨_, rfl, iteT ?_⟩⟩
    -- hopeful(House(3, ())).tree == ()
    refine ⟨by show 0 ≤ sizeLine; decide, fun p8 n8 => ?_⟩
    have T8 := emp (W := 3) (by decide) (by decide) (H3 := upd H7 p8 (.tup [])) (p := p8) (.inl (.inl upd_same))
    refine fun x9 dx9 nx9 ndx9 ne9 => ⟨0, by decide, x9, dx9, 3, .ref p8, (), rfl, upd_same, T8.keep (own_same nx9 ndx9), fun H9 h9 k9 => ⟨rfl, ?_⟩⟩
    obtain ⟨s9, hs9⟩ := mk_hs nx9 ndx9 T8 h9 k9
    refine ⟨0, by decide, x9, 3, (), .ref p8, rfl, hs9, fun p10 v10 H10 s10 hs10 => ?_⟩
    obtain ⟨d10, e10⟩ := id hs10.at_
    refine ⟨p10, Cc, d10, _, _, rfl, e10, U.cl, U.nt, hf_t _ _, by show 0 ≤ sizeLine; decide, fun p11 n11 => ?_⟩
    have s11 := same_upd (o := .tup []) n11
    have g0 : Good 2 (.tuple []) := good_ndD 0 ()
    have t11 : Td K (upd H10 p11 (.tup [])) v10 (.tuple []) := hs10.td.keep (Same.kt s11)
    have t12 : Td K (upd H10 p11 (.tup [])) (.ref p11) (.tuple []) := .tup (.inl (.inl upd_same)) .nil
    refine ⟨_, _, t11.dp, t12.dp, g0.shaped (by decide), g0.shaped (by decide), ?_⟩
    rw [g0.refl]
    exact q _
end
end Tl
namespace Tl
open PySem PySem.Spec PyProof.Rows L2 RZ
theorem all_mk {l : PySem.W.OpenLaw} {w : World} {K : PySem.W.Frag} {h : Heap} {mg : Str → Option Value} {fa Cc aO aN f_is_integral f_is_number f_is_fraction f_is_chance f_are_chances f_are_nought f_reduced f_common_bottom f_times_whole f_total f_total_weights f_is_word f_is_answer f_is_ascending f_check_tree f_check_node f_check_question f_answers_in f_rounds_in f_House_init f_House_eq f_made_house f_hopeful_node f_hopeful f_counted_node f_begun f_law_bag f_law_pick f_law_some f_law_common f_law_low f_law_times f_law_shares f_law_question f_law_node f_law_tree f_law_is f_law_with_hopeless f_law_hoped f_law_numbered f_law : Addr} (X : K.In h) (G : h.Ns mainGlobals mg) (hfa : mg "law" = some (.ref fa))
    {odN odO od_is_integral an_is_integral od_is_number an_is_number od_is_fraction an_is_fraction od_is_chance an_is_chance od_are_chances an_are_chances od_are_nought an_are_nought od_reduced an_reduced od_common_bottom an_common_bottom od_times_whole an_times_whole od_total an_total od_total_weights an_total_weights od_is_word an_is_word od_is_answer an_is_answer od_is_ascending an_is_ascending od_check_tree an_check_tree od_check_node an_check_node od_check_question an_check_question od_answers_in an_answers_in od_rounds_in an_rounds_in od_House_init an_House_init od_House_eq an_House_eq od_made_house an_made_house od_hopeful_node an_hopeful_node od_hopeful an_hopeful od_counted_node an_counted_node od_begun an_begun od_law_bag an_law_bag od_law_pick an_law_pick od_law_some an_law_some od_law_common an_law_common od_law_low an_law_low od_law_times an_law_times od_law_shares an_law_shares od_law_question an_law_question od_law_node an_law_node od_law_tree an_law_tree od_law_is an_law_is od_law_with_hopeless an_law_with_hopeless od_law_hoped an_law_hoped od_law_numbered an_law_numbered od_law an_law : Option Addr} {slN slO sl_is_integral sl_is_number sl_is_fraction sl_is_chance sl_are_chances sl_are_nought sl_reduced sl_common_bottom sl_times_whole sl_total sl_total_weights sl_is_word sl_is_answer sl_is_ascending sl_check_tree sl_check_node sl_check_question sl_answers_in sl_rounds_in sl_House_init sl_House_eq sl_made_house sl_hopeful_node sl_hopeful sl_counted_node sl_begun sl_law_bag sl_law_pick sl_law_some sl_law_common sl_law_low sl_law_times sl_law_shares sl_law_question sl_law_node sl_law_tree sl_law_is sl_law_with_hopeless sl_law_hoped sl_law_numbered sl_law : Array (Option Value)} {oc_is_integral kV_is_integral dc_is_integral pm_is_integral cd_is_integral ct_is_integral oc_is_number kV_is_number dc_is_number pm_is_number cd_is_number ct_is_number oc_is_fraction kV_is_fraction dc_is_fraction pm_is_fraction cd_is_fraction ct_is_fraction oc_is_chance kV_is_chance dc_is_chance pm_is_chance cd_is_chance ct_is_chance oc_are_chances kV_are_chances dc_are_chances pm_are_chances cd_are_chances ct_are_chances oc_are_nought kV_are_nought dc_are_nought pm_are_nought cd_are_nought ct_are_nought oc_reduced kV_reduced dc_reduced pm_reduced cd_reduced ct_reduced oc_common_bottom kV_common_bottom dc_common_bottom pm_common_bottom cd_common_bottom ct_common_bottom oc_times_whole kV_times_whole dc_times_whole pm_times_whole cd_times_whole ct_times_whole oc_total kV_total dc_total pm_total cd_total ct_total oc_total_weights kV_total_weights dc_total_weights pm_total_weights cd_total_weights ct_total_weights oc_is_word kV_is_word dc_is_word pm_is_word cd_is_word ct_is_word oc_is_answer kV_is_answer dc_is_answer pm_is_answer cd_is_answer ct_is_answer oc_is_ascending kV_is_ascending dc_is_ascending pm_is_ascending cd_is_ascending ct_is_ascending oc_check_tree kV_check_tree dc_check_tree pm_check_tree cd_check_tree ct_check_tree oc_check_node kV_check_node dc_check_node pm_check_node cd_check_node ct_check_node oc_check_question kV_check_question dc_check_question pm_check_question cd_check_question ct_check_question oc_answers_in kV_answers_in dc_answers_in pm_answers_in cd_answers_in ct_answers_in oc_rounds_in kV_rounds_in dc_rounds_in pm_rounds_in cd_rounds_in ct_rounds_in oc_House_init kV_House_init dc_House_init pm_House_init cd_House_init ct_House_init oc_House_eq kV_House_eq dc_House_eq pm_House_eq cd_House_eq ct_House_eq oc_made_house kV_made_house dc_made_house pm_made_house cd_made_house ct_made_house oc_hopeful_node kV_hopeful_node dc_hopeful_node pm_hopeful_node cd_hopeful_node ct_hopeful_node oc_hopeful kV_hopeful dc_hopeful pm_hopeful cd_hopeful ct_hopeful oc_counted_node kV_counted_node dc_counted_node pm_counted_node cd_counted_node ct_counted_node oc_begun kV_begun dc_begun pm_begun cd_begun ct_begun oc_law_bag kV_law_bag dc_law_bag pm_law_bag cd_law_bag ct_law_bag oc_law_pick kV_law_pick dc_law_pick pm_law_pick cd_law_pick ct_law_pick oc_law_some kV_law_some dc_law_some pm_law_some cd_law_some ct_law_some oc_law_common kV_law_common dc_law_common pm_law_common cd_law_common ct_law_common oc_law_low kV_law_low dc_law_low pm_law_low cd_law_low ct_law_low oc_law_times kV_law_times dc_law_times pm_law_times cd_law_times ct_law_times oc_law_shares kV_law_shares dc_law_shares pm_law_shares cd_law_shares ct_law_shares oc_law_question kV_law_question dc_law_question pm_law_question cd_law_question ct_law_question oc_law_node kV_law_node dc_law_node pm_law_node cd_law_node ct_law_node oc_law_tree kV_law_tree dc_law_tree pm_law_tree cd_law_tree ct_law_tree oc_law_is kV_law_is dc_law_is pm_law_is cd_law_is ct_law_is oc_law_with_hopeless kV_law_with_hopeless dc_law_with_hopeless pm_law_with_hopeless cd_law_with_hopeless ct_law_with_hopeless oc_law_hoped kV_law_hoped dc_law_hoped pm_law_hoped cd_law_hoped ct_law_hoped oc_law_numbered kV_law_numbered dc_law_numbered pm_law_numbered cd_law_numbered ct_law_numbered oc_law kV_law dc_law pm_law cd_law ct_law : Value} {tO1 tO2 tN1 tN2 t1 t2 t3 t4 t5 t6 t7 : Tok} {nN nO : Nat}
    (aC : PySem.W.nsIn K mainGlobals "House" = some (some (.ref Cc)))
    (a_is_integral : PySem.W.nsIn K mainGlobals "is_integral" = some (some (.ref f_is_integral)))
    (l_is_integral : K.lookup f_is_integral = some ⟨oc_is_integral, od_is_integral, .func (PySem.W.fnOf "is_integral" "is_integral" (defArgs s_is_integral) (defBody s_is_integral) (defScope s_is_integral) .none kV_is_integral dc_is_integral pm_is_integral an_is_integral cd_is_integral ct_is_integral), sl_is_integral⟩)
    (c_is_integral : PySem.W.codeIn K cd_is_integral "is_integral" = true)
    (k_is_integral : PySem.W.keepIn K (.ref f_is_integral) = true)
    (a_is_number : PySem.W.nsIn K mainGlobals "is_number" = some (some (.ref f_is_number)))
    (l_is_number : K.lookup f_is_number = some ⟨oc_is_number, od_is_number, .func (PySem.W.fnOf "is_number" "is_number" (defArgs s_is_number) (defBody s_is_number) (defScope s_is_number) .none kV_is_number dc_is_number pm_is_number an_is_number cd_is_number ct_is_number), sl_is_number⟩)
    (c_is_number : PySem.W.codeIn K cd_is_number "is_number" = true)
    (k_is_number : PySem.W.keepIn K (.ref f_is_number) = true)
    (a_is_fraction : PySem.W.nsIn K mainGlobals "is_fraction" = some (some (.ref f_is_fraction)))
    (l_is_fraction : K.lookup f_is_fraction = some ⟨oc_is_fraction, od_is_fraction, .func (PySem.W.fnOf "is_fraction" "is_fraction" (defArgs s_is_fraction) (defBody s_is_fraction) (defScope s_is_fraction) .none kV_is_fraction dc_is_fraction pm_is_fraction an_is_fraction cd_is_fraction ct_is_fraction), sl_is_fraction⟩)
    (c_is_fraction : PySem.W.codeIn K cd_is_fraction "is_fraction" = true)
    (k_is_fraction : PySem.W.keepIn K (.ref f_is_fraction) = true)
    (a_is_chance : PySem.W.nsIn K mainGlobals "is_chance" = some (some (.ref f_is_chance)))
    (l_is_chance : K.lookup f_is_chance = some ⟨oc_is_chance, od_is_chance, .func (PySem.W.fnOf "is_chance" "is_chance" (defArgs s_is_chance) (defBody s_is_chance) (defScope s_is_chance) .none kV_is_chance dc_is_chance pm_is_chance an_is_chance cd_is_chance ct_is_chance), sl_is_chance⟩)
    (c_is_chance : PySem.W.codeIn K cd_is_chance "is_chance" = true)
    (k_is_chance : PySem.W.keepIn K (.ref f_is_chance) = true)
    (a_are_chances : PySem.W.nsIn K mainGlobals "are_chances" = some (some (.ref f_are_chances)))
    (l_are_chances : K.lookup f_are_chances = some ⟨oc_are_chances, od_are_chances, .func (PySem.W.fnOf "are_chances" "are_chances" (defArgs s_are_chances) (defBody s_are_chances) (defScope s_are_chances) .none kV_are_chances dc_are_chances pm_are_chances an_are_chances cd_are_chances ct_are_chances), sl_are_chances⟩)
    (c_are_chances : PySem.W.codeIn K cd_are_chances "are_chances" = true)
    (k_are_chances : PySem.W.keepIn K (.ref f_are_chances) = true)
    (a_are_nought : PySem.W.nsIn K mainGlobals "are_nought" = some (some (.ref f_are_nought)))
    (l_are_nought : K.lookup f_are_nought = some ⟨oc_are_nought, od_are_nought, .func (PySem.W.fnOf "are_nought" "are_nought" (defArgs s_are_nought) (defBody s_are_nought) (defScope s_are_nought) .none kV_are_nought dc_are_nought pm_are_nought an_are_nought cd_are_nought ct_are_nought), sl_are_nought⟩)
    (c_are_nought : PySem.W.codeIn K cd_are_nought "are_nought" = true)
    (k_are_nought : PySem.W.keepIn K (.ref f_are_nought) = true)
    (a_reduced : PySem.W.nsIn K mainGlobals "reduced" = some (some (.ref f_reduced)))
    (l_reduced : K.lookup f_reduced = some ⟨oc_reduced, od_reduced, .func (PySem.W.fnOf "reduced" "reduced" (defArgs s_reduced) (defBody s_reduced) (defScope s_reduced) .none kV_reduced dc_reduced pm_reduced an_reduced cd_reduced ct_reduced), sl_reduced⟩)
    (c_reduced : PySem.W.codeIn K cd_reduced "reduced" = true)
    (k_reduced : PySem.W.keepIn K (.ref f_reduced) = true)
    (a_common_bottom : PySem.W.nsIn K mainGlobals "common_bottom" = some (some (.ref f_common_bottom)))
    (l_common_bottom : K.lookup f_common_bottom = some ⟨oc_common_bottom, od_common_bottom, .func (PySem.W.fnOf "common_bottom" "common_bottom" (defArgs s_common_bottom) (defBody s_common_bottom) (defScope s_common_bottom) .none kV_common_bottom dc_common_bottom pm_common_bottom an_common_bottom cd_common_bottom ct_common_bottom), sl_common_bottom⟩)
    (c_common_bottom : PySem.W.codeIn K cd_common_bottom "common_bottom" = true)
    (k_common_bottom : PySem.W.keepIn K (.ref f_common_bottom) = true)
    (a_times_whole : PySem.W.nsIn K mainGlobals "times_whole" = some (some (.ref f_times_whole)))
    (l_times_whole : K.lookup f_times_whole = some ⟨oc_times_whole, od_times_whole, .func (PySem.W.fnOf "times_whole" "times_whole" (defArgs s_times_whole) (defBody s_times_whole) (defScope s_times_whole) .none kV_times_whole dc_times_whole pm_times_whole an_times_whole cd_times_whole ct_times_whole), sl_times_whole⟩)
    (c_times_whole : PySem.W.codeIn K cd_times_whole "times_whole" = true)
    (k_times_whole : PySem.W.keepIn K (.ref f_times_whole) = true)
    (a_total : PySem.W.nsIn K mainGlobals "total" = some (some (.ref f_total)))
    (l_total : K.lookup f_total = some ⟨oc_total, od_total, .func (PySem.W.fnOf "total" "total" (defArgs s_total) (defBody s_total) (defScope s_total) .none kV_total dc_total pm_total an_total cd_total ct_total), sl_total⟩)
    (c_total : PySem.W.codeIn K cd_total "total" = true)
    (k_total : PySem.W.keepIn K (.ref f_total) = true)
    (a_total_weights : PySem.W.nsIn K mainGlobals "total_weights" = some (some (.ref f_total_weights)))
    (l_total_weights : K.lookup f_total_weights = some ⟨oc_total_weights, od_total_weights, .func (PySem.W.fnOf "total_weights" "total_weights" (defArgs s_total_weights) (defBody s_total_weights) (defScope s_total_weights) .none kV_total_weights dc_total_weights pm_total_weights an_total_weights cd_total_weights ct_total_weights), sl_total_weights⟩)
    (c_total_weights : PySem.W.codeIn K cd_total_weights "total_weights" = true)
    (k_total_weights : PySem.W.keepIn K (.ref f_total_weights) = true)
    (a_is_word : PySem.W.nsIn K mainGlobals "is_word" = some (some (.ref f_is_word)))
    (l_is_word : K.lookup f_is_word = some ⟨oc_is_word, od_is_word, .func (PySem.W.fnOf "is_word" "is_word" (defArgs s_is_word) (defBody s_is_word) (defScope s_is_word) .none kV_is_word dc_is_word pm_is_word an_is_word cd_is_word ct_is_word), sl_is_word⟩)
    (c_is_word : PySem.W.codeIn K cd_is_word "is_word" = true)
    (k_is_word : PySem.W.keepIn K (.ref f_is_word) = true)
    (a_is_answer : PySem.W.nsIn K mainGlobals "is_answer" = some (some (.ref f_is_answer)))
    (l_is_answer : K.lookup f_is_answer = some ⟨oc_is_answer, od_is_answer, .func (PySem.W.fnOf "is_answer" "is_answer" (defArgs s_is_answer) (defBody s_is_answer) (defScope s_is_answer) .none kV_is_answer dc_is_answer pm_is_answer an_is_answer cd_is_answer ct_is_answer), sl_is_answer⟩)
    (c_is_answer : PySem.W.codeIn K cd_is_answer "is_answer" = true)
    (k_is_answer : PySem.W.keepIn K (.ref f_is_answer) = true)
    (a_is_ascending : PySem.W.nsIn K mainGlobals "is_ascending" = some (some (.ref f_is_ascending)))
    (l_is_ascending : K.lookup f_is_ascending = some ⟨oc_is_ascending, od_is_ascending, .func (PySem.W.fnOf "is_ascending" "is_ascending" (defArgs s_is_ascending) (defBody s_is_ascending) (defScope s_is_ascending) .none kV_is_ascending dc_is_ascending pm_is_ascending an_is_ascending cd_is_ascending ct_is_ascending), sl_is_ascending⟩)
    (c_is_ascending : PySem.W.codeIn K cd_is_ascending "is_ascending" = true)
    (k_is_ascending : PySem.W.keepIn K (.ref f_is_ascending) = true)
    (a_check_tree : PySem.W.nsIn K mainGlobals "check_tree" = some (some (.ref f_check_tree)))
    (l_check_tree : K.lookup f_check_tree = some ⟨oc_check_tree, od_check_tree, .func (PySem.W.fnOf "check_tree" "check_tree" (defArgs s_check_tree) (defBody s_check_tree) (defScope s_check_tree) .none kV_check_tree dc_check_tree pm_check_tree an_check_tree cd_check_tree ct_check_tree), sl_check_tree⟩)
    (c_check_tree : PySem.W.codeIn K cd_check_tree "check_tree" = true)
    (k_check_tree : PySem.W.keepIn K (.ref f_check_tree) = true)
    (a_check_node : PySem.W.nsIn K mainGlobals "check_node" = some (some (.ref f_check_node)))
    (l_check_node : K.lookup f_check_node = some ⟨oc_check_node, od_check_node, .func (PySem.W.fnOf "check_node" "check_node" (defArgs s_check_node) (defBody s_check_node) (defScope s_check_node) .none kV_check_node dc_check_node pm_check_node an_check_node cd_check_node ct_check_node), sl_check_node⟩)
    (c_check_node : PySem.W.codeIn K cd_check_node "check_node" = true)
    (k_check_node : PySem.W.keepIn K (.ref f_check_node) = true)
    (a_check_question : PySem.W.nsIn K mainGlobals "check_question" = some (some (.ref f_check_question)))
    (l_check_question : K.lookup f_check_question = some ⟨oc_check_question, od_check_question, .func (PySem.W.fnOf "check_question" "check_question" (defArgs s_check_question) (defBody s_check_question) (defScope s_check_question) .none kV_check_question dc_check_question pm_check_question an_check_question cd_check_question ct_check_question), sl_check_question⟩)
    (c_check_question : PySem.W.codeIn K cd_check_question "check_question" = true)
    (k_check_question : PySem.W.keepIn K (.ref f_check_question) = true)
    (a_answers_in : PySem.W.nsIn K mainGlobals "answers_in" = some (some (.ref f_answers_in)))
    (l_answers_in : K.lookup f_answers_in = some ⟨oc_answers_in, od_answers_in, .func (PySem.W.fnOf "answers_in" "answers_in" (defArgs s_answers_in) (defBody s_answers_in) (defScope s_answers_in) .none kV_answers_in dc_answers_in pm_answers_in an_answers_in cd_answers_in ct_answers_in), sl_answers_in⟩)
    (c_answers_in : PySem.W.codeIn K cd_answers_in "answers_in" = true)
    (k_answers_in : PySem.W.keepIn K (.ref f_answers_in) = true)
    (a_rounds_in : PySem.W.nsIn K mainGlobals "rounds_in" = some (some (.ref f_rounds_in)))
    (l_rounds_in : K.lookup f_rounds_in = some ⟨oc_rounds_in, od_rounds_in, .func (PySem.W.fnOf "rounds_in" "rounds_in" (defArgs s_rounds_in) (defBody s_rounds_in) (defScope s_rounds_in) .none kV_rounds_in dc_rounds_in pm_rounds_in an_rounds_in cd_rounds_in ct_rounds_in), sl_rounds_in⟩)
    (c_rounds_in : PySem.W.codeIn K cd_rounds_in "rounds_in" = true)
    (k_rounds_in : PySem.W.keepIn K (.ref f_rounds_in) = true)
    (a_House_init : PySem.W.findIn K (.ref Cc) "__init__" = some (some (.ref f_House_init)))
    (i_House_init : PySem.W.isFn K (.ref f_House_init) = true)
    (l_House_init : K.lookup f_House_init = some ⟨oc_House_init, od_House_init, .func (PySem.W.fnOf "__init__" "House.__init__" (defArgs s_House_init) (defBody s_House_init) (defScope s_House_init) .none kV_House_init dc_House_init pm_House_init an_House_init cd_House_init ct_House_init), sl_House_init⟩)
    (c_House_init : PySem.W.codeIn K cd_House_init "House.__init__" = true)
    (k_House_init : PySem.W.keepIn K (.ref f_House_init) = true)
    (a_House_eq : PySem.W.findIn K (.ref Cc) "__eq__" = some (some (.ref f_House_eq)))
    (i_House_eq : PySem.W.isFn K (.ref f_House_eq) = true)
    (l_House_eq : K.lookup f_House_eq = some ⟨oc_House_eq, od_House_eq, .func (PySem.W.fnOf "__eq__" "House.__eq__" (defArgs s_House_eq) (defBody s_House_eq) (defScope s_House_eq) .none kV_House_eq dc_House_eq pm_House_eq an_House_eq cd_House_eq ct_House_eq), sl_House_eq⟩)
    (c_House_eq : PySem.W.codeIn K cd_House_eq "House.__eq__" = true)
    (k_House_eq : PySem.W.keepIn K (.ref f_House_eq) = true)
    (a_made_house : PySem.W.nsIn K mainGlobals "made_house" = some (some (.ref f_made_house)))
    (l_made_house : K.lookup f_made_house = some ⟨oc_made_house, od_made_house, .func (PySem.W.fnOf "made_house" "made_house" (defArgs s_made_house) (defBody s_made_house) (defScope s_made_house) .none kV_made_house dc_made_house pm_made_house an_made_house cd_made_house ct_made_house), sl_made_house⟩)
    (c_made_house : PySem.W.codeIn K cd_made_house "made_house" = true)
    (k_made_house : PySem.W.keepIn K (.ref f_made_house) = true)
    (a_hopeful_node : PySem.W.nsIn K mainGlobals "hopeful_node" = some (some (.ref f_hopeful_node)))
    (l_hopeful_node : K.lookup f_hopeful_node = some ⟨oc_hopeful_node, od_hopeful_node, .func (PySem.W.fnOf "hopeful_node" "hopeful_node" (defArgs s_hopeful_node) (defBody s_hopeful_node) (defScope s_hopeful_node) .none kV_hopeful_node dc_hopeful_node pm_hopeful_node an_hopeful_node cd_hopeful_node ct_hopeful_node), sl_hopeful_node⟩)
    (c_hopeful_node : PySem.W.codeIn K cd_hopeful_node "hopeful_node" = true)
    (k_hopeful_node : PySem.W.keepIn K (.ref f_hopeful_node) = true)
    (a_hopeful : PySem.W.nsIn K mainGlobals "hopeful" = some (some (.ref f_hopeful)))
    (l_hopeful : K.lookup f_hopeful = some ⟨oc_hopeful, od_hopeful, .func (PySem.W.fnOf "hopeful" "hopeful" (defArgs s_hopeful) (defBody s_hopeful) (defScope s_hopeful) .none kV_hopeful dc_hopeful pm_hopeful an_hopeful cd_hopeful ct_hopeful), sl_hopeful⟩)
    (c_hopeful : PySem.W.codeIn K cd_hopeful "hopeful" = true)
    (k_hopeful : PySem.W.keepIn K (.ref f_hopeful) = true)
    (a_counted_node : PySem.W.nsIn K mainGlobals "counted_node" = some (some (.ref f_counted_node)))
    (l_counted_node : K.lookup f_counted_node = some ⟨oc_counted_node, od_counted_node, .func (PySem.W.fnOf "counted_node" "counted_node" (defArgs s_counted_node) (defBody s_counted_node) (defScope s_counted_node) .none kV_counted_node dc_counted_node pm_counted_node an_counted_node cd_counted_node ct_counted_node), sl_counted_node⟩)
    (c_counted_node : PySem.W.codeIn K cd_counted_node "counted_node" = true)
    (k_counted_node : PySem.W.keepIn K (.ref f_counted_node) = true)
    (a_begun : PySem.W.nsIn K mainGlobals "begun" = some (some (.ref f_begun)))
    (l_begun : K.lookup f_begun = some ⟨oc_begun, od_begun, .func (PySem.W.fnOf "begun" "begun" (defArgs s_begun) (defBody s_begun) (defScope s_begun) .none kV_begun dc_begun pm_begun an_begun cd_begun ct_begun), sl_begun⟩)
    (c_begun : PySem.W.codeIn K cd_begun "begun" = true)
    (k_begun : PySem.W.keepIn K (.ref f_begun) = true)
    (a_law_bag : PySem.W.nsIn K mainGlobals "_law_bag" = some (some (.ref f_law_bag)))
    (l_law_bag : K.lookup f_law_bag = some ⟨oc_law_bag, od_law_bag, .func (PySem.W.fnOf "_law_bag" "_law_bag" (defArgs s_law_bag) (defBody s_law_bag) (defScope s_law_bag) .none kV_law_bag dc_law_bag pm_law_bag an_law_bag cd_law_bag ct_law_bag), sl_law_bag⟩)
    (c_law_bag : PySem.W.codeIn K cd_law_bag "_law_bag" = true)
    (k_law_bag : PySem.W.keepIn K (.ref f_law_bag) = true)
    (a_law_pick : PySem.W.nsIn K mainGlobals "_law_pick" = some (some (.ref f_law_pick)))
    (l_law_pick : K.lookup f_law_pick = some ⟨oc_law_pick, od_law_pick, .func (PySem.W.fnOf "_law_pick" "_law_pick" (defArgs s_law_pick) (defBody s_law_pick) (defScope s_law_pick) .none kV_law_pick dc_law_pick pm_law_pick an_law_pick cd_law_pick ct_law_pick), sl_law_pick⟩)
    (c_law_pick : PySem.W.codeIn K cd_law_pick "_law_pick" = true)
    (k_law_pick : PySem.W.keepIn K (.ref f_law_pick) = true)
    (a_law_some : PySem.W.nsIn K mainGlobals "_law_some" = some (some (.ref f_law_some)))
    (l_law_some : K.lookup f_law_some = some ⟨oc_law_some, od_law_some, .func (PySem.W.fnOf "_law_some" "_law_some" (defArgs s_law_some) (defBody s_law_some) (defScope s_law_some) .none kV_law_some dc_law_some pm_law_some an_law_some cd_law_some ct_law_some), sl_law_some⟩)
    (c_law_some : PySem.W.codeIn K cd_law_some "_law_some" = true)
    (k_law_some : PySem.W.keepIn K (.ref f_law_some) = true)
    (a_law_common : PySem.W.nsIn K mainGlobals "_law_common" = some (some (.ref f_law_common)))
    (l_law_common : K.lookup f_law_common = some ⟨oc_law_common, od_law_common, .func (PySem.W.fnOf "_law_common" "_law_common" (defArgs s_law_common) (defBody s_law_common) (defScope s_law_common) .none kV_law_common dc_law_common pm_law_common an_law_common cd_law_common ct_law_common), sl_law_common⟩)
    (c_law_common : PySem.W.codeIn K cd_law_common "_law_common" = true)
    (k_law_common : PySem.W.keepIn K (.ref f_law_common) = true)
    (a_law_low : PySem.W.nsIn K mainGlobals "_law_low" = some (some (.ref f_law_low)))
    (l_law_low : K.lookup f_law_low = some ⟨oc_law_low, od_law_low, .func (PySem.W.fnOf "_law_low" "_law_low" (defArgs s_law_low) (defBody s_law_low) (defScope s_law_low) .none kV_law_low dc_law_low pm_law_low an_law_low cd_law_low ct_law_low), sl_law_low⟩)
    (c_law_low : PySem.W.codeIn K cd_law_low "_law_low" = true)
    (k_law_low : PySem.W.keepIn K (.ref f_law_low) = true)
    (a_law_times : PySem.W.nsIn K mainGlobals "_law_times" = some (some (.ref f_law_times)))
    (l_law_times : K.lookup f_law_times = some ⟨oc_law_times, od_law_times, .func (PySem.W.fnOf "_law_times" "_law_times" (defArgs s_law_times) (defBody s_law_times) (defScope s_law_times) .none kV_law_times dc_law_times pm_law_times an_law_times cd_law_times ct_law_times), sl_law_times⟩)
    (c_law_times : PySem.W.codeIn K cd_law_times "_law_times" = true)
    (k_law_times : PySem.W.keepIn K (.ref f_law_times) = true)
    (a_law_shares : PySem.W.nsIn K mainGlobals "_law_shares" = some (some (.ref f_law_shares)))
    (l_law_shares : K.lookup f_law_shares = some ⟨oc_law_shares, od_law_shares, .func (PySem.W.fnOf "_law_shares" "_law_shares" (defArgs s_law_shares) (defBody s_law_shares) (defScope s_law_shares) .none kV_law_shares dc_law_shares pm_law_shares an_law_shares cd_law_shares ct_law_shares), sl_law_shares⟩)
    (c_law_shares : PySem.W.codeIn K cd_law_shares "_law_shares" = true)
    (k_law_shares : PySem.W.keepIn K (.ref f_law_shares) = true)
    (a_law_question : PySem.W.nsIn K mainGlobals "_law_question" = some (some (.ref f_law_question)))
    (l_law_question : K.lookup f_law_question = some ⟨oc_law_question, od_law_question, .func (PySem.W.fnOf "_law_question" "_law_question" (defArgs s_law_question) (defBody s_law_question) (defScope s_law_question) .none kV_law_question dc_law_question pm_law_question an_law_question cd_law_question ct_law_question), sl_law_question⟩)
    (c_law_question : PySem.W.codeIn K cd_law_question "_law_question" = true)
    (k_law_question : PySem.W.keepIn K (.ref f_law_question) = true)
    (a_law_node : PySem.W.nsIn K mainGlobals "_law_node" = some (some (.ref f_law_node)))
    (l_law_node : K.lookup f_law_node = some ⟨oc_law_node, od_law_node, .func (PySem.W.fnOf "_law_node" "_law_node" (defArgs s_law_node) (defBody s_law_node) (defScope s_law_node) .none kV_law_node dc_law_node pm_law_node an_law_node cd_law_node ct_law_node), sl_law_node⟩)
    (c_law_node : PySem.W.codeIn K cd_law_node "_law_node" = true)
    (k_law_node : PySem.W.keepIn K (.ref f_law_node) = true)
    (a_law_tree : PySem.W.nsIn K mainGlobals "_law_tree" = some (some (.ref f_law_tree)))
    (l_law_tree : K.lookup f_law_tree = some ⟨oc_law_tree, od_law_tree, .func (PySem.W.fnOf "_law_tree" "_law_tree" (defArgs s_law_tree) (defBody s_law_tree) (defScope s_law_tree) .none kV_law_tree dc_law_tree pm_law_tree an_law_tree cd_law_tree ct_law_tree), sl_law_tree⟩)
    (c_law_tree : PySem.W.codeIn K cd_law_tree "_law_tree" = true)
    (k_law_tree : PySem.W.keepIn K (.ref f_law_tree) = true)
    (a_law_is : PySem.W.nsIn K mainGlobals "_law_is" = some (some (.ref f_law_is)))
    (l_law_is : K.lookup f_law_is = some ⟨oc_law_is, od_law_is, .func (PySem.W.fnOf "_law_is" "_law_is" (defArgs s_law_is) (defBody s_law_is) (defScope s_law_is) .none kV_law_is dc_law_is pm_law_is an_law_is cd_law_is ct_law_is), sl_law_is⟩)
    (c_law_is : PySem.W.codeIn K cd_law_is "_law_is" = true)
    (k_law_is : PySem.W.keepIn K (.ref f_law_is) = true)
    (a_law_with_hopeless : PySem.W.nsIn K mainGlobals "_law_with_hopeless" = some (some (.ref f_law_with_hopeless)))
    (l_law_with_hopeless : K.lookup f_law_with_hopeless = some ⟨oc_law_with_hopeless, od_law_with_hopeless, .func (PySem.W.fnOf "_law_with_hopeless" "_law_with_hopeless" (defArgs s_law_with_hopeless) (defBody s_law_with_hopeless) (defScope s_law_with_hopeless) .none kV_law_with_hopeless dc_law_with_hopeless pm_law_with_hopeless an_law_with_hopeless cd_law_with_hopeless ct_law_with_hopeless), sl_law_with_hopeless⟩)
    (c_law_with_hopeless : PySem.W.codeIn K cd_law_with_hopeless "_law_with_hopeless" = true)
    (k_law_with_hopeless : PySem.W.keepIn K (.ref f_law_with_hopeless) = true)
    (a_law_hoped : PySem.W.nsIn K mainGlobals "_law_hoped" = some (some (.ref f_law_hoped)))
    (l_law_hoped : K.lookup f_law_hoped = some ⟨oc_law_hoped, od_law_hoped, .func (PySem.W.fnOf "_law_hoped" "_law_hoped" (defArgs s_law_hoped) (defBody s_law_hoped) (defScope s_law_hoped) .none kV_law_hoped dc_law_hoped pm_law_hoped an_law_hoped cd_law_hoped ct_law_hoped), sl_law_hoped⟩)
    (c_law_hoped : PySem.W.codeIn K cd_law_hoped "_law_hoped" = true)
    (k_law_hoped : PySem.W.keepIn K (.ref f_law_hoped) = true)
    (a_law_numbered : PySem.W.nsIn K mainGlobals "_law_numbered" = some (some (.ref f_law_numbered)))
    (l_law_numbered : K.lookup f_law_numbered = some ⟨oc_law_numbered, od_law_numbered, .func (PySem.W.fnOf "_law_numbered" "_law_numbered" (defArgs s_law_numbered) (defBody s_law_numbered) (defScope s_law_numbered) .none kV_law_numbered dc_law_numbered pm_law_numbered an_law_numbered cd_law_numbered ct_law_numbered), sl_law_numbered⟩)
    (c_law_numbered : PySem.W.codeIn K cd_law_numbered "_law_numbered" = true)
    (k_law_numbered : PySem.W.keepIn K (.ref f_law_numbered) = true)
    (a_law : PySem.W.nsIn K mainGlobals "law" = some (some (.ref f_law)))
    (l_law : K.lookup f_law = some ⟨oc_law, od_law, .func (PySem.W.fnOf "law" "law" (defArgs s_law) (defBody s_law) (defScope s_law) .none kV_law dc_law pm_law an_law cd_law ct_law), sl_law⟩)
    (c_law : PySem.W.codeIn K cd_law "law" = true)
    (k_law : PySem.W.keepIn K (.ref f_law) = true)
    (pgC : PySem.W.plainGet K Cc Str.empty = true)
    (hdC : PySem.W.hasDictIn K Cc = true)
    (poC : PySem.W.plainOver K Cc = true)
    (saC : PySem.W.findIn K (.ref Cc) "__setattr__" = some (some (.builtin "object.__setattr__")))
    (mkC : PySem.W.makesIn K Cc = true)
    (kcC : PySem.W.keepIn K (.ref Cc) = true)
    (nwC : PySem.W.findIn K (.ref Cc) "worlds" = some none)
    (ntC : PySem.W.findIn K (.ref Cc) "tree" = some none)
    (haC : PySem.W.findIn K (.ref Cc) "__class__" = some (some (.builtin "object.__class__")))
    (hnC : PySem.W.specialIn K (.builtin "object.__class__") "__get__" = some (some (.builtin "getset_descriptor.__get__")))
    (htC : PySem.W.takesIn K (.builtin "object.__class__") = some true)
    (hmC : PySem.W.mroIn K Cc (.type "object") = some true)
    (gcd : PySem.W.nsIn K mainGlobals "gcd" = some (some (.builtin "math.gcd")))
    (lcm : PySem.W.nsIn K mainGlobals "lcm" = some (some (.builtin "math.lcm")))
    (aN0 : PySem.W.nsIn K mainGlobals "NOUGHT" = some (some (.ref aN)))
    (aO0 : PySem.W.nsIn K mainGlobals "ONE" = some (some (.ref aO)))
    (lN : K.lookup aN = some ⟨.type "tuple", odN, .seq #[.int 0 tN1, .int 1 tN2] nN, slN⟩)
    (lO : K.lookup aO = some ⟨.type "tuple", odO, .seq #[.int 1 tO1, .int 1 tO2] nO, slO⟩)
    (m_MOST_QUESTIONS : PySem.W.nsIn K mainGlobals "MOST_QUESTIONS" = some (some (.int 5 t1)))
    (m_MOST_WORDS : PySem.W.nsIn K mainGlobals "MOST_WORDS" = some (some (.int 12 t2)))
    (m_MOST_NUMBERS : PySem.W.nsIn K mainGlobals "MOST_NUMBERS" = some (some (.int 8 t3)))
    (m_MOST_ON_A_WAY : PySem.W.nsIn K mainGlobals "MOST_ON_A_WAY" = some (some (.int 8 t4)))
    (m_MOST_PASSED : PySem.W.nsIn K mainGlobals "MOST_PASSED" = some (some (.int 1500 t5)))
    (m_MOST_ROUNDS : PySem.W.nsIn K mainGlobals "MOST_ROUNDS" = some (some (.int 12 t6)))
    (m_MOST_ANSWERS : PySem.W.nsIn K mainGlobals "MOST_ANSWERS" = some (some (.int 3000 t7)))
    (z_len : PySem.W.nsIn K mainGlobals "len" = some none)
    (z_int : PySem.W.nsIn K mainGlobals "int" = some none)
    (z_abs : PySem.W.nsIn K mainGlobals "abs" = some none)
    (z_sum : PySem.W.nsIn K mainGlobals "sum" = some none)
    (z_range : PySem.W.nsIn K mainGlobals "range" = some none)
    (z_repr : PySem.W.nsIn K mainGlobals "repr" = some none)
    (z_isinstance : PySem.W.nsIn K mainGlobals "isinstance" = some none)
    (z_any : PySem.W.nsIn K mainGlobals "any" = some none)
    (z_all : PySem.W.nsIn K mainGlobals "all" = some none)
    (z_tuple : PySem.W.nsIn K mainGlobals "tuple" = some none)
    (z_list : PySem.W.nsIn K mainGlobals "list" = some none)
    (z_zip : PySem.W.nsIn K mainGlobals "zip" = some none)
    (z_enumerate : PySem.W.nsIn K mainGlobals "enumerate" = some none)
    (z_max : PySem.W.nsIn K mainGlobals "max" = some none)
    (z_bool : PySem.W.nsIn K mainGlobals "bool" = some none) :
    ∃ fd : FuncData, (∀ (s : Shared) (v : Value), BindsTo s fd ⟨[v], []⟩ [("script", v)]) ∧ ∀ base : Heap, K.In base → base.Ns mainGlobals mg → FnG l.prog w K mg base CX0 32 fa fd ["script"] (spTrue K) := by
  have e := hfa.symm.trans (PySem.W.mg_of X G a_law)
  cases e
  have B : Blt mg := ⟨PySem.W.mg_none_of X G z_len, PySem.W.mg_none_of X G z_int, PySem.W.mg_none_of X G z_abs, PySem.W.mg_none_of X G z_sum, PySem.W.mg_none_of X G z_range, PySem.W.mg_none_of X G z_repr, PySem.W.mg_none_of X G z_isinstance, PySem.W.mg_none_of X G z_any, PySem.W.mg_none_of X G z_all, PySem.W.mg_none_of X G z_tuple, PySem.W.mg_none_of X G z_list, PySem.W.mg_none_of X G z_zip, PySem.W.mg_none_of X G z_enumerate, PySem.W.mg_none_of X G z_max, PySem.W.mg_none_of X G z_bool⟩
  have tN : ∀ H : Hp, SqT K H aN [.int 0, .int 1] := fun H => .inr ⟨_, #[.int 0 tN1, .int 1 tN2], nN, lN, rfl, rfl, by show 2 ≤ sizeLine; decide, .cons ⟨tN1, rfl⟩ (.cons ⟨tN2, rfl⟩ .nil)⟩
  have tO : ∀ H : Hp, SqT K H aO [.int 1, .int 1] := fun H => .inr ⟨_, #[.int 1 tO1, .int 1 tO2], nO, lO, rfl, rfl, by show 2 ≤ sizeLine; decide, .cons ⟨tO1, rfl⟩ (.cons ⟨tO2, rfl⟩ .nil)⟩
  have C : Cst K mg aN aO t1 t2 t3 t4 t5 t6 t7 := ⟨PySem.W.mg_of X G gcd, PySem.W.mg_of X G lcm, PySem.W.mg_of X G aN0, PySem.W.mg_of X G aO0, tN, tO, PySem.W.mg_of X G m_MOST_QUESTIONS, PySem.W.mg_of X G m_MOST_WORDS, PySem.W.mg_of X G m_MOST_NUMBERS, PySem.W.mg_of X G m_MOST_ON_A_WAY, PySem.W.mg_of X G m_MOST_PASSED, PySem.W.mg_of X G m_MOST_ROUNDS, PySem.W.mg_of X G m_MOST_ANSWERS⟩
  have U : Hcl K mg Cc f_House_init f_House_eq := ⟨⟨pgC, hdC, poC, saC⟩, nwC, ntC, ⟨mkC, a_House_init, i_House_init, kcC⟩, a_House_eq, i_House_eq, PySem.W.mg_of X G aC, haC, hnC, htC, hmC⟩
  have F_is_integral := fun_mk (st := s_is_integral) l_is_integral c_is_integral k_is_integral
  have D_is_integral : Dn K mg "is_integral" s_is_integral ["thing"] f_is_integral _ := ⟨F_is_integral, F_is_integral.binds (ps := ["thing"]) fun _ _ _ _ _ _ us hl => match us, hl with | [_], _ => rfl, PySem.W.mg_of X G a_is_integral⟩
  have F_is_number := fun_mk (st := s_is_number) l_is_number c_is_number k_is_number
  have D_is_number : Dn K mg "is_number" s_is_number ["thing", "least", "most"] f_is_number _ := ⟨F_is_number, F_is_number.binds (ps := ["thing", "least", "most"]) fun _ _ _ _ _ _ us hl => match us, hl with | [_, _, _], _ => rfl, PySem.W.mg_of X G a_is_number⟩
  have F_is_fraction := fun_mk (st := s_is_fraction) l_is_fraction c_is_fraction k_is_fraction
  have D_is_fraction : Dn K mg "is_fraction" s_is_fraction ["thing"] f_is_fraction _ := ⟨F_is_fraction, F_is_fraction.binds (ps := ["thing"]) fun _ _ _ _ _ _ us hl => match us, hl with | [_], _ => rfl, PySem.W.mg_of X G a_is_fraction⟩
  have F_is_chance := fun_mk (st := s_is_chance) l_is_chance c_is_chance k_is_chance
  have D_is_chance : Dn K mg "is_chance" s_is_chance ["thing"] f_is_chance _ := ⟨F_is_chance, F_is_chance.binds (ps := ["thing"]) fun _ _ _ _ _ _ us hl => match us, hl with | [_], _ => rfl, PySem.W.mg_of X G a_is_chance⟩
  have F_are_chances := fun_mk (st := s_are_chances) l_are_chances c_are_chances k_are_chances
  have D_are_chances : Dn K mg "are_chances" s_are_chances ["thing", "many"] f_are_chances _ := ⟨F_are_chances, F_are_chances.binds (ps := ["thing", "many"]) fun _ _ _ _ _ _ us hl => match us, hl with | [_, _], _ => rfl, PySem.W.mg_of X G a_are_chances⟩
  have F_are_nought := fun_mk (st := s_are_nought) l_are_nought c_are_nought k_are_nought
  have D_are_nought : Dn K mg "are_nought" s_are_nought ["weights"] f_are_nought _ := ⟨F_are_nought, F_are_nought.binds (ps := ["weights"]) fun _ _ _ _ _ _ us hl => match us, hl with | [_], _ => rfl, PySem.W.mg_of X G a_are_nought⟩
  have F_reduced := fun_mk (st := s_reduced) l_reduced c_reduced k_reduced
  have D_reduced : Dn K mg "reduced" s_reduced ["top", "bottom"] f_reduced _ := ⟨F_reduced, F_reduced.binds (ps := ["top", "bottom"]) fun _ _ _ _ _ _ us hl => match us, hl with | [_, _], _ => rfl, PySem.W.mg_of X G a_reduced⟩
  have F_common_bottom := fun_mk (st := s_common_bottom) l_common_bottom c_common_bottom k_common_bottom
  have D_common_bottom : Dn K mg "common_bottom" s_common_bottom ["fractions"] f_common_bottom _ := ⟨F_common_bottom, F_common_bottom.binds (ps := ["fractions"]) fun _ _ _ _ _ _ us hl => match us, hl with | [_], _ => rfl, PySem.W.mg_of X G a_common_bottom⟩
  have F_times_whole := fun_mk (st := s_times_whole) l_times_whole c_times_whole k_times_whole
  have D_times_whole : Dn K mg "times_whole" s_times_whole ["fraction", "whole"] f_times_whole _ := ⟨F_times_whole, F_times_whole.binds (ps := ["fraction", "whole"]) fun _ _ _ _ _ _ us hl => match us, hl with | [_, _], _ => rfl, PySem.W.mg_of X G a_times_whole⟩
  have F_total := fun_mk (st := s_total) l_total c_total k_total
  have D_total : Dn K mg "total" s_total ["fractions"] f_total _ := ⟨F_total, F_total.binds (ps := ["fractions"]) fun _ _ _ _ _ _ us hl => match us, hl with | [_], _ => rfl, PySem.W.mg_of X G a_total⟩
  have F_total_weights := fun_mk (st := s_total_weights) l_total_weights c_total_weights k_total_weights
  have D_total_weights : Dn K mg "total_weights" s_total_weights ["rows", "worlds"] f_total_weights _ := ⟨F_total_weights, F_total_weights.binds (ps := ["rows", "worlds"]) fun _ _ _ _ _ _ us hl => match us, hl with | [_, _], _ => rfl, PySem.W.mg_of X G a_total_weights⟩
  have F_is_word := fun_mk (st := s_is_word) l_is_word c_is_word k_is_word
  have D_is_word : Dn K mg "is_word" s_is_word ["thing"] f_is_word _ := ⟨F_is_word, F_is_word.binds (ps := ["thing"]) fun _ _ _ _ _ _ us hl => match us, hl with | [_], _ => rfl, PySem.W.mg_of X G a_is_word⟩
  have F_is_answer := fun_mk (st := s_is_answer) l_is_answer c_is_answer k_is_answer
  have D_is_answer : Dn K mg "is_answer" s_is_answer ["thing", "worlds"] f_is_answer _ := ⟨F_is_answer, F_is_answer.binds (ps := ["thing", "worlds"]) fun _ _ _ _ _ _ us hl => match us, hl with | [_, _], _ => rfl, PySem.W.mg_of X G a_is_answer⟩
  have F_is_ascending := fun_mk (st := s_is_ascending) l_is_ascending c_is_ascending k_is_ascending
  have D_is_ascending : Dn K mg "is_ascending" s_is_ascending ["rows"] f_is_ascending _ := ⟨F_is_ascending, F_is_ascending.binds (ps := ["rows"]) fun _ _ _ _ _ _ us hl => match us, hl with | [_], _ => rfl, PySem.W.mg_of X G a_is_ascending⟩
  have F_check_tree := fun_mk (st := s_check_tree) l_check_tree c_check_tree k_check_tree
  have D_check_tree : Dn K mg "check_tree" s_check_tree ["worlds", "tree"] f_check_tree _ := ⟨F_check_tree, F_check_tree.binds (ps := ["worlds", "tree"]) fun _ _ _ _ _ _ us hl => match us, hl with | [_, _], _ => rfl, PySem.W.mg_of X G a_check_tree⟩
  have F_check_node := fun_mk (st := s_check_node) l_check_node c_check_node k_check_node
  have D_check_node : Dn K mg "check_node" s_check_node ["node", "place", "ahead"] f_check_node _ := ⟨F_check_node, F_check_node.binds (ps := ["node", "place", "ahead"]) fun _ _ _ _ _ _ us hl => match us, hl with | [_, _, _], _ => rfl, PySem.W.mg_of X G a_check_node⟩
  have F_check_question := fun_mk (st := s_check_question) l_check_question c_check_question k_check_question
  have D_check_question : Dn K mg "check_question" s_check_question ["question", "place", "ahead"] f_check_question _ := ⟨F_check_question, F_check_question.binds (ps := ["question", "place", "ahead"]) fun _ _ _ _ _ _ us hl => match us, hl with | [_, _, _], _ => rfl, PySem.W.mg_of X G a_check_question⟩
  have F_answers_in := fun_mk (st := s_answers_in) l_answers_in c_answers_in k_answers_in
  have D_answers_in : Dn K mg "answers_in" s_answers_in ["node"] f_answers_in _ := ⟨F_answers_in, F_answers_in.binds (ps := ["node"]) fun _ _ _ _ _ _ us hl => match us, hl with | [_], _ => rfl, PySem.W.mg_of X G a_answers_in⟩
  have F_rounds_in := fun_mk (st := s_rounds_in) l_rounds_in c_rounds_in k_rounds_in
  have D_rounds_in : Dn K mg "rounds_in" s_rounds_in ["node"] f_rounds_in _ := ⟨F_rounds_in, F_rounds_in.binds (ps := ["node"]) fun _ _ _ _ _ _ us hl => match us, hl with | [_], _ => rfl, PySem.W.mg_of X G a_rounds_in⟩
  have F_House_init := fun_mk (st := s_House_init) l_House_init c_House_init k_House_init
  have D_House_init : Dm K "__init__" "House.__init__" s_House_init ["self", "worlds", "tree"] f_House_init _ := ⟨F_House_init, F_House_init.binds (ps := ["self", "worlds", "tree"]) fun _ _ _ _ _ _ us hl => match us, hl with | [_, _, _], _ => rfl⟩
  have F_House_eq := fun_mk (st := s_House_eq) l_House_eq c_House_eq k_House_eq
  have D_House_eq : Dm K "__eq__" "House.__eq__" s_House_eq ["self", "other"] f_House_eq _ := ⟨F_House_eq, F_House_eq.binds (ps := ["self", "other"]) fun _ _ _ _ _ _ us hl => match us, hl with | [_, _], _ => rfl⟩
  have F_made_house := fun_mk (st := s_made_house) l_made_house c_made_house k_made_house
  have D_made_house : Dn K mg "made_house" s_made_house ["worlds", "tree"] f_made_house _ := ⟨F_made_house, F_made_house.binds (ps := ["worlds", "tree"]) fun _ _ _ _ _ _ us hl => match us, hl with | [_, _], _ => rfl, PySem.W.mg_of X G a_made_house⟩
  have F_hopeful_node := fun_mk (st := s_hopeful_node) l_hopeful_node c_hopeful_node k_hopeful_node
  have D_hopeful_node : Dn K mg "hopeful_node" s_hopeful_node ["node"] f_hopeful_node _ := ⟨F_hopeful_node, F_hopeful_node.binds (ps := ["node"]) fun _ _ _ _ _ _ us hl => match us, hl with | [_], _ => rfl, PySem.W.mg_of X G a_hopeful_node⟩
  have F_hopeful := fun_mk (st := s_hopeful) l_hopeful c_hopeful k_hopeful
  have D_hopeful : Dn K mg "hopeful" s_hopeful ["house"] f_hopeful _ := ⟨F_hopeful, F_hopeful.binds (ps := ["house"]) fun _ _ _ _ _ _ us hl => match us, hl with | [_], _ => rfl, PySem.W.mg_of X G a_hopeful⟩
  have F_counted_node := fun_mk (st := s_counted_node) l_counted_node c_counted_node k_counted_node
  have D_counted_node : Dn K mg "counted_node" s_counted_node ["node"] f_counted_node _ := ⟨F_counted_node, F_counted_node.binds (ps := ["node"]) fun _ _ _ _ _ _ us hl => match us, hl with | [_], _ => rfl, PySem.W.mg_of X G a_counted_node⟩
  have F_begun := fun_mk (st := s_begun) l_begun c_begun k_begun
  have D_begun : Dn K mg "begun" s_begun ["house"] f_begun _ := ⟨F_begun, F_begun.binds (ps := ["house"]) fun _ _ _ _ _ _ us hl => match us, hl with | [_], _ => rfl, PySem.W.mg_of X G a_begun⟩
  have F_law_bag := fun_mk (st := s_law_bag) l_law_bag c_law_bag k_law_bag
  have D_law_bag : Dn K mg "_law_bag" s_law_bag ["script"] f_law_bag _ := ⟨F_law_bag, F_law_bag.binds (ps := ["script"]) fun _ _ _ _ _ _ us hl => match us, hl with | [_], _ => rfl, PySem.W.mg_of X G a_law_bag⟩
  have F_law_pick := fun_mk (st := s_law_pick) l_law_pick c_law_pick k_law_pick
  have D_law_pick : Dn K mg "_law_pick" s_law_pick ["bag", "many"] f_law_pick _ := ⟨F_law_pick, F_law_pick.binds (ps := ["bag", "many"]) fun _ _ _ _ _ _ us hl => match us, hl with | [_, _], _ => rfl, PySem.W.mg_of X G a_law_pick⟩
  have F_law_some := fun_mk (st := s_law_some) l_law_some c_law_some k_law_some
  have D_law_some : Dn K mg "_law_some" s_law_some ["bag", "things"] f_law_some _ := ⟨F_law_some, F_law_some.binds (ps := ["bag", "things"]) fun _ _ _ _ _ _ us hl => match us, hl with | [_, _], _ => rfl, PySem.W.mg_of X G a_law_some⟩
  have F_law_common := fun_mk (st := s_law_common) l_law_common c_law_common k_law_common
  have D_law_common : Dn K mg "_law_common" s_law_common ["one", "other"] f_law_common _ := ⟨F_law_common, F_law_common.binds (ps := ["one", "other"]) fun _ _ _ _ _ _ us hl => match us, hl with | [_, _], _ => rfl, PySem.W.mg_of X G a_law_common⟩
  have F_law_low := fun_mk (st := s_law_low) l_law_low c_law_low k_law_low
  have D_law_low : Dn K mg "_law_low" s_law_low ["top", "bottom"] f_law_low _ := ⟨F_law_low, F_law_low.binds (ps := ["top", "bottom"]) fun _ _ _ _ _ _ us hl => match us, hl with | [_, _], _ => rfl, PySem.W.mg_of X G a_law_low⟩
  have F_law_times := fun_mk (st := s_law_times) l_law_times c_law_times k_law_times
  have D_law_times : Dn K mg "_law_times" s_law_times ["one", "other"] f_law_times _ := ⟨F_law_times, F_law_times.binds (ps := ["one", "other"]) fun _ _ _ _ _ _ us hl => match us, hl with | [_, _], _ => rfl, PySem.W.mg_of X G a_law_times⟩
  have F_law_shares := fun_mk (st := s_law_shares) l_law_shares c_law_shares k_law_shares
  have D_law_shares : Dn K mg "_law_shares" s_law_shares ["bag", "many", "least"] f_law_shares _ := ⟨F_law_shares, F_law_shares.binds (ps := ["bag", "many", "least"]) fun _ _ _ _ _ _ us hl => match us, hl with | [_, _, _], _ => rfl, PySem.W.mg_of X G a_law_shares⟩
  have F_law_question := fun_mk (st := s_law_question) l_law_question c_law_question k_law_question
  have D_law_question : Dn K mg "_law_question" s_law_question ["bag", "worlds", "ahead", "levels", "left"] f_law_question _ := ⟨F_law_question, F_law_question.binds (ps := ["bag", "worlds", "ahead", "levels", "left"]) fun _ _ _ _ _ _ us hl => match us, hl with | [_, _, _, _, _], _ => rfl, PySem.W.mg_of X G a_law_question⟩
  have F_law_node := fun_mk (st := s_law_node) l_law_node c_law_node k_law_node
  have D_law_node : Dn K mg "_law_node" s_law_node ["bag", "worlds", "ahead", "levels", "left"] f_law_node _ := ⟨F_law_node, F_law_node.binds (ps := ["bag", "worlds", "ahead", "levels", "left"]) fun _ _ _ _ _ _ us hl => match us, hl with | [_, _, _, _, _], _ => rfl, PySem.W.mg_of X G a_law_node⟩
  have F_law_tree := fun_mk (st := s_law_tree) l_law_tree c_law_tree k_law_tree
  have D_law_tree : Dn K mg "_law_tree" s_law_tree ["bag", "worlds", "levels", "answers"] f_law_tree _ := ⟨F_law_tree, F_law_tree.binds (ps := ["bag", "worlds", "levels", "answers"]) fun _ _ _ _ _ _ us hl => match us, hl with | [_, _, _, _], _ => rfl, PySem.W.mg_of X G a_law_tree⟩
  have F_law_is := fun_mk (st := s_law_is) l_law_is c_law_is k_law_is
  have D_law_is : Dn K mg "_law_is" s_law_is ["found", "due"] f_law_is _ := ⟨F_law_is, F_law_is.binds (ps := ["found", "due"]) fun _ _ _ _ _ _ us hl => match us, hl with | [_, _], _ => rfl, PySem.W.mg_of X G a_law_is⟩
  have F_law_with_hopeless := fun_mk (st := s_law_with_hopeless) l_law_with_hopeless c_law_with_hopeless k_law_with_hopeless
  have D_law_with_hopeless : Dn K mg "_law_with_hopeless" s_law_with_hopeless ["bag", "worlds", "node"] f_law_with_hopeless _ := ⟨F_law_with_hopeless, F_law_with_hopeless.binds (ps := ["bag", "worlds", "node"]) fun _ _ _ _ _ _ us hl => match us, hl with | [_, _, _], _ => rfl, PySem.W.mg_of X G a_law_with_hopeless⟩
  have F_law_hoped := fun_mk (st := s_law_hoped) l_law_hoped c_law_hoped k_law_hoped
  have D_law_hoped : Dn K mg "_law_hoped" s_law_hoped ["node"] f_law_hoped _ := ⟨F_law_hoped, F_law_hoped.binds (ps := ["node"]) fun _ _ _ _ _ _ us hl => match us, hl with | [_], _ => rfl, PySem.W.mg_of X G a_law_hoped⟩
  have F_law_numbered := fun_mk (st := s_law_numbered) l_law_numbered c_law_numbered k_law_numbered
  have D_law_numbered : Dn K mg "_law_numbered" s_law_numbered ["node"] f_law_numbered _ := ⟨F_law_numbered, F_law_numbered.binds (ps := ["node"]) fun _ _ _ _ _ _ us hl => match us, hl with | [_], _ => rfl, PySem.W.mg_of X G a_law_numbered⟩
  have F_law := fun_mk (st := s_law) l_law c_law k_law
  have D_law : Dn K mg "law" s_law ["script"] fa _ := ⟨F_law, F_law.binds (ps := ["script"]) fun _ _ _ _ _ _ us hl => match us, hl with | [_], _ => rfl, PySem.W.mg_of X G a_law⟩
  have D_sum : DTot K mg f_common_bottom _ := ⟨D_common_bottom, _, _, D_times_whole⟩
  refine ⟨PySem.W.fnOf "law" "law" (defArgs s_law) (defBody s_law) (defScope s_law) .none kV_law dc_law pm_law an_law cd_law ct_law, fun s v => .of_eq rfl, fun base _ _ => ?_⟩
  have qn := ok_law_qn (P := l.prog) (w := w) (base := base) D_law_question B D_law_low D_law_common D_law_pick D_law_shares D_law_some D_law_times D_law_node
  have tree := fun n => ok_law_tree D_law_tree B D_law_pick D_law_question (qn (n + 1)).1
  have wh := ok_law_with_hopeless D_law_with_hopeless B D_law_pick D_law_node (qn 1).2
  have ck := ok_checks (P := l.prog) (w := w) (base := base) B C D_check_node D_check_question D_is_answer D_is_ascending D_total_weights D_is_number D_is_integral D_is_word D_is_fraction D_is_chance D_reduced D_sum D_total D_are_chances
  have ini := fun n => ok_House_init D_House_init B C U D_check_tree (ok_check_tree D_check_tree B C D_check_node (ck n).2 D_answers_in) D_is_number D_is_integral
  have made := fun n => ok_made_house (n := n) D_made_house B C U D_rounds_in D_answers_in D_House_init (ini 0)
  have hpf := fun n => ok_hopeful D_hopeful U D_made_house (made n) D_hopeful_node (ok_hopeful_node D_hopeful_node B C D_are_nought n)
  have bgn := fun n => ok_begun D_begun B C U D_made_house (made (n + 1)) D_counted_node (ok_counted_node D_counted_node B n)
  exact ok_law D_law B U D_law_bag (ok_law_bag D_law_bag B) D_law_pick (ok_law_pick D_law_pick B) D_law_tree (FnOk.any (lv := fun n => 6 + 2 * (n + 1)) tree fun n hn => by show 6 + 2 * (n + 1) ≤ 30; omega)
    D_law_with_hopeless (FnOk.any (lv := fun n => 9 + n) wh fun n hn => by show 9 + n ≤ 30; omega) D_House_init (FnOk.any (lv := fun n => 8 + 2 * n) ini fun n hn => by show 8 + 2 * n ≤ 30; omega) D_House_eq (ok_House_eq D_House_eq B U)
    D_hopeful (FnOk.any (lv := fun n => 13 + n) hpf fun n hn => by show 13 + n ≤ 30; omega) D_begun (FnOk.any (lv := fun n => 14 + n) bgn fun n hn => by show 14 + n ≤ 30; omega)
    D_law_hoped (FnOk.any (lv := fun n => 1 + n) (ok_law_hoped D_law_hoped B) fun n hn => by show 1 + n ≤ 30; omega) D_law_numbered (FnOk.any (lv := fun n => 1 + n) (ok_law_numbered D_law_numbered B) fun n hn => by show 1 + n ≤ 30; omega) D_law_is (ok_law_is D_law_is B)
end Tl
open PySem PySem.W PyProof.Rows
set_option maxRecDepth 100000 in
set_option maxHeartbeats 0 in
theorem PySem.Challenge.cw_tellsless_k03_whole_hopeful_and_begun_holds : PySem.Challenge.rw_tellsless_k03_whole_hopeful_and_begun.Holds := by
  w_on; o_law; k_head; (case hw => w_witness2)
  k_fill
  refine Tl.walkG (l := PySem.Challenge.rw_tellsless_k03_whole_hopeful_and_begun) (k := 32) (x := "script") rfl rfl ⟨rfl, by decide, by decide⟩ (fun w h Y => PySem.W.kIn_of Y) ?F
  case F =>
    intro w mg fa h KX G hmg
    refine' Tl.all_mk KX G hmg ?aC ?a_is_integral ?l_is_integral ?c_is_integral ?k_is_integral ?a_is_number ?l_is_number ?c_is_number ?k_is_number ?a_is_fraction ?l_is_fraction ?c_is_fraction ?k_is_fraction ?a_is_chance ?l_is_chance ?c_is_chance ?k_is_chance ?a_are_chances ?l_are_chances ?c_are_chances ?k_are_chances ?a_are_nought ?l_are_nought ?c_are_nought ?k_are_nought ?a_reduced ?l_reduced ?c_reduced ?k_reduced ?a_common_bottom ?l_common_bottom ?c_common_bottom ?k_common_bottom ?a_times_whole ?l_times_whole ?c_times_whole ?k_times_whole ?a_total ?l_total ?c_total ?k_total ?a_total_weights ?l_total_weights ?c_total_weights ?k_total_weights ?a_is_word ?l_is_word ?c_is_word ?k_is_word ?a_is_answer ?l_is_answer ?c_is_answer ?k_is_answer ?a_is_ascending ?l_is_ascending ?c_is_ascending ?k_is_ascending ?a_check_tree ?l_check_tree ?c_check_tree ?k_check_tree ?a_check_node ?l_check_node ?c_check_node ?k_check_node ?a_check_question ?l_check_question ?c_check_question ?k_check_question ?a_answers_in ?l_answers_in ?c_answers_in ?k_answers_in ?a_rounds_in ?l_rounds_in ?c_rounds_in ?k_rounds_in ?a_House_init ?i_House_init ?l_House_init ?c_House_init ?k_House_init ?a_House_eq ?i_House_eq ?l_House_eq ?c_House_eq ?k_House_eq ?a_made_house ?l_made_house ?c_made_house ?k_made_house ?a_hopeful_node ?l_hopeful_node ?c_hopeful_node ?k_hopeful_node ?a_hopeful ?l_hopeful ?c_hopeful ?k_hopeful ?a_counted_node ?l_counted_node ?c_counted_node ?k_counted_node ?a_begun ?l_begun ?c_begun ?k_begun ?a_law_bag ?l_law_bag ?c_law_bag ?k_law_bag ?a_law_pick ?l_law_pick ?c_law_pick ?k_law_pick ?a_law_some ?l_law_some ?c_law_some ?k_law_some ?a_law_common ?l_law_common ?c_law_common ?k_law_common ?a_law_low ?l_law_low ?c_law_low ?k_law_low ?a_law_times ?l_law_times ?c_law_times ?k_law_times ?a_law_shares ?l_law_shares ?c_law_shares ?k_law_shares ?a_law_question ?l_law_question ?c_law_question ?k_law_question ?a_law_node ?l_law_node ?c_law_node ?k_law_node ?a_law_tree ?l_law_tree ?c_law_tree ?k_law_tree ?a_law_is ?l_law_is ?c_law_is ?k_law_is ?a_law_with_hopeless ?l_law_with_hopeless ?c_law_with_hopeless ?k_law_with_hopeless ?a_law_hoped ?l_law_hoped ?c_law_hoped ?k_law_hoped ?a_law_numbered ?l_law_numbered ?c_law_numbered ?k_law_numbered ?a_law ?l_law ?c_law ?k_law ?pgC ?hdC ?poC ?saC ?mkC ?kcC ?nwC ?ntC ?haC ?hnC ?htC ?hmC ?gcd ?lcm ?aN0 ?aO0 ?lN ?lO ?m_MOST_QUESTIONS ?m_MOST_WORDS ?m_MOST_NUMBERS ?m_MOST_ON_A_WAY ?m_MOST_PASSED ?m_MOST_ROUNDS ?m_MOST_ANSWERS ?z_len ?z_int ?z_abs ?z_sum ?z_range ?z_repr ?z_isinstance ?z_any ?z_all ?z_tuple ?z_list ?z_zip ?z_enumerate ?z_max ?z_bool
    (case aC => k_is)
    (case a_is_integral => k_is)
    (case l_is_integral => k_is)
    (case c_is_integral => k_is)
    (case k_is_integral => k_is)
    (case a_is_number => k_is)
    (case l_is_number => k_is)
    (case c_is_number => k_is)
    (case k_is_number => k_is)
    (case a_is_fraction => k_is)
    (case l_is_fraction => k_is)
    (case c_is_fraction => k_is)
    (case k_is_fraction => k_is)
    (case a_is_chance => k_is)
    (case l_is_chance => k_is)
    (case c_is_chance => k_is)
    (case k_is_chance => k_is)
    (case a_are_chances => k_is)
    (case l_are_chances => k_is)
    (case c_are_chances => k_is)
    (case k_are_chances => k_is)
    (case a_are_nought => k_is)
    (case l_are_nought => k_is)
    (case c_are_nought => k_is)
    (case k_are_nought => k_is)
    (case a_reduced => k_is)
    (case l_reduced => k_is)
    (case c_reduced => k_is)
    (case k_reduced => k_is)
    (case a_common_bottom => k_is)
    (case l_common_bottom => k_is)
    (case c_common_bottom => k_is)
    (case k_common_bottom => k_is)
    (case a_times_whole => k_is)
    (case l_times_whole => k_is)
    (case c_times_whole => k_is)
    (case k_times_whole => k_is)
    (case a_total => k_is)
    (case l_total => k_is)
    (case c_total => k_is)
    (case k_total => k_is)
    (case a_total_weights => k_is)
    (case l_total_weights => k_is)
    (case c_total_weights => k_is)
    (case k_total_weights => k_is)
    (case a_is_word => k_is)
    (case l_is_word => k_is)
    (case c_is_word => k_is)
    (case k_is_word => k_is)
    (case a_is_answer => k_is)
    (case l_is_answer => k_is)
    (case c_is_answer => k_is)
    (case k_is_answer => k_is)
    (case a_is_ascending => k_is)
    (case l_is_ascending => k_is)
    (case c_is_ascending => k_is)
    (case k_is_ascending => k_is)
    (case a_check_tree => k_is)
    (case l_check_tree => k_is)
    (case c_check_tree => k_is)
    (case k_check_tree => k_is)
    (case a_check_node => k_is)
    (case l_check_node => k_is)
    (case c_check_node => k_is)
    (case k_check_node => k_is)
    (case a_check_question => k_is)
    (case l_check_question => k_is)
    (case c_check_question => k_is)
    (case k_check_question => k_is)
    (case a_answers_in => k_is)
    (case l_answers_in => k_is)
    (case c_answers_in => k_is)
    (case k_answers_in => k_is)
    (case a_rounds_in => k_is)
    (case l_rounds_in => k_is)
    (case c_rounds_in => k_is)
    (case k_rounds_in => k_is)
    (case a_House_init => k_is)
    (case i_House_init => k_is)
    (case l_House_init => k_is)
    (case c_House_init => k_is)
    (case k_House_init => k_is)
    (case a_House_eq => k_is)
    (case i_House_eq => k_is)
    (case l_House_eq => k_is)
    (case c_House_eq => k_is)
    (case k_House_eq => k_is)
    (case a_made_house => k_is)
    (case l_made_house => k_is)
    (case c_made_house => k_is)
    (case k_made_house => k_is)
    (case a_hopeful_node => k_is)
    (case l_hopeful_node => k_is)
    (case c_hopeful_node => k_is)
    (case k_hopeful_node => k_is)
    (case a_hopeful => k_is)
    (case l_hopeful => k_is)
    (case c_hopeful => k_is)
    (case k_hopeful => k_is)
    (case a_counted_node => k_is)
    (case l_counted_node => k_is)
    (case c_counted_node => k_is)
    (case k_counted_node => k_is)
    (case a_begun => k_is)
    (case l_begun => k_is)
    (case c_begun => k_is)
    (case k_begun => k_is)
    (case a_law_bag => k_is)
    (case l_law_bag => k_is)
    (case c_law_bag => k_is)
    (case k_law_bag => k_is)
    (case a_law_pick => k_is)
    (case l_law_pick => k_is)
    (case c_law_pick => k_is)
    (case k_law_pick => k_is)
    (case a_law_some => k_is)
    (case l_law_some => k_is)
    (case c_law_some => k_is)
    (case k_law_some => k_is)
    (case a_law_common => k_is)
    (case l_law_common => k_is)
    (case c_law_common => k_is)
    (case k_law_common => k_is)
    (case a_law_low => k_is)
    (case l_law_low => k_is)
    (case c_law_low => k_is)
    (case k_law_low => k_is)
    (case a_law_times => k_is)
    (case l_law_times => k_is)
    (case c_law_times => k_is)
    (case k_law_times => k_is)
    (case a_law_shares => k_is)
    (case l_law_shares => k_is)
    (case c_law_shares => k_is)
    (case k_law_shares => k_is)
    (case a_law_question => k_is)
    (case l_law_question => k_is)
    (case c_law_question => k_is)
    (case k_law_question => k_is)
    (case a_law_node => k_is)
    (case l_law_node => k_is)
    (case c_law_node => k_is)
    (case k_law_node => k_is)
    (case a_law_tree => k_is)
    (case l_law_tree => k_is)
    (case c_law_tree => k_is)
    (case k_law_tree => k_is)
    (case a_law_is => k_is)
    (case l_law_is => k_is)
    (case c_law_is => k_is)
    (case k_law_is => k_is)
    (case a_law_with_hopeless => k_is)
    (case l_law_with_hopeless => k_is)
    (case c_law_with_hopeless => k_is)
    (case k_law_with_hopeless => k_is)
    (case a_law_hoped => k_is)
    (case l_law_hoped => k_is)
    (case c_law_hoped => k_is)
    (case k_law_hoped => k_is)
    (case a_law_numbered => k_is)
    (case l_law_numbered => k_is)
    (case c_law_numbered => k_is)
    (case k_law_numbered => k_is)
    (case a_law => k_is)
    (case l_law => k_is)
    (case c_law => k_is)
    (case k_law => k_is)
    (case pgC => k_is)
    (case hdC => k_is)
    (case poC => k_is)
    (case saC => k_is)
    (case mkC => k_is)
    (case kcC => k_is)
    (case nwC => k_is)
    (case ntC => k_is)
    (case haC => k_is)
    (case hnC => k_is)
    (case htC => k_is)
    (case hmC => k_is)
    (case gcd => k_is)
    (case lcm => k_is)
    (case aN0 => k_is)
    (case aO0 => k_is)
    (case lN => k_is)
    (case lO => k_is)
    (case m_MOST_QUESTIONS => k_is)
    (case m_MOST_WORDS => k_is)
    (case m_MOST_NUMBERS => k_is)
    (case m_MOST_ON_A_WAY => k_is)
    (case m_MOST_PASSED => k_is)
    (case m_MOST_ROUNDS => k_is)
    (case m_MOST_ANSWERS => k_is)
    (case z_len => k_is)
    (case z_int => k_is)
    (case z_abs => k_is)
    (case z_sum => k_is)
    (case z_range => k_is)
    (case z_repr => k_is)
    (case z_isinstance => k_is)
    (case z_any => k_is)
    (case z_all => k_is)
    (case z_tuple => k_is)
    (case z_list => k_is)
    (case z_zip => k_is)
    (case z_enumerate => k_is)
    (case z_max => k_is)
    (case z_bool => k_is)
