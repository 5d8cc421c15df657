import PyProof.Rows.All
import Wide.All
import OpenK.AllK
import Wide.FinOn
import HandS.ForMost
import HandS.Wide
import HandS.Style
import HandS.Flow
import HandS.IsInst
import HandS.Defaults
import HandS.Codes
import HandS.RaiseMore
import PyProof.ReprLen
import PyProof.FitsInt
import HandS.TupSets
import HandS.Gcd
import KE.KMathGC
import HandS.RevRange
import HandS.Conv
import HandS.ForExc
import HandS.FStr
import HandS.Iter
import HandS.Sort
import KE.KDictZip
import KE.GoesEnum
import HandS.ExcValue
import HandS.Zip
import HandS.Set
import HandS.Strs
import HandS.DictComp
import PyProof.Rows.SetFrom
import KE.KExcSuper
import KE.KSuper
import HandS.ExcInit
import HandS.ExcField
import KE.KExcIs
import HandS.SortInts
import HandS.WideBits
import HandS.Text
import PySem.Challenge.RW_frameseams_k62_errors_made
set_option Elab.async false
set_option linter.all false
set_option maxRecDepth 100000
set_option maxHeartbeats 4000000
namespace XR
open PySem PySem.Spec PyProof.Rows L2
/-! ### wide powers -/
def CPowW (i j : Int) : Prop := 0 ≤ j ∧ (Builtin.Int.intBits i : Int) * j ≤ 2 ^ 27
theorem op_powW {X : Cx} : OpR X (binaryOp .Pow) (rI CPowW fun i j => .int (i ^ j.toNat)) := opI fun _ _ _ _ _ _ _ hc q => pow_int hc.1 hc.2 q
theorem cpow3 {i : Int} {k : Nat} (h : i.natAbs < 2 ^ k) (h0 : 0 < k) (h1 : k ≤ 1000000) : CPowW i 3 := by
  have x := PySem.Flt.log2_lt_of h0 h
  refine ⟨by decide, ?_⟩
  unfold Builtin.Int.intBits
  split <;> omega
/-! ### slices with a step -/
theorem paired_get {α β : Type} {F : α → β → Prop} : ∀ {xs : List α} {ys : List β}, Paired F xs ys → ∀ j : Nat, (xs[j]? = none ∧ ys[j]? = none) ∨ ∃ a b, xs[j]? = some a ∧ ys[j]? = some b ∧ F a b
  | _, _, .nil, j => .inl ⟨rfl, rfl⟩
  | _, _, .cons r t, 0 => .inr ⟨_, _, rfl, rfl, r⟩
  | _, _, .cons r t, j + 1 => paired_get t j
theorem paired_places {α β : Type} {F : α → β → Prop} {xs : List α} {ys : List β} (h : Paired F xs ys) : ∀ js : List Nat, Paired F (js.filterMap (xs[·]?)) (js.filterMap (ys[·]?))
  | [] => .nil
  | j :: js => by
    have ih := paired_places h js
    rcases paired_get h j with ⟨e1, e2⟩ | ⟨a, b, e1, e2, r⟩
    · simp only [List.filterMap_cons, e1, e2]
      exact ih
    · simp only [List.filterMap_cons, e1, e2]
      exact .cons r ih
def pickV {α : Type} (xs : List α) (lo hi st : Option Int) : List α :=
  (sliceRange (sliceBounds lo hi st xs.length).1 (sliceBounds lo hi st xs.length).2.1 (sliceBounds lo hi st xs.length).2.2).filterMap (xs[·]?)
theorem pickV_rel {xs : List V} {its : List Value} (h : Vals xs its) (lo hi st : Option Int) : Vals (pickV xs lo hi st) (slicePick its.toArray lo hi st).toList := by
  have e : (slicePick its.toArray lo hi st).toList = (sliceRange (sliceBounds lo hi st xs.length).1 (sliceBounds lo hi st xs.length).2.1 (sliceBounds lo hi st xs.length).2.2).filterMap (its[·]?) := by
    simp [slicePick, h.length]
  rw [e]
  exact paired_places h _
theorem pickV_map {α β : Type} (f : α → β) (xs : List α) (lo hi st : Option Int) : pickV (xs.map f) lo hi st = (pickV xs lo hi st).map f := by
  unfold pickV
  rw [List.length_map, List.map_filterMap]
  congr 1
  funext j
  rw [List.getElem?_map]
def tSl3 (K : PySem.W.Frag) (te : TE) (tl th ts : TO) : TE := fun σ H Q => te σ H fun x H1 => tl σ H1 fun l H2 => th σ H2 fun u H3 => ts σ H3 fun st H4 =>
  ∃ a xs, x = .ref a ∧ SqL K H4 a xs ∧ st ≠ some 0 ∧ ∀ p, H4 p = none → Q (.ref p) (upd H4 p (.lst (pickV xs l u st)))
theorem pe_slice3 {X : Cx} {e : Expr} {lo hi : Option Expr} {s0 : Expr} {te : TE} {tl th ts : TO} {p2 pos : Pos} (he : PE X e te) (hl : PO X lo tl) (hu : PO X hi th) (hst : PO X (some s0) ts) :
    PE X (.Subscript e (.Slice lo hi (some s0) p2) pos) (tSl3 X.K te tl th ts) := by
  refine ⟨fun pins s σ H Q I h => ?_⟩
  refine Subscript_ (thn (he.run pins s σ H _ I h) fun v s1 ⟨x, H1, I1, r1, q1⟩ => ?_)
  refine wpAny_Slice (thn (hl.run pins s1 σ H1 _ I1 q1) fun vl s2 ⟨l, H2, I2, pl, q2⟩ => thn (hu.run pins s2 σ H2 _ I2 q2) fun vu s3 ⟨u, H3, I3, pu, q3⟩ => ?_)
  refine thn (hst.run pins s3 σ H3 _ I3 q3) fun vs s4 ⟨o, H4, I4, ps, q4⟩ => ?_
  obtain ⟨a, xs, ex, hx, hne, q⟩ := q4
  subst ex
  cases r1
  have I5 : Inv X pins σ H4 { s4 with heap := s4.heap.push { cls := .type "slice", data := .fields #[vl, vu, vs] } } := I4.kept (t' := s4.toks) fun b ob q => Heap.get?_push_of_some _ q
  obtain ⟨its, r, ht, hz⟩ := I5.list hx
  have hlen := r.length
  show wpAny (model X.prog X.w) X.A (subscriptTail e (.Slice lo hi (some s0) p2) (.ref a) (.ref s4.heap.objs.size)) (EP X pins σ Q) X.xe { s4 with heap := s4.heap.push { cls := .type "slice", data := .fields #[vl, vu, vs] } }
  refine tail_any (ops := [.ref a, .ref s4.heap.objs.size]) ht.isList.typeIs (PySem.slot_list_getitem.lookup) ?_ (by with_unfolding_all rfl)
  refine wpAny_getItem_list_slice ht.isList (Heap.IsSliceOf.new _ vl vu vs) pl pu ps hne ?_ (by rw [List.size_toArray]; omega)
  have rp := pickV_rel r l u o
  have sz := slicePick_size_le its.toArray l u o
  have e2 : (slicePick its.toArray l u o).toList.toArray = slicePick its.toArray l u o := by simp
  refine ⟨.ref _, _, I5.laid (t' := s4.toks) (o := .lst (pickV xs l u o)) (fun b ob q => Heap.get?_push_of_some _ q) (Nat.le_refl _) ?_, rfl, q _ (I5.hok.fresh (Nat.le_refl _))⟩
  refine ⟨?_, _, 0, rp, ?_⟩
  · have l1 := rp.length
    have l4 : (slicePick its.toArray l u o).toList.length = (slicePick its.toArray l u o).size := Array.length_toList
    have l3 : its.toArray.size = its.length := List.size_toArray ..
    show (pickV xs l u o).length ≤ sizeLine
    have hz2 : xs.length ≤ sizeLine := hz
    omega
  · rw [e2]
    exact Heap.get?_push_size _ rfl
/-! ### any of a list of ints -/
theorem truth_ints {prog : Program} {w : World} {A : Around} {ns : List Int} {its : List Value} (e : IntsAre its ns) :
    TruthOf prog w A (fun i v => its.toArray[i]? = some v) (fun i => (ns.map (· != 0)).getD i false) := fun i v s Q E hv hq => by
  have hv' : its[i]? = some v := by simpa using hv
  have hl := e.length
  have hi : i < ns.length := by
    have := (List.getElem?_eq_some_iff.mp hv').1
    omega
  obtain ⟨t, ht⟩ := e.get i ns[i] (List.getElem?_eq_getElem hi)
  rw [ht] at hv'
  cases hv'
  have hg : (ns.map (· != 0)).getD i false = (ns[i] != 0) := by
    rw [List.getD_eq_getElem?_getD, List.getElem?_map, List.getElem?_eq_getElem hi]
    rfl
  have hq' : Q ((ns.map (· != 0)).getD i false) s := hq
  rw [hg] at hq'
  exact PyProof.Rows.truthy_int hq'
def rAnyI (K : PySem.W.Frag) : List V → Hp → VK → Prop := fun vs H Q => ∃ (a : Addr) (ns : List Int), vs = [V.ref a] ∧ SqL K H a (ns.map V.int) ∧ Q (.bl (ns.any (· != 0))) H
theorem cr_anyI {X : Cx} (hc : X.calm = true) : CallR X (.builtin "any") (rAnyI X.K) := by
  intro pins s σ H vs us Q I r h
  obtain ⟨a, ns, rfl, hs, q⟩ := h
  obtain ⟨its, rv, hl, _⟩ := I.list hs
  rw [Vals.ref1 r]
  have hi := rv.ints
  have hlen := hi.length
  refine call_any_walk (iter_any hl.isList fun s₂ e2 st hne => ?_)
  subst e2
  refine ⟨_, _, _, _, _, _, _, rfl, Walks.list (A := X.A.in1) (I.ok.hd hc) _ a hne its.toArray, st, truth_ints hi, fun h' tk hk => ?_⟩
  refine ⟨.bl _, H, I.kept fun b o eo => hk b o (fun hmem => ?_) (Heap.get?_push_of_some _ eo), ?_, q⟩
  · rcases List.mem_cons.mp hmem with e1 | hmem
    · exact absurd (e1 ▸ Heap.lt_size eo) (Nat.lt_irrefl _)
    · cases hmem
  · show Value.bool _ = Value.bool _
    have e3 : ns.any (· != 0) = (ns.map (· != 0)).any id := by rw [List.any_map]; rfl
    rw [e3, ← L2.any_range, List.size_toArray, List.length_map, hlen]
/-! ### a loop over enumerate of a list -/
theorem for_enum {K : PySem.W.Frag} {a : Addr} {xs : List V} {g : TG} {tb : TS} {D : Ends} {σ : L2.St} {H : Hp} (Pv : Nat → L2.St → Hp → Prop) (h0 : Pv 0 σ H) (hq : ∀ i σ H, i ≤ xs.length → Pv i σ H → SqL K H a xs)
    (hs : ∀ (i : Nat) (x : V) (T : Addr) (σ : L2.St) (H : Hp), xs[i]? = some x → Pv i σ H → H T = none → g (.ref T) σ (upd H T (.tup [.int (i : Nat), x])) fun σ2 H2 => tb { D with nx := Pv (i + 1), ct := Pv (i + 1), bk := D.nx } σ2 H2) (hd : ∀ σ H, Pv xs.length σ H → D.nx σ H) :
    ∃ W : Nat → Nat → L2.St → Hp → Prop, (∃ m, W 0 m σ H) ∧ ∀ i m σ H, W i m σ H →
      ((Ite K a).stop i H ∧ D.nx σ H) ∨ ((Ite K a).go i H ∧ ∃ N : L2.St → Hp → Prop, (∀ σ' H', N σ' H' → ∃ m', m' < m ∧ W (i + 1) m' σ' H') ∧ ∀ v H', (Ite K a).yld i H v H' → g v σ H' fun σ2 H2 => tb { D with nx := N, ct := N, bk := D.nx } σ2 H2) := by
  refine ⟨fun i m σ H => m = xs.length - i ∧ i ≤ xs.length ∧ Pv i σ H, ⟨xs.length, rfl, Nat.zero_le _, h0⟩, ?_⟩
  rintro i m σ H ⟨rfl, hi, p⟩
  have qx := hq i σ H hi p
  by_cases hlt : i < xs.length
  · have hx : xs[i]? = some xs[i] := List.getElem?_eq_getElem hlt
    refine .inr ⟨⟨xs, _, qx, hx⟩, Pv (i + 1), fun σ' H' p' => ⟨xs.length - (i + 1), by omega, rfl, hlt, p'⟩, fun v H' y => ?_⟩
    obtain ⟨T, x', rfl, hT, rfl, f1⟩ := y
    exact hs i x' T σ H (f1 xs qx) p hT
  · have e : i = xs.length := by omega
    subst e
    exact .inl ⟨⟨xs, qx, Nat.le_refl _⟩, hd σ H p⟩
/-! ### == and != of lists of ints -/
theorem dpAll_ints (K : PySem.W.Frag) (H : Hp) : ∀ ns : List Int, DpAll K H (ns.map V.int) (ns.map PyData.int)
  | [] => .nil
  | n :: ns => .cons (.int n) (dpAll_ints K H ns)
theorem eqv_ints : ∀ xs ys : List Int, PyData.eqvAll (xs.map PyData.int) (ys.map PyData.int) = decide (xs = ys)
  | [], [] => by simp [PyData.eqvAll]
  | [], _ :: _ => by simp [PyData.eqvAll]
  | _ :: _, [] => by simp [PyData.eqvAll]
  | x :: xs, y :: ys => by
    have ih := eqv_ints xs ys
    simp only [List.map_cons, PyData.eqvAll, PyData.eqv, ih]
    by_cases e : x = y
    · subst e
      simp
    · simp [e]
def rEqLI (K : PySem.W.Frag) : R2 := fun x y H Q => ∃ (a b : Addr) (xs ys : List Int), x = .ref a ∧ y = .ref b ∧ SqL K H a (xs.map V.int) ∧ SqL K H b (ys.map V.int) ∧ Q (.bl (decide (xs = ys))) H
def rNeLI (K : PySem.W.Frag) : R2 := fun x y H Q => ∃ (a b : Addr) (xs ys : List Int), x = .ref a ∧ y = .ref b ∧ SqL K H a (xs.map V.int) ∧ SqL K H b (ys.map V.int) ∧ Q (.bl (!decide (xs = ys))) H
theorem op_eqLI {X : Cx} (hu : X.A.units + 64 < cLine) : OpR X (compareOp .Eq) (rEqLI X.K) := by
  intro pins s σ H x y v u Q I rx ry h
  obtain ⟨a, b, xs, ys, rfl, rfl, h1, h2, q⟩ := h
  refine op_eqD hu pins s σ H _ _ v u Q I rx ry ⟨_, _, .lst h1 (dpAll_ints _ _ xs), .lst h2 (dpAll_ints _ _ ys), PySem.W.shaped_ints xs, PySem.W.shaped_ints ys, ?_⟩
  show Q (.bl (PyData.eqvAll (xs.map PyData.int) (ys.map PyData.int))) H
  rw [eqv_ints]
  exact q
theorem op_neLI {X : Cx} (hu : X.A.units + 64 < cLine) : OpR X (compareOp .NotEq) (rNeLI X.K) := by
  intro pins s σ H x y v u Q I rx ry h
  obtain ⟨a, b, xs, ys, rfl, rfl, h1, h2, q⟩ := h
  refine op_neD hu pins s σ H _ _ v u Q I rx ry ⟨_, _, .lst h1 (dpAll_ints _ _ xs), .lst h2 (dpAll_ints _ _ ys), PySem.W.shaped_ints xs, PySem.W.shaped_ints ys, ?_⟩
  show Q (.bl (!PyData.eqvAll (xs.map PyData.int) (ys.map PyData.int))) H
  rw [eqv_ints]
  exact q
/-! ### products that are no greater than Python lets them be -/
theorem op_mulOk {X : Cx} : OpR X (binaryOp .Mult) (rI IntMulOk fun i j => .int (i * j)) := opI fun _ _ _ _ _ _ _ hc q => mul_int q hc
theorem mulOk_small (i : Int) {j : Int} (h1 : -(2 ^ 64) < j) (h2 : j < 2 ^ 64) : IntMulOk i j := .of_right (intBits_le_64 h1 h2)
theorem mulOk_wide {i j : Int} {a b : Nat} (ha : i.natAbs < 2 ^ a) (hb : j.natAbs < 2 ^ b) (h0 : 0 < a) (h1 : 0 < b) (h : a + b ≤ 1000000) : IntMulOk i j := (wide_mul ha hb h0 h1 h).ok
/-! ### xs[j] op= e of a list -/
def rGetN : V → V → Hp → VK → Prop := fun o i H Q => ∃ (p : Addr) (xs : List V) (z : Int) (j : Nat) (v : V), o = .ref p ∧ i = .int z ∧ H p = some (.lst xs) ∧ z = (j : Int) ∧ xs[j]? = some v ∧ Q v H
theorem get_listN {X : Cx} : PGet X rGetN := by
  intro pins s σ H o i ov iv Q I ro ri h
  obtain ⟨p, xs, z, j, v, rfl, rfl, hp, ez, hx, q⟩ := h
  subst ez
  cases ro
  obtain ⟨t, rfl⟩ := ri
  obtain ⟨its, r, pl, hz⟩ := I.list (SqL.of hp)
  obtain ⟨u, hu, rv⟩ := r.get hx
  have hl := r.length
  have hn := line63
  have hj := (List.getElem?_eq_some_iff.mp hx).1
  exact wpAny_getItem_list pl.isList (by omega) (by omega) (by rw [Int.toNat_natCast]; simpa using hu) ⟨v, H, I, rv, q⟩
/-! ### a call by keywords alone -/
def tKw0 (m : Nat) (sp : Sp) (gV : List V → List V → List V) (tk : TA) : TE := fun σ H Q => tk σ H fun zs H2 => zs.length = m ∧ sp (gV [] zs) H2 Q E0
theorem pe_kw0 {X : Cx} {k : Nat} {f : Addr} {fd : FuncData} {ps ks : List Str} {sp : Sp} {x : Str} {p pos : Pos} {kws : List Keyword} {tk : TA} {g : List Value → List Value → List Value} {gV : List V → List V → List V}
    (F : FnOk X.prog X.w X.K X.mg X.base CX0 k f fd ps sp) (hr : Room k X.A) (hg : Gl X x) (hm : X.mg x = some (.ref f)) (hk : PySem.W.keepIn X.K (.ref f) = true) (hb : KBn X.K fd ps 0 ks g gV) (hkw : PK X kws tk)
    (hall : (backToKw pos (keywordEach kws X.env)).all (·.1.isSome) = true := by rfl) (hks : (backToKw pos (keywordEach kws X.env)).filterMap (·.1) = ks := by rfl)
    (hdb : (x == ("__debug__" : Str)) = false := by decide) (hpl : ((backTo pos (starEach [] X.env)).any (·.1) || (backToKw pos (keywordEach kws X.env)).any (·.1.isNone)) = false := by rfl) :
    PE X (.Call (.Name x p) [] kws pos) (tKw0 ks.length sp gV tk) := by
  constructor
  intro pins s σ H Q I h
  refine wpAny_Call_Name_kw (ld_glob I hg hm (PySem.W.callWith_KW0 (h₀ := X.base) I.ok.mod.kin hk hall (thn (hkw.run pos pins s σ H _ I h) fun ws s2 got => ?_) hpl) hdb)
  obtain ⟨zs, H2, J, rz, len, q⟩ := got
  refine ⟨J.kIn, ?_⟩
  rw [hks]
  exact run_fnN (us := []) (vs := []) F hr hb pass0 J .nil rz rfl len q
theorem kbn1 {K : PySem.W.Frag} {fd : FuncData} {a : Str} (h : ∀ u, bindArgs fd ⟨[], [(a, u)]⟩ = pure [(a, u)]) : KBn K fd [a] 0 [a] (fun _ ws => ws) (fun _ zs => zs) where
  to := fun s us ws _ l1 l2 => match us, ws, l1, l2 with | [], [u], _, _ => .of_eq (h u)
  rel := fun _ r => r
theorem kbn2 {K : PySem.W.Frag} {fd : FuncData} {a b : Str} (h : ∀ u v, bindArgs fd ⟨[], [(a, u), (b, v)]⟩ = pure [(a, u), (b, v)]) : KBn K fd [a, b] 0 [a, b] (fun _ ws => ws) (fun _ zs => zs) where
  to := fun s us ws _ l1 l2 => match us, ws, l1, l2 with | [], [u, v], _, _ => .of_eq (h u v)
  rel := fun _ r => r
def swap2 {α : Type} : List α → List α
  | [a, b] => [b, a]
  | l => l
theorem swap2_rel : ∀ {zs : List V} {ws : List Value}, Vals zs ws → Vals (swap2 zs) (swap2 ws)
  | _, _, .nil => .nil
  | _, _, .cons r .nil => .cons r .nil
  | _, _, .cons r (.cons r' .nil) => .cons r' (.cons r .nil)
  | _, _, .cons r (.cons r' (.cons r'' t)) => .cons r (.cons r' (.cons r'' t))
theorem kbn2r {K : PySem.W.Frag} {fd : FuncData} {a b : Str} (h : ∀ u v, bindArgs fd ⟨[], [(b, u), (a, v)]⟩ = pure [(a, v), (b, u)]) : KBn K fd [a, b] 0 [b, a] (fun _ ws => swap2 ws) (fun _ zs => swap2 zs) where
  to := fun s us ws _ l1 l2 => match us, ws, l1, l2 with | [], [u, v], _, _ => .of_eq (h u v)
  rel := fun _ r => swap2_rel r
/-! ### a comprehension over enumerate of a list -/
theorem lc_enum {K : PySem.W.Frag} {a : Addr} {xs : List V} {g : TG} {tt : TT} {te : TE} {vs : List Nat} {σ : L2.St} {H1 : Hp} {D : Addr} {Qd : Hp → Prop} (Pv : Nat → Hp → Prop) (h0 : Pv 0 (upd H1 D (.lst []))) (hl : ∀ i H, i ≤ xs.length → Pv i H → SqL K H a xs)
    (hs : ∀ (i : Nat) (x : V) (T : Addr) (H : Hp), xs[i]? = some x → Pv i H → H T = none → g (.ref T) (wipe σ vs) (upd H T (.tup [.int (i : Nat), x])) fun σ2 H2 => wipe σ2 vs = wipe σ vs ∧ tt σ2 H2 fun b H3 =>
      if b = true then te σ2 H3 fun y H4 => ∃ acc, H4 D = some (.lst acc) ∧ acc.length < sizeLine ∧ Pv (i + 1) (upd H4 D (.lst (acc ++ [y]))) else Pv (i + 1) H3) (hd : ∀ H, Pv xs.length H → Qd H) :
    ∃ W : Nat → Nat → Hp → Prop, (∃ m, W 0 m (upd H1 D (.lst []))) ∧ ∀ i m H, W i m H →
      ((Ite K a).stop i H ∧ Qd H) ∨ ((Ite K a).go i H ∧ ∃ Nx : Hp → Prop, (∀ H', Nx H' → ∃ m', m' < m ∧ W (i + 1) m' H') ∧ ∀ x H', (Ite K a).yld i H x H' → g x (wipe σ vs) H' fun σ2 H2 => wipe σ2 vs = wipe σ vs ∧ tt σ2 H2 fun b H3 =>
        if b = true then te σ2 H3 fun y H4 => ∃ acc, H4 D = some (.lst acc) ∧ acc.length < sizeLine ∧ Nx (upd H4 D (.lst (acc ++ [y]))) else Nx H3) := by
  refine ⟨fun i m H => m = xs.length - i ∧ i ≤ xs.length ∧ Pv i H, ⟨xs.length, rfl, Nat.zero_le _, h0⟩, ?_⟩
  rintro i m H ⟨rfl, hi, p⟩
  have q := hl i H hi p
  by_cases hlt : i < xs.length
  · refine .inr ⟨⟨xs, xs[i], q, List.getElem?_eq_getElem hlt⟩, Pv (i + 1), fun H' p' => ⟨xs.length - (i + 1), by omega, rfl, hlt, p'⟩, fun x H' y => ?_⟩
    obtain ⟨T, x', rfl, hT, rfl, f1⟩ := y
    exact hs i x' T H (f1 xs q) p hT
  · have e : i = xs.length := by omega
    subst e
    exact .inl ⟨⟨xs, q, Nat.le_refl _⟩, hd H p⟩
end XR

/-! Lists as tables of a function; sums over a range. Core Lean. -/
namespace Mth
def tab {α : Type} (m : Nat) (f : Nat → α) : List α := (List.range m).map f
theorem tab_len {α : Type} (m : Nat) (f : Nat → α) : (tab m f).length = m := by simp [tab]
theorem tab_get {α : Type} {m i : Nat} (f : Nat → α) (h : i < m) : (tab m f)[i]? = some (f i) := by simp [tab, h]
theorem tab_map {α β : Type} (m : Nat) (f : Nat → α) (g : α → β) : (tab m f).map g = tab m fun i => g (f i) := by simp [tab]
theorem tab_congr {α : Type} {m : Nat} {f g : Nat → α} (h : ∀ i, i < m → f i = g i) : tab m f = tab m g := by
  unfold tab
  apply List.map_congr_left
  intro i hi
  exact h i (List.mem_range.mp hi)
theorem tab_inj {α : Type} {m : Nat} {f g : Nat → α} (h : tab m f = tab m g) : ∀ i, i < m → f i = g i := fun i hi => by
  have e := congrArg (fun l => l[i]?) h
  simp only [tab_get f hi, tab_get g hi] at e
  exact Option.some.inj e
theorem tab_succ {α : Type} (m : Nat) (f : Nat → α) : tab (m + 1) f = tab m f ++ [f m] := by simp [tab, List.range_succ]
theorem tab_set {α : Type} (m p : Nat) (f : Nat → α) (v : α) : (tab m f).set p v = tab m fun i => if i = p then v else f i := by
  apply List.ext_getElem?
  intro i
  rw [List.getElem?_set, tab_len]
  by_cases hi : i < m
  · rw [tab_get _ hi, tab_get _ hi]
    by_cases e : p = i
    · subst e
      simp [hi]
    · rw [if_neg e, if_neg (fun z => e z.symm)]
  · have e1 : (tab m f)[i]? = none := by simp [tab]; omega
    have e2 : (tab m fun i => if i = p then v else f i)[i]? = none := by simp [tab]; omega
    rw [e1, e2]
    split <;> (try rfl)
    split <;> (try rfl)
    omega
theorem tab_self {α : Type} (l : List α) (d : α) : l = tab l.length fun i => l.getD i d := by
  apply List.ext_getElem?
  intro i
  by_cases hi : i < l.length
  · rw [tab_get _ hi, List.getD_eq_getElem?_getD, List.getElem?_eq_getElem hi]
    rfl
  · rw [List.getElem?_eq_none (by omega), List.getElem?_eq_none (by rw [tab_len]; omega)]
theorem rep_tab {α : Type} (m : Nat) (x : α) : List.replicate m x = tab m fun _ => x := by
  apply List.ext_getElem?
  intro i
  by_cases hi : i < m
  · rw [tab_get _ hi]
    simp [hi]
  · simp [tab, hi]
theorem flat_one {α : Type} (m : Nat) (x : α) : (List.replicate m [x]).flatten = List.replicate m x := by
  induction m with
  | zero => rfl
  | succ n ih => rw [List.replicate_succ, List.flatten_cons, ih]; rfl
/-- the sum of f 0 .. f (n - 1) -/
def sm (n : Nat) (f : Nat → Int) : Int := (tab n f).sum
theorem sm_zero (f : Nat → Int) : sm 0 f = 0 := rfl
theorem sm_succ (n : Nat) (f : Nat → Int) : sm (n + 1) f = sm n f + f n := by
  unfold sm
  rw [tab_succ]
  simp
theorem sm_congr {n : Nat} {f g : Nat → Int} (h : ∀ i, i < n → f i = g i) : sm n f = sm n g := by
  unfold sm
  rw [tab_congr h]
theorem sm_add (n : Nat) (f g : Nat → Int) : sm n (fun i => f i + g i) = sm n f + sm n g := by
  induction n with
  | zero => rfl
  | succ n ih => rw [sm_succ, sm_succ, sm_succ, ih]; omega
theorem sm_const0 (n : Nat) {f : Nat → Int} (h : ∀ i, i < n → f i = 0) : sm n f = 0 := by
  induction n with
  | zero => rfl
  | succ n ih => rw [sm_succ, ih (fun i hi => h i (by omega)), h n (by omega)]; rfl
theorem sm_comm (n m : Nat) (f : Nat → Nat → Int) : sm n (fun i => sm m (fun j => f i j)) = sm m (fun j => sm n (fun i => f i j)) := by
  induction n with
  | zero => rw [sm_zero]; exact (sm_const0 m fun i _ => rfl).symm
  | succ n ih =>
    rw [sm_succ, ih, ← sm_add]
    exact sm_congr fun j _ => (sm_succ n _).symm
theorem sm_sum (l : List Int) : l.sum = sm l.length fun i => l.getD i 0 := by
  unfold sm
  rw [← tab_self]
/-- one term alone -/
theorem sm_one (n p : Nat) (v : Int) : sm n (fun i => if i = p then v else 0) = if p < n then v else 0 := by
  induction n with
  | zero => rfl
  | succ n ih =>
    rw [sm_succ, ih]
    by_cases e : n = p
    · subst e
      rw [if_neg (Nat.lt_irrefl _), if_pos rfl, if_pos (Nat.lt_succ_self _)]
      omega
    · rw [if_neg e]
      by_cases h : p < n
      · rw [if_pos h, if_pos (by omega)]
        omega
      · rw [if_neg h, if_neg (by omega)]
        rfl
/-- the rest sums: at r of the entries whose number leaves r -/
def restS (w : List Int) (L r : Nat) : Int := sm w.length fun i => if i % L = r then w.getD i 0 else 0
theorem restS_total (w : List Int) {L : Nat} (h : 0 < L) : sm L (restS w L) = w.sum := by
  unfold restS
  rw [sm_comm, sm_sum]
  apply sm_congr
  intro i hi
  have e : sm L (fun j => if i % L = j then w.getD i 0 else 0) = sm L (fun j => if j = i % L then w.getD i 0 else 0) := sm_congr fun j _ => by
    by_cases e : i % L = j
    · rw [if_pos e, if_pos e.symm]
    · rw [if_neg e, if_neg (fun z => e z.symm)]
  rw [e, sm_one, if_pos (Nat.mod_lt _ h)]
/-! ### slices with a step -/
theorem range_mod (L r : Nat) (hr : r < L) (n : Nat) : (List.range n).filter (fun i => decide (i % L = r)) = (List.range ((n + L - 1 - r) / L)).map fun k => r + L * k := by
  induction n with
  | zero =>
    have e : (0 + L - 1 - r) / L = 0 := Nat.div_eq_of_lt (by omega)
    rw [e]
    rfl
  | succ n ih =>
    rw [List.range_succ, List.filter_append, ih]
    have hL : 0 < L := by omega
    have dm := Nat.div_add_mod n L
    have ml := Nat.mod_lt n hL
    have c1 : (n + L - 1 - r) / L = if n % L ≤ r then n / L else n / L + 1 := by
      split
      · apply Nat.div_eq_of_lt_le
        · rw [Nat.mul_comm]; omega
        · rw [Nat.mul_comm, Nat.mul_add]; omega
      · apply Nat.div_eq_of_lt_le
        · rw [Nat.mul_comm, Nat.mul_add]; omega
        · rw [Nat.mul_comm, Nat.mul_add, Nat.mul_add]; omega
    have c2 : (n + 1 + L - 1 - r) / L = if n % L < r then n / L else n / L + 1 := by
      split
      · apply Nat.div_eq_of_lt_le
        · rw [Nat.mul_comm]; omega
        · rw [Nat.mul_comm, Nat.mul_add]; omega
      · apply Nat.div_eq_of_lt_le
        · rw [Nat.mul_comm, Nat.mul_add]; omega
        · rw [Nat.mul_comm, Nat.mul_add, Nat.mul_add]; omega
    rw [c1, c2]
    by_cases e : n % L = r
    · rw [if_pos (by omega), if_neg (by omega), List.range_succ, List.map_append]
      have e2 : [n].filter (fun i => decide (i % L = r)) = [n] := by simp [e]
      rw [e2]
      congr 1
      show [n] = [r + L * (n / L)]
      congr 1
      omega
    · have e2 : [n].filter (fun i => decide (i % L = r)) = [] := by simp [e]
      rw [e2, List.append_nil]
      by_cases h : n % L < r
      · rw [if_pos (by omega), if_pos h]
      · rw [if_neg (by omega), if_neg h]
theorem slice_step (n r L : Nat) (hr : r < L) : PySem.sliceRange (PySem.sliceBounds (some (r : Int)) none (some (L : Int)) n).1 (PySem.sliceBounds (some (r : Int)) none (some (L : Int)) n).2.1 (PySem.sliceBounds (some (r : Int)) none (some (L : Int)) n).2.2 = (List.range n).filter (fun i => decide (i % L = r)) := by
  have hL : (L : Int) > 0 := by omega
  have e : PySem.sliceBounds (some (r : Int)) none (some (L : Int)) n = (((min r n : Nat) : Int), (n : Int), (L : Int)) := by
    unfold PySem.sliceBounds
    simp only [Option.getD_some, if_pos hL]
    have h0 : ¬ ((r : Int) < 0) := by omega
    rw [if_neg h0]
    congr 1
    omega
  rw [e, range_mod L r hr]
  unfold PySem.sliceRange
  simp only [if_pos hL]
  by_cases h : r < n
  · have h1 : (((min r n : Nat) : Int)) < (n : Int) := by omega
    rw [if_pos h1]
    have e1 : (((n : Int) - ((min r n : Nat) : Int) + (L : Int) - 1) / (L : Int)).toNat = (n + L - 1 - r) / L := by
      have e2 : ((n : Int) - ((min r n : Nat) : Int) + (L : Int) - 1) = ((n + L - 1 - r : Nat) : Int) := by omega
      rw [e2, ← Int.natCast_ediv, Int.toNat_natCast]
    rw [e1]
    apply List.map_congr_left
    intro k _
    have e3 : ((min r n : Nat) : Int) = (r : Int) := by omega
    rw [e3, ← Int.natCast_mul, ← Int.natCast_add, Int.toNat_natCast]
  · have h1 : ¬ (((min r n : Nat) : Int)) < (n : Int) := by omega
    rw [if_neg h1]
    have e1 : (n + L - 1 - r) / L = 0 := Nat.div_eq_of_lt (by omega)
    rw [e1]
    rfl
theorem sum_filter (w : List Int) (p : Nat → Bool) : ∀ js : List Nat, (∀ j ∈ js, j < w.length) → ((js.filter p).filterMap (w[·]?)).sum = (js.map fun i => if p i = true then w.getD i 0 else 0).sum
  | [], _ => rfl
  | j :: js, h => by
    have ih := sum_filter w p js fun k hk => h k (List.mem_cons_of_mem _ hk)
    have hj := h j (List.mem_cons_self ..)
    rw [List.map_cons, List.sum_cons, ← ih]
    by_cases e : p j = true
    · rw [List.filter_cons_of_pos e, if_pos e, List.getD_eq_getElem?_getD]
      simp only [List.filterMap_cons, List.getElem?_eq_getElem hj]
      rw [List.sum_cons]
      rfl
    · rw [List.filter_cons_of_neg e, if_neg e]
      omega
theorem pick_sum (w : List Int) (r L : Nat) (hr : r < L) : (XR.pickV w (some (r : Int)) none (some (L : Int))).sum = restS w L r := by
  unfold XR.pickV
  rw [slice_step _ _ _ hr, sum_filter w _ _ fun j hj => List.mem_range.mp hj]
  unfold restS sm tab
  congr 1
  apply List.map_congr_left
  intro i _
  simp only [decide_eq_true_eq]
end Mth

namespace Mth
/-- the stretched window behind t turns -/
def stF (w : List Int) (k t : Nat) (j : Nat) : Int := if j % k = 0 ∧ j / k < t then w.getD (j / k) 0 else 0
def stretchL (w : List Int) (k : Nat) : List Int := tab ((w.length - 1) * k + 1) (stF w k w.length)
theorem stF_step (w : List Int) (k t : Nat) (hk : 0 < k) (j : Nat) : (if j = t * k then w.getD t 0 else stF w k t j) = stF w k (t + 1) j := by
  unfold stF
  by_cases e : j = t * k
  · subst e
    rw [if_pos rfl, Nat.mul_mod_left, Nat.mul_div_cancel _ hk, if_pos ⟨rfl, by omega⟩]
  · rw [if_neg e]
    by_cases h : j % k = 0
    · have e2 : j / k * k = j := Nat.div_mul_cancel (Nat.dvd_of_mod_eq_zero h)
      have e3 : j / k ≠ t := fun z => e (by rw [← z, e2])
      by_cases h2 : j / k < t
      · rw [if_pos ⟨h, h2⟩, if_pos ⟨h, by omega⟩]
      · rw [if_neg (fun z => h2 z.2), if_neg (fun z => by omega)]
    · rw [if_neg (fun z => h z.1), if_neg (fun z => h z.1)]
theorem stF_zero (w : List Int) (k j : Nat) : stF w k 0 j = 0 := by
  unfold stF
  rw [if_neg (fun z => absurd z.2 (Nat.not_lt_zero _))]
end Mth
namespace Mth
/-- even at L: all rest sums are alike -/
def evenB (w : List Int) (L : Nat) : Bool := decide (∀ r, r < L → restS w L r = restS w L 0)
theorem evenB_iff {w : List Int} {L : Nat} : evenB w L = true ↔ ∀ r, r < L → restS w L r = restS w L 0 := by
  unfold evenB
  exact decide_eq_true_iff
def hopsTo (w : List Int) (n : Nat) : List Nat := ((List.range n).map (· + 1)).filter (evenB w)
theorem hopsTo_succ (w : List Int) (n : Nat) : hopsTo w (n + 1) = if evenB w (n + 1) = true then hopsTo w n ++ [n + 1] else hopsTo w n := by
  unfold hopsTo
  rw [List.range_succ, List.map_append, List.filter_append]
  split
  · rename_i h
    simp [h]
  · rename_i h
    simp [h]
theorem hopsTo_len (w : List Int) (n : Nat) : (hopsTo w n).length ≤ n := by
  unfold hopsTo
  refine Nat.le_trans (List.length_filter_le _ _) ?_
  simp
end Mth
namespace Mth
/-! ### rest sums step by step -/
def restP (w : List Int) (L i r : Nat) : Int := sm i fun t => if t % L = r then w.getD t 0 else 0
theorem restP_all (w : List Int) (L r : Nat) : restP w L w.length r = restS w L r := rfl
theorem restP_step (w : List Int) (L i j : Nat) : (if j = i % L then restP w L i (i % L) + w.getD i 0 else restP w L i j) = restP w L (i + 1) j := by
  unfold restP
  rw [sm_succ]
  by_cases e : j = i % L
  · subst e
    rw [if_pos rfl, if_pos rfl]
  · rw [if_neg e, if_neg (fun z => e z.symm)]
    omega
/-! ### products -/
def coef (one two : List Int) (k : Nat) : Int := sm one.length fun i => sm two.length fun j => if i + j = k then one.getD i 0 * two.getD j 0 else 0
def coefP (one two : List Int) (i j k : Nat) : Int := sm i (fun i' => sm two.length fun j' => if i' + j' = k then one.getD i' 0 * two.getD j' 0 else 0) + sm j fun j' => if i + j' = k then one.getD i 0 * two.getD j' 0 else 0
def prodL (one two : List Int) : List Int := tab (one.length + two.length - 1) (coef one two)
theorem coefP_zero (one two : List Int) (k : Nat) : coefP one two 0 0 k = 0 := rfl
theorem coefP_row (one two : List Int) (i k : Nat) : coefP one two i two.length k = coefP one two (i + 1) 0 k := by
  unfold coefP
  rw [sm_succ, sm_zero]
  omega
theorem coefP_all (one two : List Int) (k : Nat) : coefP one two one.length 0 k = coef one two k := by
  unfold coefP coef
  rw [sm_zero]
  omega
theorem coefP_step (one two : List Int) (i j k : Nat) : (if k = i + j then coefP one two i j (i + j) + one.getD i 0 * two.getD j 0 else coefP one two i j k) = coefP one two i (j + 1) k := by
  unfold coefP
  rw [sm_succ]
  by_cases e : k = i + j
  · subst e
    rw [if_pos rfl, if_pos rfl]
    omega
  · rw [if_neg e, if_neg (fun z => e z.symm)]
    omega
theorem prodL_len (one two : List Int) : (prodL one two).length = one.length + two.length - 1 := tab_len _ _
end Mth
namespace Mth
/-! ### lists that are not all 0 -/
theorem any_iff {xs : List Int} : xs.any (· != 0) = true ↔ ∃ i, i < xs.length ∧ xs.getD i 0 ≠ 0 := by
  rw [List.any_eq_true]
  constructor
  · rintro ⟨x, hx, h⟩
    obtain ⟨i, hi, rfl⟩ := List.getElem_of_mem hx
    refine ⟨i, hi, ?_⟩
    rw [List.getD_eq_getElem?_getD, List.getElem?_eq_getElem hi]
    simpa using h
  · rintro ⟨i, hi, h⟩
    refine ⟨xs[i], List.getElem_mem hi, ?_⟩
    rw [List.getD_eq_getElem?_getD, List.getElem?_eq_getElem hi] at h
    simpa using h
theorem any_of_ne_rep {xs : List Int} (h : xs ≠ List.replicate xs.length 0) : xs.any (· != 0) = true := by
  cases e : xs.any (· != 0) with
  | true => rfl
  | false =>
    refine absurd ?_ h
    apply List.ext_getElem?
    intro i
    by_cases hi : i < xs.length
    · have h2 : ¬ xs.any (· != 0) = true := by rw [e]; exact Bool.false_ne_true
      rw [any_iff] at h2
      have h3 : xs.getD i 0 = 0 := by
        cases Classical.em (xs.getD i 0 = 0) with
        | inl z => exact z
        | inr z => exact absurd ⟨i, hi, z⟩ h2
      rw [List.getD_eq_getElem?_getD, List.getElem?_eq_getElem hi] at h3
      rw [List.getElem?_eq_getElem hi, List.getElem?_replicate, if_pos hi]
      exact congrArg some h3
    · rw [List.getElem?_eq_none (by omega), List.getElem?_eq_none (by simp; omega)]
theorem any_of_sum {xs : List Int} (h : xs.sum ≠ 0) : xs.any (· != 0) = true := by
  cases e : xs.any (· != 0) with
  | true => rfl
  | false =>
    refine absurd ?_ h
    rw [sm_sum]
    apply sm_const0
    intro i hi
    have h2 : ¬ xs.any (· != 0) = true := by rw [e]; exact Bool.false_ne_true
    rw [any_iff] at h2
    cases Classical.em (xs.getD i 0 = 0) with
    | inl z => exact z
    | inr z => exact absurd ⟨i, hi, z⟩ h2
/-- the first index that is not 0 -/
theorem first_ne {xs : List Int} (h : xs.any (· != 0) = true) : ∃ i, i < xs.length ∧ xs.getD i 0 ≠ 0 ∧ ∀ j, j < i → xs.getD j 0 = 0 := by
  obtain ⟨i, hi, hn⟩ := any_iff.mp h
  induction i using Nat.strongRecOn with
  | ind i ih =>
    cases Classical.em (∃ j, j < i ∧ xs.getD j 0 ≠ 0) with
    | inl z =>
      obtain ⟨j, hj, hj2⟩ := z
      exact ih j hj (by omega) hj2
    | inr z =>
      refine ⟨i, hi, hn, fun j hj => ?_⟩
      cases Classical.em (xs.getD j 0 = 0) with
      | inl z2 => exact z2
      | inr z2 => exact absurd ⟨j, hj, z2⟩ z
theorem sm_single {n p : Nat} {f : Nat → Int} (hp : p < n) (h : ∀ i, i < n → i ≠ p → f i = 0) : sm n f = f p := by
  have e : sm n f = sm n fun i => if i = p then f p else 0 := sm_congr fun i hi => by
    by_cases e : i = p
    · rw [if_pos e, e]
    · rw [if_neg e, h i hi e]
  rw [e, sm_one, if_pos hp]
/-- a product with a list whose first entry is not 0 -/
theorem prod_any {xs ys : List Int} (hx : xs.any (· != 0) = true) (hy : 1 ≤ ys.length) (h0 : ys.getD 0 0 ≠ 0) : (prodL xs ys).any (· != 0) = true := by
  obtain ⟨i, hi, hn, hz⟩ := first_ne hx
  rw [any_iff]
  refine ⟨i, by rw [prodL_len]; omega, ?_⟩
  have e : (prodL xs ys).getD i 0 = coef xs ys i := by
    unfold prodL
    rw [List.getD_eq_getElem?_getD, tab_get _ (by omega)]
    rfl
  rw [e]
  unfold coef
  rw [sm_single hi]
  · rw [sm_single (p := 0) (by omega)]
    · rw [if_pos (by omega)]
      exact Int.mul_ne_zero hn h0
    · intro j _ hj
      rw [if_neg (by omega)]
  · intro a _ ha
    apply sm_const0
    intro j _
    by_cases h : a + j = i
    · rw [if_pos h, hz a (by omega), Int.zero_mul]
    · rw [if_neg h]
theorem getD_set_self {xs : List Int} {d : Nat} (h : d < xs.length) (v : Int) : (xs.set d v).getD d 0 = v := by
  rw [List.getD_eq_getElem?_getD, List.getElem?_set_self h]
  rfl
/-! ### the greatest common divisor of a list, as the law reckons it -/
def gcdL : List Int → Nat := List.foldl (fun g x => Nat.gcd x.natAbs g) 0
end Mth

namespace Mth
/-! ### stretched windows: the mathematics -/
theorem bez : ∀ a b : Nat, ∃ x y : Int, (a : Int) * x + (b : Int) * y = (Nat.gcd a b : Int) := by
  intro a b
  induction a, b using Nat.gcd.induction with
  | H0 n => exact ⟨0, 1, by simp⟩
  | H1 m n hm ih =>
    obtain ⟨x, y, h⟩ := ih
    refine ⟨y - (n / m : Nat) * x, x, ?_⟩
    rw [Nat.gcd_rec m n, ← h]
    have e : (n : Int) = (m : Int) * ((n / m : Nat) : Int) + ((n % m : Nat) : Int) := by
      have := Nat.div_add_mod n m
      rw [← Int.natCast_mul, ← Int.natCast_add, this]
    rw [Int.mul_sub, ← Int.mul_assoc]
    conv => lhs; rw [e]
    rw [Int.add_mul]
    omega
/-- an inverse of k modulo L -/
theorem inv_of {L k : Nat} (h : Nat.gcd L k = 1) : ∃ c : Int, ∀ i : Int, (i * k * c) % (L : Int) = i % (L : Int) := by
  obtain ⟨x, y, e⟩ := bez L k
  rw [h] at e
  refine ⟨y, fun i => ?_⟩
  have e2 : i * k * y = i + (L : Int) * (-(i * x)) := by
    have : i * ((L : Int) * x + (k : Int) * y) = i * 1 := by rw [e]; rfl
    rw [Int.mul_add, Int.mul_one] at this
    rw [Int.mul_neg, Int.mul_assoc, Int.mul_left_comm (L : Int) i x]
    omega
  rw [e2, Int.add_mul_emod_self_left]
theorem mul_mod_iff {L k i r : Nat} (hL : 0 < L) (h : Nat.gcd L k = 1) (hr : r < L) : (i * k) % L = (r * k) % L ↔ i % L = r := by
  constructor
  · intro e
    obtain ⟨c, hc⟩ := inv_of h
    have e1 : ((i * k : Nat) : Int) % (L : Int) = ((r * k : Nat) : Int) % (L : Int) := by
      rw [← Int.natCast_emod, ← Int.natCast_emod, e]
    have e2 := hc i
    have e3 := hc r
    rw [Int.mul_emod] at e2 e3
    rw [← Int.natCast_mul] at e2 e3
    rw [e1, e3] at e2
    have e4 : ((i % L : Nat) : Int) = ((r % L : Nat) : Int) := by
      rw [Int.natCast_emod, Int.natCast_emod]
      exact e2.symm
    rw [Nat.mod_eq_of_lt hr] at e4
    omega
  · intro e
    rw [Nat.mul_mod i k L, Nat.mul_mod r k L, e, Nat.mod_eq_of_lt hr]
theorem mul_mod_onto {L k r : Nat} (hL : 0 < L) (h : Nat.gcd L k = 1) (hr : r < L) : ∃ s, s < L ∧ (s * k) % L = r := by
  obtain ⟨c, hc⟩ := inv_of h
  have hL' : (0 : Int) < (L : Int) := by omega
  have n0 := Int.emod_nonneg ((r : Int) * c) (show (L : Int) ≠ 0 by omega)
  have n1 := Int.emod_lt_of_pos ((r : Int) * c) hL'
  refine ⟨(((r : Int) * c) % (L : Int)).toNat, by omega, ?_⟩
  have e : ((((((r : Int) * c) % (L : Int)).toNat * k % L : Nat)) : Int) = (r : Int) := by
    rw [Int.natCast_emod, Int.natCast_mul, Int.toNat_of_nonneg n0, Int.mul_emod, Int.emod_emod, ← Int.mul_emod, Int.mul_assoc, Int.mul_comm c, ← Int.mul_assoc, hc r]
    exact Int.emod_eq_of_lt (by omega) (by omega)
  omega
/-- a sum over the stretched window is one over the window -/
theorem sm_stretch (w : List Int) (k m : Nat) (hk : 0 < k) (hm : w.length ≤ 0 ∨ (w.length - 1) * k < m) (G : Nat → Int → Int) (hG : ∀ j, G j 0 = 0) : sm m (fun j => G j (stF w k w.length j)) = sm w.length fun i => G (i * k) (w.getD i 0) := by
  have e1 : sm m (fun j => G j (stF w k w.length j)) = sm m fun j => sm w.length fun i => if i * k = j then G j (w.getD i 0) else 0 := sm_congr fun j _ => by
    unfold stF
    by_cases h : j % k = 0 ∧ j / k < w.length
    · rw [if_pos h, sm_single h.2]
      · rw [if_pos (Nat.div_mul_cancel (Nat.dvd_of_mod_eq_zero h.1))]
      · intro i _ hi
        rw [if_neg]
        intro z
        subst z
        exact hi (Nat.mul_div_cancel i hk).symm
    · rw [if_neg h, hG]
      refine (sm_const0 _ fun i hi => ?_).symm
      rw [if_neg]
      intro z
      subst z
      exact h ⟨Nat.mul_mod_left .., by rw [Nat.mul_div_cancel i hk]; exact hi⟩
  rw [e1, sm_comm]
  apply sm_congr
  intro i hi
  have hlt : i * k < m := by
    rcases hm with h | h
    · omega
    · exact Nat.lt_of_le_of_lt (Nat.mul_le_mul_right k (by omega)) h
  rw [sm_single hlt]
  · rw [if_pos rfl]
  · intro j _ hj
    rw [if_neg (fun z => hj z.symm)]
theorem stretchL_len (w : List Int) (k : Nat) : (stretchL w k).length = (w.length - 1) * k + 1 := tab_len _ _
theorem restS_stretch (w : List Int) (k L r : Nat) (hk : 0 < k) : restS (stretchL w k) L r = sm w.length fun i => if (i * k) % L = r then w.getD i 0 else 0 := by
  unfold restS
  rw [stretchL_len]
  have e : sm ((w.length - 1) * k + 1) (fun i => if i % L = r then (stretchL w k).getD i 0 else 0) = sm ((w.length - 1) * k + 1) (fun j => (fun j x => if j % L = r then x else 0) j (stF w k w.length j)) := sm_congr fun j hj => by
    unfold stretchL
    rw [List.getD_eq_getElem?_getD, tab_get _ hj]
    rfl
  rw [e, sm_stretch w k _ hk (.inr (by omega)) (fun j x => if j % L = r then x else 0) (fun j => by simp)]
/-- a stretched window is even at L exactly if L and k have no common divisor and the window is even at L -/
theorem stretch_even (w : List Int) (k L : Nat) (hk : 0 < k) (hL : 0 < L) (hs : w.sum ≠ 0) : evenB (stretchL w k) L = (decide (Nat.gcd L k = 1) && evenB w L) := by
  have tot : sm L (restS (stretchL w k) L) = w.sum := by
    have e : sm L (restS (stretchL w k) L) = sm L fun r => sm w.length fun i => if (i * k) % L = r then w.getD i 0 else 0 := sm_congr fun r _ => restS_stretch w k L r hk
    rw [e, sm_comm, sm_sum]
    apply sm_congr
    intro i _
    rw [sm_single (p := (i * k) % L) (Nat.mod_lt _ hL)]
    · rw [if_pos rfl]
    · intro r _ h
      rw [if_neg (fun z => h z.symm)]
  rw [Bool.eq_iff_iff, Bool.and_eq_true, decide_eq_true_iff, evenB_iff, evenB_iff]
  constructor
  · intro h
    have g1 : Nat.gcd L k = 1 := by
      cases Classical.em (Nat.gcd L k = 1) with
      | inl z => exact z
      | inr z =>
        have gp : 0 < Nat.gcd L k := Nat.gcd_pos_of_pos_left _ hL
        have g2 : 2 ≤ Nat.gcd L k := by omega
        have gL : Nat.gcd L k ≤ L := Nat.le_of_dvd hL (Nat.gcd_dvd_left ..)
        refine absurd ?_ hs
        rw [← tot]
        apply sm_const0
        intro r hr
        rw [h r hr, ← h 1 (by omega), restS_stretch w k L 1 hk]
        apply sm_const0
        intro i _
        rw [if_neg]
        intro e
        have d1 : Nat.gcd L k ∣ (i * k) % L := (Nat.dvd_mod_iff (Nat.gcd_dvd_left L k)).mpr (Nat.dvd_mul_left_of_dvd (Nat.gcd_dvd_right L k) i)
        rw [e] at d1
        have := Nat.le_of_dvd (by decide) d1
        omega
    refine ⟨g1, fun r hr => ?_⟩
    have e : ∀ r, r < L → restS w L r = restS (stretchL w k) L ((r * k) % L) := fun r hr => by
      rw [restS_stretch w k L _ hk]
      unfold restS
      apply sm_congr
      intro i _
      by_cases z : i % L = r
      · rw [if_pos z, if_pos ((mul_mod_iff hL g1 hr).mpr z)]
      · rw [if_neg z, if_neg (fun y => z ((mul_mod_iff hL g1 hr).mp y))]
    rw [e r hr, e 0 hL, h _ (Nat.mod_lt _ hL), h _ (Nat.mod_lt _ hL)]
  · rintro ⟨g1, h⟩ r hr
    have e : ∀ r, r < L → ∃ s, s < L ∧ restS (stretchL w k) L r = restS w L s := fun r hr => by
      obtain ⟨s, hs, es⟩ := mul_mod_onto hL g1 hr
      refine ⟨s, hs, ?_⟩
      rw [restS_stretch w k L _ hk, ← es]
      unfold restS
      apply sm_congr
      intro i _
      by_cases z : i % L = s
      · rw [if_pos z, if_pos ((mul_mod_iff hL g1 hs).mpr z)]
      · rw [if_neg z, if_neg (fun y => z ((mul_mod_iff hL g1 hs).mp y))]
    obtain ⟨s, h1, e1⟩ := e r hr
    obtain ⟨t, h2, e2⟩ := e 0 hL
    rw [e1, e2, h s h1, h t h2]
/-- its rest sums at k * l are those of the window at l, spread out -/
theorem stretch_rests (w : List Int) (k l j : Nat) (hk : 0 < k) (hl : 0 < l) (hj : j < k * l) : restS (stretchL w k) (k * l) j = stF (tab l (restS w l)) k l j := by
  rw [restS_stretch w k _ _ hk]
  unfold stF
  by_cases h : j % k = 0
  · have e2 : j / k * k = j := Nat.div_mul_cancel (Nat.dvd_of_mod_eq_zero h)
    have e3 : j / k < l := by
      rw [Nat.div_lt_iff_lt_mul hk, Nat.mul_comm]
      exact hj
    rw [if_pos ⟨h, e3⟩, List.getD_eq_getElem?_getD, tab_get _ e3]
    show _ = restS w l (j / k)
    unfold restS
    apply sm_congr
    intro i _
    rw [Nat.mul_comm i k, Nat.mul_mod_mul_left]
    by_cases z : i % l = j / k
    · rw [if_pos z, if_pos (by rw [z, Nat.mul_comm, e2])]
    · rw [if_neg z, if_neg]
      intro y
      apply z
      rw [← y, Nat.mul_div_cancel_left _ hk]
  · rw [if_neg (fun z => h z.1)]
    apply sm_const0
    intro i _
    rw [if_neg]
    intro z
    apply h
    rw [← z, Nat.mul_comm i k, Nat.mul_mod_mul_left, Nat.mul_mod_right]
theorem gcdL_two (L k : Nat) : gcdL [(L : Int), (k : Int)] = Nat.gcd L k := by
  show Nat.gcd (k : Int).natAbs (Nat.gcd (L : Int).natAbs 0) = Nat.gcd L k
  rw [Int.natAbs_natCast, Int.natAbs_natCast, Nat.gcd_zero_right, Nat.gcd_comm]
/-- all rest sums alike, as the law asks it -/
theorem even_rep (w : List Int) {L : Nat} (hL : 0 < L) : decide (tab L (restS w L) = List.replicate L (restS w L 0)) = evenB w L := by
  rw [Bool.eq_iff_iff, decide_eq_true_iff, evenB_iff, rep_tab]
  constructor
  · intro h r hr
    exact tab_inj h r hr
  · intro h
    exact tab_congr h
end Mth

/-! Defs that ask what is being written as a text further out (nothing: no object's text is under way), and repr of data. -/
namespace GL
open PySem PySem.Spec PyProof.Rows L2 XR
/-- a promise that is kept wherever no text is under way -/
structure FnG (P : Program) (w : World) (K : PySem.W.Frag) (mg : Str → Option Value) (base : Heap) (k : Nat) (f : Addr) (fd : FuncData) (ps : List Str) (sp : Sp) : Prop where
  many : ∀ {vs H Q E}, sp vs H Q E → vs.length = ps.length
  go : ∀ {A : Around} {outer : List Env} {s : Shared} {H : Hp} {args : Args} {us : List Value} {vs : List V} {Q : VK} {E : XK}, A.guards = some [] → Room k A → Env0 P w K mg base A outer s H →
    BindsTo s fd args (ps.zip us) → Vals vs us → sp vs H Q E → codeAny (model P w) A (.call (.ref f) args) (CR CX0 outer P w H s Q E) s
section
variable {P : Program} {w : World} {K : PySem.W.Frag} {mg : Str → Option Value} {base : Heap} {k : Nat} {f : Addr} {fd : FuncData} {ps : List Str} {sp : Sp}
theorem FnG.of (F : FnOk P w K mg base CX0 k f fd ps sp) : FnG P w K mg base k f fd ps sp := ⟨fun h => F.len _ _ _ _ h, fun _ r e b v h => F.run _ _ _ _ _ _ _ _ _ r e b v h⟩
theorem FnG.up {j : Nat} (F : FnG P w K mg base j f fd ps sp) (h : j ≤ k) : FnG P w K mg base k f fd ps sp := ⟨F.many, fun g r => F.go g (r.mono h)⟩
/-- what a body's end is to its caller -/
theorem end_of {N : List Str} {qual : Str} {scope : Scope} {cd : Value} {A : Around} {outer : List Env} {s s' : Shared} {H : Hp} {E : XK} {Q : VK} {fl : Flow}
    (h : SP (cxOf CX0 P w K mg base N qual scope f cd A outer s H E) [] { nx := fun _ H' => Q .non H', rt := Q } fl s') : ∃ u, (fl = .ret u ∨ (fl = .next ∧ u = .none)) ∧ CE outer P w H s Q u s' := by
  cases fl with
  | brk => obtain ⟨_, _, _, z⟩ := h; exact z.elim
  | cont => obtain ⟨_, _, _, z⟩ := h; exact z.elim
  | next => obtain ⟨_, H', J, q⟩ := h; exact ⟨.none, .inr ⟨rfl, rfl⟩, .non, H', J.os, J.bare, J.base, J.hok, rfl, q⟩
  | ret u => obtain ⟨v, _, H', J, r, q⟩ := h; exact ⟨u, .inl rfl, v, H', J.os, J.bare, J.base, J.hok, r, q⟩
/-- a def's promise from its body, no text under way -/
theorem fnG {x qual : Str} {st : Stmt} {N : List Str} (D : Fun K x qual st f fd) (S : FnScope N ps (defScope st)) (many : ∀ {vs H Q E}, sp vs H Q E → vs.length = ps.length)
    (body : ∀ {cd : Value} {A : Around} {outer : List Env} {s : Shared} {H : Hp} {vs : List V} {Q : VK} {E : XK}, A.guards = some [] → Room k (A.deeper (envOfC qual (defScope st) s.heap.objs.size f cd)) → sp vs H Q E →
      ∃ t, PSs (cxOf CX0 P w K mg base N qual (defScope st) f cd A outer s H E).nox (defBody st) t ∧ t { nx := fun _ H' => Q .non H', rt := Q } (start N vs) H) : FnG P w K mg base (k + 1) f fd ps sp := by
  refine ⟨many, fun {A outer s H args us vs Q E} hg hr env bind vals h => ?_⟩
  obtain ⟨oc, od, kV, doc, pm, an, cd, ct, osl, rfl, look, code⟩ := D.ex
  have inK : K.In s.heap := env.mod.kin.keeps fun _ _ e => (env.bs _ _ e).1
  have noLim : s.heap.NoLimit := env.mod.nolimit.keeps fun _ _ e => (env.bs _ _ e).1
  have kinds : ∀ y ∈ ps.zip us, (defScope st).names.lookup y.1 = some .local ∨ ((defScope st).names.lookup y.1 = some .cell ∧ ((cellsFrom (s.heap.objs.size + 1) (defScope st).names []).lookup y.1).isSome = true) := by
    rintro ⟨n, v⟩ hy
    cases S.par n (List.of_mem_zip hy).1 with
    | inl q => exact .inl q
    | inr q => exact .inr ⟨q, PySem.W.cellsFrom_some _ _ _ (.inl q)⟩
  refine codeAny_call_function hr.depth (inK _ _ look) rfl S.co S.gen rfl (PySem.W.codeRec_of inK code) (bind _ _ _ _ ?_)
  refine wpAny_newFunctionEnv_cells S.kind kinds fun env' same s1 calls => ?_
  subst same
  refine ⟨noLim.keeps calls.toInCall.keep, codeAny_func ?_⟩
  obtain ⟨t, dt, rt⟩ := body hg (hr.deeper _) h
  refine wpAny_mono (dt.nox.run [] s1 (start N vs) H _ (inv_start S hr.hd env (many h) vals calls) rt) (fun fl s' e => ?_) fun _ _ z => z
  obtain ⟨u, e1, e2⟩ := end_of e
  rcases e1 with rfl | ⟨rfl, rfl⟩
  · exact e2
  · exact e2
end
section
variable {X : Cx} {k : Nat} {f : Addr} {fd : FuncData} {ps : List Str} {sp : Sp} {x : Str} {p pos : Pos} {e : Expr} {es : List Expr} {t : TA}
/-- f(e, ..), every parameter given -/
theorem pe_callG (F : FnG X.prog X.w X.K X.mg X.base k f fd ps sp) (hgd : X.A.guards = some []) (hr : Room k X.A) (hg : Gl X x) (hm : X.mg x = some (.ref f)) (hk : PySem.W.keepIn X.K (.ref f) = true) (hb : Binds X.K fd ps []) (ha : PA X (e :: es) t)
    (hdb : (x == ("__debug__" : Str)) = false := by decide) (he : starEach (e :: es) X.env = (false, eval e X.env) :: starEach es X.env := by rfl) (hpl : (backTo pos (starEach es X.env)).any (·.1) = false := by rfl) : PE X (.Call (.Name x p) (e :: es) [] pos) (tCall sp [] E0 t) := by
  constructor
  intro pins s σ H Q I h
  refine wpAny_Call_Name_kw (ld_glob I hg hm (PySem.W.callWith_K (h₀ := X.base) I.ok.mod.kin hk (thn (ha.run pos pins s σ H _ I h) fun us s1 got => ?_) he hpl) hdb)
  obtain ⟨vs, H1, J, r, q⟩ := got
  rw [List.append_nil] at q
  refine ⟨J.kIn, wpAny_call (codeAny_mono (F.go hgd hr J.env0 ?_ r q) fun res s' z => ?_)⟩
  · have := hb s1 us J.kIn (by rw [List.append_nil, ← r.length]; exact F.many q)
    rw [List.append_nil] at this
    exact this
  · match res, z with
    | .ok (.ret u), z => exact J.after z
    | .ok .next, z => exact z.elim
    | .ok .brk, z => exact z.elim
    | .ok .cont, z => exact z.elim
    | .error _, z => exact z.elim
/-- repr of data that stand tracked, locked or written; no text under way -/
def rRepr (K : PySem.W.Frag) : List V → Hp → VK → Prop := fun xs H Q => ∃ (a : Addr) (d : PyData), xs = [.ref a] ∧ Dp K H (.ref a) d ∧ d.showable = true ∧ d.hasDict = false ∧ d.depth ≤ 20 ∧ d.shown.length ≤ sizeLine ∧ Q (.str d.shown) H
theorem call_reprD (hgd : X.A.guards = some []) (hr : Room k X.A) : CallR X (.builtin "repr") (rRepr X.K) := by
  intro pins s σ H xs us Q I r h
  obtain ⟨a, d, rfl, hd, h1, h2, h3, h4, q⟩ := h
  rw [Vals.ref1 r]
  obtain ⟨as, hR⟩ := Dp.reads I d _ _ hd (show RelV (.ref a) (.ref a) from rfl)
  have hu := hr.units
  exact repr_of_reads' hR h1 (PyData.noDict_hsm h2) hgd (by omega) (fun b o e => e) (fun h' u tk keep => ⟨.str d.shown, H, I.kept (t' := tk) keep, ⟨u, rfl⟩, q⟩) h4
end
section
variable {P : Program} {w : World} {K : PySem.W.Frag} {mg mb : Str → Option Value} {k : Nat} {fa a : Addr} {fd : FuncData} {x : Str} {sp : Sp} {s₁ : Shared} {vs : List Value} {ns : List Int}
/-- the answer that is wanted of a law's call -/
abbrev LawEnd (s₁ : Shared) (r : Result) (s' : Shared) : Prop := r = .ok (.ret (.bool true)) ∧ OldK s₁.heap s'.heap ∧ s'.os = s₁.os ∧ AllBare s'.gens
/-- from a heap in which the script alone may be tracked -/
theorem law_from (H : Hp) (alone : ∀ b, H b ≠ none → b = a ∧ K.lookup a = none) (only : Only H) (ok : HOk P w H s₁.heap) (seq : SqL K H a (ns.map V.int))
    (KX : K.In s₁.heap) (hns : s₁.heap.Ns mainGlobals mg) (hb : s₁.heap.Ns builtinsNs mb) (hbb : ∀ x : Str, x ≠ "__name__" → mb x = bootBuiltins x) (lim : s₁.heap.NoLimit) (gens : s₁.gens = #[])
    (ha : s₁.heap.get? a = some { cls := .type "list", data := .seq vs.toArray }) (room : Room k callerA)
    (F : ∀ base : Heap, K.In base → base.Ns mainGlobals mg → FnG P w K mg base k fa fd [x] sp) (bind : ∀ (s : Shared) (u : Value), BindsTo s fd ⟨[u], []⟩ [(x, u)])
    (hsp : ∀ H : Hp, Only H → SqL K H a (ns.map V.int) → sp [.ref a] H (fun v _ => v = .bl true) fun _ _ _ => False) :
    codeAny (model P w) callerA (.call (.ref fa) ⟨[.ref a], []⟩) (LawEnd s₁) s₁ := by
  have hid : ∀ {b : Addr} {o : Obj}, s₁.heap.get? b = some o → (b = a → K.lookup a = none → False) → (hidT s₁.heap H).get? b = some o := by
    intro b o e n
    refine hidT_get e ?_
    cases q : H b with
    | none => rfl
    | some u =>
      obtain ⟨z1, z2⟩ := alone b (by rw [q]; exact Option.some_ne_none u)
      exact (n z1 z2).elim
  have dicts : ∀ {b : Addr} {m : Str → Option Value}, s₁.heap.Ns b m → (hidT s₁.heap H).Ns b m := by
    rintro b m ⟨o, es, ep, e, d, r⟩
    refine ⟨o, es, ep, hid e (fun z _ => ?_), d, r⟩
    rw [z, ha] at e
    have e' := Option.some.inj e
    rw [← e'] at d
    cases (show Data.seq vs.toArray _ = Data.dict es ep from d)
  have inB : K.In (hidT s₁.heap H) := by
    intro b o e
    refine hid (KX b o e) fun z1 z2 => ?_
    rw [z1, z2] at e
    cases e
  have env : Env0 P w K mg (hidT s₁.heap H) callerA [] s₁ H :=
    { frames := rfl, mod := ⟨inB, dicts hns, ⟨mb, dicts hb, hbb⟩, by obtain ⟨mc, m1, m2⟩ := lim; exact ⟨mc, dicts m1, m2⟩⟩,
      bs := fun b o e => of_hidT e, bsz := Nat.le_of_eq (hidT_size _ _), funs := trivial, frf := fun b z => (by cases z), hok := ok, bare := .of_eq gens }
  refine codeAny_mono ((F _ inB (dicts hns)).go (us := [.ref a]) (vs := [.ref a]) (Q := fun v _ => v = .bl true) (E := fun _ _ _ => False) rfl room env (bind s₁ (.ref a)) (.cons rfl .nil) (hsp H only seq)) fun r s' got => ?_
  match r, got with
  | .error _, z => exact z.elim
  | .ok .next, z => exact z.elim
  | .ok .brk, z => exact z.elim
  | .ok .cont, z => exact z.elim
  | .ok (.ret u), ⟨v, H', os, bare, un, ok', rel, q⟩ =>
    have q' : v = .bl true := q
    subst q'
    have eu : u = .bool true := rel
    subst eu
    refine ⟨rfl, OldK.of_keep fun b o e => ?_, os, bare⟩
    rcases only b with z | ⟨ob, xs, z⟩
    · exact un.keep b o e z (by intro m; cases m) (by simp)
    · have e1 := (ok b _ z).1
      have e2 := (ok' b _ (un.frzs b ob _ z)).1
      rw [e] at e1
      rw [Option.some.inj e1]
      exact e2
/-- the law's call, from its promise -/
theorem law_callG (KX : K.In s₁.heap) (hns : s₁.heap.Ns mainGlobals mg) (hb : s₁.heap.Ns builtinsNs mb) (hbb : ∀ x : Str, x ≠ "__name__" → mb x = bootBuiltins x) (lim : s₁.heap.NoLimit) (gens : s₁.gens = #[])
    (ha : s₁.heap.get? a = some { cls := .type "list", data := .seq vs.toArray }) (hi : IntsAre vs ns) (len : ns.length ≤ sizeLine) (room : Room k callerA)
    (F : ∀ base : Heap, K.In base → base.Ns mainGlobals mg → FnG P w K mg base k fa fd [x] sp) (bind : ∀ (s : Shared) (u : Value), BindsTo s fd ⟨[u], []⟩ [(x, u)])
    (hsp : ∀ H : Hp, Only H → SqL K H a (ns.map V.int) → sp [.ref a] H (fun v _ => v = .bl true) fun _ _ _ => False) :
    codeAny (model P w) callerA (.call (.ref fa) ⟨[.ref a], []⟩) (LawEnd s₁) s₁ := by
  have rel := vals_ints hi
  cases look : K.lookup a with
  | some o =>
    have e := (KX a o look).symm.trans ha
    have e' := Option.some.inj e
    subst e'
    exact law_from (fun _ => none) (fun b z => absurd rfl z) (fun _ => .inl rfl) (fun b u z => by cases (show (none : Option HO) = some u from z))
      (.inr ⟨_, vs.toArray, _, look, rfl, rfl, rfl, by rw [List.size_toArray, hi.length]; exact len, by simpa using rel⟩) KX hns hb hbb lim gens ha room F bind hsp
  | none =>
    have at_ : ∀ b, b ≠ a → (fun b => if b = a then some (HO.frz { cls := .type "list", data := .seq vs.toArray } (.lst (ns.map V.int))) else none) b = none := fun b n => if_neg n
    refine law_from (fun b => if b = a then some (HO.frz { cls := .type "list", data := .seq vs.toArray } (.lst (ns.map V.int))) else none) (fun b z => ?_) (fun b => ?_) (fun b u z => ?_) (.inl (.inr ⟨_, if_pos rfl⟩)) KX hns hb hbb lim gens ha room F bind hsp
    · cases Classical.em (b = a) with
      | inl e => exact ⟨e, look⟩
      | inr n => exact absurd (at_ b n) z
    · cases Classical.em (b = a) with
      | inl e => exact .inr ⟨_, _, if_pos e⟩
      | inr n => exact .inl (at_ b n)
    · cases Classical.em (b = a) with
      | inl e =>
        subst e
        have z' := (if_pos rfl).symm.trans z
        rw [← Option.some.inj z']
        exact ⟨ha, by rw [List.length_map]; exact len, vs, _, rel, ha⟩
      | inr n =>
        have z' := (at_ b n).symm.trans z
        cases z'
end
/-- what k_head leaves, from the law's promise -/
theorem walkG {l : PySem.W.OpenLaw} {n k : Nat} {q : Program} {loose : List Str} {XP : (Str → Option Value) → Heap → Prop} {YP : World → Heap → Prop} {d : DefRec} {K : Params → PySem.W.Frag} {sp : World → Sp} {x : Str}
    (hn : l.most = some n) (hn2 : n ≤ sizeLine) (hdf : d.params.defaults = []) (room : Room k callerA) (hY : ∀ (w : World) (h : Heap), YP w h → (K w.params).In h)
    (F : ∀ (w : World) (mg : Str → Option Value) (fa : Addr) (h : Heap), (K w.params).In h → h.Ns mainGlobals mg → mg d.name = some (.ref fa) →
      ∃ fd : FuncData, (∀ (s : Shared) (u : Value), BindsTo s fd ⟨[u], []⟩ [(x, u)]) ∧ ∀ base : Heap, (K w.params).In base → base.Ns mainGlobals mg → FnG l.prog w (K w.params) mg base k fa fd [x] (sp w))
    (hsp : ∀ (w : World) (H : Hp) (a : Addr) (ns : List Int), ns.length ≤ n → Only H → SqL (K w.params) H a (ns.map V.int) → sp w [.ref a] H (fun v _ => v = .bl true) fun _ _ _ => False) :
    PySem.W.WalkO q loose XP YP l.row.toRowW d [] (fun f vs => PySem.call f vs) := by
  refine Att.attach_call hn hdf fun w s₀ s₁ mg mb fa o pm cd doc a vs ns G Y ho hd hcd hmg hobj hints hlen hg => ?_
  obtain ⟨fd, bind, FF⟩ := F w mg fa _ (hY w _ Y) G.T.g hmg
  exact law_callG (hY w _ Y) G.T.g G.T.b G.T.builtins G.T.nolimit hg hobj hints (Nat.le_trans hlen hn2) room FF bind fun H h1 h2 => hsp w H a ns hlen h1 h2
end GL

/-! How long a text of nested lists of ints is. -/
namespace GL
open PySem PySem.Spec PyProof.Rows L2 XR
/-- data whose text can be written: at most m signs, at most e deep -/
structure Sh (d : PyData) (m e : Nat) : Prop where
  yes : d.showable = true
  plain : d.hasDict = false
  deep : d.depth ≤ e
  len : d.shown.length ≤ m
theorem Sh.int {i : Int} {k : Nat} (h : i.natAbs < 2 ^ k) (h0 : 0 < k) (h1 : k ≤ 1900) : Sh (.int i) (k + 1) 0 := by
  have l : i.natAbs.log2 < k := PySem.Flt.log2_lt_of h0 h
  refine ⟨?_, ?_, ?_, ?_⟩
  · simp only [PyData.showable, decide_eq_true_eq]
    omega
  · simp only [PyData.hasDict]
  · simp only [PyData.depth, Nat.le_refl]
  · have e := int_text_length_le h0 l
    simp only [PyData.shown]
    rw [← PySem.ofString_length] at e
    exact e
theorem Sh.non : Sh .none 4 0 := ⟨by simp only [PyData.showable], by simp only [PyData.hasDict], by simp only [PyData.depth, Nat.le_refl], by decide⟩
theorem Sh.mono {d : PyData} {m e m' e' : Nat} (h : Sh d m e) (l : m ≤ m') (l2 : e ≤ e') : Sh d m' e' := ⟨h.yes, h.plain, Nat.le_trans h.deep l2, Nat.le_trans h.len l⟩
theorem sh_all {m e : Nat} : ∀ {ds : List PyData}, (∀ d ∈ ds, Sh d m e) → PyData.showableAll ds = true ∧ PyData.hasDictAll ds = false ∧ PyData.depthAll ds ≤ e ∧ ((PyData.shownAll ds).map (·.length)).sum ≤ ds.length * m ∧ (PyData.shownAll ds).length = ds.length
  | [], _ => by simp [PyData.showableAll, PyData.hasDictAll, PyData.depthAll, PyData.shownAll]
  | d :: ds, h => by
    obtain ⟨a1, a2, a3, a4, a5⟩ := sh_all fun x hx => h x (List.mem_cons_of_mem _ hx)
    have b := h d (List.mem_cons_self ..)
    refine ⟨?_, ?_, ?_, ?_, ?_⟩
    · simp only [PyData.showableAll, b.yes, a1, Bool.and_self]
    · simp only [PyData.hasDictAll, b.plain, a2, Bool.or_self]
    · simp only [PyData.depthAll]
      exact Nat.max_le.mpr ⟨b.deep, a3⟩
    · simp only [PyData.shownAll, List.map_cons, List.sum_cons, List.length_cons, Nat.add_mul, Nat.one_mul]
      have := b.len
      omega
    · simp only [PyData.shownAll, List.length_cons, a5]
theorem Sh.list {ds : List PyData} {m e : Nat} (h : ∀ d ∈ ds, Sh d m e) : Sh (.list ds) (ds.length * m + 2 * ds.length + 3) (e + 1) := by
  obtain ⟨a1, a2, a3, a4, a5⟩ := sh_all h
  refine ⟨?_, ?_, ?_, ?_⟩
  · simp only [PyData.showable, a1]
  · simp only [PyData.hasDict, a2]
  · simp only [PyData.depth]
    omega
  · simp only [PyData.shown]
    have := listText_len_le (PyData.shownAll ds)
    omega
/-- a list of ints as data -/
def dI (ns : List Int) : PyData := .list (ns.map PyData.int)
theorem dp_dI {K : PySem.W.Frag} {H : Hp} {a : Addr} {ns : List Int} (h : SqL K H a (ns.map V.int)) : Dp K H (.ref a) (dI ns) := .lst h (dpAll_ints K H ns)
theorem Sh.ints {ns : List Int} {k n : Nat} (h : ∀ x ∈ ns, x.natAbs < 2 ^ k) (h0 : 0 < k) (h1 : k ≤ 1900) (hn : ns.length ≤ n) : Sh (dI ns) (n * (k + 3) + 3) 1 := by
  have s := Sh.list (ds := ns.map PyData.int) (m := k + 1) (e := 0) fun d hd => by
    obtain ⟨x, hx, rfl⟩ := List.mem_map.mp hd
    exact Sh.int (h x hx) h0 h1
  refine s.mono ?_ (Nat.le_refl _)
  rw [List.length_map]
  have : ns.length * (k + 3) ≤ n * (k + 3) := Nat.mul_le_mul_right _ hn
  have e : ns.length * (k + 3) = ns.length * (k + 1) + 2 * ns.length := by
    rw [show k + 3 = (k + 1) + 2 by omega, Nat.mul_add]
    omega
  omega
theorem Sh.fit {d : PyData} {e : Nat} (s : Sh d 16000000 e) : d.shown.length ≤ sizeLine := by
  rw [sizeLine_eq]
  have := s.len
  omega
/-- what repr's rule asks -/
theorem Sh.rep {K : PySem.W.Frag} {H : Hp} {a : Addr} {d : PyData} {m e : Nat} {Q : VK} (s : Sh d m e) (hd : Dp K H (.ref a) d) (hm : m ≤ 16000000) (he : e ≤ 20) (q : Q (.str d.shown) H) : rRepr K [.ref a] H Q :=
  ⟨a, d, rfl, hd, s.yes, s.plain, Nat.le_trans s.deep he, by rw [sizeLine_eq]; have := s.len; omega, q⟩
end GL
namespace GL
open PySem PySem.Spec PyProof.Rows L2 XR
theorem Sh.bool (b : Bool) : Sh (.bool b) 5 0 := ⟨by simp only [PyData.showable], by simp only [PyData.hasDict], by simp only [PyData.depth, Nat.le_refl], by cases b <;> decide⟩
theorem Sh.tuple {ds : List PyData} {m e : Nat} (h : ∀ d ∈ ds, Sh d m e) : Sh (.tuple ds) (ds.length * m + 2 * ds.length + 3) (e + 1) := by
  obtain ⟨a1, a2, a3, a4, a5⟩ := sh_all h
  refine ⟨?_, ?_, ?_, ?_⟩
  · simp only [PyData.showable, a1]
  · simp only [PyData.hasDict, a2]
  · simp only [PyData.depth]
    omega
  · simp only [PyData.shown]
    have := tupleText_len_le (PyData.shownAll ds)
    omega
end GL

namespace Mth
theorem coef_comm (a b : List Int) (k : Nat) : coef a b k = coef b a k := by
  unfold coef
  rw [sm_comm]
  apply sm_congr
  intro j _
  apply sm_congr
  intro i _
  rw [Nat.add_comm i j, Int.mul_comm]
theorem prodL_comm (a b : List Int) : prodL a b = prodL b a := by
  unfold prodL
  rw [Nat.add_comm a.length]
  exact tab_congr fun k _ => coef_comm a b k
theorem mem_tab {α : Type} {m : Nat} {f : Nat → α} {x : α} (h : x ∈ tab m f) : ∃ i, i < m ∧ x = f i := by
  unfold tab at h
  obtain ⟨i, hi, rfl⟩ := List.mem_map.mp h
  exact ⟨i, List.mem_range.mp hi, rfl⟩
theorem sm_le {n M : Nat} {f : Nat → Int} (h : ∀ i, i < n → (f i).natAbs ≤ M) : (sm n f).natAbs ≤ n * M := by
  induction n with
  | zero => exact Nat.zero_le _
  | succ n ih =>
    have h1 := ih fun i hi => h i (by omega)
    have h2 := h n (by omega)
    rw [sm_succ, Nat.add_mul, Nat.one_mul]
    omega
theorem getD_le {xs : List Int} {M : Nat} (h : ∀ x ∈ xs, x.natAbs ≤ M) (i : Nat) : (xs.getD i 0).natAbs ≤ M := by
  rw [List.getD_eq_getElem?_getD]
  cases e : xs[i]? with
  | none => exact Nat.zero_le _
  | some x => exact h x (List.mem_of_getElem? e)
theorem prod_le {a b : List Int} {M N : Nat} (ha : ∀ x ∈ a, x.natAbs ≤ M) (hb : ∀ x ∈ b, x.natAbs ≤ N) : ∀ x ∈ prodL a b, x.natAbs ≤ a.length * (b.length * (M * N)) := by
  intro x hx
  obtain ⟨k, _, rfl⟩ := mem_tab hx
  unfold coef
  apply sm_le
  intro i _
  apply sm_le
  intro j _
  split
  · rw [Int.natAbs_mul]
    exact Nat.mul_le_mul (getD_le ha i) (getD_le hb j)
  · exact Nat.zero_le _
theorem stretch_le {a : List Int} {M k : Nat} (ha : ∀ x ∈ a, x.natAbs ≤ M) : ∀ x ∈ stretchL a k, x.natAbs ≤ M := by
  intro x hx
  obtain ⟨j, _, rfl⟩ := mem_tab hx
  unfold stF
  split
  · exact getD_le ha _
  · exact Nat.zero_le _
theorem sum_le {a : List Int} {M : Nat} (ha : ∀ x ∈ a, x.natAbs ≤ M) : a.sum.natAbs ≤ a.length * M := by
  rw [sm_sum]
  exact sm_le fun i _ => getD_le ha i
theorem stretch_one {a : List Int} (h : 1 ≤ a.length) : stretchL a 1 = a := by
  unfold stretchL
  have e : (a.length - 1) * 1 + 1 = a.length := by omega
  rw [e]
  conv => rhs; rw [tab_self a 0]
  apply tab_congr
  intro j hj
  unfold stF
  rw [Nat.mod_one, Nat.div_one, if_pos ⟨rfl, hj⟩]
theorem cut_last (l : List L2.V) (x : L2.V) : L2.cutV (l ++ [x]) none (some (-1)) = l := by
  unfold L2.cutV
  rw [HT.sIx_none]
  have e : HT.sIx (l ++ [x]).length (l ++ [x]).length (some (-1)) = l.length := by
    rw [List.length_append]
    show HT.sIx (l.length + 1) (l.length + 1) (some (-1)) = l.length
    unfold HT.sIx
    simp
    omega
  rw [e]
  simp
end Mth
namespace GL
open PySem PySem.Spec PyProof.Rows L2 XR
theorem canLay_dI (ns : List Int) : (dI ns).canLay0 = true := by
  unfold dI
  simp only [PyData.canLay0]
  exact PySem.W.canLayAll0_ints ns
theorem depth_dI (ns : List Int) : (dI ns).depth ≤ 2 := by
  have := PySem.W.depthAll_ints ns
  unfold dI
  simp only [PyData.depth]
  omega
/-- lists of lists of ints -/
theorem shaped_ll {ls : List (List Int)} : SeqAt.shaped (.list (ls.map dI)) = true := by
  have c : ∀ ls : List (List Int), PyData.canLayAll0 (ls.map dI) = true := by
    intro ls
    induction ls with
    | nil => simp [PyData.canLayAll0]
    | cons l ls ih => simp [PyData.canLayAll0, canLay_dI, ih]
  have d : ∀ ls : List (List Int), PyData.depthAll (ls.map dI) ≤ 2 := by
    intro ls
    induction ls with
    | nil => simp [PyData.depthAll]
    | cons l ls ih =>
      have := depth_dI l
      simp only [List.map_cons, PyData.depthAll]
      omega
  have d2 := d ls
  show (PyData.canLay0 (.list (ls.map dI)) && decide (PyData.depth (.list (ls.map dI)) ≤ 64)) = true
  rw [Bool.and_eq_true]
  refine ⟨by simp only [PyData.canLay0]; exact c ls, decide_eq_true ?_⟩
  simp only [PyData.depth]
  omega
theorem eqv_dI (a b : List Int) : PyData.eqv (dI a) (dI b) = decide (a = b) := by
  unfold dI
  simp only [PyData.eqv]
  exact eqv_ints a b
theorem eqv_ll : ∀ as bs : List (List Int), PyData.eqvAll (as.map dI) (bs.map dI) = decide (as = bs)
  | [], [] => by simp [PyData.eqvAll]
  | [], _ :: _ => by simp [PyData.eqvAll]
  | _ :: _, [] => by simp [PyData.eqvAll]
  | a :: as, b :: bs => by
    have ih := eqv_ll as bs
    simp only [List.map_cons, PyData.eqvAll, eqv_dI, ih]
    by_cases e : a = b
    · subst e
      simp
    · simp [e]
/-- the items of a list of references to lists of ints -/
inductive Refs (K : PySem.W.Frag) (H : Hp) : List V → List (List Int) → Prop
  | nil : Refs K H [] []
  | cons {p : Addr} {ns : List Int} {vs : List V} {ls : List (List Int)} : SqL K H p (ns.map V.int) → Refs K H vs ls → Refs K H (.ref p :: vs) (ns :: ls)
theorem Refs.dp {K : PySem.W.Frag} {H : Hp} : ∀ {vs : List V} {ls : List (List Int)}, Refs K H vs ls → DpAll K H vs (ls.map dI)
  | _, _, .nil => .nil
  | _, _, .cons h t => .cons (dp_dI h) t.dp
def dLL (ls : List (List Int)) : PyData := .list (ls.map dI)
theorem dp_ll {K : PySem.W.Frag} {H : Hp} {a : Addr} {vs : List V} {ls : List (List Int)} (h : SqL K H a vs) (r : Refs K H vs ls) : Dp K H (.ref a) (dLL ls) := .lst h r.dp
theorem Sh.lls {ls : List (List Int)} {k n : Nat} (h : ∀ l ∈ ls, l.length ≤ n ∧ ∀ x ∈ l, x.natAbs < 2 ^ k) (h0 : 0 < k) (h1 : k ≤ 1900) : Sh (dLL ls) (ls.length * (n * (k + 3) + 5) + 3) 2 := by
  have s := Sh.list (ds := ls.map dI) (m := n * (k + 3) + 3) (e := 1) fun d hd => by
    obtain ⟨l, hl, rfl⟩ := List.mem_map.mp hd
    exact Sh.ints (h l hl).2 h0 h1 (h l hl).1
  refine s.mono ?_ (Nat.le_refl _)
  rw [List.length_map]
  have e : ls.length * (n * (k + 3) + 5) = ls.length * (n * (k + 3) + 3) + 2 * ls.length := by
    rw [show n * (k + 3) + 5 = (n * (k + 3) + 3) + 2 by omega, Nat.mul_add]
    omega
  omega
/-- == and != of lists of lists of ints -/
def rEqLL (K : PySem.W.Frag) : R2 := fun x y H Q => ∃ (a b : Addr) (vs ws : List V) (as bs : List (List Int)), x = .ref a ∧ y = .ref b ∧ SqL K H a vs ∧ SqL K H b ws ∧ Refs K H vs as ∧ Refs K H ws bs ∧ Q (.bl (decide (as = bs))) H
def rNeLL (K : PySem.W.Frag) : R2 := fun x y H Q => ∃ (a b : Addr) (vs ws : List V) (as bs : List (List Int)), x = .ref a ∧ y = .ref b ∧ SqL K H a vs ∧ SqL K H b ws ∧ Refs K H vs as ∧ Refs K H ws bs ∧ Q (.bl (!decide (as = bs))) H
theorem op_eqLL {X : Cx} (hu : X.A.units + 64 < cLine) : OpR X (compareOp .Eq) (rEqLL X.K) := by
  intro pins s σ H x y v u Q I rx ry h
  obtain ⟨a, b, vs, ws, as, bs, rfl, rfl, h1, h2, r1, r2, q⟩ := h
  refine op_eqD hu pins s σ H _ _ v u Q I rx ry ⟨_, _, dp_ll h1 r1, dp_ll h2 r2, shaped_ll, shaped_ll, ?_⟩
  show Q (.bl (PyData.eqvAll (as.map dI) (bs.map dI))) H
  rw [eqv_ll]
  exact q
theorem op_neLL {X : Cx} (hu : X.A.units + 64 < cLine) : OpR X (compareOp .NotEq) (rNeLL X.K) := by
  intro pins s σ H x y v u Q I rx ry h
  obtain ⟨a, b, vs, ws, as, bs, rfl, rfl, h1, h2, r1, r2, q⟩ := h
  refine op_neD hu pins s σ H _ _ v u Q I rx ry ⟨_, _, dp_ll h1 r1, dp_ll h2 r2, shaped_ll, shaped_ll, ?_⟩
  show Q (.bl (!PyData.eqvAll (as.map dI) (bs.map dI))) H
  rw [eqv_ll]
  exact q
end GL
namespace Mth
/-- the least rest whose sum is another than that of 0 -/
def leastR (w : List Int) (L : Nat) : Option Nat := (List.range L).find? fun r => decide (restS w L r ≠ restS w L 0)
theorem leastR_none {w : List Int} {L : Nat} : leastR w L = none ↔ evenB w L = true := by
  unfold leastR
  rw [List.find?_eq_none, evenB_iff]
  constructor
  · intro h r hr
    have := h r (List.mem_range.mpr hr)
    simpa using this
  · intro h r hr
    simpa using h r (List.mem_range.mp hr)
theorem leastR_some {w : List Int} {L r : Nat} (hr : r < L) (h : restS w L r ≠ restS w L 0) (h2 : ∀ q, q < r → restS w L q = restS w L 0) : leastR w L = some r := by
  unfold leastR
  rw [List.find?_eq_some_iff_getElem]
  refine ⟨by simpa using h, r, by simpa using hr, by simp, fun q hq => ?_⟩
  simpa using h2 q hq
theorem leastR_lt {w : List Int} {L r : Nat} (h : leastR w L = some r) : r < L := by
  unfold leastR at h
  exact List.mem_range.mp (List.mem_of_find?_eq_some h)
theorem even_of {w : List Int} {L r : Nat} (h : leastR w L = some r) : evenB w L = false := by
  cases e : evenB w L with
  | false => rfl
  | true => rw [leastR_none.mpr e] at h; cases h
/-- slices without a begin -/
theorem pick_none {α : Type} (xs : List α) {L : Nat} (h : 0 < L) : XR.pickV xs none none (some (L : Int)) = XR.pickV xs (some ((0 : Nat) : Int)) none (some (L : Int)) := by
  have e : PySem.sliceBounds none none (some (L : Int)) xs.length = PySem.sliceBounds (some ((0 : Nat) : Int)) none (some (L : Int)) xs.length := by
    have hL : (L : Int) > 0 := by omega
    unfold PySem.sliceBounds
    simp only [Option.getD_some, if_pos hL]
    congr 1
  unfold XR.pickV
  rw [e]
end Mth

namespace Mth
/-! ### windows laid at places -/
def wl (ws : List (List Int)) (j : Nat) : List Int := ws.getD j []
theorem wl_get {ws : List (List Int)} {j : Nat} {w : List Int} (h : ws[j]? = some w) : wl ws j = w := by
  unfold wl
  rw [List.getD_eq_getElem?_getD, h]
  rfl
def accR (φ : Nat → Nat → Nat) (ws : List (List Int)) (j k : Nat) : Int := sm (wl ws j).length fun i => if φ j i = k then (wl ws j).getD i 0 else 0
def accF (φ : Nat → Nat → Nat) (ws : List (List Int)) (k : Nat) : Int := sm ws.length fun j => accR φ ws j k
def accP (φ : Nat → Nat → Nat) (ws : List (List Int)) (j i k : Nat) : Int := sm j (fun j' => accR φ ws j' k) + sm i fun i' => if φ j i' = k then (wl ws j).getD i' 0 else 0
theorem accP_zero (φ : Nat → Nat → Nat) (ws : List (List Int)) (k : Nat) : accP φ ws 0 0 k = 0 := rfl
theorem accP_row (φ : Nat → Nat → Nat) (ws : List (List Int)) (j k : Nat) : accP φ ws j (wl ws j).length k = accP φ ws (j + 1) 0 k := by
  unfold accP
  rw [sm_succ, sm_zero]
  unfold accR
  omega
theorem accP_all (φ : Nat → Nat → Nat) (ws : List (List Int)) (k : Nat) : accP φ ws ws.length 0 k = accF φ ws k := by
  unfold accP accF
  rw [sm_zero]
  omega
theorem accP_step (φ : Nat → Nat → Nat) (ws : List (List Int)) (j i k : Nat) : (if k = φ j i then accP φ ws j i (φ j i) + (wl ws j).getD i 0 else accP φ ws j i k) = accP φ ws j (i + 1) k := by
  unfold accP
  rw [sm_succ]
  by_cases e : k = φ j i
  · subst e
    rw [if_pos rfl, if_pos rfl]
    omega
  · rw [if_neg e, if_neg (fun z => e z.symm)]
    omega
/-- where the last of the windows, laid lap apart, ends -/
def IsEnd (ws : List (List Int)) (lap m : Nat) : Prop := (∃ j w, ws[j]? = some w ∧ m = j * lap + w.length) ∧ ∀ j w, ws[j]? = some w → j * lap + w.length ≤ m
theorem IsEnd.eq {ws : List (List Int)} {lap m n : Nat} (h : IsEnd ws lap m) (h2 : IsEnd ws lap n) : m = n := by
  obtain ⟨⟨j, w, e, rfl⟩, a⟩ := h
  obtain ⟨⟨j', w', e', rfl⟩, b⟩ := h2
  exact Nat.le_antisymm (b _ _ e) (a _ _ e')
theorem IsEnd.lt {ws : List (List Int)} {lap m j i : Nat} {w : List Int} (h : IsEnd ws lap m) (e : ws[j]? = some w) (hi : i < w.length) : j * lap + i < m := by
  have := h.2 j w e
  omega
def at_ (lap : Nat) (j i : Nat) : Nat := j * lap + i
def laidL (ws : List (List Int)) (lap m : Nat) : List Int := tab m (accF (at_ lap) ws)
theorem laidL_len (ws : List (List Int)) (lap m : Nat) : (laidL ws lap m).length = m := tab_len _ _
/-- the rest sums of laid windows -/
theorem laid_rest {ws : List (List Int)} {lap m L r : Nat} (h : IsEnd ws lap m) : restS (laidL ws lap m) L r = accF (fun j i => at_ lap j i % L) ws r := by
  unfold restS
  rw [laidL_len]
  have e1 : sm m (fun k => if k % L = r then (laidL ws lap m).getD k 0 else 0) = sm m fun k => sm ws.length fun j => sm (wl ws j).length fun i => if at_ lap j i = k then (if at_ lap j i % L = r then (wl ws j).getD i 0 else 0) else 0 := sm_congr fun k hk => by
    have g : (laidL ws lap m).getD k 0 = accF (at_ lap) ws k := by
      unfold laidL
      rw [List.getD_eq_getElem?_getD, tab_get _ hk]
      rfl
    rw [g]
    unfold accF accR
    by_cases e : k % L = r
    · rw [if_pos e]
      refine sm_congr fun j _ => sm_congr fun i _ => ?_
      by_cases z : at_ lap j i = k
      · rw [if_pos z, if_pos z, if_pos (by rw [z]; exact e)]
      · rw [if_neg z, if_neg z]
    · rw [if_neg e]
      refine (sm_const0 _ fun j _ => sm_const0 _ fun i _ => ?_).symm
      by_cases z : at_ lap j i = k
      · rw [if_pos z, if_neg (by rw [z]; exact e)]
      · rw [if_neg z]
  rw [e1, sm_comm]
  unfold accF accR
  refine sm_congr fun j hj => ?_
  rw [sm_comm]
  refine sm_congr fun i hi => ?_
  have hw : ws[j]? = some (wl ws j) := by
    rw [wl_get (List.getElem?_eq_getElem hj), List.getElem?_eq_getElem hj]
  have hlt : at_ lap j i < m := h.lt hw hi
  rw [sm_single hlt]
  · rw [if_pos rfl]
  · intro k _ hk
    rw [if_neg (fun z => hk z.symm)]
theorem wl_rep {n j : Nat} {w : List Int} (h : j < n) : wl (List.replicate n w) j = w := by
  refine wl_get ?_
  rw [List.getElem?_replicate, if_pos h]
theorem add_mod_inj {n j k q : Nat} (hj : j < n) (hk : k < n) (h : (j + q) % n = (k + q) % n) : j = k := by
  rw [← Nat.add_mod_mod j q, ← Nat.add_mod_mod k q] at h
  have hs := Nat.mod_lt q (Nat.lt_of_le_of_lt (Nat.zero_le _) hj)
  generalize q % n = s at *
  have f : ∀ x, x < n → (x + s) % n = if x + s < n then x + s else x + s - n := by
    intro x hx
    split
    · rename_i z; exact Nat.mod_eq_of_lt z
    · rename_i z
      rw [Nat.mod_eq_sub_mod (by omega), Nat.mod_eq_of_lt (by omega)]
  rw [f j hj, f k hk] at h
  split at h <;> split at h <;> omega
/-- one window again and again: its rest sums at lap, for each of them once -/
theorem rep_rest {w : List Int} {n lap r : Nat} (hl : 0 < lap) (hr : r < lap * n) : accF (fun j i => at_ lap j i % (lap * n)) (List.replicate n w) r = restS w lap (r % lap) := by
  have hn : 0 < n := by
    cases n with
    | zero => simp at hr
    | succ n => exact Nat.succ_pos n
  unfold accF accR
  rw [List.length_replicate]
  have e1 : sm n (fun j => sm (wl (List.replicate n w) j).length fun i => if at_ lap j i % (lap * n) = r then (wl (List.replicate n w) j).getD i 0 else 0) = sm n fun j => sm w.length fun i => if (j * lap + i) % (lap * n) = r then w.getD i 0 else 0 := sm_congr fun j hj => by
    rw [wl_rep hj]
    rfl
  rw [e1, sm_comm]
  unfold restS
  refine sm_congr fun i _ => ?_
  have key : ∀ j, j < n → ((j * lap + i) % (lap * n) = r ↔ i % lap = r % lap ∧ (j + i / lap) % n = r / lap) := by
    intro j _
    have e2 : (j * lap + i) % (lap * n) = i % lap + lap * ((j + i / lap) % n) := by
      rw [Nat.mod_mul]
      congr 1
      · rw [Nat.mul_comm j lap, Nat.mul_add_mod]
      · congr 2
        rw [Nat.mul_comm j lap, Nat.mul_add_div hl]
    rw [e2]
    have hm := Nat.mod_lt i hl
    constructor
    · intro e
      constructor
      · rw [← e, Nat.add_mul_mod_self_left, Nat.mod_mod]
      · rw [← e, Nat.add_mul_div_left _ _ hl, Nat.div_eq_of_lt hm, Nat.zero_add]
    · rintro ⟨a, b⟩
      rw [a, b]
      exact Nat.mod_add_div r lap
  by_cases c : i % lap = r % lap
  · rw [if_pos c]
    have rn : r / lap < n := by
      rw [Nat.div_lt_iff_lt_mul hl, Nat.mul_comm]
      exact hr
    have hi := Nat.mod_lt (i / lap) hn
    obtain ⟨j0, h0, e0⟩ : ∃ j0, j0 < n ∧ (j0 + i / lap) % n = r / lap := by
      refine ⟨(r / lap + (n - (i / lap) % n)) % n, Nat.mod_lt _ hn, ?_⟩
      rw [Nat.mod_add_mod]
      have e3 : r / lap + (n - i / lap % n) + i / lap = r / lap + n * (1 + i / lap / n) := by
        have := Nat.mod_add_div (i / lap) n
        rw [Nat.mul_add, Nat.mul_one]
        omega
      rw [e3, Nat.add_mul_mod_self_left, Nat.mod_eq_of_lt rn]
    rw [sm_single h0]
    · rw [if_pos ((key j0 h0).mpr ⟨c, e0⟩)]
    · intro j hj hne
      rw [if_neg]
      intro z
      have e4 := ((key j hj).mp z).2
      apply hne
      have e5 : (j + i / lap) % n = (j0 + i / lap) % n := by rw [e4, e0]
      exact add_mod_inj hj h0 e5
  · rw [if_neg c]
    apply sm_const0
    intro j hj
    rw [if_neg (fun z => c ((key j hj).mp z).1)]
/-- a product with a flat window is even at its hop -/
theorem flat_rest (p : List Int) {lap r : Nat} (hr : r < lap) : restS (prodL p (List.replicate lap 1)) lap r = p.sum := by
  have hl : 0 < lap := by omega
  unfold restS
  rw [prodL_len, List.length_replicate]
  have e1 : sm (p.length + lap - 1) (fun k => if k % lap = r then (prodL p (List.replicate lap 1)).getD k 0 else 0) = sm (p.length + lap - 1) fun k => sm p.length fun i => sm lap fun j => if i + j = k then (if (i + j) % lap = r then p.getD i 0 else 0) else 0 := sm_congr fun k hk => by
    have g : (prodL p (List.replicate lap 1)).getD k 0 = coef p (List.replicate lap 1) k := by
      unfold prodL
      rw [List.length_replicate, List.getD_eq_getElem?_getD, tab_get _ hk]
      rfl
    rw [g]
    unfold coef
    rw [List.length_replicate]
    by_cases e : k % lap = r
    · rw [if_pos e]
      refine sm_congr fun i _ => sm_congr fun j hj => ?_
      by_cases z : i + j = k
      · rw [if_pos z, if_pos z, if_pos (by rw [z]; exact e)]
        have e3 : (List.replicate lap (1 : Int)).getD j 0 = 1 := by
          rw [List.getD_eq_getElem?_getD, List.getElem?_replicate, if_pos hj]
          rfl
        rw [e3, Int.mul_one]
      · rw [if_neg z, if_neg z]
    · rw [if_neg e]
      refine (sm_const0 _ fun i _ => sm_const0 _ fun j _ => ?_).symm
      by_cases z : i + j = k
      · rw [if_pos z, if_neg (by rw [z]; exact e)]
      · rw [if_neg z]
  rw [e1, sm_comm, sm_sum p]
  refine sm_congr fun i hi => ?_
  rw [sm_comm]
  have e2 : sm lap (fun j => sm (p.length + lap - 1) fun k => if i + j = k then (if (i + j) % lap = r then p.getD i 0 else 0) else 0) = sm lap fun j => if (i + j) % lap = r then p.getD i 0 else 0 := sm_congr fun j hj => by
    rw [sm_single (p := i + j) (by omega)]
    · rw [if_pos rfl]
    · intro k _ hk
      rw [if_neg (fun z => hk z.symm)]
  rw [e2]
  obtain ⟨j0, h0, e0⟩ : ∃ j0, j0 < lap ∧ (i + j0) % lap = r := by
    refine ⟨(r + (lap - i % lap)) % lap, Nat.mod_lt _ hl, ?_⟩
    have hi := Nat.mod_lt i hl
    rw [Nat.add_mod_mod]
    have e3 : i + (r + (lap - i % lap)) = r + lap * (1 + i / lap) := by
      have := Nat.mod_add_div i lap
      rw [Nat.mul_add, Nat.mul_one]
      omega
    rw [e3, Nat.add_mul_mod_self_left, Nat.mod_eq_of_lt hr]
  rw [sm_single h0]
  · rw [if_pos e0]
  · intro j hj hne
    rw [if_neg]
    intro z
    apply hne
    apply add_mod_inj hj h0 (q := i)
    rw [Nat.add_comm j i, Nat.add_comm j0 i, z, e0]
theorem flat_even (p : List Int) {lap : Nat} (h : 0 < lap) : evenB (prodL p (List.replicate lap 1)) lap = true := by
  rw [evenB_iff]
  intro r hr
  rw [flat_rest p hr, flat_rest p h]
/-- one even window again and again is even at the hop times their number -/
theorem rep_even {w : List Int} {n lap m : Nat} (hl : 0 < lap) (hn : 0 < n) (h : evenB w lap = true) (he : IsEnd (List.replicate n w) lap m) : evenB (laidL (List.replicate n w) lap m) (lap * n) = true := by
  rw [evenB_iff]
  intro r hr
  have h0 : 0 < lap * n := Nat.mul_pos hl hn
  rw [laid_rest he, laid_rest he, rep_rest hl hr, rep_rest hl h0]
  have e := evenB_iff.mp h
  rw [e _ (Nat.mod_lt _ hl), e (0 % lap) (Nat.mod_lt _ hl)]
/-- its sum -/
theorem laid_sum {ws : List (List Int)} {lap m : Nat} (h : IsEnd ws lap m) : (laidL ws lap m).sum = sm ws.length fun j => (wl ws j).sum := by
  have e := restS_total (laidL ws lap m) (L := 1) (by decide)
  rw [sm_succ, sm_zero, laid_rest h] at e
  have e2 : accF (fun j i => at_ lap j i % 1) ws 0 = sm ws.length fun j => (wl ws j).sum := by
    unfold accF accR
    refine sm_congr fun j _ => ?_
    rw [sm_sum (wl ws j)]
    refine sm_congr fun i _ => ?_
    rw [if_pos (Nat.mod_one _)]
  rw [e2] at e
  omega
theorem rep_sum {w : List Int} {n lap m : Nat} (h : IsEnd (List.replicate n w) lap m) : (laidL (List.replicate n w) lap m).sum = n * w.sum := by
  rw [laid_sum h, List.length_replicate]
  have e : sm n (fun j => (wl (List.replicate n w) j).sum) = sm n fun _ => w.sum := sm_congr fun j hj => by rw [wl_rep hj]
  rw [e]
  clear e h
  induction n with
  | zero => rw [sm_zero]; simp
  | succ n ih =>
    rw [sm_succ, ih, Int.natCast_add, Int.add_mul]
    omega
end Mth

namespace XR
open PySem PySem.Spec PyProof.Rows L2
/-! ### loops and comprehensions over zip of two lists of one length -/
theorem for_zip {K : PySem.W.Frag} {a b : Addr} {xs ys : List V} {g : TG} {tb : TS} {D : Ends} {σ : L2.St} {H : Hp} (hn : xs.length = ys.length) (Pv : Nat → L2.St → Hp → Prop) (h0 : Pv 0 σ H) (hq : ∀ i σ H, i ≤ xs.length → Pv i σ H → SqL K H a xs ∧ SqL K H b ys)
    (hs : ∀ (i : Nat) (x y : V) (T : Addr) (σ : L2.St) (H : Hp), xs[i]? = some x → ys[i]? = some y → Pv i σ H → H T = none → g (.ref T) σ (upd H T (.tup [x, y])) fun σ2 H2 => tb { D with nx := Pv (i + 1), ct := Pv (i + 1), bk := D.nx } σ2 H2) (hd : ∀ σ H, Pv xs.length σ H → D.nx σ H) :
    ∃ W : Nat → Nat → L2.St → Hp → Prop, (∃ m, W 0 m σ H) ∧ ∀ i m σ H, W i m σ H →
      ((Itz K a b).stop i H ∧ D.nx σ H) ∨ ((Itz K a b).go i H ∧ ∃ N : L2.St → Hp → Prop, (∀ σ' H', N σ' H' → ∃ m', m' < m ∧ W (i + 1) m' σ' H') ∧ ∀ v H', (Itz K a b).yld i H v H' → g v σ H' fun σ2 H2 => tb { D with nx := N, ct := N, bk := D.nx } σ2 H2) := by
  refine ⟨fun i m σ H => m = xs.length - i ∧ i ≤ xs.length ∧ Pv i σ H, ⟨xs.length, rfl, Nat.zero_le _, h0⟩, ?_⟩
  rintro i m σ H ⟨rfl, hi, p⟩
  have q := hq i σ H hi p
  by_cases hlt : i < xs.length
  · refine .inr ⟨⟨xs, ys, xs[i], ys[i]'(hn ▸ hlt), q.1, q.2, List.getElem?_eq_getElem hlt, List.getElem?_eq_getElem (hn ▸ hlt)⟩, Pv (i + 1), fun σ' H' p' => ⟨xs.length - (i + 1), by omega, rfl, hlt, p'⟩, fun v H' y => ?_⟩
    obtain ⟨T, x', y', rfl, hT, rfl, f1, f2⟩ := y
    exact hs i x' y' T σ H (f1 xs q.1) (f2 ys q.2) p hT
  · have e : i = xs.length := by omega
    subst e
    exact .inl ⟨⟨xs, ys, q.1, q.2, .inl (Nat.le_refl _)⟩, hd σ H p⟩
theorem lc_zip {K : PySem.W.Frag} {a b : Addr} {xs ys : List V} {g : TG} {tt : TT} {te : TE} {vs : List Nat} {σ : L2.St} {H1 : Hp} {D : Addr} {Qd : Hp → Prop} (hn : xs.length = ys.length) (Pv : Nat → Hp → Prop) (h0 : Pv 0 (upd H1 D (.lst []))) (hl : ∀ i H, i ≤ xs.length → Pv i H → SqL K H a xs ∧ SqL K H b ys)
    (hs : ∀ (i : Nat) (x y : V) (T : Addr) (H : Hp), xs[i]? = some x → ys[i]? = some y → Pv i H → H T = none → g (.ref T) (wipe σ vs) (upd H T (.tup [x, y])) fun σ2 H2 => wipe σ2 vs = wipe σ vs ∧ tt σ2 H2 fun b H3 =>
      if b = true then te σ2 H3 fun y H4 => ∃ acc, H4 D = some (.lst acc) ∧ acc.length < sizeLine ∧ Pv (i + 1) (upd H4 D (.lst (acc ++ [y]))) else Pv (i + 1) H3) (hd : ∀ H, Pv xs.length H → Qd H) :
    ∃ W : Nat → Nat → Hp → Prop, (∃ m, W 0 m (upd H1 D (.lst []))) ∧ ∀ i m H, W i m H →
      ((Itz K a b).stop i H ∧ Qd H) ∨ ((Itz K a b).go i H ∧ ∃ Nx : Hp → Prop, (∀ H', Nx H' → ∃ m', m' < m ∧ W (i + 1) m' H') ∧ ∀ x H', (Itz K a b).yld i H x H' → g x (wipe σ vs) H' fun σ2 H2 => wipe σ2 vs = wipe σ vs ∧ tt σ2 H2 fun b H3 =>
        if b = true then te σ2 H3 fun y H4 => ∃ acc, H4 D = some (.lst acc) ∧ acc.length < sizeLine ∧ Nx (upd H4 D (.lst (acc ++ [y]))) else Nx H3) := by
  refine ⟨fun i m H => m = xs.length - i ∧ i ≤ xs.length ∧ Pv i H, ⟨xs.length, rfl, Nat.zero_le _, h0⟩, ?_⟩
  rintro i m H ⟨rfl, hi, p⟩
  have q := hl i H hi p
  by_cases hlt : i < xs.length
  · refine .inr ⟨⟨xs, ys, xs[i], ys[i]'(hn ▸ hlt), q.1, q.2, List.getElem?_eq_getElem hlt, List.getElem?_eq_getElem (hn ▸ hlt)⟩, Pv (i + 1), fun H' p' => ⟨xs.length - (i + 1), by omega, rfl, hlt, p'⟩, fun x H' y => ?_⟩
    obtain ⟨T, x', y', rfl, hT, rfl, f1, f2⟩ := y
    exact hs i x' y' T H (f1 xs q.1) (f2 ys q.2) p hT
  · have e : i = xs.length := by omega
    subst e
    exact .inl ⟨⟨xs, ys, q.1, q.2, .inl (Nat.le_refl _)⟩, hd H p⟩
/-! ### three keywords, the last parameter first -/
def rev3 {α : Type} : List α → List α
  | [a, b, c] => [c, b, a]
  | l => l
theorem rev3_rel : ∀ {zs : List V} {ws : List Value}, Vals zs ws → Vals (rev3 zs) (rev3 ws)
  | _, _, .nil => .nil
  | _, _, .cons r .nil => .cons r .nil
  | _, _, .cons r (.cons r' .nil) => .cons r (.cons r' .nil)
  | _, _, .cons r (.cons r' (.cons r'' .nil)) => .cons r'' (.cons r' (.cons r .nil))
  | _, _, .cons r (.cons r' (.cons r'' (.cons r3 t))) => .cons r (.cons r' (.cons r'' (.cons r3 t)))
theorem kbn3r {K : PySem.W.Frag} {fd : FuncData} {a b c : Str} (h : ∀ u v w, bindArgs fd ⟨[], [(c, u), (b, v), (a, w)]⟩ = pure [(a, w), (b, v), (c, u)]) : KBn K fd [a, b, c] 0 [c, b, a] (fun _ ws => rev3 ws) (fun _ zs => rev3 zs) where
  to := fun s us ws _ l1 l2 => match us, ws, l1, l2 with | [], [u, v, w], _, _ => .of_eq (h u v w)
  rel := fun _ r => rev3_rel r
end XR

namespace XR
open PySem PySem.Spec PyProof.Rows L2
/-! ### len(set(xs)), xs a list of ints, equal ones too -/
def metN (ns : List Int) : Nat := (firstMet (fun i => ns.getD i 0) ns.length).length
def tLenSetD (K : PySem.W.Frag) (ta : TE) : TE := fun σ H Q => ta σ H fun x H1 => ∃ (l : Addr) (ns : List Int), x = V.ref l ∧ SqL K H1 l (ns.map V.int) ∧ ns.length < 64 ∧ Q (.int (metN ns : Nat)) H1
theorem pe_lenSetD {X : Cx} {a : Expr} {ta : TE} {p p2 q pos : Pos} (hc : X.calm = true) (hg : Gl X "len") (hm : X.mg "len" = none) (hg2 : Gl X "set") (hm2 : X.mg "set" = none) (ha : PE X a ta)
    (na : starEach [a] X.env = (false, eval a X.env) :: starEach [] X.env := by rfl) : PE X (.Call (.Name "len" p) [.Call (.Name "set" p2) [a] [] q] [] pos) (tLenSetD X.K ta) := by
  refine ⟨fun pins s σ H Q I h => ?_⟩
  refine Call_ (ld_blt I hg hm PySem.boot_len ?_)
  refine PyProof.Rows.callWith_builtin1 (PyProof.Rows.args_cons ?_ rfl) rfl rfl
  refine Call_ (ld_blt I hg2 hm2 PyProof.Rows.boot_set ?_)
  refine PyProof.Rows.callWith_type1 (PyProof.Rows.args_cons (thn (ha.run pins s σ H _ I h) fun v s1 ⟨x, H1, I1, r1, q1⟩ => PyProof.Rows.args_nil ?_) na) na rfl
  obtain ⟨l, ns, rfl, hq, h1, q1⟩ := q1
  cases r1
  obtain ⟨its, r, pl, hz⟩ := I1.list hq
  have hl : its.toArray.size = ns.length := by rw [List.size_toArray, ← r.length, List.length_map]
  refine call_set_list (I1.ok.hd hc) pl.isList (ns := ns) (by simpa using r.ints) (by unfold scanBound; omega) fun h' tk hS hk => ?_
  rw [hl] at hS
  refine PyProof.Rows.args_nil ?_
  obtain ⟨o, es, ep, t, ho, hex, hd, _, _, _, hf, hn⟩ := hS
  have I2 : Inv X pins σ H1 { s1 with heap := h', toks := tk } := I1.kept fun b o e => hk b o (Heap.lt_size e) e
  have le : metN ns ≤ ns.length := firstMet_length_le _ _
  have hn' : es.size = metN ns := hn
  refine call_len_set ho hex hd hf (by rw [hn'] <;> omega) ⟨.int (metN ns : Nat), H1, I2.tok _, ⟨_, by rw [hn']⟩, q1⟩
theorem step_one {c : Int} : step_dedup [c] c = [c] := by simp [step_dedup]
theorem met_same (val : Nat → Int) (c : Int) : ∀ n, (∀ i, i < n + 1 → val i = c) → firstMet val (n + 1) = [c]
  | 0, h => by
    rw [firstMet_succ, firstMet_zero, h 0 (by omega)]
    rfl
  | n + 1, h => by
    rw [firstMet_succ, met_same val c n (fun i hi => h i (by omega)), h (n + 1) (by omega)]
    exact step_one
/-- one value alone -/
theorem metN_one {n : Nat} (f : Nat → Int) (hn : 1 ≤ n) : decide (metN (Mth.tab n f) = 1) = decide (∀ i, i < n → f i = f 0) := by
  have gd : ∀ i, i < n → (Mth.tab n f).getD i 0 = f i := fun i hi => by
    rw [List.getD_eq_getElem?_getD, Mth.tab_get _ hi]
    rfl
  unfold metN
  rw [Mth.tab_len]
  by_cases h : ∀ i, i < n → f i = f 0
  · rw [decide_eq_true h]
    obtain ⟨m, rfl⟩ : ∃ m, n = m + 1 := ⟨n - 1, by omega⟩
    rw [met_same _ (f 0) m (fun i hi => by rw [gd i hi, h i hi])]
    rfl
  · rw [decide_eq_false h]
    apply decide_eq_false
    intro e
    apply h
    intro i hi
    obtain ⟨c, ec⟩ := List.length_eq_one_iff.mp e
    have key : ∀ j, j < n → f j = c := fun j hj => by
      have z := firstMet_any (fun i => (Mth.tab n f).getD i 0) n (f j)
      have t : ((List.range n).map fun i => (Mth.tab n f).getD i 0).any (· == f j) = true := by
        rw [List.any_eq_true]
        exact ⟨f j, List.mem_map.mpr ⟨j, List.mem_range.mpr hj, gd j hj⟩, by simp⟩
      rw [t, ec] at z
      simp at z
      exact z.symm
    rw [key i hi, key 0 (by omega)]
end XR

/-! math.lcm of wide numbers. -/
namespace XR
open PySem PySem.Spec PyProof.Rows L2
theorem log450 {n : Nat} (h : n < 2 ^ 13500) : ¬ n.log2 / 30 + 1 > 450 := by
  have : n.log2 ≤ 13499 := PySem.W.mg_log h
  omega
def rLcm : List V → Hp → VK → Prop := fun vs H Q => ∃ a b : Int, vs = [.int a, .int b] ∧ a.natAbs < 2 ^ 13500 ∧ b.natAbs < 2 ^ 13500 ∧ Q (.int ((Nat.lcm a.natAbs b.natAbs : Nat) : Int)) H
theorem max_lt {a b c : Nat} (h1 : a < c) (h2 : b < c) : max a b < c := by omega
theorem cr_lcm {X : Cx} : CallR X (.builtin "math.lcm") rLcm := by
  intro pins s σ H vs us Q I r h
  obtain ⟨a, b, rfl, ha, hb, q⟩ := h
  obtain ⟨t, u, rfl⟩ := Vals.int2 r
  have e1 : (Nat.lcm 1 a.natAbs) = a.natAbs := PySem.W.mc_lcm_one _
  have hsz : ((((Nat.lcm 1 a.natAbs).lcm b.natAbs : Nat) : Int)).natAbs.log2 < bitsLine := by
    rw [e1, Int.natAbs_natCast]
    have hp : 0 < 2 ^ 13500 := Nat.two_pow_pos _
    have h1 : a.natAbs.lcm b.natAbs < 2 ^ 27000 := by
      refine Nat.lt_of_le_of_lt (PySem.W.mc_lcm_le _ _) ?_
      have e : (2 : Nat) ^ 27000 = 2 ^ 13500 * 2 ^ 13500 := by rw [← Nat.pow_add]
      rw [e]
      exact Nat.mul_lt_mul'' ha hb
    have := PySem.W.mg_log (k := 26999) h1
    exact Nat.lt_of_le_of_lt this (by decide)
  have hone : (1 : Nat) < 2 ^ 13500 := Nat.one_lt_two_pow (by decide)
  refine call_function_meets PySem.W.MGF.kind_lcm PySem.W.MGF.plain_lcm PySem.W.MGF.entry_lcm (PySem.W.MGF.args_lcm _ _) (PySem.W.mg_run_lcm a t b u (log450 (max_lt hone ha)) (log450 (max_lt ha hb)) hsz).meets ?_
  rw [e1]
  exact ⟨.int _, H, I.tok _, ⟨_, rfl⟩, q⟩
end XR

/-! xs[r::h] = ys, xs and ys two lists; floor division by any number that is not 0. -/
namespace XR
open PySem PySem.Spec PyProof.Rows L2 Mth
def layV {α : Type} : List α → List Nat → List α → List α
  | xs, k :: ks, y :: ys => layV (xs.set k y) ks ys
  | xs, _, _ => xs
theorem layV_len {α : Type} : ∀ (ps : List Nat) (xs ys : List α), (layV xs ps ys).length = xs.length
  | [], _, _ => by simp [layV]
  | _ :: _, _, [] => by simp [layV]
  | k :: ks, xs, y :: ys => by rw [layV, layV_len ks]; exact List.length_set
theorem layV_fold {α : Type} : ∀ (ps : List Nat) (xs ys : List α), (ps.zip ys).foldl (fun xs (q : Nat × α) => xs.set q.1 q.2) xs = layV xs ps ys
  | [], _, _ => by simp [layV]
  | _ :: _, _, [] => by simp [layV]
  | k :: ks, xs, y :: ys => by
    rw [List.zip_cons_cons, List.foldl_cons, layV]
    exact layV_fold ks _ ys
theorem layV_rel : ∀ (ps : List Nat) {xs ys : List V} {us ws : List Value}, Vals xs us → Vals ys ws → Vals (layV xs ps ys) (layV us ps ws)
  | [], _, _, _, _, r, _ => by simpa [layV] using r
  | _ :: _, _, [], _, _, r, q => by cases q; simpa [layV] using r
  | k :: ks, _, _ :: _, _, _, r, .cons q t => by
    simp only [layV]
    exact layV_rel ks (r.set q k) t
theorem layV_arr : ∀ (qs : List (Nat × Value)) (its : List Value), qs.foldl (fun (xs : Array Value) (q : Nat × Value) => xs.setIfInBounds q.1 q.2) its.toArray = (qs.foldl (fun (xs : List Value) (q : Nat × Value) => xs.set q.1 q.2) its).toArray
  | [], _ => rfl
  | q :: qs, its => by
    rw [List.foldl_cons, List.foldl_cons]
    have e : its.toArray.setIfInBounds q.1 q.2 = (its.set q.1 q.2).toArray := by simp
    rw [e]
    exact layV_arr qs _
theorem layV_map {α β : Type} (f : α → β) : ∀ (ps : List Nat) (xs ys : List α), layV (xs.map f) ps (ys.map f) = (layV xs ps ys).map f
  | [], _, _ => by simp [layV]
  | _ :: _, _, [] => by simp [layV]
  | k :: ks, xs, y :: ys => by
    simp only [List.map_cons, layV]
    rw [← List.map_set]
    exact layV_map f ks _ ys
theorem layV_get {α : Type} (φ : Nat → Nat) (hφ : ∀ a b, φ a = φ b → a = b) : ∀ (c s : Nat) (xs ys : List α), ys.length = c → (∀ t, t < c → φ (s + t) < xs.length) →
    (∀ t, t < c → (layV xs ((List.range' s c).map φ) ys)[φ (s + t)]? = ys[t]?) ∧ ∀ j, (∀ t, t < c → φ (s + t) ≠ j) → (layV xs ((List.range' s c).map φ) ys)[j]? = xs[j]?
  | 0, s, xs, ys, _, _ => by
    refine ⟨fun t ht => absurd ht (by omega), fun j _ => ?_⟩
    simp [layV]
  | c + 1, s, xs, [], hl, _ => by cases hl
  | c + 1, s, xs, y :: ys, hl, hb => by
    have hl' : ys.length = c := by simpa using hl
    have e : (List.range' s (c + 1)).map φ = φ s :: (List.range' (s + 1) c).map φ := by simp [List.range'_succ]
    rw [e, layV]
    obtain ⟨h1, h2⟩ := layV_get φ hφ c (s + 1) (xs.set (φ s) y) ys hl' (fun t ht => by
      rw [List.length_set]
      have := hb (t + 1) (by omega)
      rw [show s + 1 + t = s + (t + 1) by omega]
      exact this)
    refine ⟨fun t ht => ?_, fun j hj => ?_⟩
    · cases t with
      | zero =>
        show (layV (xs.set (φ s) y) ((List.range' (s + 1) c).map φ) ys)[φ s]? = some y
        rw [h2 (φ s) (fun t _ z => by have := hφ _ _ z; omega)]
        have hb0 := hb 0 (by omega)
        rw [Nat.add_zero] at hb0
        rw [List.getElem?_set_self hb0]
      | succ t =>
        have := h1 t (by omega)
        rw [show s + (t + 1) = s + 1 + t by omega, this]
        rfl
    · rw [h2 j (fun t ht => by
        have := hj (t + 1) (by omega)
        rw [show s + 1 + t = s + (t + 1) by omega]
        exact this)]
      have := hj 0 (by omega)
      rw [Nat.add_zero] at this
      rw [List.getElem?_set_ne this]
theorem layV_whole {α : Type} (xs ys : List α) (h : ys.length = xs.length) : layV xs (List.range xs.length) ys = ys := by
  have g := layV_get (fun t => t) (fun _ _ z => z) xs.length 0 xs ys h (fun t ht => by omega)
  have e : (List.range' 0 xs.length).map (fun t => t) = List.range xs.length := by simp [List.range_eq_range']
  rw [e] at g
  apply List.ext_getElem?
  intro j
  by_cases hj : j < xs.length
  · have := g.1 j hj
    rw [Nat.zero_add] at this
    exact this
  · rw [List.getElem?_eq_none (by rw [layV_len]; omega), List.getElem?_eq_none (by omega)]
/-- the ints of it -/
def layI (xs ys : List Int) (h r : Nat) : List Int := tab xs.length fun k => if k % h = r then ys.getD (k / h) 0 else xs.getD k 0
theorem layV_int (xs ys : List Int) (h r : Nat) (hr : r < h) (hl : ys.length = (xs.length + h - 1 - r) / h) : layV xs ((List.range xs.length).filter fun i => decide (i % h = r)) ys = layI xs ys h r := by
  rw [range_mod h r hr]
  have hh : 0 < h := by omega
  have bnd : ∀ t, t < (xs.length + h - 1 - r) / h → r + h * t < xs.length := by
    intro t ht
    have h1 : (t + 1) * h ≤ xs.length + h - 1 - r := (Nat.le_div_iff_mul_le hh).mp ht
    have h2 : (t + 1) * h = h * t + h := by rw [Nat.add_mul, Nat.one_mul, Nat.mul_comm]
    omega
  have g := layV_get (fun t => r + h * t) (fun a b z => by
    have z' : h * a = h * b := by simpa using z
    exact Nat.eq_of_mul_eq_mul_left hh z') ((xs.length + h - 1 - r) / h) 0 xs ys hl (fun t ht => by rw [Nat.zero_add]; exact bnd t ht)
  have e : (List.range' 0 ((xs.length + h - 1 - r) / h)).map (fun t => r + h * t) = (List.range ((xs.length + h - 1 - r) / h)).map fun t => r + h * t := by rw [← List.range_eq_range']
  rw [e] at g
  apply List.ext_getElem?
  intro j
  by_cases hj : j < xs.length
  · unfold layI
    rw [tab_get _ hj]
    by_cases ej : j % h = r
    · rw [if_pos ej]
      have ejd : r + h * (j / h) = j := by rw [← ej]; exact Nat.mod_add_div j h
      have ht : j / h < (xs.length + h - 1 - r) / h := by
        rw [Nat.lt_iff_add_one_le, Nat.le_div_iff_mul_le hh]
        have h2 : (j / h + 1) * h = h * (j / h) + h := by rw [Nat.add_mul, Nat.one_mul, Nat.mul_comm]
        omega
      have := g.1 (j / h) ht
      rw [Nat.zero_add, ejd] at this
      rw [this, List.getD_eq_getElem?_getD, List.getElem?_eq_getElem (by omega)]
      rfl
    · rw [if_neg ej, g.2 j (fun t ht z => ej (by
        rw [Nat.zero_add] at z
        rw [← z, Nat.add_mul_mod_self_left, Nat.mod_eq_of_lt hr])), List.getD_eq_getElem?_getD, List.getElem?_eq_getElem hj]
      rfl
  · rw [List.getElem?_eq_none (by rw [layV_len]; omega)]
    unfold layI
    rw [List.getElem?_eq_none (by rw [tab_len]; omega)]
section
variable {prog : Program} {w : World} {A : Around} {E : Value → Shared → Prop} {s : Shared}
set_option maxRecDepth 100000 in
theorem setItem_step {l b sl : Addr} {its its2 : List Value} {n n2 : Nat} {vl vs : Value} {r h : Nat} {Q : Unit → Shared → Prop}
    (e : s.heap.get? l = some { cls := .type "list", data := .seq its.toArray n }) (e2 : s.heap.get? b = some { cls := .type "list", data := .seq its2.toArray n2 }) (hne : l ≠ b)
    (hs : s.heap.IsSliceOf sl vl .none vs) (pl : IsPart vl (some (r : Int))) (pst : IsPart vs (some (h : Int))) (hh : r < h)
    (hlen : its2.length = ((List.range its.length).filter fun i => decide (i % h = r)).length) (hsz : its.length + its2.length ≤ sizeLine)
    (hq : ∀ f : Array Value → Array Value, f its.toArray = (layV its ((List.range its.length).filter fun i => decide (i % h = r)) its2).toArray → Q () { s with heap := s.heap.update l (Obj.mapSeq f) }) :
    wpAny (model prog w) A (setItem (.ref l) (.ref sl) (.ref b)) Q E s := by
  have hl : s.heap.IsList l its.toArray := PySem.IsL.isList e
  have hb : s.heap.IsList b its2.toArray := PySem.IsL.isList e2
  obtain ⟨os, hos, hcs, hds⟩ := id hs
  have hTs : s.TypeIs (.ref sl) "slice" := ⟨os, hos, hcs⟩
  have hstep : ¬ ((rawPart (some (h : Int)) == rawInt 0) = true) := by
    intro z
    have z2 : rawInt (h : Int) = rawInt 0 := by simpa [rawPart] using z
    have : (h : Int) = 0 := by
      unfold rawInt at z2
      exact (Value.int.inj z2).1
    omega
  have hsame : Builtin.List.listSameRef (.ref l) (.ref b) = false := by
    unfold Builtin.List.listSameRef
    exact beq_eq_false_iff_ne.mpr hne
  unfold setItem
  try with_reducible refine wpAny_holding ?_
  first | refine wpAny_bind (wpAny_pure ?_) | skip
  refine wpAny_bind (wpAny_sequenceKey hl.typeIs (by decide) ?_)
  refine wpAny_bind (wpAny_callSpecial?_slot (name := Str.ofString "__setitem__") hl.typeIs slot_list_setitem
    (wpAny_call_entry slot_list_setitem hl.typeIs entry_list_setitem ?_ (args_list_setitem _ _ _)))
  show wpAny _ _ (Builtin.List.listSubscript? (.ref sl) >>= _) _ _ s
  refine wpAny_bind ?_
  unfold Builtin.List.listSubscript?
  refine wpAny_bind (wpAny_specialOf hTs slice_no_index ?_)
  simp only [Option.isNone_none, if_true]
  refine wpAny_pure ?_
  show wpAny _ _ (typeOf (.ref sl) >>= _) _ _ s
  refine wpAny_bind (wpAny_typeOf hTs ?_)
  first
    | rw [if_neg (by decide)]
    | refine PySem.W.KFB.if_not (by decide) ?_
  rw [listSliceParts_eq]
  refine wpAny_bind (wpAny_bind (wpAny_field hos hds (x := vs) rfl (wpAny_bind (wpAny_listPart pst ?_))))
  rw [if_neg hstep]
  refine wpAny_bind (wpAny_field hos hds (x := vl) rfl (wpAny_bind (wpAny_listPart pl ?_)))
  refine wpAny_bind (wpAny_field hos hds (x := .none) rfl (wpAny_bind (wpAny_listPart .none (wpAny_pure ?_))))
  first
    | simp only [hsame, Bool.false_eq_true, if_false]
    | refine PySem.W.KFB.if_not hsame ?_
    | (dsimp only
       rw [if_neg (by rw [hsame]; exact Bool.false_ne_true)])
  refine wpAny_bind (m := Builtin.List.listAllItems (.ref b) "must assign iterable to extended slice") ?_
  unfold Builtin.List.listAllItems
  refine wpAny_bind (wpAny_typeOf hb.typeIs ?_)
  first
    | refine PySem.W.KFB.if_so (by decide) ?_
    | rw [if_pos (by decide)]
    | simp only [beq_self_eq_true, Bool.true_or, if_true]
  unfold Builtin.List.listItems
  refine wpAny_bind (wpAny_seqItems e2 rfl (wpAny_pure ?_))
  refine wpAny_bind (wpAny_bind (wpAny_seqItems e rfl (wpAny_pure ?_)))
  have h0 : (some (h : Int) : Option Int) ≠ some 0 := by
    intro z
    have := Option.some.inj z
    omega
  refine wpAny_bind (wpAny_of_eq (sliceIndices_raw (some (r : Int)) none (some (h : Int)) its.toArray.size h0) ?_)
  rw [List.size_toArray]
  have hplaces := slice_step its.length r h hh
  by_cases e1 : h = 1
  · subst e1
    have r0 : r = 0 := by omega
    subst r0
    have eb : sliceBounds (some ((0 : Nat) : Int)) none (some ((1 : Nat) : Int)) its.length = ((0 : Int), (its.length : Int), (1 : Int)) := by
      simp [sliceBounds]
      omega
    rw [eb]
    have hall : (List.range its.length).filter (fun i => decide (i % 1 = 0)) = List.range its.length := List.filter_eq_self.mpr fun i _ => by simp [Nat.mod_one]
    rw [hall] at hlen hq
    rw [List.length_range] at hlen
    show wpAny _ _ (if ((1 : Int) == 1) = true then _ else _) _ _ s
    rw [if_pos (by decide)]
    refine wpAny_bind (wpAny_rule ?_)
    have hsz' : its.length + its2.toArray.size ≤ sizeLine := by rw [List.size_toArray]; exact hsz
    first
      | simp only [notLongL hsz', Bool.false_eq_true, if_false]
      | refine PySem.W.KFB.if_not (notLongL hsz') ?_
    first | refine wpAny_bind (wpAny_pure ?_) | skip
    show wpAny _ _ (updateSeq l (fun xs => xs.extract 0 ((0 : Int)).toNat ++ its2.toArray ++ xs.extract (max (0 : Int) (its.length : Int)).toNat xs.size) >>= _) _ _ s
    have hmax : (max (0 : Int) (its.length : Int)).toNat = its.length := by omega
    rw [hmax]
    have ef : (fun xs : Array Value => xs.extract 0 ((0 : Int)).toNat ++ its2.toArray ++ xs.extract its.length xs.size) its.toArray = (layV its (List.range its.length) its2).toArray := by
      rw [layV_whole its its2 hlen]
      simp
    refine wpAny_bind (wpAny_updateSeq (hz := by rw [List.size_toArray]; omega) (_hz' := Nat.le_trans (Nat.le_of_eq (congrArg Array.size ef)) (by rw [List.size_toArray, layV_len]; omega)) e rfl ?_)
    refine wpAny_bind (wpAny_letGo ?_)
    first
      | exact wpAny_bind (wpAny_pure (wpAny_pure ⟨.none, rfl, wpAny_pure (hq _ ef)⟩))
      | exact wpAny_pure ⟨.none, rfl, wpAny_pure (hq _ ef)⟩
  · obtain ⟨b1, b2, eb, hp⟩ : ∃ b1 b2, sliceBounds (some (r : Int)) none (some (h : Int)) its.length = (b1, b2, (h : Int)) ∧ sliceRange b1 b2 (h : Int) = (List.range its.length).filter fun i => decide (i % h = r) := ⟨_, _, rfl, hplaces⟩
    rw [eb]
    rw [← hp] at hlen
    have hne1 : ¬ (((h : Int) == 1) = true) := by
      intro z
      have := of_decide_eq_true z
      omega
    show wpAny _ _ (if ((h : Int) == 1) = true then _ else _) _ _ s
    rw [if_neg hne1]
    first | refine wpAny_bind (wpAny_pure ?_) | skip
    have hl2 : ¬ ((its2.toArray.size != (sliceRange b1 b2 (h : Int)).length) = true) := by
      rw [List.size_toArray, ← hlen]
      simp
    first
      | rw [if_neg hl2]
      | refine PySem.W.KFB.if_not (eq_false_of_ne_true hl2) ?_
    first | refine wpAny_bind (wpAny_pure ?_) | skip
    refine wpAny_bind (wpAny_rule ?_)
    rw [hp]
    have ef : (fun xs : Array Value => (((List.range its.length).filter fun i => decide (i % h = r)).zip its2).foldl (fun (xs : Array Value) (q : Nat × Value) => xs.setIfInBounds q.1 q.2) xs) its.toArray = (layV its ((List.range its.length).filter fun i => decide (i % h = r)) its2).toArray := by
      show List.foldl _ _ _ = _
      rw [layV_arr, layV_fold]
    refine wpAny_bind (m := updateSeq l _) (wpAny_updateSeq (f := fun xs : Array Value => (((List.range its.length).filter fun i => decide (i % h = r)).zip its2).foldl (fun (xs : Array Value) (q : Nat × Value) => xs.setIfInBounds q.1 q.2) xs) (hz := by rw [List.size_toArray]; omega) (_hz' := Nat.le_trans (Nat.le_of_eq (congrArg Array.size ef)) (by rw [List.size_toArray, layV_len]; omega)) e rfl ?_)
    refine wpAny_bind (wpAny_letGo ?_)
    first
      | exact wpAny_bind (wpAny_pure (wpAny_pure ⟨.none, rfl, wpAny_pure (hq _ ef)⟩))
      | exact wpAny_pure ⟨.none, rfl, wpAny_pure (hq _ ef)⟩
end
/-- the reading of xs[r::h] = ys -/
def gStep (K : PySem.W.Frag) (to : TE) (tl ts : TO) : TG := fun v σ H Q => to σ H fun x H1 => tl σ H1 fun l H2 => ts σ H2 fun st H3 =>
  ∃ (a b : Addr) (xs ys : List V) (r h : Nat), x = .ref a ∧ v = .ref b ∧ l = some (r : Int) ∧ st = some (h : Int) ∧ r < h ∧ H3 a = some (.lst xs) ∧ H3 b = some (.lst ys) ∧ a ≠ b ∧
    ys.length = ((List.range xs.length).filter fun i => decide (i % h = r)).length ∧ xs.length + ys.length ≤ sizeLine ∧ Q σ (upd H3 a (.lst (layV xs ((List.range xs.length).filter fun i => decide (i % h = r)) ys)))
theorem pg_step {X : Cx} {o lo s0 : Expr} {to : TE} {tl ts : TO} {p2 pos : Pos} (ho : PE X o to) (hl : PO X (some lo) tl) (hst : PO X (some s0) ts)
    (ha : ∀ v, assign (.Subscript o (.Slice (some lo) none (some s0) p2) pos) X.env v = (do
      let ov ← holding [v] (eval o X.env)
      let iv ← holding [v, ov] (eval (.Slice (some lo) none (some s0) p2) X.env)
      standAt pos
      holding [v, ov, iv] (setItem ov iv v)
      release [v, ov, iv] []) := by intro _; rfl) : PG X (.Subscript o (.Slice (some lo) none (some s0) p2) pos) (gStep X.K to tl ts) := by
  refine ⟨fun pins s σ H v u Q I r h => ?_⟩
  rw [ha]
  refine wpAny_bind (wpAny_holding (thn (ho.run pins s σ H _ I h) fun ov s1 ⟨x, H1, I1, r1, q1⟩ => ?_))
  refine wpAny_bind (wpAny_holding (wpAny_Slice (thn (hl.run pins s1 σ H1 _ I1 q1) fun vl s2 ⟨l, H2, I2, pl, q2⟩ => ?_)))
  refine thn (po_none.run pins s2 σ H2 (fun (o : Option Int) H' => o = none ∧ H' = H2) I2 ⟨rfl, rfl⟩) fun vu s3 ⟨l2, H2', I3, pu, q3⟩ => ?_
  obtain ⟨rfl, rfl⟩ := q3
  cases pu
  refine thn (hst.run pins s3 σ _ _ I3 q2) fun vs s4 ⟨st, H4, I4, ps, q4⟩ => ?_
  obtain ⟨a, b, xs, ys, rr, hh, rfl, rfl, rfl, rfl, hr, hA, hB, hne, hlen, hsz, q⟩ := q4
  cases r1
  cases r
  have I5 : Inv X pins σ H4 { s4 with heap := s4.heap.push { cls := .type "slice", data := .fields #[vl, .none, vs] } } := I4.kept (t' := s4.toks) fun b ob q => Heap.get?_push_of_some _ q
  refine wpAny_bind (wpAny_standAt (wpAny_bind (wpAny_holding ?_)))
  obtain ⟨z, its, n, rv, el, e⟩ := I5.lstM hA
  obtain ⟨z2, its2, n2, rv2, el2, e2⟩ := I5.lstM hB
  refine setItem_step (r := rr) (h := hh) e e2 hne (Heap.IsSliceOf.new _ vl .none vs) pl ps hr (by rw [← el, ← el2]; exact hlen) (by omega) fun f ef => ?_
  rw [← el] at ef
  refine wpAny_release ⟨σ, _, I5.lset (its' := layV its ((List.range xs.length).filter fun i => decide (i % hh = rr)) its2) (t' := s4.toks) hA e ef (layV_rel _ rv rv2) (by rw [layV_len]; omega), q⟩
/-! ### floor division by any number but 0 -/
def CDivZ (i j : Int) : Prop := j ≠ 0 ∧ j.natAbs.log2 < 9000
theorem op_fdivZ {X : Cx} : OpR X (binaryOp .FloorDiv) (rI CDivZ fun i j => .int (i.fdiv j)) := opI fun i j _ _ _ _ _ hc q => floordiv_int hc.1 q (.inl (PyProof.noPylong_of_log2 hc.2))
theorem cdivZ {i j : Int} {b : Nat} (h : j ≠ 0) (hb : j.natAbs < 2 ^ b) (h0 : 0 < b) (h9 : b ≤ 9000) : CDivZ i j := ⟨h, Nat.lt_of_lt_of_le (PySem.Flt.log2_lt_of h0 hb) h9⟩
end XR

namespace XR
open PySem PySem.Spec PyProof.Rows L2
/-! n //= k -/
def rIpDiv : V → V → Hp → VK → Prop := fun x y H Q => ∃ i j : Int, x = .int i ∧ y = .int j ∧ CDivW i j ∧ Q (.int (i / j)) H
theorem ip_fdiv {X : Cx} : PIp X .FloorDiv rIpDiv := by
  intro pins s σ H x y v u Q I r1 r2 h
  obtain ⟨i, j, e1, e2, hc, q⟩ := h
  subst e1; subst e2
  obtain ⟨t, rfl⟩ := r1
  obtain ⟨t', rfl⟩ := r2
  have h1 : (0 : Int) < j := hc.1
  refine ifloordiv_int (by omega) ?_ (.inl (PyProof.noPylong_of_log2 hc.2))
  rw [Int.fdiv_eq_ediv_of_nonneg i (by omega)]
  exact ⟨.int _, H, I.tok _, ⟨_, rfl⟩, q⟩
/-- what the top says of an own error class that is made with one text -/
structure Own (K : PySem.W.Frag) (mg : Str → Option Value) (x : Str) (C : Addr) : Prop where
  g : mg x = some (.ref C)
  ex : PySem.W.excIn K C [.type "ValueError", .type "Exception", .type "BaseException", .type "object"] "ValueError.__new__" = true
  kp : PySem.W.keepIn K (.ref C) = true
  sb : PySem.W.subIn K (.ref C) (.type "BaseException") = some true
  ty : PySem.W.typeIn K (.ref C) = some (.type "type")
theorem Own.made {X : Cx} {x : Str} {C : Addr} {e : Expr} {ta : TE} {p pos : Pos} (T : Own X.K X.mg x C) (hg : Gl X x) (he : PE X e ta) (hs : starEach [e] X.env = (false, eval e X.env) :: starEach [] X.env := by rfl) (hdb : (x == ("__debug__" : Str)) = false := by decide) :
    PMk X (.Call (.Name x p) [e] [] pos) (fun σ H Q => ta σ H fun _ H1 => Q (.ref C) none H1) := SkE.pmk_own1 PySem.F.excBase_ValueError T.ex T.g T.kp (raises_own T.sb T.ty) hg he hs hdb
/-- an error of the class at S, and a clause that names the class at D -/
theorem exm_sub {K : PySem.W.Frag} {S D : Addr} {b : Bool} (h1 : PySem.W.subIn K (.ref D) (.type "BaseException") = some true) (h2 : PySem.W.isClsIn K D = true) (h3 : PySem.W.typeIn K (.ref D) = some (.type "type")) (h4 : PySem.W.subIn K (.ref S) (.ref D) = some b) :
    PySem.W.exmOne K (.ref S) (.ref D) = some b := by
  have e1 : (PySem.W.subIn K (.ref D) (.type "BaseException") == some true) = true := by rw [h1] <;> rfl
  have e2 : ((PySem.W.clsIn K D).isSome && PySem.W.typeIn K (.ref D) == some (.type "type")) = true := by
    have h2' : (PySem.W.clsIn K D).isSome = true := h2
    rw [h2', h3] <;> rfl
  unfold PySem.W.exmOne PySem.W.kitCls
  rw [if_pos e1]
  show (if ((PySem.W.clsIn K D).isSome && PySem.W.typeIn K (.ref D) == some (.type "type")) = true then PySem.W.subIn K (.ref S) (.ref D) else none) = some b
  rw [if_pos e2]
  exact h4
end XR

namespace Mth
/-! ### phases -/
theorem sm_app (a b : Nat) (f : Nat → Int) : sm (a + b) f = sm a f + sm b fun i => f (a + i) := by
  induction b with
  | zero => rw [sm_zero]; simp
  | succ b ih =>
    rw [sm_succ, ← Nat.add_assoc, sm_succ, ih]
    omega
theorem sm_split (m c : Nat) (f : Nat → Int) : sm (m * c) f = sm c fun k => sm m fun r => f (r + m * k) := by
  induction c with
  | zero => rfl
  | succ c ih =>
    rw [Nat.mul_succ, sm_app, sm_succ, ih]
    congr 1
    exact sm_congr fun r _ => by rw [Nat.add_comm]
theorem sm_ext {n N : Nat} {f : Nat → Int} (h : n ≤ N) (hz : ∀ i, n ≤ i → f i = 0) : sm N f = sm n f := by
  obtain ⟨d, rfl⟩ : ∃ d, N = n + d := ⟨N - n, by omega⟩
  rw [sm_app, sm_const0 d fun i _ => hz _ (by omega)]
  omega
theorem getD_out {w : List Int} {i : Nat} (h : w.length ≤ i) : w.getD i 0 = 0 := by
  rw [List.getD_eq_getElem?_getD, List.getElem?_eq_none h]
  rfl
/-- rest sums over any range that is long enough -/
theorem restS_far {w : List Int} {N : Nat} (h : w.length ≤ N) (L r : Nat) : restS w L r = sm N fun i => if i % L = r then w.getD i 0 else 0 := by
  unfold restS
  refine (sm_ext h fun i hi => ?_).symm
  split
  · exact getD_out hi
  · rfl
theorem restS_same {a b : List Int} (h : ∀ i, a.getD i 0 = b.getD i 0) (L r : Nat) : restS a L r = restS b L r := by
  rw [restS_far (Nat.le_max_left a.length b.length), restS_far (w := b) (Nat.le_max_right a.length b.length)]
  exact sm_congr fun i _ => by rw [h i]
theorem evenB_same {a b : List Int} (h : ∀ i, a.getD i 0 = b.getD i 0) (L : Nat) : evenB a L = evenB b L := by
  have e : ∀ r, restS a L r = restS b L r := restS_same h L
  cases x : evenB b L with
  | true =>
    have := evenB_iff.mp x
    exact evenB_iff.mpr fun r hr => by rw [e, e, this r hr]
  | false =>
    cases y : evenB a L with
    | false => rfl
    | true =>
      have := evenB_iff.mp y
      have z : evenB b L = true := evenB_iff.mpr fun r hr => by rw [← e, ← e, this r hr]
      rw [x] at z
      exact z.symm
def cnt (n m r : Nat) : Nat := (n + m - 1 - r) / m
def phase (w : List Int) (m r : Nat) : List Int := tab (cnt w.length m r) fun k => w.getD (r + m * k) 0
theorem phase_len (w : List Int) (m r : Nat) : (phase w m r).length = cnt w.length m r := tab_len _ _
theorem cnt_lt {n m r k : Nat} (hr : r < m) : k < cnt n m r ↔ r + m * k < n := by
  unfold cnt
  rw [Nat.lt_div_iff_mul_lt (by omega), Nat.mul_comm]
  omega
theorem phase_getD {w : List Int} {m r : Nat} (hr : r < m) (k : Nat) : (phase w m r).getD k 0 = w.getD (r + m * k) 0 := by
  by_cases h : k < cnt w.length m r
  · unfold phase
    rw [List.getD_eq_getElem?_getD, tab_get _ h]
    rfl
  · rw [getD_out (by rw [phase_len]; omega), getD_out]
    have : ¬ r + m * k < w.length := fun z => h ((cnt_lt (n := w.length) (k := k) hr).mpr z)
    omega
theorem cnt_le (n m r : Nat) (hr : r < m) : cnt n m r ≤ n := by
  apply Classical.byContradiction
  intro h
  have := (cnt_lt (n := n) (k := n) hr).mp (by omega)
  have : n ≤ m * n := Nat.le_mul_of_pos_left n (by omega)
  omega
theorem all_filterMap (w : List Int) : ∀ js : List Nat, (∀ j ∈ js, j < w.length) → js.filterMap (w[·]?) = js.map fun j => w.getD j 0
  | [], _ => rfl
  | j :: js, h => by
    have ih := all_filterMap w js fun k hk => h k (List.mem_cons_of_mem _ hk)
    have hj := h j (List.mem_cons_self ..)
    rw [List.map_cons, ← ih, List.filterMap_cons, List.getElem?_eq_getElem hj, List.getD_eq_getElem?_getD, List.getElem?_eq_getElem hj]
    rfl
theorem pick_phase (w : List Int) (r m : Nat) (hr : r < m) : XR.pickV w (some (r : Int)) none (some (m : Int)) = phase w m r := by
  unfold XR.pickV
  rw [slice_step _ _ _ hr, all_filterMap w _ fun j hj => List.mem_range.mp (List.mem_filter.mp hj).1, range_mod m r hr, List.map_map]
  rfl
theorem restS_phase {w : List Int} {m l r q : Nat} (hr : r < m) (hl : 0 < l) (hq : q < l) : restS (phase w m r) l q = restS w (m * l) (r + m * q) := by
  have h1 : w.length ≤ m * w.length := Nat.le_mul_of_pos_left _ (by omega)
  rw [restS_far h1, sm_split, restS_far (N := w.length) (by rw [phase_len]; exact cnt_le _ _ _ hr)]
  refine sm_congr fun k _ => ?_
  have key : ∀ r', r' < m → ((r' + m * k) % (m * l) = r + m * q ↔ r' = r ∧ k % l = q) := by
    intro r' hr'
    rw [Nat.mod_mul, Nat.add_mul_mod_self_left, Nat.add_mul_div_left _ _ (by omega : 0 < m), Nat.mod_eq_of_lt hr', Nat.div_eq_of_lt hr', Nat.zero_add]
    constructor
    · intro e
      have a : (r' + m * (k % l)) % m = (r + m * q) % m := by rw [e]
      rw [Nat.add_mul_mod_self_left, Nat.add_mul_mod_self_left, Nat.mod_eq_of_lt hr', Nat.mod_eq_of_lt hr] at a
      subst a
      refine ⟨rfl, ?_⟩
      have : m * (k % l) = m * q := by omega
      exact Nat.eq_of_mul_eq_mul_left (by omega) this
    · rintro ⟨rfl, rfl⟩
      rfl
  rw [sm_single hr, phase_getD hr]
  · by_cases c : k % l = q
    · rw [if_pos c, if_pos ((key r hr).mpr ⟨rfl, c⟩)]
    · rw [if_neg c, if_neg (fun z => c ((key r hr).mp z).2)]
  · intro r' hr' hne
    rw [if_neg (fun z => hne ((key r' hr').mp z).1)]
/-- even at a product: each phase is, all with one level -/
theorem even_phases {w : List Int} {m l : Nat} (hm : 0 < m) (hl : 0 < l) : evenB w (m * l) = true ↔ (∀ r, r < m → evenB (phase w m r) l = true) ∧ ∀ r, r < m → restS (phase w m r) l 0 = restS (phase w m 0) l 0 := by
  have hml : 0 < m * l := Nat.mul_pos hm hl
  rw [evenB_iff]
  have lt : ∀ {r q}, r < m → q < l → r + m * q < m * l := fun {r q} hr hq => by
    have : m * (q + 1) ≤ m * l := Nat.mul_le_mul_left m hq
    rw [Nat.mul_succ] at this
    omega
  constructor
  · intro h
    refine ⟨fun r hr => evenB_iff.mpr fun q hq => ?_, fun r hr => ?_⟩
    · rw [restS_phase hr hl hq, restS_phase hr hl hl, h _ (lt hr hq), h _ (lt hr hl)]
    · rw [restS_phase hr hl hl, restS_phase hm hl hl, h _ (lt hr hl), h _ (lt hm hl)]
  · rintro ⟨h1, h2⟩ s hs
    have e : ∀ s, s < m * l → restS w (m * l) s = restS (phase w m 0) l 0 := by
      intro s hs
      have hr := Nat.mod_lt s hm
      have hq : s / m < l := by
        rw [Nat.div_lt_iff_lt_mul hm, Nat.mul_comm]
        exact hs
      have es : s = s % m + m * (s / m) := (Nat.mod_add_div s m).symm
      rw [es, ← restS_phase hr hl hq, evenB_iff.mp (h1 _ hr) _ hq, h2 _ hr]
    rw [e s hs, e 0 hml]
/-- the level -/
theorem level_phases {w : List Int} {m l : Nat} (hm : 0 < m) (hl : 0 < l) : restS w (m * l) 0 = restS (phase w m 0) l 0 := by
  rw [restS_phase hm hl hl]
  rfl
/-! ### woven lists -/
def wovG (ws : List (List Int)) (t : Nat) : Int := (wl ws (t % ws.length)).getD (t / ws.length) 0
def wovL (ws : List (List Int)) (c : Nat) : List Int := tab (c * ws.length) (wovG ws)
theorem wovL_len (ws : List (List Int)) (c : Nat) : (wovL ws c).length = c * ws.length := tab_len _ _
theorem wl_mem {ws : List (List Int)} {j : Nat} (h : j < ws.length) : wl ws j ∈ ws := by
  rw [wl_get (List.getElem?_eq_getElem h)]
  exact List.getElem_mem h
theorem wov_getD {ws : List (List Int)} {c : Nat} (hn : 0 < ws.length) (hc : ∀ u ∈ ws, u.length ≤ c) {r : Nat} (hr : r < ws.length) (k : Nat) : (wovL ws c).getD (r + ws.length * k) 0 = (wl ws r).getD k 0 := by
  have e : wovG ws (r + ws.length * k) = (wl ws r).getD k 0 := by
    unfold wovG
    rw [Nat.add_mul_mod_self_left, Nat.mod_eq_of_lt hr, Nat.add_mul_div_left _ _ hn, Nat.div_eq_of_lt hr, Nat.zero_add]
  by_cases h : r + ws.length * k < c * ws.length
  · unfold wovL
    rw [List.getD_eq_getElem?_getD, tab_get _ h]
    exact e
  · rw [getD_out (by rw [wovL_len]; omega), getD_out]
    have hck : c ≤ k := by
      apply Classical.byContradiction
      intro z
      apply h
      have : ws.length * (k + 1) ≤ ws.length * c := Nat.mul_le_mul_left _ (by omega)
      rw [Nat.mul_succ, Nat.mul_comm ws.length c] at this
      omega
    exact Nat.le_trans (hc _ (wl_mem hr)) hck
theorem wov_phase {ws : List (List Int)} {c : Nat} (hc : ∀ u ∈ ws, u.length ≤ c) {r : Nat} (hr : r < ws.length) (i : Nat) : (phase (wovL ws c) ws.length r).getD i 0 = (wl ws r).getD i 0 := by
  rw [phase_getD hr, wov_getD (by omega) hc hr]
theorem tab_take {α : Type} {n N : Nat} (f : Nat → α) (h : n ≤ N) : (tab N f).take n = tab n f := by
  apply List.ext_getElem?
  intro i
  by_cases hi : i < n
  · rw [List.getElem?_take_of_lt hi, tab_get _ (by omega), tab_get _ hi]
  · rw [List.getElem?_eq_none (by rw [List.length_take, tab_len]; omega), List.getElem?_eq_none (by rw [tab_len]; omega)]
def phasesL (w : List Int) (m : Nat) : List (List Int) := tab m (phase w m)
/-- phases woven again are the list -/
theorem woven_back {w : List Int} {m c : Nat} (hm : 0 < m) (hc : ∀ u ∈ phasesL w m, u.length ≤ c) : w.length ≤ c * m ∧ (wovL (phasesL w m) c).take w.length = w := by
  have hl : (phasesL w m).length = m := tab_len _ _
  have h0 : w.length ≤ c * m := by
    apply Classical.byContradiction
    intro h
    have a : c < cnt w.length m 0 := (cnt_lt hm).mpr (by rw [Nat.zero_add, Nat.mul_comm]; omega)
    have b := hc (phase w m 0) (by unfold phasesL; exact List.mem_map.mpr ⟨0, List.mem_range.mpr hm, rfl⟩)
    rw [phase_len] at b
    omega
  refine ⟨h0, ?_⟩
  unfold wovL
  rw [hl, tab_take _ h0]
  conv => rhs; rw [tab_self w 0]
  refine tab_congr fun t _ => ?_
  unfold wovG
  rw [hl]
  have hr := Nat.mod_lt t hm
  have e : wl (phasesL w m) (t % m) = phase w m (t % m) := wl_get (by unfold phasesL; exact tab_get _ hr)
  rw [e, phase_getD hr, Nat.mod_add_div]
end Mth

namespace Mth
/-! ### phases of what is longer by one; lists backwards -/
theorem phase_filter (w : List Int) {m r : Nat} (hr : r < m) : phase w m r = ((List.range w.length).filter fun i => decide (i % m = r)).map fun i => w.getD i 0 := by
  rw [range_mod m r hr, List.map_map]
  rfl
theorem getD_app {w : List Int} {x : Int} {i : Nat} (h : i < w.length) : (w ++ [x]).getD i 0 = w.getD i 0 := by
  rw [List.getD_eq_getElem?_getD, List.getD_eq_getElem?_getD, List.getElem?_append_left h]
theorem phase_snoc (w : List Int) (x : Int) {m r : Nat} (hr : r < m) : phase (w ++ [x]) m r = if w.length % m = r then phase w m r ++ [x] else phase w m r := by
  rw [phase_filter _ hr, phase_filter _ hr, List.length_append]
  show ((List.range (w.length + 1)).filter fun i => decide (i % m = r)).map (fun i => (w ++ [x]).getD i 0) = _
  rw [List.range_succ, List.filter_append, List.map_append]
  have e : ((List.range w.length).filter fun i => decide (i % m = r)).map (fun i => (w ++ [x]).getD i 0) = ((List.range w.length).filter fun i => decide (i % m = r)).map fun i => w.getD i 0 := by
    apply List.map_congr_left
    intro i hi
    exact getD_app (List.mem_range.mp (List.mem_filter.mp hi).1)
  rw [e]
  by_cases c : w.length % m = r
  · rw [if_pos c]
    have : [w.length].filter (fun i => decide (i % m = r)) = [w.length] := by simp [c]
    rw [this]
    congr 1
    show [(w ++ [x]).getD w.length 0] = [x]
    rw [List.getD_eq_getElem?_getD, List.getElem?_append_right (Nat.le_refl _)]
    simp
  · rw [if_neg c]
    have : [w.length].filter (fun i => decide (i % m = r)) = [] := by simp [c]
    rw [this]
    simp
theorem phase_nil (m r : Nat) (hr : r < m) : phase [] m r = [] := by
  rw [phase_filter _ hr]
  rfl
theorem pick_back (w : List Int) : XR.pickV w none none (some (-1)) = w.reverse := by
  unfold XR.pickV
  have e : PySem.sliceBounds none none (some (-1)) w.length = ((w.length : Int) - 1, -1, -1) := rfl
  rw [e]
  have e2 : PySem.sliceRange ((w.length : Int) - 1) (-1) (-1) = (List.range w.length).map fun k => w.length - 1 - k := by
    unfold PySem.sliceRange
    rw [if_neg (by decide)]
    by_cases h : w.length = 0
    · rw [h]
      rfl
    · rw [if_pos (by omega)]
      have c : (((w.length : Int) - 1 - -1 - -1 - 1) / (- -1)).toNat = w.length := by
        have : ((w.length : Int) - 1 - -1 - -1 - 1) / (- -1) = (w.length : Int) := by
          show ((w.length : Int) - 1 - -1 - -1 - 1) / 1 = _
          rw [Int.ediv_one]
          omega
        rw [this, Int.toNat_natCast]
      show List.map (fun k : Nat => ((w.length : Int) - 1 + -1 * (k : Int)).toNat) (List.range (((w.length : Int) - 1 - -1 - -1 - 1) / (- -1)).toNat) = _
      rw [c]
      apply List.map_congr_left
      intro k _
      omega
  show List.filterMap (w[·]?) (PySem.sliceRange ((w.length : Int) - 1) (-1) (-1)) = w.reverse
  rw [e2, all_filterMap w _ fun j hj => by
    obtain ⟨k, hk, rfl⟩ := List.mem_map.mp hj
    have := List.mem_range.mp hk
    omega]
  apply List.ext_getElem?
  intro i
  by_cases hi : i < w.length
  · rw [List.getElem?_reverse hi, List.map_map, List.getElem?_map, List.getElem?_range hi, List.getElem?_eq_getElem (by omega)]
    show some (w.getD (w.length - 1 - i) 0) = _
    rw [List.getD_eq_getElem?_getD, List.getElem?_eq_getElem (by omega)]
    rfl
  · rw [List.getElem?_eq_none (by simp; omega), List.getElem?_eq_none (by simp; omega)]
theorem back_tab (w : List Int) : w.reverse = tab w.length fun i => w.getD (w.length - 1 - i) 0 := by
  apply List.ext_getElem?
  intro i
  by_cases hi : i < w.length
  · rw [List.getElem?_reverse hi, tab_get _ hi, List.getD_eq_getElem?_getD, List.getElem?_eq_getElem (by omega)]
    rfl
  · rw [List.getElem?_eq_none (by simp; omega), List.getElem?_eq_none (by rw [tab_len]; omega)]
end Mth

/-! Partners of windows: greatest common divisors from the left, Bezout's numbers, sums of products. Core Lean. -/
namespace Mth
open XR
def gl (ns : List Int) (i : Nat) : Nat := gcdL (ns.take i)
theorem gl_zero (ns : List Int) : gl ns 0 = 0 := rfl
theorem gl_succ {ns : List Int} {i : Nat} {x : Int} (h : ns[i]? = some x) : gl ns (i + 1) = Nat.gcd (gl ns i) x.natAbs := by
  unfold gl gcdL
  rw [List.take_add_one, h, List.foldl_append, Nat.gcd_comm]
  rfl
theorem gl_all (ns : List Int) : gl ns ns.length = gcdL ns := by
  unfold gl
  rw [List.take_length]
theorem gcd_lt {a b c : Nat} (h1 : a < c) (h2 : b < c) : Nat.gcd a b < c := by
  by_cases e : a = 0
  · subst e; rw [Nat.gcd_zero_left]; exact h2
  · exact Nat.lt_of_le_of_lt (Nat.gcd_le_left _ (by omega)) h1
theorem gl_lt {ns : List Int} {b : Nat} (h : ∀ x ∈ ns, x.natAbs < 2 ^ b) : ∀ i, gl ns i < 2 ^ b
  | 0 => by rw [gl_zero]; exact Nat.two_pow_pos b
  | i + 1 => by
    cases e : ns[i]? with
    | none =>
      have : gl ns (i + 1) = gl ns i := by
        have hl := List.getElem?_eq_none_iff.mp e
        unfold gl
        rw [List.take_of_length_le (by omega), List.take_of_length_le hl]
      rw [this]
      exact gl_lt h i
    | some x =>
      rw [gl_succ e]
      exact gcd_lt (gl_lt h i) (h x (List.mem_of_getElem? e))
theorem gcdL_lt {ns : List Int} {b : Nat} (h : ∀ x ∈ ns, x.natAbs < 2 ^ b) : gcdL ns < 2 ^ b := by
  rw [← gl_all]
  exact gl_lt h _
theorem gl_dvd (ns : List Int) : ∀ i j x, j < i → ns[j]? = some x → gl ns i ∣ x.natAbs
  | 0, j, x, hj, _ => absurd hj (by omega)
  | i + 1, j, x, hj, hx => by
    cases e : ns[i]? with
    | none =>
      have hl := List.getElem?_eq_none_iff.mp e
      have hl2 := (List.getElem?_eq_some_iff.mp hx).1
      have : gl ns (i + 1) = gl ns i := by
        unfold gl
        rw [List.take_of_length_le (by omega), List.take_of_length_le hl]
      rw [this]
      exact gl_dvd ns i j x (by omega) hx
    | some y =>
      rw [gl_succ e]
      by_cases ej : j = i
      · subst ej
        rw [e] at hx
        cases hx
        exact Nat.gcd_dvd_right _ _
      · exact Nat.dvd_trans (Nat.gcd_dvd_left _ _) (gl_dvd ns i j x (by omega) hx)
theorem gcdL_dvd {ns : List Int} {x : Int} (h : x ∈ ns) : gcdL ns ∣ x.natAbs := by
  obtain ⟨j, hj, e⟩ := List.mem_iff_getElem.mp h
  rw [← gl_all]
  exact gl_dvd ns _ j x hj (by rw [List.getElem?_eq_getElem hj, e])
/-! ### least common multiples -/
def lcmL (ds : List Nat) : Nat := ds.foldl Nat.lcm 1
theorem lcm_dvd_iff {a b c : Nat} : Nat.lcm a b ∣ c ↔ a ∣ c ∧ b ∣ c := ⟨fun h => ⟨Nat.dvd_trans (Nat.dvd_lcm_left a b) h, Nat.dvd_trans (Nat.dvd_lcm_right a b) h⟩, fun h => Nat.lcm_dvd h.1 h.2⟩
theorem foldl_lcm_dvd (n : Nat) : ∀ (ds : List Nat) (a : Nat), ds.foldl Nat.lcm a ∣ n ↔ a ∣ n ∧ ∀ d ∈ ds, d ∣ n
  | [], a => by simp
  | d :: ds, a => by
    rw [List.foldl_cons, foldl_lcm_dvd n ds, lcm_dvd_iff]
    simp only [List.mem_cons, forall_eq_or_imp, and_assoc]
theorem lcmL_dvd {ds : List Nat} {n : Nat} : lcmL ds ∣ n ↔ ∀ d ∈ ds, d ∣ n := by
  unfold lcmL
  rw [foldl_lcm_dvd]
  simp
theorem lcm_lt {a b s t : Nat} (h1 : a < 2 ^ s) (h2 : b < 2 ^ t) : Nat.lcm a b < 2 ^ (s + t) := by
  have h : Nat.lcm a b ≤ a * b := by
    unfold Nat.lcm
    exact Nat.div_le_self _ _
  rw [Nat.pow_add]
  exact Nat.lt_of_le_of_lt h (Nat.mul_lt_mul'' h1 h2)
theorem lcmL_take {ds : List Nat} {i d : Nat} (h : ds[i]? = some d) : lcmL (ds.take (i + 1)) = Nat.lcm (lcmL (ds.take i)) d := by
  unfold lcmL
  rw [List.take_add_one, h, List.foldl_append]
  rfl
theorem lcmL_lt {ds : List Nat} {b : Nat} (h : ∀ d ∈ ds, d < 2 ^ b) : ∀ i, lcmL (ds.take i) < 2 ^ (1 + i * b)
  | 0 => by
    show (1 : Nat) < 2 ^ (1 + 0 * b)
    rw [Nat.zero_mul]
    decide
  | i + 1 => by
    cases e : ds[i]? with
    | none =>
      have hl := List.getElem?_eq_none_iff.mp e
      have : ds.take (i + 1) = ds.take i := by rw [List.take_of_length_le (by omega), List.take_of_length_le hl]
      rw [this]
      refine Nat.lt_of_lt_of_le (lcmL_lt h i) (Nat.pow_le_pow_right (by decide) ?_)
      rw [Nat.add_mul]
      omega
    | some d =>
      rw [lcmL_take e]
      have := lcm_lt (lcmL_lt h i) (h d (List.mem_of_getElem? e))
      rw [show 1 + i * b + b = 1 + (i + 1) * b by rw [Nat.add_mul]; omega] at this
      exact this
/-! ### floor division -/
theorem fdiv_rem {d o : Int} (h : o ≠ 0) : d - d.fdiv o * o = d.fmod o := by
  have := Int.mul_fdiv_add_fmod d o
  rw [Int.mul_comm] at this
  omega
theorem fmod_lt {d o : Int} (h : o ≠ 0) : (d.fmod o).natAbs < o.natAbs := by
  by_cases ho : 0 < o
  · have h1 := Int.fmod_lt_of_pos d ho
    have h2 := Int.fmod_nonneg_of_pos d ho
    omega
  · have e : d.fmod o = -((-d).fmod (-o)) := by rw [Int.neg_fmod_neg]; omega
    have h1 := Int.fmod_lt_of_pos (-d) (show 0 < -o by omega)
    have h2 := Int.fmod_nonneg_of_pos (-d) (show 0 < -o by omega)
    omega
theorem fmod_sign {d o : Int} (h : o ≠ 0) : 0 ≤ o * d.fmod o := by
  by_cases ho : 0 < o
  · exact Int.mul_nonneg (by omega) (Int.fmod_nonneg_of_pos d ho)
  · have e : d.fmod o = -((-d).fmod (-o)) := by rw [Int.neg_fmod_neg]; omega
    have h2 := Int.fmod_nonneg_of_pos (-d) (show 0 < -o by omega)
    have h3 : 0 ≤ (-o) * ((-d).fmod (-o)) := Int.mul_nonneg (by omega) h2
    rw [e]
    have e2 : o * -((-d).fmod (-o)) = (-o) * ((-d).fmod (-o)) := by rw [Int.mul_neg, Int.neg_mul]
    rw [e2]
    exact h3
theorem gcd_step {d o : Int} : Int.gcd o (d - d.fdiv o * o) = Int.gcd d o := by
  rw [Int.gcd_comm d o]
  have : d - d.fdiv o * o = d + o * (-(d.fdiv o)) := by rw [Int.mul_neg, Int.mul_comm o]; omega
  rw [this, Int.gcd_add_mul_left_right]
/-- same signs, the first one not less: the rest is at most half of it -/
theorem half_rem {d o : Int} (h : o ≠ 0) (hle : o.natAbs ≤ d.natAbs) (hs : 0 ≤ d * o) : 2 * (d.fmod o).natAbs ≤ d.natAbs := by
  have key : ∀ a b : Int, 0 < b → b ≤ a → 2 * (a.fmod b) ≤ a := by
    intro a b hb hab
    have h1 := Int.fmod_lt_of_pos a hb
    have h2 := Int.fmod_nonneg_of_pos a hb
    have h3 := Int.mul_fdiv_add_fmod a b
    have h4 : 1 ≤ a.fdiv b := by
      rw [Int.fdiv_eq_ediv_of_nonneg a (by omega)]
      exact (Int.le_ediv_iff_mul_le hb).mpr (by omega)
    have h5 : b * 1 ≤ b * a.fdiv b := Int.mul_le_mul_of_nonneg_left h4 (by omega)
    omega
  by_cases ho : 0 < o
  · have hd : 0 ≤ d := by
      rcases Int.lt_or_le d 0 with z | z
      · have := Int.mul_neg_of_neg_of_pos z ho
        omega
      · exact z
    have := key d o ho (by omega)
    have h2 := Int.fmod_nonneg_of_pos d ho
    omega
  · have hd : d ≤ 0 := by
      rcases Int.lt_or_le 0 d with z | z
      · have := Int.mul_neg_of_pos_of_neg z (show o < 0 by omega)
        omega
      · exact z
    have := key (-d) (-o) (by omega) (by omega)
    have h2 := Int.fmod_nonneg_of_pos (-d) (show 0 < -o by omega)
    have e : d.fmod o = -((-d).fmod (-o)) := by rw [Int.neg_fmod_neg]; omega
    omega
theorem quo_lt {d o : Int} (h : o ≠ 0) : (d.fdiv o).natAbs ≤ d.natAbs := by
  have h1 := fmod_lt (d := d) h
  have h2 := fdiv_rem (d := d) h
  have e : (d.fdiv o * o).natAbs = (d.fdiv o).natAbs * o.natAbs := Int.natAbs_mul _ _
  have h3 : (d.fdiv o).natAbs * o.natAbs ≤ d.natAbs + (d.fmod o).natAbs := by omega
  by_cases z : (d.fdiv o).natAbs ≤ d.natAbs
  · exact z
  · have h4 : (d.natAbs + 1) * o.natAbs ≤ (d.fdiv o).natAbs * o.natAbs := Nat.mul_le_mul_right _ (by omega)
    have h5 : d.natAbs * 1 ≤ d.natAbs * o.natAbs := Nat.mul_le_mul_left _ (by omega)
    rw [Nat.add_mul, Nat.one_mul] at h4
    omega
/-! ### Bezout's loop -/
structure Bz (m e : Int) (b : Nat) (d o t u : Int) : Prop where
  ct : ∃ c, t * e = d + c * m
  cu : ∃ c, u * e = o + c * m
  g : Int.gcd d o = Int.gcd m e
  sz : ∃ k, k ≤ 2 * b + 2 ∧ t.natAbs < 2 ^ ((b + 2) * (k + 1)) ∧ u.natAbs < 2 ^ ((b + 2) * (k + 1)) ∧ d.natAbs < 2 ^ b ∧ o.natAbs < 2 ^ b ∧
    (k = 0 ∨ (d.natAbs * o.natAbs * 2 ^ k ≤ 2 ^ (2 * b + 1) ∧ o.natAbs ≤ d.natAbs ∧ 0 ≤ d * o))
theorem Bz.start {m e : Int} {b : Nat} (hm : m.natAbs < 2 ^ b) (he : e.natAbs < 2 ^ b) : Bz m e b m e 0 1 where
  ct := ⟨-1, by omega⟩
  cu := ⟨0, by omega⟩
  g := rfl
  sz := ⟨0, by omega, Nat.two_pow_pos _, Nat.one_lt_two_pow (by omega), hm, he, .inl rfl⟩
theorem Bz.step {m e : Int} {b : Nat} {d o t u : Int} (h : Bz m e b d o t u) (ho : o ≠ 0) : Bz m e b o (d - d.fdiv o * o) u (t - d.fdiv o * u) where
  ct := h.cu
  cu := by
    obtain ⟨c, hc⟩ := h.ct
    obtain ⟨c', hc'⟩ := h.cu
    refine ⟨c - d.fdiv o * c', ?_⟩
    rw [Int.sub_mul, Int.mul_assoc, hc, hc', Int.mul_add, Int.sub_mul, Int.mul_assoc]
    omega
  g := by rw [gcd_step]; exact h.g
  sz := by
    obtain ⟨k, k1, ht, hu, hd, ho2, hk⟩ := h.sz
    rw [fdiv_rem ho]
    have r1 := fmod_lt (d := d) ho
    have rs := fmod_sign (d := d) ho
    have q1 := quo_lt (d := d) ho
    have hk2 : k ≤ 2 * b + 1 := by
      rcases hk with z | ⟨z, z2, _⟩
      · omega
      · have p1 : 1 ≤ d.natAbs * o.natAbs := Nat.mul_le_mul (show 1 ≤ d.natAbs by omega) (show 1 ≤ o.natAbs by omega)
        have p2 : 2 ^ k ≤ 2 ^ (2 * b + 1) := Nat.le_trans (Nat.le_trans (Nat.le_of_eq (Nat.one_mul _).symm) (Nat.mul_le_mul_right _ p1)) z
        exact (Nat.pow_le_pow_iff_right (by decide)).mp p2
    refine ⟨k + 1, by omega, Nat.lt_of_lt_of_le hu (Nat.pow_le_pow_right (by decide) (Nat.mul_le_mul_left _ (by omega))), ?_, ho2, by omega, .inr ⟨?_, by omega, rs⟩⟩
    · have a1 : (t - d.fdiv o * u).natAbs ≤ t.natAbs + (d.fdiv o).natAbs * u.natAbs := by
        have := Int.natAbs_mul (d.fdiv o) u
        omega
      have a2 : (d.fdiv o).natAbs * u.natAbs ≤ 2 ^ b * 2 ^ ((b + 2) * (k + 1)) := Nat.mul_le_mul (by omega) (by omega)
      rw [← Nat.pow_add] at a2
      have a3 : 2 ^ ((b + 2) * (k + 1)) ≤ 2 ^ (b + (b + 2) * (k + 1)) := Nat.pow_le_pow_right (by decide) (by omega)
      have a4 : 2 ^ (b + (b + 2) * (k + 1) + 1) ≤ 2 ^ ((b + 2) * (k + 1 + 1)) := Nat.pow_le_pow_right (by decide) (by rw [Nat.mul_add (b + 2) (k + 1) 1]; omega)
      rw [Nat.pow_succ] at a4
      omega
    · rcases hk with z | ⟨z, z2, z3⟩
      · subst z
        have b1 : o.natAbs * (d.fmod o).natAbs ≤ 2 ^ b * 2 ^ b := Nat.mul_le_mul (by omega) (by omega)
        rw [← Nat.pow_add] at b1
        rw [show 2 * b + 1 = b + b + 1 by omega, Nat.pow_succ 2 (b + b)]
        omega
      · have b1 := half_rem ho z2 z3
        refine Nat.le_trans ?_ z
        rw [Nat.pow_succ]
        have b2 : o.natAbs * (d.fmod o).natAbs * 2 ≤ d.natAbs * o.natAbs := by
          rw [Nat.mul_comm d.natAbs, Nat.mul_assoc]
          exact Nat.mul_le_mul_left _ (by omega)
        have b3 := Nat.mul_le_mul_right (2 ^ k) b2
        have b4 : o.natAbs * (d.fmod o).natAbs * (2 ^ k * 2) = o.natAbs * (d.fmod o).natAbs * 2 * 2 ^ k := by
          rw [Nat.mul_comm (2 ^ k) 2, ← Nat.mul_assoc]
        rw [b4]
        exact b3
theorem Bz.tlt {m e : Int} {b : Nat} {d o t u : Int} (h : Bz m e b d o t u) : t.natAbs < 2 ^ ((b + 2) * (2 * b + 3)) := by
  obtain ⟨k, k1, ht, _⟩ := h.sz
  exact Nat.lt_of_lt_of_le ht (Nat.pow_le_pow_right (by decide) (Nat.mul_le_mul_left _ (by omega)))
theorem Bz.ult {m e : Int} {b : Nat} {d o t u : Int} (h : Bz m e b d o t u) : u.natAbs < 2 ^ ((b + 2) * (2 * b + 3)) := by
  obtain ⟨k, k1, _, ht, _⟩ := h.sz
  exact Nat.lt_of_lt_of_le ht (Nat.pow_le_pow_right (by decide) (Nat.mul_le_mul_left _ (by omega)))
theorem Bz.dlt {m e : Int} {b : Nat} {d o t u : Int} (h : Bz m e b d o t u) : d.natAbs < 2 ^ b ∧ o.natAbs < 2 ^ b := by
  obtain ⟨k, k1, _, _, h1, h2, _⟩ := h.sz
  exact ⟨h1, h2⟩
theorem Bz.stop {m e : Int} {b : Nat} {d t u : Int} (h : Bz m e b d 0 t u) : d.natAbs = Int.gcd m e := by
  have := h.g
  rw [Int.gcd_zero_right] at this
  exact this
/-- the number of an entry: times it leaves the level's rest -/
theorem num_ok {m e L t : Int} {g : Nat} (hg : g = Int.gcd m e) (g0 : g ≠ 0) (hL : (g : Int) ∣ L) (ht : ∃ c, t * e = (g : Int) + c * m) : ∃ c, t * (L / (g : Int)) * e = L + c * m := by
  obtain ⟨c, hc⟩ := ht
  obtain ⟨l, rfl⟩ := hL
  rw [Int.mul_ediv_cancel_left _ (by omega)]
  refine ⟨l * c, ?_⟩
  rw [Int.mul_assoc, Int.mul_comm l e, ← Int.mul_assoc, hc, Int.add_mul, Int.mul_assoc, Int.mul_comm m l, Int.mul_assoc, ← Int.mul_assoc c l m, Int.mul_comm c l, Int.mul_assoc]
theorem num_mod {m e L n : Int} {g : Nat} (hg : g = Int.gcd m e) (g0 : g ≠ 0) (hn : ∃ c, n * e = L + c * m) : ∃ c, (n % (m / (g : Int))) * e = L + c * m := by
  obtain ⟨c, hc⟩ := hn
  have h1 : (g : Int) ∣ m := by rw [hg]; exact Int.gcd_dvd_left m e
  have h2 : (g : Int) ∣ e := by rw [hg]; exact Int.gcd_dvd_right m e
  obtain ⟨m', hm'⟩ := h1
  obtain ⟨e', he'⟩ := h2
  have ed : m / (g : Int) = m' := by rw [hm', Int.mul_ediv_cancel_left _ (by omega)]
  rw [ed]
  have := Int.emod_add_mul_ediv n m'
  refine ⟨c - n / m' * e', ?_⟩
  have e1 : n % m' = n - m' * (n / m') := by omega
  have e2 : m' * (n / m') * e = n / m' * e' * m := by
    rw [he', hm', Int.mul_comm m', Int.mul_assoc, ← Int.mul_assoc m' (g : Int) e', Int.mul_comm m' (g : Int), Int.mul_assoc, Int.mul_assoc (n / m') e', ← Int.mul_assoc e' (g : Int) m', Int.mul_comm e' (g : Int), Int.mul_assoc (g : Int) e' m', Int.mul_comm e' m']
  rw [e1, Int.sub_mul, hc, e2, Int.sub_mul]
  omega
end Mth
namespace Mth
open XR
/-! ### sums of products -/
def dot (xs ys : List Int) : Int := sm xs.length fun i => xs.getD i 0 * ys.getD i 0
def mulL (xs ys : List Int) : List Int := tab xs.length fun i => xs.getD i 0 * ys.getD i 0
theorem mulL_len (xs ys : List Int) : (mulL xs ys).length = xs.length := tab_len _ _
theorem tab_getD (n : Nat) (f : Nat → Int) (i : Nat) : (tab n f).getD i 0 = if i < n then f i else 0 := by
  by_cases h : i < n
  · rw [if_pos h, List.getD_eq_getElem?_getD, tab_get _ h]
    rfl
  · rw [if_neg h, List.getD_eq_getElem?_getD, List.getElem?_eq_none (by rw [tab_len]; omega)]
    rfl
theorem mulL_getD (xs ys : List Int) (i : Nat) : (mulL xs ys).getD i 0 = xs.getD i 0 * ys.getD i 0 := by
  unfold mulL
  rw [tab_getD]
  split
  · rfl
  · rw [getD_out (w := xs) (by omega), Int.zero_mul]
theorem dot_sum (xs ys : List Int) : dot xs ys = (mulL xs ys).sum := by
  rw [sm_sum, mulL_len]
  unfold dot
  exact sm_congr fun i _ => (mulL_getD xs ys i).symm
theorem restS_phase1 (x : List Int) {h r : Nat} (hr : r < h) : restS x h r = (phase x h r).sum := by
  have := restS_phase (w := x) (m := h) (l := 1) (r := r) (q := 0) hr (by decide) (by decide)
  rw [Nat.mul_one, Nat.mul_zero, Nat.add_zero] at this
  rw [← this, sm_sum]
  unfold restS
  exact sm_congr fun i _ => by rw [if_pos (Nat.mod_one i)]
theorem phase_mul (xs ys : List Int) {h r : Nat} (hr : r < h) (hl : xs.length = ys.length) : phase (mulL xs ys) h r = mulL (phase xs h r) (phase ys h r) := by
  unfold phase mulL
  rw [tab_len, tab_len]
  refine tab_congr fun k hk => ?_
  have h1 := (cnt_lt hr).mp hk
  rw [tab_getD, if_pos h1, tab_getD, if_pos hk, tab_getD, if_pos (by rw [← hl]; exact hk)]
theorem restS_mul (xs ys : List Int) {h r : Nat} (hr : r < h) (hl : xs.length = ys.length) : restS (mulL xs ys) h r = dot (phase xs h r) (phase ys h r) := by
  rw [restS_phase1 _ hr, phase_mul xs ys hr hl, dot_sum]
theorem layI_len (xs ys : List Int) (h r : Nat) : (layI xs ys h r).length = xs.length := tab_len _ _
theorem phase_lay (xs ys : List Int) {h r q : Nat} (hr : r < h) (hq : q < h) (hl : ys.length = cnt xs.length h r) : phase (layI xs ys h r) h q = if q = r then ys else phase xs h q := by
  have hh : 0 < h := by omega
  unfold phase
  rw [layI_len]
  by_cases e : q = r
  · subst e
    rw [if_pos rfl, ← hl]
    conv => rhs; rw [tab_self ys 0]
    refine tab_congr fun k hk => ?_
    have h1 := (cnt_lt hq).mp (by rw [← hl]; exact hk)
    unfold layI
    rw [tab_getD, if_pos h1, if_pos (by rw [Nat.add_mul_mod_self_left, Nat.mod_eq_of_lt hq]), Nat.add_mul_div_left _ _ hh, Nat.div_eq_of_lt hq, Nat.zero_add]
  · rw [if_neg e]
    refine tab_congr fun k hk => ?_
    have h1 := (cnt_lt hq).mp hk
    unfold layI
    rw [tab_getD, if_pos h1, if_neg (by rw [Nat.add_mul_mod_self_left, Nat.mod_eq_of_lt hq]; exact e)]
theorem layI_mem {xs ys : List Int} {h r : Nat} {x : Int} (hx : x ∈ layI xs ys h r) : x ∈ xs ∨ x ∈ ys ∨ x = 0 := by
  obtain ⟨i, hi, rfl⟩ := mem_tab hx
  split
  · rw [List.getD_eq_getElem?_getD]
    cases e : ys[i / h]? with
    | none => exact .inr (.inr rfl)
    | some y => exact .inr (.inl (List.mem_of_getElem? e))
  · rw [List.getD_eq_getElem?_getD, List.getElem?_eq_getElem hi]
    exact .inl (List.getElem_mem hi)
/-- all greatest common divisors by rests -/
def rdL (w : List Int) (h : Nat) : List Nat := tab h fun r => gcdL (phase w h r)
theorem rdL_len (w : List Int) (h : Nat) : (rdL w h).length = h := tab_len _ _
theorem phase_mem {w : List Int} {h r : Nat} (hr : r < h) {x : Int} (hx : x ∈ phase w h r) : x ∈ w := by
  obtain ⟨k, hk, rfl⟩ := mem_tab hx
  have h1 := (cnt_lt hr).mp hk
  rw [List.getD_eq_getElem?_getD, List.getElem?_eq_getElem h1]
  exact List.getElem_mem h1
def okLevel (w : List Int) (h : Nat) (L : Int) : Bool := decide (∀ r, r < h → gcdL (phase w h r) ∣ L.natAbs)
theorem okLevel_iff {w : List Int} {h : Nat} {L : Int} : okLevel w h L = true ↔ ∀ r, r < h → gcdL (phase w h r) ∣ L.natAbs := by
  unfold okLevel
  rw [decide_eq_true_iff]
theorem gcd_eq_right {a b : Nat} : Nat.gcd a b = b ↔ b ∣ a := ⟨fun h => h ▸ Nat.gcd_dvd_left a b, fun h => Nat.gcd_eq_right h⟩
theorem okLevel_lcm {w : List Int} {h : Nat} {L : Int} : okLevel w h L = true ↔ lcmL (rdL w h) ∣ L.natAbs := by
  rw [okLevel_iff, lcmL_dvd]
  constructor
  · intro a d hd
    obtain ⟨r, hr, rfl⟩ := mem_tab hd
    exact a r hr
  · intro a r hr
    exact a _ (List.mem_of_getElem? (tab_get _ hr))
end Mth
namespace Mth
theorem sm_from {n k : Nat} (es nu : List Int) (v : Int) (hk : k < n) (hl : nu.length = n) :
    (sm n fun j => if k ≤ j then es.getD j 0 * (nu.set k v).getD j 0 else 0) = (sm n fun j => if k + 1 ≤ j then es.getD j 0 * nu.getD j 0 else 0) + es.getD k 0 * v := by
  have e1 : sm n (fun j => if j = k then es.getD k 0 * v else 0) = es.getD k 0 * v := by rw [sm_one, if_pos hk]
  rw [← e1, ← sm_add]
  refine sm_congr fun j hj => ?_
  by_cases e : j = k
  · subst e
    rw [if_pos (Nat.le_refl _), if_neg (by omega), if_pos rfl, getD_set_self (by omega)]
    omega
  · rw [if_neg e]
    have : (nu.set k v).getD j 0 = nu.getD j 0 := by
      rw [List.getD_eq_getElem?_getD, List.getD_eq_getElem?_getD, List.getElem?_set_ne (fun z => e z.symm)]
    rw [this]
    by_cases h : k + 1 ≤ j
    · rw [if_pos (by omega), if_pos h]
      omega
    · rw [if_neg (by omega), if_neg h]
      rfl
theorem sm_none {n : Nat} (f : Nat → Int) : (sm n fun j => if n ≤ j then f j else 0) = 0 := sm_const0 n fun j hj => if_neg (by omega)
theorem dot_from (es nu : List Int) : (sm es.length fun j => if 0 ≤ j then es.getD j 0 * nu.getD j 0 else 0) = dot es nu := sm_congr fun j _ => if_pos (Nat.zero_le _)
end Mth
namespace Mth
theorem filter_len {n h r : Nat} (hr : r < h) : ((List.range n).filter fun i => decide (i % h = r)).length = cnt n h r := by
  rw [range_mod h r hr, List.length_map, List.length_range]
  rfl
theorem take_mul (xs ys : List Int) (i : Nat) (hi : i < xs.length) : (tab (i + 1) fun j => xs.getD j 0 * ys.getD j 0) = (tab i fun j => xs.getD j 0 * ys.getD j 0) ++ [xs.getD i 0 * ys.getD i 0] := tab_succ _ _
theorem rep_any {n : Nat} : (List.replicate n true).all id = true := by
  rw [List.all_eq_true]
  intro x hx
  exact (List.mem_replicate.mp hx).2
def sameB (ns : List Int) : Bool := decide (∀ i, i < ns.length → ns.getD i 0 = ns.getD 0 0)
theorem sameB_rest (w : List Int) (h : Nat) (h1 : 0 < h) : sameB (tab h (restS w h)) = evenB w h := by
  unfold sameB evenB
  congr 1
  rw [tab_len]
  apply propext
  constructor
  · intro a r hr
    have := a r hr
    rw [tab_getD, if_pos hr, tab_getD, if_pos h1] at this
    exact this
  · intro a i hi
    rw [tab_getD, if_pos hi, tab_getD, if_pos h1]
    exact a i hi
theorem all_same (ns : List Int) : ((tab ns.length fun i => decide (ns.getD i 0 = ns.getD 0 0)).all id) = sameB ns := by
  unfold sameB
  rw [Bool.eq_iff_iff, List.all_eq_true, decide_eq_true_iff]
  constructor
  · intro a i hi
    have := a _ (List.mem_of_getElem? (tab_get _ hi))
    simpa using this
  · intro a x hx
    obtain ⟨i, hi, rfl⟩ := mem_tab hx
    simpa using a i hi
end Mth
namespace Mth
theorem lcmL_lt2 {ds : List Nat} {b : Nat} (h : ∀ d ∈ ds, d < 2 ^ b) (i : Nat) : lcmL (ds.take i) < 2 ^ (1 + ds.length * b) := by
  by_cases hi : i ≤ ds.length
  · exact Nat.lt_of_lt_of_le (lcmL_lt h i) (Nat.pow_le_pow_right (by decide) (Nat.add_le_add_left (Nat.mul_le_mul_right _ hi) _))
  · rw [List.take_of_length_le (by omega)]
    have := lcmL_lt h ds.length
    rw [List.take_length] at this
    exact this
theorem lcmL_rd {w : List Int} {h b : Nat} (hx : ∀ x ∈ w, x.natAbs < 2 ^ b) (i : Nat) : lcmL ((rdL w h).take i) < 2 ^ (1 + h * b) := by
  have := lcmL_lt2 (ds := rdL w h) (b := b) (fun d hd => by
    obtain ⟨r, hr, rfl⟩ := mem_tab hd
    exact gcdL_lt fun x hx' => hx x (phase_mem hr hx')) i
  rw [rdL_len] at this
  exact this
theorem mulL_comm {xs ys : List Int} (h : xs.length = ys.length) : mulL xs ys = mulL ys xs := by
  unfold mulL
  rw [h]
  exact tab_congr fun i _ => Int.mul_comm _ _
theorem mulL_ones (xs : List Int) : mulL xs (List.replicate xs.length 1) = xs := by
  conv => rhs; rw [tab_self xs 0]
  unfold mulL
  refine tab_congr fun i hi => ?_
  rw [rep_tab, tab_getD, if_pos hi, Int.mul_one]
theorem evenB_of {w : List Int} {h : Nat} {L : Int} (h0 : 0 < h) (e : ∀ r, r < h → restS w h r = L) : evenB w h = true := evenB_iff.mpr fun r hr => by rw [e r hr, e 0 h0]
theorem any_of_rest {w : List Int} {h r : Nat} (e : restS w h r ≠ 0) : w.any (· != 0) = true := by
  rw [any_iff]
  refine Classical.byContradiction fun z => e ?_
  unfold restS
  refine sm_const0 _ fun i hi => ?_
  split
  · exact Classical.byContradiction fun ne => z ⟨i, hi, ne⟩
  · rfl
theorem any_mul {xs ys : List Int} (h : (mulL xs ys).any (· != 0) = true) : xs.any (· != 0) = true := by
  rw [any_iff] at h ⊢
  obtain ⟨i, hi, hz⟩ := h
  rw [mulL_len] at hi
  rw [mulL_getD] at hz
  exact ⟨i, hi, fun z => hz (by rw [z, Int.zero_mul])⟩
def addL (xs ys : List Int) : List Int := tab xs.length fun i => xs.getD i 0 + ys.getD i 0
def scaL (c : Int) (xs : List Int) : List Int := tab xs.length fun i => c * xs.getD i 0
theorem sm_scale (n : Nat) (c : Int) (f : Nat → Int) : sm n (fun i => c * f i) = c * sm n f := by
  induction n with
  | zero => rw [sm_zero, sm_zero, Int.mul_zero]
  | succ n ih => rw [sm_succ, sm_succ, ih, Int.mul_add]
theorem restS_add {w xs ys : List Int} {h r : Nat} (h1 : xs.length = w.length) (h2 : ys.length = w.length) : restS (mulL w (addL xs ys)) h r = restS (mulL w xs) h r + restS (mulL w ys) h r := by
  unfold restS
  rw [mulL_len, mulL_len, mulL_len, ← sm_add]
  refine sm_congr fun i hi => ?_
  rw [mulL_getD, mulL_getD, mulL_getD]
  split
  · unfold addL
    rw [tab_getD, if_pos (by omega), Int.mul_add]
  · rfl
theorem restS_sca {c : Int} {w xs : List Int} {h r : Nat} : restS (mulL (scaL c w) xs) h r = c * restS (mulL w xs) h r := by
  unfold restS
  rw [mulL_len, mulL_len, ← sm_scale]
  have el : (scaL c w).length = w.length := tab_len _ _
  rw [el]
  refine sm_congr fun i hi => ?_
  rw [mulL_getD, mulL_getD]
  split
  · unfold scaL
    rw [tab_getD, if_pos hi, Int.mul_assoc]
  · rw [Int.mul_zero]
theorem sca_any {c : Int} {w : List Int} (hc : c ≠ 0) (h : w.any (· != 0) = true) : (scaL c w).any (· != 0) = true := by
  rw [any_iff] at h ⊢
  obtain ⟨i, hi, hz⟩ := h
  refine ⟨i, by unfold scaL; rw [tab_len]; exact hi, ?_⟩
  unfold scaL
  rw [tab_getD, if_pos hi]
  exact Int.mul_ne_zero hc hz
/-- what the law asks of a level -/
theorem due_ok {w : List Int} {h : Nat} {L : Int} : okLevel w h L = (if lcmL (rdL w h) = 0 then decide (L = 0) else decide (L % ((lcmL (rdL w h) : Nat) : Int) = 0)) := by
  rw [Bool.eq_iff_iff, okLevel_lcm]
  split
  · rename_i e
    rw [e, decide_eq_true_iff]
    constructor
    · intro z
      have := Nat.eq_zero_of_zero_dvd z
      omega
    · intro z
      rw [z]
      exact Nat.dvd_refl 0
  · rw [decide_eq_true_iff, ← Int.ofNat_dvd_left]
    exact ⟨fun z => Int.emod_eq_zero_of_dvd z, fun z => Int.dvd_of_emod_eq_zero z⟩
end Mth

/-! Moments and orders. Core Lean. -/
namespace Mth
def byN (w : List Int) : List Int := tab w.length fun i => (i : Int) * w.getD i 0
theorem byN_len (w : List Int) : (byN w).length = w.length := tab_len _ _
def powN (w : List Int) : Nat → List Int
  | 0 => w
  | p + 1 => byN (powN w p)
theorem powN_len (w : List Int) : ∀ p, (powN w p).length = w.length
  | 0 => rfl
  | p + 1 => by rw [powN, byN_len, powN_len w p]
theorem powN_getD (w : List Int) : ∀ (p i : Nat), (powN w p).getD i 0 = (i : Int) ^ p * w.getD i 0
  | 0, i => by rw [Int.pow_zero, Int.one_mul]; rfl
  | p + 1, i => by
    rw [powN]
    unfold byN
    rw [tab_getD, powN_len]
    by_cases h : i < w.length
    · rw [if_pos h, powN_getD w p i, Int.pow_succ, Int.mul_comm ((i : Int) ^ p) i, Int.mul_assoc]
    · rw [if_neg h, getD_out (w := w) (by omega), Int.mul_zero]
def mom (n h : Nat) (v : Nat → Int) (p r : Nat) : Int := sm n fun i => if i % h = r then (i : Int) ^ p * v i else 0
theorem mom_rest (w : List Int) (h p r : Nat) : restS (powN w p) h r = mom w.length h (fun i => w.getD i 0) p r := by
  unfold restS mom
  rw [powN_len]
  exact sm_congr fun i _ => by rw [powN_getD]
def EV (n h m : Nat) (v : Nat → Int) : Prop := ∀ p, p < m → ∀ r, r < h → mom n h v p r = mom n h v p 0
theorem mom_shift (n h : Nat) (v : Nat → Int) (k : Int) (p r : Nat) : mom n h (fun i => ((i : Int) - k) * v i) p r = mom n h v (p + 1) r - k * mom n h v p r := by
  unfold mom
  rw [← sm_scale]
  have : ∀ a b c : Int, a + -b = c → a - b = c := fun a b c h => by omega
  have e : sm n (fun i => k * if i % h = r then (i : Int) ^ p * v i else 0) = -(sm n fun i => -(k * if i % h = r then (i : Int) ^ p * v i else 0)) := by
    have := sm_scale n (-1) fun i => k * if i % h = r then (i : Int) ^ p * v i else 0
    have e2 : (sm n fun i => -(k * if i % h = r then (i : Int) ^ p * v i else 0)) = sm n (fun i => (-1) * (k * if i % h = r then (i : Int) ^ p * v i else 0)) := sm_congr fun i _ => by omega
    rw [e2, this]
    omega
  rw [e, Int.sub_neg, ← sm_add]
  refine sm_congr fun i _ => ?_
  split
  · have e3 : (i : Int) ^ (p + 1) = (i : Int) ^ p * i := Int.pow_succ _ _
    show (i : Int) ^ p * (((i : Int) - k) * v i) = _
    rw [e3, Int.sub_mul, Int.mul_sub, Int.mul_assoc, ← Int.mul_assoc ((i : Int) ^ p) k, Int.mul_comm ((i : Int) ^ p) k, Int.mul_assoc k]
    omega
  · omega
theorem EV.shift {n h m : Nat} {v : Nat → Int} (e : EV n h (m + 1) v) (k : Int) : EV n h m fun i => ((i : Int) - k) * v i := fun p hp r hr => by
  rw [mom_shift, mom_shift, e (p + 1) (by omega) r hr, e p (by omega) r hr]
theorem EV.less {n h m m' : Nat} {v : Nat → Int} (e : EV n h m v) (l : m' ≤ m) : EV n h m' v := fun p hp => e p (by omega)
/-- times all i - k, k below t but one -/
def cutAt (v : Nat → Int) (i0 : Nat) : Nat → Nat → Int
  | 0 => v
  | t + 1 => if t = i0 then cutAt v i0 t else fun i => ((i : Int) - t) * cutAt v i0 t i
theorem cut_EV {n h i0 : Nat} {v : Nat → Int} (e : EV n h n v) (hi : i0 < n) : ∀ t, t ≤ n → EV n h (n - t + if i0 < t then 1 else 0) (cutAt v i0 t)
  | 0, _ => by rw [if_neg (by omega)]; exact e
  | t + 1, ht => by
    have ih := cut_EV e hi t (by omega)
    rw [cutAt]
    by_cases h0 : t = i0
    · rw [if_pos h0, if_pos (by omega)]
      rw [if_neg (by omega)] at ih
      exact ih.less (by omega)
    · rw [if_neg h0]
      by_cases h1 : i0 < t
      · rw [if_pos h1] at ih
        rw [if_pos (by omega)]
        have : EV n h (n - (t + 1) + 1 + 1) (cutAt v i0 t) := ih.less (by omega)
        exact this.shift t
      · rw [if_neg h1] at ih
        rw [if_neg (by omega)]
        have : EV n h (n - (t + 1) + 0 + 1) (cutAt v i0 t) := ih.less (by omega)
        exact this.shift t
theorem cut_zero {v : Nat → Int} {i0 i : Nat} (hi : i ≠ i0) : ∀ t, i < t → cutAt v i0 t i = 0
  | 0, h => by omega
  | t + 1, h => by
    rw [cutAt]
    by_cases h0 : t = i0
    · rw [if_pos h0]
      exact cut_zero hi t (by omega)
    · rw [if_neg h0]
      by_cases h1 : i = t
      · subst h1
        show ((i : Int) - (i : Int)) * _ = 0
        rw [Int.sub_self, Int.zero_mul]
      · show ((i : Int) - (t : Int)) * cutAt v i0 t i = 0
        rw [cut_zero hi t (by omega), Int.mul_zero]
theorem cut_ne {v : Nat → Int} {i0 : Nat} (hv : v i0 ≠ 0) : ∀ t, cutAt v i0 t i0 ≠ 0
  | 0 => hv
  | t + 1 => by
    rw [cutAt]
    by_cases h0 : t = i0
    · rw [if_pos h0]
      exact cut_ne hv t
    · rw [if_neg h0]
      exact Int.mul_ne_zero (by omega) (cut_ne hv t)
theorem not_all_even {w : List Int} {h : Nat} (hw : w.any (· != 0) = true) (h2 : 2 ≤ h) : ¬ ∀ p, p < w.length → evenB (powN w p) h = true := by
  intro a
  obtain ⟨i0, hi, hz⟩ := any_iff.mp hw
  have e : EV w.length h w.length fun i => w.getD i 0 := fun p hp r hr => by
    have := evenB_iff.mp (a p hp) r hr
    rw [mom_rest, mom_rest] at this
    exact this
  have c := cut_EV e hi w.length (Nat.le_refl _)
  rw [if_pos hi] at c
  have c0 := c 0 (by omega)
  have sum : ∀ r, r < h → mom w.length h (cutAt (fun i => w.getD i 0) i0 w.length) 0 r = if i0 % h = r then cutAt (fun i => w.getD i 0) i0 w.length i0 else 0 := by
    intro r hr
    unfold mom
    rw [sm_single (p := i0) hi fun i hi2 ne => by rw [cut_zero ne _ hi2, Int.mul_zero]; split <;> rfl]
    split
    · rw [Int.pow_zero, Int.one_mul]
    · rfl
  have hne := cut_ne (v := fun i => w.getD i 0) hz w.length
  have m0 := Nat.mod_lt i0 (show 0 < h by omega)
  by_cases hr0 : i0 % h = 0
  · have := c0 1 (by omega)
    rw [sum 1 (by omega), sum 0 (by omega), if_pos hr0, if_neg (by omega)] at this
    exact hne this.symm
  · have := c0 (i0 % h) m0
    rw [sum _ m0, sum 0 (by omega), if_pos rfl, if_neg hr0] at this
    exact hne this
theorem least_of (P : Nat → Bool) : ∀ n, (∃ p, p < n ∧ P p = true) → ∃ D, D < n ∧ P D = true ∧ ∀ q, q < D → P q = false
  | 0, h => by
    obtain ⟨p, hp, _⟩ := h
    omega
  | n + 1, h => by
    by_cases e : ∃ p, p < n ∧ P p = true
    · obtain ⟨D, d1, d2, d3⟩ := least_of P n e
      exact ⟨D, by omega, d2, d3⟩
    · obtain ⟨p, hp, hP⟩ := h
      have : p = n := by
        refine Classical.byContradiction fun z => e ⟨p, by omega, hP⟩
      subst this
      refine ⟨p, by omega, hP, fun q hq => ?_⟩
      cases z : P q with
      | false => rfl
      | true => exact absurd ⟨q, hq, z⟩ e
/-- D is the order of w at h -/
def IsOrd (w : List Int) (h D : Nat) : Prop := evenB (powN w D) h = false ∧ ∀ q, q < D → evenB (powN w q) h = true
theorem ord_ex {w : List Int} {h : Nat} (hw : w.any (· != 0) = true) (h2 : 2 ≤ h) : ∃ D, D < w.length ∧ IsOrd w h D := by
  have : ∃ p, p < w.length ∧ (!evenB (powN w p) h) = true := by
    refine Classical.byContradiction fun z => not_all_even hw h2 fun p hp => ?_
    cases e : evenB (powN w p) h with
    | true => rfl
    | false => exact absurd ⟨p, hp, by rw [e]; rfl⟩ z
  obtain ⟨D, d1, d2, d3⟩ := least_of (fun p => !evenB (powN w p) h) _ this
  exact ⟨D, d1, by simpa using d2, fun q hq => by simpa using d3 q hq⟩
theorem IsOrd.eq {w : List Int} {h D E : Nat} (a : IsOrd w h D) (b : IsOrd w h E) : D = E := by
  rcases Nat.lt_trichotomy D E with z | z | z
  · have := b.2 D z
    rw [a.1] at this
    cases this
  · exact z
  · have := a.2 E z
    rw [b.1] at this
    cases this
theorem pow_le_nat {i p n q : Nat} (hi : i ≤ n) (hp : p ≤ q) (hn : 1 ≤ n) : i ^ p ≤ n ^ q := Nat.le_trans (Nat.pow_le_pow_left hi p) (Nat.pow_le_pow_right hn hp)
theorem powN_le {w : List Int} {M p : Nat} (hl : w.length ≤ 256) (hM : ∀ x ∈ w, x.natAbs ≤ M) : ∀ x ∈ powN w p, x.natAbs ≤ 256 ^ p * M := by
  intro x hx
  obtain ⟨i, hi, e⟩ := List.mem_iff_getElem.mp hx
  have e2 := powN_getD w p i
  rw [List.getD_eq_getElem?_getD, List.getElem?_eq_getElem hi] at e2
  have e3 : x = (i : Int) ^ p * w.getD i 0 := by rw [← e]; exact e2
  rw [powN_len] at hi
  rw [e3, Int.natAbs_mul, Int.natAbs_pow, Int.natAbs_natCast]
  exact Nat.mul_le_mul (Nat.pow_le_pow_left (by omega) p) (getD_le hM i)
theorem restS_le {w : List Int} {M : Nat} (hM : ∀ x ∈ w, x.natAbs ≤ M) (h r : Nat) : (restS w h r).natAbs ≤ w.length * M := by
  unfold restS
  refine sm_le fun i hi => ?_
  split
  · exact getD_le hM i
  · exact Nat.zero_le _
end Mth
namespace Mth
def ordB (w : List Int) (h D : Nat) : Bool := !evenB (powN w D) h && (List.range D).all fun q => evenB (powN w q) h
theorem ordB_ok {w : List Int} {h D : Nat} (e : ordB w h D = true) : IsOrd w h D := by
  unfold ordB at e
  rw [Bool.and_eq_true, List.all_eq_true] at e
  exact ⟨by simpa using e.1, fun q hq => e.2 q (List.mem_range.mpr hq)⟩
def binoms : Nat → List Int
  | 0 => [1]
  | n + 1 => prodL (binoms n) [1, 1]
theorem binoms_len : ∀ n, (binoms n).length = n + 1
  | 0 => rfl
  | n + 1 => by
    rw [binoms, prodL_len, binoms_len n]
    rfl
theorem binoms_le : ∀ n, n ≤ 30 → ∀ x ∈ binoms n, x.natAbs ≤ 2 ^ (7 * n)
  | 0, _ => fun x hx => by rw [List.mem_singleton.mp hx]; decide
  | n + 1, hn => fun x hx => by
    rw [binoms] at hx
    have := prod_le (M := 2 ^ (7 * n)) (N := 1) (binoms_le n (by omega)) (fun y hy => by
      rcases List.mem_cons.mp hy with z | hy
      · rw [z]; decide
      · rw [List.mem_singleton.mp hy]; decide) x hx
    rw [binoms_len] at this
    refine Nat.le_trans this ?_
    rw [show 7 * (n + 1) = 7 * n + 7 by omega, Nat.pow_add, Nat.mul_one]
    have h2 : (n + 1) * (2 * 2 ^ (7 * n)) ≤ 64 * (2 * 2 ^ (7 * n)) := Nat.mul_le_mul_right _ (by omega)
    refine Nat.le_trans h2 ?_
    generalize 2 ^ (7 * n) = z
    omega
theorem oA : IsOrd [1, 2, 1] 2 2 := ordB_ok (by decide +kernel)
theorem oB : IsOrd [1, 2, 2, 1] 2 1 := ordB_ok (by decide +kernel)
theorem oC : IsOrd [1, 2, 2, 1] 6 0 := ordB_ok (by decide +kernel)
theorem oE : IsOrd [5] 9 0 := ordB_ok (by decide +kernel)
theorem mA : tab 2 (restS (powN [1, 2, 2, 1] 1) 2) = [4, 5] := by decide +kernel
theorem mB : tab 1 (restS (powN [7, 7] 0) 1) = [14] := by decide +kernel
theorem mC : restS (powN (List.replicate 120 1) 2) 1000 119 = 14161 := by decide +kernel
theorem oD : IsOrd (binoms 20) 2 20 := ordB_ok (by decide +kernel)
end Mth

/-! Moves of partners: two numbers change, the sums by rests stay. Core Lean. -/
namespace Mth
open XR
def wg (x y : Int) : Nat := Nat.gcd x.natAbs y.natAbs
def mvP (x y : Int) : Int := y / (wg x y : Int)
def mvQ (x y : Int) : Int := (-x) / (wg x y : Int)
def mvN (x y : Int) : Bool := decide (mvP x y < 0) || (decide (mvP x y = 0) && decide (mvQ x y < 0))
def mvA (x y : Int) : Int := if mvN x y = true then -mvP x y else mvP x y
def mvB (x y : Int) : Int := if mvN x y = true then -mvQ x y else mvQ x y
theorem wg_ne {x y : Int} (h : x ≠ 0 ∨ y ≠ 0) : wg x y ≠ 0 := by
  intro z
  unfold wg at z
  have h1 := Nat.gcd_dvd_left x.natAbs y.natAbs
  have h2 := Nat.gcd_dvd_right x.natAbs y.natAbs
  rw [z] at h1 h2
  have h3 := Nat.eq_zero_of_zero_dvd h1
  have h4 := Nat.eq_zero_of_zero_dvd h2
  omega
theorem mv_parts {x y : Int} (h : wg x y ≠ 0) : ∃ a b : Int, x = (wg x y : Int) * a ∧ y = (wg x y : Int) * b ∧ mvP x y = b ∧ mvQ x y = -a ∧ x / (wg x y : Int) = a := by
  have hp : (wg x y : Int) ≠ 0 := by omega
  obtain ⟨a, ha⟩ : ((wg x y : Nat) : Int) ∣ x := Int.ofNat_dvd_left.mpr (Nat.gcd_dvd_left _ _)
  obtain ⟨b, hb⟩ : ((wg x y : Nat) : Int) ∣ y := Int.ofNat_dvd_left.mpr (Nat.gcd_dvd_right _ _)
  have e1 : mvP x y = b := by
    show y / (wg x y : Int) = b
    conv => lhs; arg 1; rw [hb]
    exact Int.mul_ediv_cancel_left _ hp
  have e2 : mvQ x y = -a := by
    show (-x) / (wg x y : Int) = -a
    conv => lhs; arg 1; rw [ha, ← Int.mul_neg]
    exact Int.mul_ediv_cancel_left _ hp
  have e3 : x / (wg x y : Int) = a := by
    conv => lhs; arg 1; rw [ha]
    exact Int.mul_ediv_cancel_left _ hp
  exact ⟨a, b, ha, hb, e1, e2, e3⟩
theorem mv_zero (x y : Int) : x * mvA x y + y * mvB x y = 0 := by
  have k : x * mvP x y + y * mvQ x y = 0 := by
    by_cases h : wg x y = 0
    · have hx : x = 0 := by
        apply Classical.byContradiction
        intro z
        exact wg_ne (.inl z) h
      have hy : y = 0 := by
        apply Classical.byContradiction
        intro z
        exact wg_ne (.inr z) h
      rw [hx, hy]
      simp
    · obtain ⟨a, b, h1, h2, h3, h4, _⟩ := mv_parts h
      rw [h3, h4]
      generalize (wg x y : Int) = g at *
      rw [h1, h2, Int.mul_neg, Int.mul_assoc, Int.mul_assoc, Int.mul_comm b a]
      omega
  unfold mvA mvB
  split
  · rw [Int.mul_neg, Int.mul_neg]
    omega
  · exact k
theorem mvP_le {x y : Int} (h : x ≠ 0 ∨ y ≠ 0) : (mvP x y).natAbs ≤ y.natAbs ∧ (mvQ x y).natAbs ≤ x.natAbs := by
  have g0 := wg_ne h
  obtain ⟨a, b, h1, h2, h3, h4, _⟩ := mv_parts g0
  rw [h3, h4, Int.natAbs_neg]
  generalize hg : wg x y = g at *
  constructor
  · rw [h2, Int.natAbs_mul, Int.natAbs_natCast]
    exact Nat.le_mul_of_pos_left _ (by omega)
  · rw [h1, Int.natAbs_mul, Int.natAbs_natCast]
    exact Nat.le_mul_of_pos_left _ (by omega)
theorem mvA_le {x y : Int} (h : x ≠ 0 ∨ y ≠ 0) : (mvA x y).natAbs ≤ y.natAbs ∧ (mvB x y).natAbs ≤ x.natAbs := by
  have k := mvP_le h
  unfold mvA mvB
  split
  · rw [Int.natAbs_neg, Int.natAbs_neg]; exact k
  · exact k
/-! ### the list of moves -/
def mvT (w : List Int) (h i t : Nat) : List (List Int) :=
  if w.getD i 0 ≠ 0 ∨ w.getD (i + h + t * h) 0 ≠ 0 then [[(i : Int), ((i + h + t * h : Nat) : Int), mvA (w.getD i 0) (w.getD (i + h + t * h) 0), mvB (w.getD i 0) (w.getD (i + h + t * h) 0)]] else []
def mvRow (w : List Int) (h i c : Nat) : List (List Int) := (List.range c).flatMap (mvT w h i)
def kc (n h i : Nat) : Nat := if i + h < n then (n - (i + h) - 1) / h + 1 else 0
def mvAll (w : List Int) (h m : Nat) : List (List Int) := (List.range m).flatMap fun i => mvRow w h i (kc w.length h i)
theorem mvRow_succ (w : List Int) (h i c : Nat) : mvRow w h i (c + 1) = mvRow w h i c ++ mvT w h i c := by
  unfold mvRow
  rw [List.range_succ, List.flatMap_append]
  simp
theorem mvAll_succ (w : List Int) (h m : Nat) : mvAll w h (m + 1) = mvAll w h m ++ mvRow w h m (kc w.length h m) := by
  unfold mvAll
  rw [List.range_succ, List.flatMap_append]
  simp
theorem kc_lt {n h i t : Nat} (h0 : 0 < h) (ht : t < kc n h i) : i + h + t * h < n := by
  unfold kc at ht
  split at ht
  · next hn =>
    have h1 : t ≤ (n - (i + h) - 1) / h := by omega
    have h2 : t * h ≤ (n - (i + h) - 1) := Nat.le_trans (Nat.mul_le_mul_right _ h1) (Nat.div_mul_le_self _ _)
    omega
  · omega
theorem kc_le (n h i : Nat) : kc n h i ≤ n / h + 1 := by
  unfold kc
  split
  · exact Nat.succ_le_succ (Nat.div_le_div_right (by omega))
  · exact Nat.zero_le _
theorem mvT_len (w : List Int) (h i t : Nat) : (mvT w h i t).length ≤ 1 := by
  unfold mvT
  split
  · exact Nat.le_refl _
  · exact Nat.zero_le _
theorem mvRow_len (w : List Int) (h i : Nat) : ∀ c, (mvRow w h i c).length ≤ c
  | 0 => by simp [mvRow]
  | c + 1 => by
    rw [mvRow_succ, List.length_append]
    have := mvRow_len w h i c
    have := mvT_len w h i c
    omega
theorem mvAll_len (w : List Int) (h : Nat) : ∀ m, (mvAll w h m).length ≤ m * (w.length / h + 1)
  | 0 => by simp [mvAll]
  | m + 1 => by
    rw [mvAll_succ, List.length_append, Nat.succ_mul]
    have h1 := mvAll_len w h m
    have h2 := mvRow_len w h m (kc w.length h m)
    have h3 := kc_le w.length h m
    omega
theorem mvAll_mem {w : List Int} {h m : Nat} (h0 : 0 < h) {r : List Int} (hr : r ∈ mvAll w h m) :
    ∃ i k : Nat, i < k ∧ k < w.length ∧ k % h = i % h ∧ (w.getD i 0 ≠ 0 ∨ w.getD k 0 ≠ 0) ∧ r = [(i : Int), (k : Int), mvA (w.getD i 0) (w.getD k 0), mvB (w.getD i 0) (w.getD k 0)] := by
  unfold mvAll mvRow at hr
  obtain ⟨i, hi, h2⟩ := List.mem_flatMap.mp hr
  obtain ⟨t, ht, h3⟩ := List.mem_flatMap.mp h2
  have h4 := kc_lt h0 (List.mem_range.mp ht)
  unfold mvT at h3
  split at h3
  · next hc =>
    refine ⟨i, i + h + t * h, by omega, h4, ?_, hc, List.mem_singleton.mp h3⟩
    rw [Nat.add_mul_mod_self_right, Nat.add_mod_right]
  · cases h3
/-! ### what moves leave -/
theorem set_getD {xs : List Int} {i : Nat} (hi : i < xs.length) (v : Int) (j : Nat) : (xs.set i v).getD j 0 = if j = i then v else xs.getD j 0 := by
  by_cases e : j = i
  · rw [if_pos e, e, getD_set_self hi]
  · rw [if_neg e, List.getD_eq_getElem?_getD, List.getElem?_set_ne (fun z => e z.symm), List.getD_eq_getElem?_getD]
theorem restS_set {w P : List Int} {i : Nat} (hi : i < P.length) (hl : P.length = w.length) (d : Int) (h r : Nat) :
    restS (mulL w (P.set i (P.getD i 0 + d))) h r = restS (mulL w P) h r + if i % h = r then w.getD i 0 * d else 0 := by
  unfold restS
  rw [mulL_len, mulL_len]
  have e : (if i % h = r then w.getD i 0 * d else 0) = sm w.length fun j => if j = i then (if i % h = r then w.getD i 0 * d else 0) else 0 := by
    rw [sm_one, if_pos (show i < w.length by omega)]
  rw [e, ← sm_add]
  apply sm_congr
  intro j _
  rw [mulL_getD, mulL_getD, set_getD hi]
  by_cases e : j = i
  · rw [if_pos e, if_pos e, e]
    by_cases e2 : i % h = r
    · rw [if_pos e2, if_pos e2, if_pos e2, Int.mul_add]
    · rw [if_neg e2, if_neg e2, if_neg e2]
      rfl
  · rw [if_neg e, if_neg e]
    omega
theorem move_keeps {w P : List Int} {i k h : Nat} (hl : P.length = w.length) (hi : i < w.length) (hk : k < w.length) (ne : i ≠ k) (hm : k % h = i % h) (c : Int) (r : Nat) :
    restS (mulL w ((P.set i (P.getD i 0 + c * mvA (w.getD i 0) (w.getD k 0))).set k ((P.set i (P.getD i 0 + c * mvA (w.getD i 0) (w.getD k 0))).getD k 0 + c * mvB (w.getD i 0) (w.getD k 0)))) h r = restS (mulL w P) h r := by
  rw [restS_set (by rw [List.length_set]; omega) (by rw [List.length_set]; exact hl), restS_set (by omega) hl, hm]
  by_cases e : i % h = r
  · rw [if_pos e, if_pos e]
    have z := mv_zero (w.getD i 0) (w.getD k 0)
    generalize mvA (w.getD i 0) (w.getD k 0) = a at *
    generalize mvB (w.getD i 0) (w.getD k 0) = b at *
    have z2 : c * (w.getD i 0 * a + w.getD k 0 * b) = 0 := by rw [z, Int.mul_zero]
    rw [Int.mul_add, Int.mul_left_comm, Int.mul_left_comm c] at z2
    omega
  · rw [if_neg e, if_neg e]
    omega
def freeL (w : List Int) (h : Nat) : List Nat := (List.range w.length).filter fun i => decide (gcdL (phase w h (i % h)) = 0)
theorem free_entry {w : List Int} {h i : Nat} (h0 : 0 < h) (hi : i < w.length) (hg : gcdL (phase w h (i % h)) = 0) : w.getD i 0 = 0 := by
  have hm : i % h < h := Nat.mod_lt _ h0
  have e : i % h + h * (i / h) = i := Nat.mod_add_div i h
  have hk : i / h < cnt w.length h (i % h) := (cnt_lt hm).mpr (by rw [e]; exact hi)
  have hg2 : (phase w h (i % h)).getD (i / h) 0 = w.getD i 0 := by rw [phase_getD hm, e]
  have hl : i / h < (phase w h (i % h)).length := by rw [phase_len]; exact hk
  have hmem : w.getD i 0 ∈ phase w h (i % h) := by
    rw [← hg2, List.getD_eq_getElem?_getD, List.getElem?_eq_getElem hl]
    exact List.getElem_mem hl
  have := gcdL_dvd hmem
  rw [hg] at this
  have := Nat.eq_zero_of_zero_dvd this
  omega
theorem free_keeps {w P : List Int} {i h : Nat} (h0 : 0 < h) (hl : P.length = w.length) (hi : i < w.length) (hg : gcdL (phase w h (i % h)) = 0) (d : Int) (r : Nat) :
    restS (mulL w (P.set i (P.getD i 0 + d))) h r = restS (mulL w P) h r := by
  rw [restS_set (by omega) hl, free_entry h0 hi hg]
  split <;> omega
theorem free_mem {w : List Int} {h i : Nat} (hi : i ∈ freeL w h) : i < w.length ∧ gcdL (phase w h (i % h)) = 0 := by
  unfold freeL at hi
  obtain ⟨h1, h2⟩ := List.mem_filter.mp hi
  exact ⟨List.mem_range.mp h1, of_decide_eq_true h2⟩
theorem filter_succ (f : Nat → Bool) (n : Nat) : (List.range (n + 1)).filter f = (List.range n).filter f ++ if f n = true then [n] else [] := by
  rw [List.range_succ, List.filter_append]
  congr 1
  cases hf : f n <;> simp [hf]
theorem filter_len_le (f : Nat → Bool) (n : Nat) : ((List.range n).filter f).length ≤ n := by
  have := List.length_filter_le f (List.range n)
  rwa [List.length_range] at this
/-- the least level's size -/
theorem lcm_zero {ds : List Nat} : ∀ (a : Nat), 0 ∈ ds → ds.foldl Nat.lcm a = 0 := by
  induction ds with
  | nil => intro a h; cases h
  | cons d ds ih =>
    intro a h
    show ds.foldl Nat.lcm (Nat.lcm a d) = 0
    rcases List.mem_cons.mp h with e | e
    · have hz : ∀ (ds : List Nat), ds.foldl Nat.lcm 0 = 0 := by
        intro ds
        induction ds with
        | nil => rfl
        | cons d ds ih => show ds.foldl Nat.lcm (Nat.lcm 0 d) = 0; rw [Nat.lcm_zero_left]; exact ih
      rw [← e, Nat.lcm_zero_right]
      exact hz ds
    · exact ih _ e
theorem lcm_small {w : List Int} {h b n : Nat} (hx : ∀ x ∈ w, x.natAbs < 2 ^ b) (hn : w.length ≤ n) (i : Nat) : lcmL ((rdL w h).take i) < 2 ^ (1 + (min h n) * b) := by
  by_cases e : h ≤ n
  · rw [Nat.min_eq_left e]
    exact lcmL_rd hx i
  · rw [Nat.min_eq_right (by omega)]
    by_cases e2 : i ≤ n
    · refine Nat.lt_of_lt_of_le (lcmL_lt (b := b) (fun d hd => ?_) i) (Nat.pow_le_pow_right (by decide) (Nat.add_le_add_left (Nat.mul_le_mul_right _ e2) _))
      obtain ⟨r, hr, rfl⟩ := mem_tab hd
      exact gcdL_lt fun x hx' => hx x (phase_mem hr hx')
    · have hz : lcmL ((rdL w h).take i) = 0 := by
        apply lcm_zero
        have g : ((rdL w h).take i)[n]? = some 0 := by
          rw [List.getElem?_take, if_pos (by omega)]
          unfold rdL
          rw [tab_get _ (by omega)]
          have : phase w h n = [] := by
            apply List.eq_nil_of_length_eq_zero
            rw [phase_len]
            have := (cnt_lt (n := w.length) (k := 0) (show n < h by omega)).mp
            apply Classical.byContradiction
            intro z
            have := this (by omega)
            omega
          rw [this]
          rfl
        exact List.mem_of_getElem? g
      rw [hz]
      exact Nat.two_pow_pos _
theorem mvRow_full {w : List Int} {h i : Nat} (hi : w.getD i 0 ≠ 0) : ∀ c, (mvRow w h i c).length = c
  | 0 => rfl
  | c + 1 => by
    rw [mvRow_succ, List.length_append, mvRow_full hi c]
    unfold mvT
    rw [if_pos (.inl hi)]
    rfl
theorem mvAll_full {w : List Int} {h : Nat} : ∀ m, (∀ i, i < m → w.getD i 0 ≠ 0) → (mvAll w h m).length = ((List.range m).map (kc w.length h)).sum
  | 0, _ => rfl
  | m + 1, hw => by
    rw [mvAll_succ, List.length_append, mvAll_full m (fun i hi => hw i (by omega)), mvRow_full (hw m (by omega)), List.range_succ, List.map_append, List.sum_append]
    simp
theorem move_count : (mvAll (List.replicate 200 1) 1 (List.replicate 200 (1 : Int)).length).length = 19900 := by
  rw [mvAll_full]
  · rw [List.length_replicate]
    decide +kernel
  · intro i hi
    rw [List.length_replicate] at hi
    rw [List.getD_eq_getElem?_getD, List.getElem?_replicate, if_pos hi]
    decide
theorem litM1 : mvAll [2, 3, 4, 1] 2 4 = [[0, 2, 2, -1], [1, 3, 1, -3]] := by decide +kernel
theorem litM2 : mvAll [0, 0, -4] 1 3 = [[0, 2, 1, 0], [1, 2, 1, 0]] := by decide +kernel
theorem litF1 : freeL [0, 5] 2 = [0] := by decide +kernel
theorem litF2 : freeL [1, 0, 1, 0] 2 = [1, 3] := by decide +kernel
theorem litF3 : freeL (List.replicate 199 0 ++ [1]) 200 = List.range 199 := by decide +kernel
end Mth
namespace Mth
open XR
theorem getD_lt {xs : List Int} {b : Nat} (hx : ∀ x ∈ xs, x.natAbs < 2 ^ b) (i : Nat) : (xs.getD i 0).natAbs < 2 ^ b := by
  by_cases h : i < xs.length
  · rw [List.getD_eq_getElem?_getD, List.getElem?_eq_getElem h]
    exact hx _ (List.getElem_mem h)
  · rw [getD_out (by omega)]
    exact Nat.two_pow_pos _
end Mth
namespace Mth
open XR
theorem tab_rep {α : Type} {m : Nat} {f : Nat → α} {v : α} (h : ∀ i, i < m → f i = v) : tab m f = List.replicate m v := by
  rw [tab_congr h]
  unfold tab
  exact List.map_const' .. |>.trans (by rw [List.length_range])
theorem freeL_succ (w : List Int) (h n : Nat) : ((List.range (n + 1)).filter fun i => decide (gcdL (phase w h (i % h)) = 0)) = ((List.range n).filter fun i => decide (gcdL (phase w h (i % h)) = 0)) ++ if gcdL (phase w h (n % h)) = 0 then [n] else [] := by
  rw [filter_succ]
  congr 1
  by_cases e : gcdL (phase w h (n % h)) = 0
  · rw [if_pos e, if_pos (decide_eq_true e)]
  · rw [if_neg e, if_neg (by simpa using e)]
theorem gcdL_wg (x y : Int) : gcdL [x, y] = wg x y := by
  unfold gcdL wg
  show Nat.gcd y.natAbs (Nat.gcd x.natAbs 0) = _
  rw [Nat.gcd_zero_right, Nat.gcd_comm]
end Mth
namespace Mth
open XR
theorem moves_ok {w : List Int} {h : Nat} (h0 : 0 < h) (hx : ∀ x ∈ w, x.natAbs < 2 ^ 100) (hl : w.length ≤ 1000) : ∀ m ∈ mvAll w h w.length, m.length = 4 ∧ ∀ x ∈ m, x.natAbs < 2 ^ 100 := by
  intro m hm
  obtain ⟨i, k, h1, h2, _, hc, rfl⟩ := mvAll_mem h0 hm
  refine ⟨rfl, fun x hx' => ?_⟩
  have b1 := getD_lt hx i
  have b2 := getD_lt hx k
  have b3 := mvA_le hc
  simp only [List.mem_cons, List.not_mem_nil, or_false] at hx'
  rcases hx' with e | e | e | e <;> rw [e] <;> omega
theorem free_ok {w : List Int} {h : Nat} (hl : w.length ≤ 1000) : ∀ x ∈ (freeL w h).map (fun i : Nat => (i : Int)), x.natAbs < 2 ^ 100 := by
  intro x hx
  obtain ⟨i, hi, rfl⟩ := List.mem_map.mp hx
  have := (free_mem hi).1
  rw [Int.natAbs_natCast]
  exact Nat.lt_of_lt_of_le (show i < 2 ^ 10 by omega) (Nat.pow_le_pow_right (by decide) (by decide))
theorem moves_few {w : List Int} {h : Nat} (hs : w.length ≤ 64 ∨ (40 ≤ h ∧ w.length ≤ 200)) : (mvAll w h w.length).length ≤ 4300 := by
  have l := mvAll_len w h w.length
  rcases hs with e | ⟨e, e2⟩
  · have l5 : w.length / h ≤ w.length := Nat.div_le_self _ _
    have l6 : w.length * (w.length / h + 1) ≤ 64 * 65 := Nat.mul_le_mul (by omega) (by omega)
    omega
  · have l5 : w.length / h ≤ 200 / 40 := Nat.le_trans (Nat.div_le_div_right e2) (Nat.div_le_div_left e (by decide))
    have l6 : w.length * (w.length / h + 1) ≤ 200 * 6 := Nat.mul_le_mul e2 (by omega)
    omega
theorem set_bound {xs : List Int} {i N : Nat} {v : Int} (h : ∀ x ∈ xs, x.natAbs < N) (hv : v.natAbs < N) : ∀ x ∈ xs.set i v, x.natAbs < N := by
  intro x hx
  rcases List.mem_or_eq_of_mem_set hx with e | e
  · exact h x e
  · rw [e]; exact hv
theorem getD_bound {xs : List Int} {N : Nat} (h0 : 0 < N) (h : ∀ x ∈ xs, x.natAbs < N) (i : Nat) : (xs.getD i 0).natAbs < N := by
  by_cases e : i < xs.length
  · rw [List.getD_eq_getElem?_getD, List.getElem?_eq_getElem e]
    exact h _ (List.getElem_mem e)
  · rw [getD_out (by omega)]
    exact h0
end Mth

/-! Lists of tuples of ints in the heap; ranges with a step up. -/
namespace GL
open PySem PySem.Spec PyProof.Rows L2 XR Mth
inductive Rows (H : Hp) : List V → List (List Int) → Prop
  | nil : Rows H [] []
  | cons {t : Addr} {vs : List V} {m : List Int} {ms : List (List Int)} : H t = some (.tup (m.map V.int)) → Rows H vs ms → Rows H (.ref t :: vs) (m :: ms)
theorem Rows.same {H H' : Hp} {vs : List V} {ms : List (List Int)} (s : Same H H') : Rows H vs ms → Rows H' vs ms := by
  intro h
  induction h with
  | nil => exact .nil
  | cons a _ ih => exact .cons (s _ _ a) ih
theorem Rows.upd {H : Hp} {p : Addr} {o : HO} {vs : List V} {ms : List (List Int)} {xs : List V} (hp : H p = some (.lst xs)) : Rows H vs ms → Rows (upd H p o) vs ms := by
  intro h
  induction h with
  | nil => exact .nil
  | @cons t vs m ms a _ ih =>
    refine .cons ?_ ih
    have ne : t ≠ p := by
      intro z
      rw [z, hp] at a
      cases a
    unfold L2.upd
    rw [if_neg ne]
    exact a
theorem Rows.snoc {H : Hp} {t : Addr} {m : List Int} {vs : List V} {ms : List (List Int)} (ht : H t = some (.tup (m.map V.int))) : Rows H vs ms → Rows H (vs ++ [.ref t]) (ms ++ [m]) := by
  intro h
  induction h with
  | nil => exact .cons ht .nil
  | cons a _ ih => exact .cons a ih
theorem Rows.len {H : Hp} {vs : List V} {ms : List (List Int)} (h : Rows H vs ms) : vs.length = ms.length := by
  induction h with
  | nil => rfl
  | cons a _ ih => simp [ih]
theorem Rows.get {H : Hp} {vs : List V} {ms : List (List Int)} (h : Rows H vs ms) : ∀ (i : Nat) (m : List Int), ms[i]? = some m → ∃ t, vs[i]? = some (.ref t) ∧ H t = some (.tup (m.map V.int)) := by
  induction h with
  | nil => intro i m e; cases e
  | @cons t vs m' ms a _ ih =>
    intro i m e
    match i, e with
    | 0, e => exact ⟨t, rfl, by rw [List.getElem?_cons_zero] at e; cases e; exact a⟩
    | i + 1, e => exact ih i m e
/-- the data of a list of tuples -/
def dT (ms : List (List Int)) : PyData := .list (ms.map fun m => .tuple (m.map PyData.int))
theorem Rows.dp {K : PySem.W.Frag} {H : Hp} {vs : List V} {ms : List (List Int)} (h : Rows H vs ms) : DpAll K H vs (ms.map fun m => PyData.tuple (m.map PyData.int)) := by
  induction h with
  | nil => exact .nil
  | @cons t vs m ms a _ ih => exact .cons (.tup (SqT.of a) (dpAll_ints K H m)) ih
theorem dp_dT {K : PySem.W.Frag} {H : Hp} {p : Addr} {vs : List V} {ms : List (List Int)} (hp : H p = some (.lst vs)) (h : Rows H vs ms) : Dp K H (.ref p) (dT ms) := .lst (SqL.of hp) h.dp
theorem Sh.rows {ms : List (List Int)} {k : Nat} (h : ∀ m ∈ ms, m.length = 4 ∧ ∀ x ∈ m, x.natAbs < 2 ^ k) (h0 : 0 < k) (h1 : k ≤ 1900) : Sh (dT ms) (ms.length * (4 * (k + 1) + 2 * 4 + 3) + 2 * ms.length + 3) 2 := by
  have s := Sh.list (ds := ms.map fun m => PyData.tuple (m.map PyData.int)) (m := 4 * (k + 1) + 2 * 4 + 3) (e := 1) fun d hd => by
    obtain ⟨m, hm, rfl⟩ := List.mem_map.mp hd
    obtain ⟨hl, hx⟩ := h m hm
    have s := Sh.tuple (ds := m.map PyData.int) (m := k + 1) (e := 0) fun d hd => by
      obtain ⟨x, hx', rfl⟩ := List.mem_map.mp hd
      exact Sh.int (hx x hx') h0 h1
    rw [List.length_map, hl] at s
    exact s
  rw [List.length_map] at s
  exact s
theorem RgC.up {i j c : Int} {n : Nat} (h1 : 0 ≤ i) (h2 : i < 2 ^ 30) (h3 : 0 ≤ j) (h4 : j < 2 ^ 30) (c1 : 0 < c) (c2 : c < 2 ^ 29) (hn : (n : Int) = if i < j then (j - i - 1) / c + 1 else 0) : RgC i j c n := by
  have e : Builtin.Range.rangeSize i j c = (n : Int) := by
    unfold Builtin.Range.rangeSize
    rw [if_pos c1, hn]
  have hle : (n : Int) ≤ 2 ^ 31 := by
    rw [hn]
    split
    · have := Int.ediv_le_self c (show 0 ≤ j - i - 1 by omega)
      omega
    · omega
  refine ⟨by omega, by omega, ?_, e⟩
  unfold Builtin.Range.small
  rw [e]
  simp only [Builtin.Range.rangeFitsLong, Bool.and_eq_true, Bool.or_eq_true, decide_eq_true_eq, beq_iff_eq, show c > 0 from c1, if_true]
  refine ⟨⟨⟨⟨⟨by omega, by omega⟩, ⟨by omega, by omega⟩⟩, ⟨by omega, by omega⟩⟩, ⟨by omega, by omega⟩⟩, .inr ⟨by omega, by omega⟩⟩
theorem canLay_rows (ms : List (List Int)) : (dT ms).canLay0 = true := by
  have c : ∀ ms : List (List Int), PyData.canLayAll0 (ms.map fun m => PyData.tuple (m.map PyData.int)) = true := by
    intro ms
    induction ms with
    | nil => simp [PyData.canLayAll0]
    | cons l ls ih => simp [PyData.canLayAll0, PyData.canLay0, PySem.W.canLayAll0_ints, ih]
  unfold dT
  simp only [PyData.canLay0]
  exact c ms
theorem depth_rows (ms : List (List Int)) : (dT ms).depth ≤ 4 := by
  have c : ∀ ms : List (List Int), PyData.depthAll (ms.map fun m => PyData.tuple (m.map PyData.int)) ≤ 3 := by
    intro ms
    induction ms with
    | nil => simp [PyData.depthAll]
    | cons l ls ih =>
      have := PySem.W.depthAll_ints l
      simp only [List.map_cons, PyData.depthAll, PyData.depth]
      omega
  have := c ms
  unfold dT
  simp only [PyData.depth]
  omega
/-- what is told: moves and free numbers -/
def dMF (ms : List (List Int)) (fs : List Int) : PyData := .list [dT ms, dI fs]
theorem shaped_MF (ms : List (List Int)) (fs : List Int) : SeqAt.shaped (dMF ms fs) = true := by
  have d1 := depth_rows ms
  have d2 := depth_dI fs
  show (PyData.canLay0 (dMF ms fs) && decide (PyData.depth (dMF ms fs) ≤ 64)) = true
  rw [Bool.and_eq_true]
  refine ⟨?_, decide_eq_true ?_⟩
  · simp only [dMF, PyData.canLay0, PyData.canLayAll0, canLay_rows, canLay_dI, Bool.and_self]
  · simp only [dMF, PyData.depth, PyData.depthAll]
    omega
theorem eqv_MF (ms : List (List Int)) (fs : List Int) : PyData.eqv (dMF ms fs) (dMF ms fs) = true := SeqAt.eqv_refl _ (SeqAt.canLay_of_shaped (shaped_MF ms fs))
end GL
namespace GL
open PySem PySem.Spec PyProof.Rows L2 XR Mth
theorem lex2 (p q : Int) : HT.lexLt [p, q] [0, 0] = (decide (p < 0) || (decide (p = 0) && decide (q < 0))) := by
  rw [HT.lexLt_cons, HT.lexLt_cons, HT.lexLt_nil_nil]
  by_cases e : p = 0
  · rw [if_pos e]
    by_cases e2 : q = 0
    · simp [e, e2]
    · simp [e, e2]
  · rw [if_neg e]
    simp [e]
end GL
namespace GL
open PySem PySem.Spec PyProof.Rows L2 XR Mth
theorem iteOr {c : Bool} {A B : Prop} (h1 : c = true → A) (h2 : c = false → B) : if c = true then A else B := by
  cases c with
  | true => exact h1 rfl
  | false => exact h2 rfl
theorem ne_of_b {x y : Int} (h : (!decide (V.int x = V.int y)) = true) : x ≠ y := by
  intro z
  rw [z] at h
  simp at h
theorem eq_of_b {x y : Int} (h : (!decide (V.int x = V.int y)) = false) : x = y := by
  have : decide (V.int x = V.int y) = true := by simpa using h
  exact V.int.inj (of_decide_eq_true this)
end GL
namespace GL
open PySem PySem.Spec PyProof.Rows L2 XR Mth
theorem Sh.MF {ms : List (List Int)} {fs : List Int} (hm : ∀ m ∈ ms, m.length = 4 ∧ ∀ x ∈ m, x.natAbs < 2 ^ 100) (h1 : ms.length ≤ 4300) (hf : ∀ x ∈ fs, x.natAbs < 2 ^ 100) (h2 : fs.length ≤ 1000) : Sh (dMF ms fs) 4000007 3 := by
  have s := Sh.list (ds := [dT ms, dI fs]) (m := 2000000) (e := 2) fun d hd => by
    rcases List.mem_cons.mp hd with e | hd
    · rw [e]
      exact (Sh.rows hm (by decide) (by decide)).mono (by omega) (Nat.le_refl _)
    · rw [List.mem_singleton.mp hd]
      exact (Sh.ints (n := 1000) hf (by decide) (by decide) h2).mono (by decide) (by decide)
  exact s.mono (show 2 * 2000000 + 2 * 2 + 3 ≤ 4000007 by decide) (Nat.le_refl _)
theorem dp_MF {K : PySem.W.Frag} {H : Hp} {t p q : Addr} {vs : List V} {ms : List (List Int)} {fs : List Int} (ht : H t = some (.lst [.ref p, .ref q])) (hp : H p = some (.lst vs)) (hr : Rows H vs ms) (hq : H q = some (.lst (fs.map V.int))) : Dp K H (.ref t) (dMF ms fs) :=
  .lst (SqL.of ht) (.cons (dp_dT hp hr) (.cons (dp_dI (SqL.of hq)) .nil))
theorem eqv_nil (ms : List (List Int)) : PyData.eqv (dT ms) (.list []) = decide (ms = []) := by
  cases ms with
  | nil => simp [dT, PyData.eqv, PyData.eqvAll]
  | cons m ms => simp [dT, PyData.eqv, PyData.eqvAll]
theorem shaped_nil : SeqAt.shaped (.list []) = true := by decide
theorem shaped_T (ms : List (List Int)) : SeqAt.shaped (dT ms) = true := by
  have d1 := depth_rows ms
  show (PyData.canLay0 (dT ms) && decide (PyData.depth (dT ms) ≤ 64)) = true
  rw [Bool.and_eq_true]
  exact ⟨canLay_rows ms, decide_eq_true (by omega)⟩
end GL
namespace GL
open PySem PySem.Spec PyProof.Rows L2 XR Mth
theorem Rows.but {H H' : Hp} {j : Addr} {xs : List V} {vs : List V} {ms : List (List Int)} (hj : H j = some (.lst xs)) (s : ∀ b o, b ≠ j → H b = some o → H' b = some o) : Rows H vs ms → Rows H' vs ms := by
  intro h
  induction h with
  | nil => exact .nil
  | @cons t vs m ms a _ ih =>
    refine .cons (s _ _ ?_ a) ih
    intro z
    rw [z, hj] at a
    cases a
theorem ne_nil_b {α : Type} [DecidableEq α] {xs : List α} (h : (!decide (xs = [])) = true) : xs ≠ [] := by
  intro z
  rw [z] at h
  simp at h
end GL
namespace GL
open PySem PySem.Spec PyProof.Rows L2 XR Mth
theorem map_getD {M : List Int} {i : Nat} (h : i < M.length) : (M.map V.int)[i]? = some (.int (M.getD i 0)) := by
  rw [List.getElem?_map, List.getD_eq_getElem?_getD, List.getElem?_eq_getElem h]
  rfl
end GL
namespace GL
open PySem PySem.Spec PyProof.Rows L2 XR Mth
theorem pick3a (x y z : Nat) {e : Nat} (he : e < 3) : ∃ m : Nat, ([V.int (1 + (x : Int)), V.int (1 + (y : Int)), V.int (1 + (z : Int))] : List V)[e]? = some (V.int (m : Int)) ∧ (m = 1 + x ∨ m = 1 + y ∨ m = 1 + z) := by
  have : e = 0 ∨ e = 1 ∨ e = 2 := by omega
  rcases this with e | e | e <;> subst e
  · exact ⟨1 + x, by rw [Int.natCast_add]; rfl, .inl rfl⟩
  · exact ⟨1 + y, by rw [Int.natCast_add]; rfl, .inr (.inl rfl)⟩
  · exact ⟨1 + z, by rw [Int.natCast_add]; rfl, .inr (.inr rfl)⟩
theorem rg_ints : rgV 0 199 = ((List.range 199).map fun i : Nat => (i : Int)).map V.int := by
  unfold rgV
  rw [List.map_map]
  apply List.map_congr_left
  intro i _
  show V.int (0 + (i : Int)) = V.int (i : Int)
  rw [Int.zero_add]
end GL

namespace XR
open PySem PySem.Spec PyProof.Rows L2
/-! ### loops and comprehensions over zip of two lists, the shorter one tells the end -/
theorem for_zipM {K : PySem.W.Frag} {a b : Addr} {xs ys : List V} {n : Nat} {g : TG} {tb : TS} {D : Ends} {σ : L2.St} {H : Hp} (hn : n = min xs.length ys.length) (Pv : Nat → L2.St → Hp → Prop) (h0 : Pv 0 σ H) (hq : ∀ i σ H, i ≤ n → Pv i σ H → SqL K H a xs ∧ SqL K H b ys)
    (hs : ∀ (i : Nat) (x y : V) (T : Addr) (σ : L2.St) (H : Hp), i < n → xs[i]? = some x → ys[i]? = some y → Pv i σ H → H T = none → g (.ref T) σ (upd H T (.tup [x, y])) fun σ2 H2 => tb { D with nx := Pv (i + 1), ct := Pv (i + 1), bk := D.nx } σ2 H2) (hd : ∀ σ H, Pv n σ H → D.nx σ H) :
    ∃ W : Nat → Nat → L2.St → Hp → Prop, (∃ m, W 0 m σ H) ∧ ∀ i m σ H, W i m σ H →
      ((Itz K a b).stop i H ∧ D.nx σ H) ∨ ((Itz K a b).go i H ∧ ∃ N : L2.St → Hp → Prop, (∀ σ' H', N σ' H' → ∃ m', m' < m ∧ W (i + 1) m' σ' H') ∧ ∀ v H', (Itz K a b).yld i H v H' → g v σ H' fun σ2 H2 => tb { D with nx := N, ct := N, bk := D.nx } σ2 H2) := by
  refine ⟨fun i m σ H => m = n - i ∧ i ≤ n ∧ Pv i σ H, ⟨n, rfl, Nat.zero_le _, h0⟩, ?_⟩
  rintro i m σ H ⟨rfl, hi, p⟩
  have q := hq i σ H hi p
  by_cases hlt : i < n
  · have l1 : i < xs.length := by omega
    have l2 : i < ys.length := by omega
    refine .inr ⟨⟨xs, ys, xs[i], ys[i], q.1, q.2, List.getElem?_eq_getElem l1, List.getElem?_eq_getElem l2⟩, Pv (i + 1), fun σ' H' p' => ⟨n - (i + 1), by omega, rfl, hlt, p'⟩, fun v H' y => ?_⟩
    obtain ⟨T, x', y', rfl, hT, rfl, f1, f2⟩ := y
    exact hs i x' y' T σ H hlt (f1 xs q.1) (f2 ys q.2) p hT
  · have e : i = n := by omega
    subst e
    refine .inl ⟨⟨xs, ys, q.1, q.2, ?_⟩, hd σ H p⟩
    by_cases hx : xs.length ≤ i
    · exact .inl hx
    · exact .inr (by omega)
theorem lc_zipM {K : PySem.W.Frag} {a b : Addr} {xs ys : List V} {n : Nat} {g : TG} {tt : TT} {te : TE} {vs : List Nat} {σ : L2.St} {H1 : Hp} {D : Addr} {Qd : Hp → Prop} (hn : n = min xs.length ys.length) (Pv : Nat → Hp → Prop) (h0 : Pv 0 (upd H1 D (.lst []))) (hl : ∀ i H, i ≤ n → Pv i H → SqL K H a xs ∧ SqL K H b ys)
    (hs : ∀ (i : Nat) (x y : V) (T : Addr) (H : Hp), i < n → xs[i]? = some x → ys[i]? = some y → Pv i H → H T = none → g (.ref T) (wipe σ vs) (upd H T (.tup [x, y])) fun σ2 H2 => wipe σ2 vs = wipe σ vs ∧ tt σ2 H2 fun b H3 =>
      if b = true then te σ2 H3 fun y H4 => ∃ acc, H4 D = some (.lst acc) ∧ acc.length < sizeLine ∧ Pv (i + 1) (upd H4 D (.lst (acc ++ [y]))) else Pv (i + 1) H3) (hd : ∀ H, Pv n H → Qd H) :
    ∃ W : Nat → Nat → Hp → Prop, (∃ m, W 0 m (upd H1 D (.lst []))) ∧ ∀ i m H, W i m H →
      ((Itz K a b).stop i H ∧ Qd H) ∨ ((Itz K a b).go i H ∧ ∃ Nx : Hp → Prop, (∀ H', Nx H' → ∃ m', m' < m ∧ W (i + 1) m' H') ∧ ∀ x H', (Itz K a b).yld i H x H' → g x (wipe σ vs) H' fun σ2 H2 => wipe σ2 vs = wipe σ vs ∧ tt σ2 H2 fun b H3 =>
        if b = true then te σ2 H3 fun y H4 => ∃ acc, H4 D = some (.lst acc) ∧ acc.length < sizeLine ∧ Nx (upd H4 D (.lst (acc ++ [y]))) else Nx H3) := by
  refine ⟨fun i m H => m = n - i ∧ i ≤ n ∧ Pv i H, ⟨n, rfl, Nat.zero_le _, h0⟩, ?_⟩
  rintro i m H ⟨rfl, hi, p⟩
  have q := hl i H hi p
  by_cases hlt : i < n
  · have l1 : i < xs.length := by omega
    have l2 : i < ys.length := by omega
    refine .inr ⟨⟨xs, ys, xs[i], ys[i], q.1, q.2, List.getElem?_eq_getElem l1, List.getElem?_eq_getElem l2⟩, Pv (i + 1), fun H' p' => ⟨n - (i + 1), by omega, rfl, hlt, p'⟩, fun x H' y => ?_⟩
    obtain ⟨T, x', y', rfl, hT, rfl, f1, f2⟩ := y
    exact hs i x' y' T H hlt (f1 xs q.1) (f2 ys q.2) p hT
  · have e : i = n := by omega
    subst e
    refine .inl ⟨⟨xs, ys, q.1, q.2, ?_⟩, hd H p⟩
    by_cases hx : xs.length ≤ i
    · exact .inl hx
    · exact .inr (by omega)
end XR

namespace XR
open PySem PySem.Spec PyProof.Rows L2
/-! ### a range that stands in a name, walked -/
def iRngV (te : TE) : TI := fun σ H R => te σ H fun x H1 => ∃ (a : Addr) (lo hi : Int), x = .ref a ∧ H1 a = some (.rng lo hi) ∧ (-(2 ^ 62) ≤ lo ∧ lo < 2 ^ 62 ∧ -(2 ^ 62) ≤ hi ∧ hi < 2 ^ 62) ∧ R (Itr lo (hi - lo).toNat) H1
theorem pi_rngV {X : Cx} {tg e : Expr} {te : TE} (he : PE X e te) : PI X tg e (iRngV te) := by
  refine ⟨fun pins s σ H R I h => ?_⟩
  refine thn (he.run pins s σ H _ I h) fun v s1 ⟨x, H1, I1, r1, q1⟩ => ?_
  obtain ⟨a, lo, hi, e, hq, ⟨h1, h2, h3, h4⟩, q⟩ := q1
  subst e
  cases r1
  obtain ⟨t, u, v, hr⟩ := (show ObjOk X.prog X.w H1 s1.heap a (.rng lo hi) from I1.hok a _ hq)
  refine wpAny_pyIter_range hr (small_one h1 h2 h3 h4) ?_
  refine ⟨s1.heap.objs.size, [s1.heap.objs.size], _, _, H1, rfl, I1.kept (t' := s1.toks) fun b o e => Heap.get?_push_of_some _ e, turn_range _ lo (hi - lo).toNat, ?_, fun b hb => ?_, q⟩
  · have e1 : lo + ((0 : Nat) : Int) * 1 = lo := by simp
    have e2 : (((hi - lo).toNat : Nat) : Int) - ((0 : Nat) : Int) = Builtin.Range.rangeSize lo hi 1 := by rw [rangeSize_one]; split <;> omega
    show IsRangeIter _ _ (lo + ((0 : Nat) : Int) * 1) ((((hi - lo).toNat : Nat) : Int) - ((0 : Nat) : Int)) 1
    rw [e1, e2]
    exact Heap.get?_push_size _ rfl
  · have e : b = s1.heap.objs.size := by simpa using hb
    subst e
    exact I1.fpOk (Nat.le_refl _) (I1.hok.fresh (Nat.le_refl _))
/-- the scope of the list comprehension that a def returns last -/
def retScope (s : Stmt) : Scope := match (defBody s).getLast? with
  | some (.Return (some (.ListComp _ _ sc _)) _) => sc
  | _ => defScope s
end XR

/-! enumerate(zip(a, b)) of two lists, walked: the zip's pair stays out, the enumerate's is taken apart. -/
namespace XZ
open PySem PyProof.Rows L2
abbrev ZG (h : Heap) (z TI TO : Addr) (f0 : Value) (f : Bool) : Prop :=
  h.get? z = some { cls := .type "zip", dict := none, data := .fields #[f0, .bool f, .bool false, .ref TI, .ref TO], slots := #[] }
section
variable {prog : Program} {w : World} {A : Around} {E : Value → Shared → Prop} {s : Shared}
theorem gone {a : Addr} {Q : Option Obj → Shared → Prop} (ho : s.heap.get? a = none) (h : Q none s) : wpAny (model prog w) A (loadIfAlive a) Q E s := by
  have h' : Q (s.heap.get? a) s := by rw [ho]; exact h
  exact fun _ _ _ => h'
/-- the pair that was handed out is no more -/
theorem free_gone {z TI TO T : Addr} {f : Bool} {Q : Bool → Shared → Prop} (hz : ZG s.heap z TI TO (rawInt T) f) (hT : s.heap.get? T = none) (hQ : Q true s) : wpAny (model prog w) A (Builtin.SmallTypes.ownedTupleIsFree (.ref z)) Q E s := by
  unfold Builtin.SmallTypes.ownedTupleIsFree
  refine wpAny_bind (wpAny_field hz rfl (x := rawInt T) rfl ?_)
  refine (show wpAny (model prog w) A (loadIfAlive ((T : Int).toNat) >>= _) Q E s from ?_)
  rw [Int.toNat_natCast]
  refine wpAny_bind (gone hT ?_)
  exact wpAny_pure hQ
theorem next_gone {z TI TO T i1 i2 l1 l2 : Addr} {f : Bool} {k1 k2 : Nat} {xs ys : Array Value} {x y a b : Value} {Q : Value → Shared → Prop} (D : ZipApart z TI TO i1 i2 l1 l2) (hz : ZG s.heap z TI TO (rawInt T) f) (hT : s.heap.get? T = none)
    (hTI : IsPair s.heap TI (.ref i1) (.ref i2)) (hTO : IsPair s.heap TO a b) (h1 : s.heap.IsListIter i1 l1 k1) (h2 : s.heap.IsListIter i2 l2 k2) (hl1 : s.heap.IsList l1 xs) (hl2 : s.heap.IsList l2 ys) (hx : xs[k1]? = some x) (hy : ys[k2]? = some y)
    (hQ : ∀ h', ZG h' z TI TO (rawInt s.heap.objs.size) false → IsPair h' TO x y → h'.IsListIter i1 l1 (k1 + 1) → h'.IsListIter i2 l2 (k2 + 1) → IsPair h' s.heap.objs.size x y → h'.objs.size = s.heap.objs.size + 1 →
      (∀ c o, c ≠ z → c ≠ TO → c ≠ i1 → c ≠ i2 → s.heap.get? c = some o → h'.get? c = some o) → Q (.ref s.heap.objs.size) { s with heap := h' }) :
    wpAny (model prog w) A (Builtin.«zip.__next__» ⟨[.ref z], []⟩) (fun fin s' => ∃ v, fin = .done (.ret v) ∧ Q v s') E s := by
  refine (show wpAny (model prog w) A (field (.ref z) 2 >>= _) _ E s from wpAny_bind (wpAny_field hz rfl (x := .bool false) rfl ?_))
  refine (show wpAny (model prog w) A (field (.ref z) 3 >>= _) _ E s from wpAny_bind (wpAny_field hz rfl (x := .ref TI) rfl ?_))
  refine wpAny_bind (wpAny_seqItems hTI rfl (show wpAny (model prog w) A (Builtin.SmallTypes.ownedTupleIsFree (.ref z) >>= _) _ E s from wpAny_bind (free_gone hz hT ?_)))
  simp only [if_true]
  refine wpAny_bind (wpAny_rule (wpAny_bind (wpAny_field hz rfl (x := .ref TO) rfl (wpAny_bind (wpAny_setField_rec hz (by simp) fun p1 zp1 sp1 => ?_)))))
  replace zp1 : ZG p1 z TI TO .ellipsis f := zp1
  refine wpAny_bind ?_
  simp only [List.zipIdx_cons, List.zipIdx_nil, List.forIn_cons, List.forIn_nil]
  refine wpAny_bind (wpAny_bind (wpAny_onRaise (show wpAny (model prog w) A (Builtin.SmallTypes.nextOf (.ref i1) >>= _) _ _ _ from ?_)))
  refine wpAny_bind (wpAny_nextOf_list_item (h1.extBut sp1.extBut D.i1z) (hl1.extBut sp1.extBut D.l1z) hx fun p2 it2 sp2 => wpAny_pure ?_)
  have to2 : IsPair p2 TO a b := sp2.extBut _ _ D.TOi1 (sp1.extBut _ _ D.TOz hTO)
  refine wpAny_bind (wpAny_seqItems to2 rfl (wpAny_bind (wpAny_updateSeq_pair to2 fun p3 to3 sp3 => ?_)))
  replace to3 : IsPair p3 TO x b := to3
  refine wpAny_bind (wpAny_letGo (wpAny_pure (wpAny_bind (wpAny_bind (wpAny_onRaise (show wpAny (model prog w) A (Builtin.SmallTypes.nextOf (.ref i2) >>= _) _ _ _ from ?_))))))
  refine wpAny_bind (wpAny_nextOf_list_item (((h2.extBut sp1.extBut D.i2z).extBut sp2.extBut D.i12.symm).extBut sp3.extBut D.TOi2.symm) (((hl2.extBut sp1.extBut D.l2z).extBut sp2.extBut D.l2i1).extBut sp3.extBut D.l2TO) hy fun p4 it4 sp4 => wpAny_pure ?_)
  have to4 : IsPair p4 TO x b := sp4.extBut _ _ D.TOi2 to3
  refine wpAny_bind (wpAny_seqItems to4 rfl (wpAny_bind (wpAny_updateSeq_pair to4 fun p5 to5 sp5 => ?_)))
  replace to5 : IsPair p5 TO x y := to5
  refine wpAny_bind (wpAny_letGo (wpAny_pure (wpAny_pure (wpAny_bind (wpAny_seqItems to5 rfl (wpAny_bind (wpAny_newTuple ?_)))))))
  have sz5 : p5.objs.size = s.heap.objs.size := by rw [sp5.1, sp4.1, sp3.1, sp2.1, sp1.1]
  have z5 : ZG p5 z TI TO .ellipsis f := sp5.extBut _ _ D.TOz.symm (sp4.extBut _ _ D.i2z.symm (sp3.extBut _ _ D.TOz.symm (sp2.extBut _ _ D.i1z.symm zp1)))
  have k5 : ∀ c o, c ≠ z → c ≠ TO → c ≠ i1 → c ≠ i2 → s.heap.get? c = some o → p5.get? c = some o := fun c o n1 n2 n3 n4 q =>
    sp5.extBut _ _ n2 (sp4.extBut _ _ n4 (sp3.extBut _ _ n2 (sp2.extBut _ _ n3 (sp1.extBut _ _ n1 q))))
  have a5 : p5.IsListIter i1 l1 (k1 + 1) := ((it2.extBut sp3.extBut D.TOi1.symm).extBut sp4.extBut D.i12).extBut sp5.extBut D.TOi1.symm
  have b5 : p5.IsListIter i2 l2 (k2 + 1) := it4.extBut sp5.extBut D.TOi2.symm
  have zl : z < p5.objs.size := Heap.lt_size z5
  refine (show wpAny (model prog w) A (Builtin.SmallTypes.ownedTupleHandOut (.ref z) (.ref p5.objs.size) >>= _) _ E _ from wpAny_bind ?_)
  unfold Builtin.SmallTypes.ownedTupleHandOut
  have z6 : ZG (p5.push { cls := .type "tuple", data := .seq #[x, y] }) z TI TO .ellipsis f := Heap.get?_push_of_some _ z5
  refine wpAny_bind (wpAny_setField_rec z6 (by simp) fun p7 z7 sp7 => ?_)
  replace z7 : ZG p7 z TI TO (rawInt p5.objs.size) f := z7
  refine wpAny_setField_rec z7 (by simp) fun p8 z8 sp8 => ?_
  replace z8 : ZG p8 z TI TO (rawInt p5.objs.size) false := z8
  have up : ∀ c o, c ≠ z → p5.get? c = some o → p8.get? c = some o := fun c o n1 q => sp8.extBut _ _ n1 (sp7.extBut _ _ n1 (Heap.get?_push_of_some _ q))
  have t8 : IsPair p8 p5.objs.size x y := sp8.extBut _ _ (Nat.ne_of_gt zl) (sp7.extBut _ _ (Nat.ne_of_gt zl) (Heap.get?_push_size _ rfl))
  have sz8 : p8.objs.size = p5.objs.size + 1 := by rw [sp8.1, sp7.1, Heap.size_push]
  rw [sz5] at z8 t8 sz8
  refine wpAny_pure ⟨_, rfl, (show Q (.ref p5.objs.size) _ from ?_)⟩
  rw [sz5]
  exact hQ p8 z8 (up _ _ D.TOz to5) (a5.at fun o q => up _ o D.i1z q) (b5.at fun o q => up _ o D.i2z q) t8 sz8 fun c o n1 n2 n3 n4 q => up c o n1 (k5 c o n1 n2 n3 n4 q)
theorem end_gone {z TI TO T i1 i2 l1 l2 : Addr} {f : Bool} {k1 k2 : Nat} {xs ys : Array Value} {a b : Value} {Q : Fin → Shared → Prop} (hh : A.handled = none) (D : ZipApart z TI TO i1 i2 l1 l2) (hz : ZG s.heap z TI TO (rawInt T) f) (hT : s.heap.get? T = none)
    (hTI : IsPair s.heap TI (.ref i1) (.ref i2)) (hTO : IsPair s.heap TO a b) (h1 : s.heap.IsListIter i1 l1 k1) (h2 : s.heap.IsListIter i2 l2 k2) (hl1 : s.heap.IsList l1 xs) (hl2 : s.heap.IsList l2 ys) (hend : xs[k1]? = none ∨ ys[k2]? = none)
    (hE : ∀ h' e, (∀ c o, c ≠ z → c ≠ TO → c ≠ i1 → c ≠ i2 → s.heap.get? c = some o → h'.get? c = some o) → (∃ o, h'.get? e = some o ∧ o.cls = .type "StopIteration") → E (.ref e) { s with heap := h' }) :
    wpAny (model prog w) A (Builtin.«zip.__next__» ⟨[.ref z], []⟩) Q E s := by
  refine (show wpAny (model prog w) A (field (.ref z) 2 >>= _) _ E s from wpAny_bind (wpAny_field hz rfl (x := .bool false) rfl ?_))
  refine (show wpAny (model prog w) A (field (.ref z) 3 >>= _) _ E s from wpAny_bind (wpAny_field hz rfl (x := .ref TI) rfl ?_))
  refine wpAny_bind (wpAny_seqItems hTI rfl (show wpAny (model prog w) A (Builtin.SmallTypes.ownedTupleIsFree (.ref z) >>= _) _ E s from wpAny_bind (free_gone hz hT ?_)))
  simp only [if_true]
  refine wpAny_bind (wpAny_rule (wpAny_bind (wpAny_field hz rfl (x := .ref TO) rfl (wpAny_bind (wpAny_setField_rec hz (by simp) fun p1 zp1 sp1 => ?_)))))
  replace zp1 : ZG p1 z TI TO .ellipsis f := zp1
  refine wpAny_bind ?_
  simp only [List.zipIdx_cons, List.zipIdx_nil, List.forIn_cons, List.forIn_nil]
  refine wpAny_bind (wpAny_bind (wpAny_onRaise (show wpAny (model prog w) A (Builtin.SmallTypes.nextOf (.ref i1) >>= _) _ _ _ from ?_)))
  cases hx : xs[k1]? with
  | none =>
    refine wpAny_bind (wpAny_nextOf_list_end hh (h1.extBut sp1.extBut D.i1z) (hl1.extBut sp1.extBut D.l1z) hx fun p2 e xp2 he => ?_)
    obtain ⟨oe, hoe, hce⟩ := he
    have z2 : ZG p2 z TI TO .ellipsis f := xp2 _ _ D.i1z.symm zp1
    have ne : e ≠ z := fun q => by subst q; rw [z2] at hoe; cases hoe; simp at hce
    refine wpAny_setField_rec z2 (by simp) fun p3 _ sp3 => hE p3 e (fun c o n1 _ n3 _ q => sp3.extBut _ _ n1 (xp2 _ _ n3 (sp1.extBut _ _ n1 q))) ⟨oe, sp3.extBut _ _ ne hoe, hce⟩
  | some x =>
    have hy : ys[k2]? = none := hend.resolve_left (by rw [hx]; exact fun q => nomatch q)
    refine wpAny_bind (wpAny_nextOf_list_item (h1.extBut sp1.extBut D.i1z) (hl1.extBut sp1.extBut D.l1z) hx fun p2 it2 sp2 => wpAny_pure ?_)
    have to2 : IsPair p2 TO a b := sp2.extBut _ _ D.TOi1 (sp1.extBut _ _ D.TOz hTO)
    refine wpAny_bind (wpAny_seqItems to2 rfl (wpAny_bind (wpAny_updateSeq_pair to2 fun p3 to3 sp3 => wpAny_bind (wpAny_letGo (wpAny_pure ?_)))))
    refine wpAny_bind (wpAny_bind (wpAny_onRaise (show wpAny (model prog w) A (Builtin.SmallTypes.nextOf (.ref i2) >>= _) _ _ _ from ?_)))
    refine wpAny_bind (wpAny_nextOf_list_end hh (((h2.extBut sp1.extBut D.i2z).extBut sp2.extBut D.i12.symm).extBut sp3.extBut D.TOi2.symm) (((hl2.extBut sp1.extBut D.l2z).extBut sp2.extBut D.l2i1).extBut sp3.extBut D.l2TO) hy fun p4 e xp4 he => ?_)
    obtain ⟨oe, hoe, hce⟩ := he
    have z4 : ZG p4 z TI TO .ellipsis f := xp4 _ _ D.i2z.symm (sp3.extBut _ _ D.TOz.symm (sp2.extBut _ _ D.i1z.symm zp1))
    have ne : e ≠ z := fun q => by subst q; rw [z4] at hoe; cases hoe; simp at hce
    refine wpAny_setField_rec z4 (by simp) fun p5 _ sp5 => hE p5 e (fun c o n1 n2 n3 n4 q => sp5.extBut _ _ n1 (xp4 _ _ n4 (sp3.extBut _ _ n2 (sp2.extBut _ _ n3 (sp1.extBut _ _ n1 q))))) ⟨oe, sp5.extBut _ _ ne hoe, hce⟩
/-- the zip as it stands: no pair out, or one that may have gone -/
def ZS (h : Heap) (z TI TO : Addr) : Prop := ZG h z TI TO .none false ∨ ∃ (T : Addr) (f : Bool), ZG h z TI TO (rawInt T) f
theorem znext {z TI TO i1 i2 l1 l2 : Addr} {k1 k2 : Nat} {xs ys : Array Value} {x y a b : Value} {Q : Value → Shared → Prop} (D : ZipApart z TI TO i1 i2 l1 l2) (hz : ZS s.heap z TI TO)
    (hTI : IsPair s.heap TI (.ref i1) (.ref i2)) (hTO : IsPair s.heap TO a b) (h1 : s.heap.IsListIter i1 l1 k1) (h2 : s.heap.IsListIter i2 l2 k2) (hl1 : s.heap.IsList l1 xs) (hl2 : s.heap.IsList l2 ys) (hx : xs[k1]? = some x) (hy : ys[k2]? = some y)
    (hQ : ∀ h', ZS h' z TI TO → (∃ a b, IsPair h' TO a b) → h'.IsListIter i1 l1 (k1 + 1) → h'.IsListIter i2 l2 (k2 + 1) → IsPair h' s.heap.objs.size x y → h'.objs.size = s.heap.objs.size + 1 →
      (∀ c o, c ≠ z → c ≠ TO → c ≠ i1 → c ≠ i2 → s.heap.get? c = some o → h'.get? c = some o) → Q (.ref s.heap.objs.size) { s with heap := h' }) :
    wpAny (model prog w) A (Builtin.«zip.__next__» ⟨[.ref z], []⟩) (fun fin s' => ∃ v, fin = .done (.ret v) ∧ Q v s') E s := by
  rcases hz with hz | ⟨T, f, hz⟩
  · exact zip_next_item D hz hTI hTO h1 h2 hl1 hl2 hx hy fun h' a1 a2 a3 a4 a5 a6 a7 => hQ h' (.inr ⟨_, _, a1⟩) ⟨_, _, a2⟩ a3 a4 a5 a6 a7
  · cases hT : s.heap.get? T with
    | none => exact next_gone D hz hT hTI hTO h1 h2 hl1 hl2 hx hy fun h' a1 a2 a3 a4 a5 a6 a7 => hQ h' (.inr ⟨_, _, a1⟩) ⟨_, _, a2⟩ a3 a4 a5 a6 a7
    | some oT => exact zip_next_item_held D hz hT hTI h1 h2 hl1 hl2 hx hy fun h' a1 a3 a4 a5 a6 a7 => hQ h' (.inr ⟨_, _, a1⟩) ⟨a, b, a7 _ _ D.TOz D.TOi1 D.TOi2 hTO⟩ a3 a4 a5 a6 fun c o n1 _ n3 n4 q => a7 c o n1 n3 n4 q
theorem zend {z TI TO i1 i2 l1 l2 : Addr} {k1 k2 : Nat} {xs ys : Array Value} {a b : Value} {Q : Fin → Shared → Prop} (hh : A.handled = none) (D : ZipApart z TI TO i1 i2 l1 l2) (hz : ZS s.heap z TI TO)
    (hTI : IsPair s.heap TI (.ref i1) (.ref i2)) (hTO : IsPair s.heap TO a b) (h1 : s.heap.IsListIter i1 l1 k1) (h2 : s.heap.IsListIter i2 l2 k2) (hl1 : s.heap.IsList l1 xs) (hl2 : s.heap.IsList l2 ys) (hend : xs[k1]? = none ∨ ys[k2]? = none)
    (hE : ∀ h' e, (∀ c o, c ≠ z → c ≠ TO → c ≠ i1 → c ≠ i2 → s.heap.get? c = some o → h'.get? c = some o) → (∃ o, h'.get? e = some o ∧ o.cls = .type "StopIteration") → E (.ref e) { s with heap := h' }) :
    wpAny (model prog w) A (Builtin.«zip.__next__» ⟨[.ref z], []⟩) Q E s := by
  rcases hz with hz | ⟨T, f, hz⟩
  · exact zip_next_end hh D hz hTI hTO h1 h2 hl1 hl2 hend hE
  · cases hT : s.heap.get? T with
    | none => exact end_gone hh D hz hT hTI hTO h1 h2 hl1 hl2 hend hE
    | some oT => exact zip_next_end_held hh D hz hT hTI h1 h2 hl1 hl2 hend fun h' e k q => hE h' e (fun c o n1 _ n3 n4 r => k c o n1 n3 n4 r) q
theorem ZS.keep {h h' : Heap} {z TI TO : Addr} (a : ZS h z TI TO) (k : ∀ o, h.get? z = some o → h'.get? z = some o) : ZS h' z TI TO := by
  rcases a with q | ⟨T, f, q⟩
  · exact .inl (k _ q)
  · exact .inr ⟨T, f, k _ q⟩
theorem ZS.there {h : Heap} {z TI TO : Addr} (a : ZS h z TI TO) : ∃ vs, h.get? z = some { cls := .type "zip", dict := none, data := .fields vs, slots := #[] } := by
  rcases a with q | ⟨T, f, q⟩
  · exact ⟨_, q⟩
  · exact ⟨_, q⟩
structure EzApart (e z TI TO i1 i2 l1 l2 : Addr) : Prop where
  zip : ZipApart z TI TO i1 i2 l1 l2
  ez : e ≠ z
  eTI : e ≠ TI
  eTO : e ≠ TO
  ei1 : e ≠ i1
  ei2 : e ≠ i2
  el1 : e ≠ l1
  el2 : e ≠ l2
/-- one turn: a new pair of the number and the zip's new pair -/
theorem eznext {e z TI TO i1 i2 l1 l2 : Addr} {k1 k2 : Nat} {c : Int} {xs ys : Array Value} {x y a b old : Value} {Q : Value → Shared → Prop} (D : EzApart e z TI TO i1 i2 l1 l2) (he : IsEnum s.heap e z c old) (hz : ZS s.heap z TI TO)
    (hTI : IsPair s.heap TI (.ref i1) (.ref i2)) (hTO : IsPair s.heap TO a b) (h1 : s.heap.IsListIter i1 l1 k1) (h2 : s.heap.IsListIter i2 l2 k2) (hl1 : s.heap.IsList l1 xs) (hl2 : s.heap.IsList l2 ys) (hx : xs[k1]? = some x) (hy : ys[k2]? = some y)
    (hQ : ∀ h', IsEnumOut h' e z (c + 1) (.ref s.heap.objs.size) (s.heap.objs.size + 1) → ZS h' z TI TO → (∃ a b, IsPair h' TO a b) → h'.IsListIter i1 l1 (k1 + 1) → h'.IsListIter i2 l2 (k2 + 1) → IsPair h' s.heap.objs.size x y →
      h'.get? (s.heap.objs.size + 1) = some { cls := .type "tuple", data := .seq #[.int c s.toks, .ref s.heap.objs.size] } → h'.objs.size = s.heap.objs.size + 2 →
      (∀ c o, c ≠ e → c ≠ z → c ≠ TO → c ≠ i1 → c ≠ i2 → s.heap.get? c = some o → h'.get? c = some o) → Q (.ref (s.heap.objs.size + 1)) { s with heap := h', toks := s.toks + 1 }) :
    wpAny (model prog w) A (Builtin.«enumerate.__next__» ⟨[.ref e], []⟩) (fun fin s' => ∃ v, fin = .done (.ret v) ∧ Q v s') E s := by
  obtain ⟨hp, g, d, tk, os⟩ := s
  dsimp only at *
  have hTy : ∀ t', (⟨hp, g, d, t', os⟩ : Shared).TypeIs (.ref z) "zip" := fun t' => by
    obtain ⟨vs, q⟩ := hz.there
    exact ⟨_, q, rfl⟩
  refine (show wpAny (model prog w) A (field (.ref e) 2 >>= _) _ E _ from wpAny_bind (wpAny_field he rfl (x := .ref z) rfl ?_))
  refine wpAny_bind ?_
  unfold Builtin.SmallTypes.nextOf
  refine wpAny_bind (wpAny_callSpecial?_slot (name := Str.ofString "__next__") (hTy _) F.slot_zip_next (wpAny_call_entry F.slot_zip_next (hTy _) F.entry_zip_next (znext D.zip hz hTI hTO h1 h2 hl1 hl2 hx hy fun p1 z1 to1 a1 b1 t1 sz1 k1' => wpAny_pure ?_) (F.args_zip_next_1 _)))
  dsimp only at *
  have he1 : IsEnum p1 e z c old := k1' _ _ D.ez D.eTO D.ei1 D.ei2 he
  refine (show wpAny (model prog w) A (field (.ref e) 3 >>= _) _ E ⟨p1, g, d, tk, os⟩ from wpAny_bind (wpAny_field he1 rfl (x := rawInt c) rfl ?_))
  refine (show wpAny (model prog w) A (field (.ref e) 4 >>= _) _ E ⟨p1, g, d, tk, os⟩ from wpAny_bind (wpAny_field he1 rfl (x := .none) rfl ?_))
  refine (show wpAny (model prog w) A (mkInt c >>= _) _ E ⟨p1, g, d, tk, os⟩ from wpAny_bind (wpAny_mkInt ?_))
  refine (show wpAny (model prog w) A (setField (.ref e) 3 (rawInt (c + 1)) >>= _) _ E ⟨p1, g, d, tk + 1, os⟩ from wpAny_bind (wpAny_setField_rec he1 (by simp) fun p2 he2 sp2 => ?_))
  replace sp2 : Heap.SameBut e p1 p2 := sp2
  replace he2 : IsEnum p2 e z (c + 1) old := he2
  refine (show wpAny (model prog w) A (setField (.ref e) 4 .none >>= _) _ E ⟨p2, g, d, tk + 1, os⟩ from wpAny_bind (wpAny_setField_rec he2 (by simp) fun p3 he3 sp3 => ?_))
  replace sp3 : Heap.SameBut e p2 p3 := sp3
  replace he3 : IsEnum p3 e z (c + 1) old := he3
  refine (show wpAny (model prog w) A (newTuple [.int c tk, .ref hp.objs.size] >>= _) _ E ⟨p3, g, d, tk + 1, os⟩ from wpAny_bind (wpAny_newTuple ?_))
  have sz3 : p3.objs.size = hp.objs.size + 1 := by rw [sp3.1, sp2.1, sz1]
  have he4 : IsEnum (p3.push { cls := .type "tuple", data := .seq #[.int c tk, .ref hp.objs.size] }) e z (c + 1) old := Heap.get?_push_of_some _ he3
  have t4 : (p3.push { cls := .type "tuple", data := .seq #[.int c tk, .ref hp.objs.size] }).get? p3.objs.size = some { cls := .type "tuple", data := .seq #[.int c tk, .ref hp.objs.size] } := Heap.get?_push_size _ rfl
  have sz4 : (p3.push { cls := .type "tuple", data := .seq #[.int c tk, .ref hp.objs.size] }).objs.size = p3.objs.size + 1 := Heap.size_push ..
  have k4 : ∀ q o, q ≠ e → p1.get? q = some o → (p3.push { cls := .type "tuple", data := .seq #[.int c tk, .ref hp.objs.size] }).get? q = some o := fun q o n1 r => Heap.get?_push_of_some _ (sp3.extBut _ _ n1 (sp2.extBut _ _ n1 r))
  rw [sz3] at t4 sz4
  refine (show wpAny (model prog w) A (Builtin.SmallTypes.ownedTupleIsFree (.ref e) >>= _) _ E ⟨_, g, d, tk + 1, os⟩ from wpAny_bind ?_)
  rw [sz3]
  generalize p3.push { cls := .type "tuple", data := .seq #[.int c tk, .ref hp.objs.size] } = p4 at *
  unfold Builtin.SmallTypes.ownedTupleIsFree
  refine wpAny_bind (wpAny_field he4 rfl (x := .none) rfl (wpAny_pure ?_))
  simp only [if_true]
  refine wpAny_bind (wpAny_rule (wpAny_bind (wpAny_field he4 rfl (x := old) rfl (wpAny_bind (wpAny_setField_rec he4 (by simp) fun p5 he5 sp5 => ?_)))))
  replace sp5 : Heap.SameBut e p4 p5 := sp5
  replace he5 : IsEnum p5 e z (c + 1) (.ref hp.objs.size) := he5
  refine (show wpAny (model prog w) A (Builtin.SmallTypes.ownedTupleHandOut (.ref e) (.ref (hp.objs.size + 1)) >>= _) _ E ⟨p5, g, d, tk + 1, os⟩ from wpAny_bind ?_)
  unfold Builtin.SmallTypes.ownedTupleHandOut
  refine wpAny_bind (wpAny_setField_rec he5 (by simp) fun p6 he6 sp6 => ?_)
  replace sp6 : Heap.SameBut e p5 p6 := sp6
  replace he6 : IsEnumOut p6 e z (c + 1) (.ref hp.objs.size) (hp.objs.size + 1) := he6
  refine wpAny_setField_rec he6 (by simp) fun p7 he7 sp7 => ?_
  replace sp7 : Heap.SameBut e p6 p7 := sp7
  replace he7 : IsEnumOut p7 e z (c + 1) (.ref hp.objs.size) (hp.objs.size + 1) := he7
  have k7 : ∀ q o, q ≠ e → p4.get? q = some o → p7.get? q = some o := fun q o n1 r => sp7.extBut _ _ n1 (sp6.extBut _ _ n1 (sp5.extBut _ _ n1 r))
  have k17 : ∀ q o, q ≠ e → p1.get? q = some o → p7.get? q = some o := fun q o n1 r => k7 q o n1 (k4 q o n1 r)
  have el : e < hp.objs.size := Heap.lt_size he
  obtain ⟨ta, tb, to1⟩ := to1
  refine wpAny_bind (wpAny_letGo (wpAny_pure ⟨_, rfl, hQ p7 he7 (z1.keep fun o r => k17 z o D.ez.symm r) ⟨ta, tb, k17 TO _ D.eTO.symm to1⟩ (a1.at fun o r => k17 i1 o D.ei1.symm r) (b1.at fun o r => k17 i2 o D.ei2.symm r) (k17 _ _ (Nat.ne_of_gt el) t1) (k7 _ _ (Nat.ne_of_gt (Nat.lt_succ_of_lt el)) t4) ?_ ?_⟩))
  · rw [sp7.1, sp6.1, sp5.1, sz4]
  · exact fun q o n1 n2 n3 n4 n5 r => k17 q o n1 (k1' q o n2 n3 n4 n5 r)
end
section
variable {prog : Program} {w : World} {A : Around} {E : Value → Shared → Prop} {s : Shared}
theorem eznext_py {e z TI TO i1 i2 l1 l2 : Addr} {k1 k2 : Nat} {c : Int} {xs ys : Array Value} {x y a b old : Value} {Q : Option Value → Shared → Prop} (D : EzApart e z TI TO i1 i2 l1 l2) (he : IsEnum s.heap e z c old) (hz : ZS s.heap z TI TO)
    (hTI : IsPair s.heap TI (.ref i1) (.ref i2)) (hTO : IsPair s.heap TO a b) (h1 : s.heap.IsListIter i1 l1 k1) (h2 : s.heap.IsListIter i2 l2 k2) (hl1 : s.heap.IsList l1 xs) (hl2 : s.heap.IsList l2 ys) (hx : xs[k1]? = some x) (hy : ys[k2]? = some y)
    (hQ : ∀ h', IsEnumOut h' e z (c + 1) (.ref s.heap.objs.size) (s.heap.objs.size + 1) → ZS h' z TI TO → (∃ a b, IsPair h' TO a b) → h'.IsListIter i1 l1 (k1 + 1) → h'.IsListIter i2 l2 (k2 + 1) → IsPair h' s.heap.objs.size x y →
      h'.get? (s.heap.objs.size + 1) = some { cls := .type "tuple", data := .seq #[.int c s.toks, .ref s.heap.objs.size] } → h'.objs.size = s.heap.objs.size + 2 →
      (∀ c o, c ≠ e → c ≠ z → c ≠ TO → c ≠ i1 → c ≠ i2 → s.heap.get? c = some o → h'.get? c = some o) → Q (some (.ref (s.heap.objs.size + 1))) { s with heap := h', toks := s.toks + 1 }) :
    wpAny (model prog w) A (pyNext (.ref e)) Q E s := by
  have hTy : s.TypeIs (.ref e) "enumerate" := ⟨_, he, rfl⟩
  unfold pyNext
  exact wpAny_bind (wpAny_attempt (wpAny_callSpecial?_slot (name := Str.ofString "__next__") hTy F.slot_enumerate_next (wpAny_call_entry F.slot_enumerate_next hTy F.entry_enumerate_next
      (eznext D he hz hTI hTO h1 h2 hl1 hl2 hx hy fun h' q1 q2 q3 q4 q5 q6 q7 q8 q9 => wpAny_pure (hQ h' q1 q2 q3 q4 q5 q6 q7 q8 q9)) (F.args_enumerate_next_1 _))))
theorem ezend_py {e z TI TO i1 i2 l1 l2 : Addr} {k1 k2 : Nat} {c : Int} {xs ys : Array Value} {a b old : Value} {Q : Option Value → Shared → Prop} (hh : A.handled = none) (D : EzApart e z TI TO i1 i2 l1 l2) (he : IsEnum s.heap e z c old) (hz : ZS s.heap z TI TO)
    (hTI : IsPair s.heap TI (.ref i1) (.ref i2)) (hTO : IsPair s.heap TO a b) (h1 : s.heap.IsListIter i1 l1 k1) (h2 : s.heap.IsListIter i2 l2 k2) (hl1 : s.heap.IsList l1 xs) (hl2 : s.heap.IsList l2 ys) (hend : xs[k1]? = none ∨ ys[k2]? = none)
    (hQ : ∀ h', (∀ c o, c ≠ z → c ≠ TO → c ≠ i1 → c ≠ i2 → s.heap.get? c = some o → h'.get? c = some o) → Q none { s with heap := h' }) :
    wpAny (model prog w) A (pyNext (.ref e)) Q E s := by
  have hTy : s.TypeIs (.ref e) "enumerate" := ⟨_, he, rfl⟩
  have hTz : s.TypeIs (.ref z) "zip" := by
    obtain ⟨vs, q⟩ := hz.there
    exact ⟨_, q, rfl⟩
  unfold pyNext
  refine wpAny_bind (wpAny_attempt (wpAny_callSpecial?_slot (name := Str.ofString "__next__") hTy F.slot_enumerate_next (wpAny_call_entry F.slot_enumerate_next hTy F.entry_enumerate_next ?_ (F.args_enumerate_next_1 _))))
  refine (show wpAny (model prog w) _ (field (.ref e) 2 >>= _) _ _ _ from wpAny_bind (wpAny_field he rfl (x := .ref z) rfl (wpAny_bind ?_)))
  unfold Builtin.SmallTypes.nextOf
  refine wpAny_bind (wpAny_callSpecial?_slot (name := Str.ofString "__next__") hTz F.slot_zip_next (wpAny_call_entry F.slot_zip_next hTz F.entry_zip_next (zend hh D.zip hz hTI hTO h1 h2 hl1 hl2 hend fun h' x k q => ?_) (F.args_zip_next_1 _)))
  obtain ⟨o, ho, hc⟩ := q
  exact wpAny_bind (wpAny_isInstance (T := "StopIteration") (b := true) ⟨o, ho, hc⟩ isSubtype_stop (wpAny_pure (hQ _ k)))
end
/-- the numbers with the pairs of the lists at a and b as they stand at each turn -/
def Itez (K : PySem.W.Frag) (a b : Addr) : It :=
  ⟨fun i H => ∃ (xs ys : List V) (x y : V), SqL K H a xs ∧ SqL K H b ys ∧ xs[i]? = some x ∧ ys[i]? = some y,
    fun i H v H' => ∃ T1 T2 x y, v = .ref T1 ∧ H T2 = none ∧ upd H T2 (.tup [x, y]) T1 = none ∧ H' = upd (upd H T2 (.tup [x, y])) T1 (.tup [.int (i : Nat), .ref T2]) ∧ (∀ xs, SqL K H a xs → xs[i]? = some x) ∧ ∀ ys, SqL K H b ys → ys[i]? = some y,
    fun i H => ∃ xs ys : List V, SqL K H a xs ∧ SqL K H b ys ∧ (xs.length ≤ i ∨ ys.length ≤ i)⟩
theorem turn_ez {P : Program} {w : World} {K : PySem.W.Frag} {elts : List Expr} {kk : Nat} {tpos : Pos} {a b e z TI TO i1 i2 : Addr} (D : EzApart e z TI TO i1 i2 a b) :
    Turn P w K (.Tuple elts kk tpos) (Itez K a b) [e, z, TI, TO, i1, i2] e (fun i h => (∃ old, IsEnum h e z ((i : Nat) : Int) old) ∧ ZS h z TI TO ∧ IsPair h TI (.ref i1) (.ref i2) ∧ (∃ x y, IsPair h TO x y) ∧ h.IsListIter i1 a i ∧ h.IsListIter i2 b i) where
  mem := by simp
  obj := fun i h st c hc => by
    obtain ⟨⟨old, he⟩, hz, hTI, ⟨x, y, hTO⟩, ⟨o1, e1, _, d1⟩, ⟨o2, e2, _, d2⟩⟩ := st
    have e' : c = e ∨ c = z ∨ c = TI ∨ c = TO ∨ c = i1 ∨ c = i2 := by simpa using hc
    rcases e' with q | q | q | q | q | q
    · rw [q]; exact ⟨_, he, fun v q => nomatch q⟩
    · obtain ⟨vs, hz⟩ := hz.there
      rw [q]; exact ⟨_, hz, fun v q => nomatch q⟩
    · rw [q]; exact ⟨_, hTI, fun v q => nomatch q⟩
    · rw [q]; exact ⟨_, hTO, fun v q => nomatch q⟩
    · rw [q]; exact ⟨o1, e1, fun v q => by rw [d1] at q; cases q⟩
    · rw [q]; exact ⟨o2, e2, fun v q => by rw [d2] at q; cases q⟩
  keep := fun i h h' st k => by
    obtain ⟨⟨old, he⟩, hz, hTI, ⟨x, y, hTO⟩, h1, h2⟩ := st
    exact ⟨⟨old, k e (by simp) _ he⟩, hz.keep fun o q => k z (by simp) o q, k TI (by simp) _ hTI, ⟨x, y, k TO (by simp) _ hTO⟩, h1.at fun o q => k i1 (by simp) o q, h2.at fun o q => k i2 (by simp) o q⟩
  item := by
    intro X hP hw hK hc i pins s σ H E I hf st hg
    subst hP hw hK
    obtain ⟨⟨old, he⟩, hz, hTI, ⟨x0, y0, hTO⟩, h1, h2⟩ := st
    obtain ⟨xs, ys, x, y, hqx, hqy, hx, hy⟩ := hg
    obtain ⟨its, rv, p, _⟩ := I.list hqx
    obtain ⟨its2, rv2, p2, _⟩ := I.list hqy
    obtain ⟨u, hu, ru⟩ := rv.get hx
    obtain ⟨u2, hu2, ru2⟩ := rv2.get hy
    have hel : e < s.heap.objs.size := Heap.lt_size he
    refine eznext_py D he hz hTI hTO h1 h2 p.isList p2.isList (x := u) (y := u2) (by simpa using hu) (by simpa using hu2) fun h' ho z' TO' h1' h2' hT2 hT1 hsz hk => ?_
    refine ⟨_, rfl, wpAny_letOwnedTupleGo_enum (s := { s with heap := h', toks := s.toks + 1 }) ho fun h'' he' sb => ?_⟩
    have t2 : h''.get? s.heap.objs.size = some { cls := .type "tuple", data := .seq #[u, u2] } := (sb.2 _ (Nat.ne_of_gt hel)).trans hT2
    have t1 : h''.get? (s.heap.objs.size + 1) = some { cls := .type "tuple", data := .seq #[.int i s.toks, .ref s.heap.objs.size] } := (sb.2 _ (Nat.ne_of_gt (Nat.lt_succ_of_lt hel))).trans hT1
    obtain ⟨G, g1, g2⟩ := restrict h'' fun b => decide (b ≠ s.heap.objs.size + 1)
    have gk : ∀ b o, b ≠ s.heap.objs.size + 1 → h''.get? b = some o → G.get? b = some o := fun b o hb q => by
      rw [g1 b (decide_eq_true hb)]
      exact q
    have ga : G.get? (s.heap.objs.size + 1) = none := g2 _ (decide_eq_false fun q => q rfl)
    have gs : ∀ b o, G.get? b = some o → h''.get? b = some o := fun b o q => by
      by_cases hb : b = s.heap.objs.size + 1
      · rw [hb, ga] at q
        cases q
      · rw [g1 b (decide_eq_true hb)] at q
        exact q
    have new2 : ObjOk X.prog X.w (upd H s.heap.objs.size (.tup [x, y])) G s.heap.objs.size (.tup [x, y]) :=
      ⟨by show 2 ≤ sizeLine; decide, [u, u2], .cons ru (.cons ru2 .nil), ⟨_, gk _ _ (by omega) t2, rfl, _, rfl⟩⟩
    have kk1 : ∀ b o, b ∉ [e, z, TI, TO, i1, i2] → s.heap.get? b = some o → h''.get? b = some o := fun b o hb q => (sb.2 b (fun q' => hb (by simp [q']))).trans (hk b o (fun q' => hb (by simp [q'])) (fun q' => hb (by simp [q'])) (fun q' => hb (by simp [q'])) (fun q' => hb (by simp [q'])) (fun q' => hb (by simp [q'])) q)
    have I1 : Inv X pins σ (upd H s.heap.objs.size (.tup [x, y])) { s with heap := G } :=
      I.turnedNew (t' := s.toks) (ch := [e, z, TI, TO, i1, i2]) (fun b o hb q => gk b o (Nat.ne_of_lt (Nat.lt_succ_of_lt (Heap.lt_size q))) (kk1 b o hb q)) hf (Nat.le_refl _) new2
    have n1 : upd H s.heap.objs.size (.tup [x, y]) (s.heap.objs.size + 1) = none := by
      rw [upd_ne (Nat.succ_ne_self _)]
      exact I.hok.fresh (Nat.le_succ _)
    have new1 : ObjOk X.prog X.w (upd (upd H s.heap.objs.size (.tup [x, y])) (s.heap.objs.size + 1) (.tup [.int (i : Nat), .ref s.heap.objs.size])) h'' (s.heap.objs.size + 1) (.tup [.int (i : Nat), .ref s.heap.objs.size]) :=
      ⟨by show 2 ≤ sizeLine; decide, [.int i s.toks, .ref s.heap.objs.size], .cons ⟨_, rfl⟩ (.cons rfl .nil), ⟨_, t1, rfl, _, rfl⟩⟩
    have I2 : Inv X pins σ (upd (upd H s.heap.objs.size (.tup [x, y])) (s.heap.objs.size + 1) (.tup [.int (i : Nat), .ref s.heap.objs.size])) { s with heap := h'', toks := s.toks + 1 } :=
      I1.laidN gs ga n1 new1
    refine ⟨.ref (s.heap.objs.size + 1), _, I2, rfl, ⟨s.heap.objs.size + 1, s.heap.objs.size, x, y, rfl, I.hok.fresh (Nat.le_refl _), n1, rfl, fun l hl => by rw [I.list_inj hl hqx]; exact hx, fun l hl => by rw [I.list_inj hl hqy]; exact hy⟩, ⟨⟨.ref s.heap.objs.size, ?_⟩, z'.keep fun o q => (sb.2 z D.ez.symm).trans q, ?_, ?_, ?_, ?_⟩, fun c hcm => ?_⟩
    · have e1 : ((i + 1 : Nat) : Int) = (i : Int) + 1 := by omega
      rw [e1]; exact he'
    · exact (sb.2 _ D.eTI.symm).trans (hk _ _ D.eTI.symm D.zip.TIz D.zip.TITO D.zip.TIi1 D.zip.TIi2 hTI)
    · obtain ⟨ta, tb, q⟩ := TO'
      exact ⟨ta, tb, (sb.2 _ D.eTO.symm).trans q⟩
    · exact h1'.at fun o q => (sb.2 _ D.ei1.symm).trans q
    · exact h2'.at fun o q => (sb.2 _ D.ei2.symm).trans q
    · have hlt : c < s.heap.objs.size := by
        obtain ⟨vs, hz⟩ := hz.there
        have e' : c = e ∨ c = z ∨ c = TI ∨ c = TO ∨ c = i1 ∨ c = i2 := by simpa using hcm
        rcases e' with q | q | q | q | q | q
        · rw [q]; exact hel
        · rw [q]; exact Heap.lt_size hz
        · rw [q]; exact Heap.lt_size hTI
        · rw [q]; exact Heap.lt_size hTO
        · rw [q]; obtain ⟨_, e1, _⟩ := h1; exact Heap.lt_size e1
        · rw [q]; obtain ⟨_, e1, _⟩ := h2; exact Heap.lt_size e1
      rw [upd_ne (Nat.ne_of_lt (Nat.lt_succ_of_lt hlt)), upd_ne (Nat.ne_of_lt hlt)]
      exact (hf c hcm).1
  done := by
    intro X hP hw hK hc i pins s σ H E I hf st hg
    subst hP hw hK
    obtain ⟨⟨old, he⟩, hz, hTI, ⟨x0, y0, hTO⟩, h1, h2⟩ := st
    obtain ⟨xs, ys, hqx, hqy, hend⟩ := hg
    obtain ⟨its, rv, p, _⟩ := I.list hqx
    obtain ⟨its2, rv2, p2, _⟩ := I.list hqy
    have l1 := rv.length
    have l2 := rv2.length
    have hen : its.toArray[i]? = none ∨ its2.toArray[i]? = none := by
      rcases hend with q | q
      · exact .inl (by simp; omega)
      · exact .inr (by simp; omega)
    exact ezend_py (I.ok.hd hc) D he hz hTI hTO h1 h2 p.isList p2.isList hen fun h' hk => ⟨rfl, I.turnedL (t' := s.toks) (ch := [e, z, TI, TO, i1, i2]) (fun c o hb q =>
      hk c o (fun q' => hb (by simp [q'])) (fun q' => hb (by simp [q'])) (fun q' => hb (by simp [q'])) (fun q' => hb (by simp [q'])) q) hf⟩
  self := fun A i s Q E st h => let ⟨⟨_, he⟩, _⟩ := st; wpAny_pyIter_enum he h
set_option maxHeartbeats 1000000 in
theorem meets_ez (z TI TO : Addr) :
    Meets (Builtin.«enumerate.__new__» ⟨[.type "enumerate", .ref z], []⟩) (fun _ R s => IsZip s.heap z TI TO .none ∧
      R (.ok (.ret (.ref s.heap.objs.size))) { s with heap := s.heap.push { cls := .type "enumerate", data := .fields #[.none, .bool false, .ref z, rawInt 0, .none, .none] } }) :=
  .of_wp fun prog w A R s h => by
    obtain ⟨hp, g, d, tk, os⟩ := s; obtain ⟨h1, h⟩ := h
    have hsub := sub_enumerate
    have q1 : ∀ {A' : Around} {E : Value → Shared → Prop} {Q : Value → Shared → Prop}, Q (.ref z) ⟨hp, g, d, tk, os⟩ → wpAny (model prog w) A' (pyIter (.ref z)) Q E ⟨hp, g, d, tk, os⟩ := fun q => wpAny_pyIter_zip h1 q
    wp_walk using q1
    refine wpAny_stack_any fun st => wpAny_pure ?_
    split
    · rename_i c _ _ _ _ _
      cases (c == Value.type "enumerate") <;> (wp_walk using q1; exact ⟨_, rfl, h⟩)
    · (wp_walk using q1; exact ⟨_, rfl, h⟩)
section
variable {prog : Program} {w : World} {A : Around} {E : Value → Shared → Prop} {s : Shared}
theorem call_ez {z TI TO : Addr} {Q : Value → Shared → Prop} (hz : IsZip s.heap z TI TO .none)
    (h : ∀ h', IsEnum h' s.heap.objs.size z 0 .none → h'.objs.size = s.heap.objs.size + 1 → (∀ b o, s.heap.get? b = some o → h'.get? b = some o) → Q (.ref s.heap.objs.size) { s with heap := h' }) :
    wpAny (model prog w) A (call (.type "enumerate") [.ref z]) Q E s := by
  refine callType_new F.called_enumerate (by decide) (F.typeCall_enumerate_1 _) (F.newCall_enumerate_1 _) (fun obj => F.args_object_init_2 obj _) F.entry_enumerate_new (meets_ez z TI TO) ⟨hz, ?_⟩
  have he : IsEnum (s.heap.push { cls := .type "enumerate", data := .fields #[.none, .bool false, .ref z, rawInt 0, .none, .none] }) s.heap.objs.size z 0 .none := Heap.get?_push_size _ rfl
  exact ⟨⟨_, he, rfl⟩, h _ he (Heap.size_push ..) fun b o q => Heap.get?_push_of_some _ q⟩
end
def iEnumZip (K : PySem.W.Frag) (ta : TA) : TI := fun σ H R => ta σ H fun vs H1 => ∃ a b xs ys, vs = [.ref a, .ref b] ∧ SqL K H1 a xs ∧ SqL K H1 b ys ∧ R (Itez K a b) H1
theorem pi_enumZip {X : Cx} {e e2 : Expr} {ta : TA} {p p2 pos pos2 tpos : Pos} {elts : List Expr} {kk : Nat} (hg : Gl X "enumerate") (hm : X.mg "enumerate" = none) (hg2 : Gl X "zip") (hm2 : X.mg "zip" = none) (ha : PA X [e, e2] ta)
    (hs : starEach [.Call (.Name "zip" p2) [e, e2] [] pos2] X.env = [(false, eval (.Call (.Name "zip" p2) [e, e2] [] pos2) X.env)] := by rfl)
    (hs2 : starEach [e, e2] X.env = (false, eval e X.env) :: starEach [e2] X.env := by rfl) (hpl : (backTo pos2 (starEach [e2] X.env)).any (·.1) = false := by rfl) :
    PI X (.Tuple elts kk tpos) (.Call (.Name "enumerate" p) [.Call (.Name "zip" p2) [e, e2] [] pos2] [] pos) (iEnumZip X.K ta) := by
  refine ⟨fun pins s σ H R I h => ?_⟩
  refine Call_ (ld_blt I hg hm boot_enumerate (PyProof.Rows.callWith_type1 ?_ hs rfl))
  rw [hs]
  show wpAny _ _ (spliced ((false, eval (.Call (.Name "zip" p2) [e, e2] [] pos2) X.env) :: backTo pos [])) _ _ s
  refine Calls.spliced_cons (Call_ (ld_blt I hg2 hm2 PyProof.Rows.boot_zip (PyProof.Rows.callWith_type1 (thn (ha.run pos2 pins s σ H _ I h) fun us s1 ⟨vs, H1, I1, r1, q1⟩ => ?_) hs2 hpl)))
  obtain ⟨a, b, xs, ys, ex, hqx, hqy, q⟩ := q1
  subst ex
  cases r1 with
  | cons r rr =>
    cases rr with
    | cons r' rr =>
      cases rr
      cases r
      cases r'
      obtain ⟨its, rv, p1, _⟩ := I1.list hqx
      obtain ⟨its2, rv2, p2, _⟩ := I1.list hqy
      have la : a < s1.heap.objs.size := p1.lt
      have lb : b < s1.heap.objs.size := p2.lt
      refine call_zip_2 p1.isList p2.isList fun h' hz hTI hTO h1 h2 hsz hk => Calls.spliced_nil (call_ez (s := { s1 with heap := h' }) hz fun h'' he hsz2 hk2 => wpAny_pyIter_enum he ?_)
      have I2 : Inv X pins σ H1 { s1 with heap := h'' } := I1.kept (t' := s1.toks) fun b o q => hk2 b o (hk b o q)
      have D : EzApart h'.objs.size (s1.heap.objs.size + 4) (s1.heap.objs.size + 2) (s1.heap.objs.size + 3) s1.heap.objs.size (s1.heap.objs.size + 1) a b := by
        rw [hsz]
        exact ⟨PySem.W.ktu_apart s1.heap.objs.size a b la lb, Nat.ne_of_gt (Nat.lt_succ_self _), Nat.ne_of_gt (Nat.add_lt_add_left (by decide) _), Nat.ne_of_gt (Nat.add_lt_add_left (by decide) _), Nat.ne_of_gt (Nat.lt_add_of_pos_right (by decide)), Nat.ne_of_gt (Nat.add_lt_add_left (by decide) _), Nat.ne_of_gt (Nat.lt_add_right 5 la), Nat.ne_of_gt (Nat.lt_add_right 5 lb)⟩
      refine ⟨h'.objs.size, [h'.objs.size, s1.heap.objs.size + 4, s1.heap.objs.size + 2, s1.heap.objs.size + 3, s1.heap.objs.size, s1.heap.objs.size + 1], _, _, H1, rfl, I2, turn_ez D, ⟨⟨.none, he⟩, .inl (hk2 _ _ hz), hk2 _ _ hTI, ⟨_, _, hk2 _ _ hTO⟩, h1.at fun o q => hk2 _ o q, h2.at fun o q => hk2 _ o q⟩, fun c hcm => ?_, q⟩
      have e' : c = h'.objs.size ∨ c = s1.heap.objs.size + 4 ∨ c = s1.heap.objs.size + 2 ∨ c = s1.heap.objs.size + 3 ∨ c = s1.heap.objs.size ∨ c = s1.heap.objs.size + 1 := by simpa using hcm
      have hle : s1.heap.objs.size ≤ c := by
        rcases e' with z | z | z | z | z | z
        · rw [z, hsz]; exact Nat.le_add_right _ _
        · rw [z]; exact Nat.le_add_right _ _
        · rw [z]; exact Nat.le_add_right _ _
        · rw [z]; exact Nat.le_add_right _ _
        · rw [z]; exact Nat.le_refl _
        · rw [z]; exact Nat.le_add_right _ _
      exact I1.fpOk hle (I1.hok.fresh hle)
theorem for_ez {K : PySem.W.Frag} {a b : Addr} {xs ys : List V} {n : Nat} {g : TG} {tb : TS} {D : Ends} {σ : L2.St} {H : Hp} (hn : n = min xs.length ys.length) (Pv : Nat → L2.St → Hp → Prop) (h0 : Pv 0 σ H) (hq : ∀ i σ H, i ≤ n → Pv i σ H → SqL K H a xs ∧ SqL K H b ys)
    (hs : ∀ (i : Nat) (x y : V) (T1 T2 : Addr) (σ : L2.St) (H : Hp), i < n → xs[i]? = some x → ys[i]? = some y → Pv i σ H → H T2 = none → upd H T2 (.tup [x, y]) T1 = none → g (.ref T1) σ (upd (upd H T2 (.tup [x, y])) T1 (.tup [.int (i : Nat), .ref T2])) fun σ2 H2 => tb { D with nx := Pv (i + 1), ct := Pv (i + 1), bk := D.nx } σ2 H2) (hd : ∀ σ H, Pv n σ H → D.nx σ H) :
    ∃ W : Nat → Nat → L2.St → Hp → Prop, (∃ m, W 0 m σ H) ∧ ∀ i m σ H, W i m σ H →
      ((Itez K a b).stop i H ∧ D.nx σ H) ∨ ((Itez K a b).go i H ∧ ∃ N : L2.St → Hp → Prop, (∀ σ' H', N σ' H' → ∃ m', m' < m ∧ W (i + 1) m' σ' H') ∧ ∀ v H', (Itez K a b).yld i H v H' → g v σ H' fun σ2 H2 => tb { D with nx := N, ct := N, bk := D.nx } σ2 H2) := by
  refine ⟨fun i m σ H => m = n - i ∧ i ≤ n ∧ Pv i σ H, ⟨n, rfl, Nat.zero_le _, h0⟩, ?_⟩
  rintro i m σ H ⟨rfl, hi, p⟩
  have q := hq i σ H hi p
  by_cases hlt : i < n
  · have l1 : i < xs.length := by omega
    have l2 : i < ys.length := by omega
    refine .inr ⟨⟨xs, ys, xs[i], ys[i], q.1, q.2, List.getElem?_eq_getElem l1, List.getElem?_eq_getElem l2⟩, Pv (i + 1), fun σ' H' p' => ⟨n - (i + 1), by omega, rfl, hlt, p'⟩, fun v H' y => ?_⟩
    obtain ⟨T1, T2, x', y', rfl, hT2, hT1, rfl, f1, f2⟩ := y
    exact hs i x' y' T1 T2 σ H hlt (f1 xs q.1) (f2 ys q.2) p hT2 hT1
  · have e : i = n := by omega
    subst e
    refine .inl ⟨⟨xs, ys, q.1, q.2, ?_⟩, hd σ H p⟩
    by_cases hx : xs.length ≤ i
    · exact .inl hx
    · exact .inr (by omega)
end XZ

/-! sorted(set(xs)), xs a list of ints; a dict comprehension over a list. -/
namespace L2
open PySem PySem.Spec PyProof.Rows
section
variable {prog : Program} {w : World} {A : Around} {R : Result → Shared → Prop} {I : Addr} {fp wr : List Addr} {G : Array GenState → Array GenState → Prop} {n : Nat} {P : Nat → Value → Prop} {St : Nat → Shared → Prop}
/-- the items from the i-th on go into the set -/
theorem fill_loop (Wk : WalksS prog w A.in1 I fp wr G n P St) (Z : Addr) (nZ : Z ∉ fp) (vl : Nat → Int) (hvl : ∀ j v, P j v → ∃ tk, v = .int (vl j) tk) (room : n + 1 < scanBound) :
    ∀ (d i c : Nat) (s : Shared) (T : Int → Bool), n - i = d → i ≤ n → c ≤ i → St i s → SetR w s.heap Z T c →
      (∀ s1 T1 c1, Moved (Z :: wr) G s s1 → SetR w s1.heap Z T1 c1 → c1 ≤ n → (∀ k, T1 k = true ↔ T k = true ∨ ∃ j, i ≤ j ∧ j < n ∧ vl j = k) → R (.ok (.ret .none)) s1) →
      codeAny (model prog w) A (.builtin "set.update.loop" ⟨[.ref Z, .ref I], []⟩) R s := by
  have sub1 : ∀ b ∈ wr, b ∈ Z :: wr := fun b z => List.mem_cons_of_mem _ z
  have nZw : Z ∉ wr := fun z => nZ (Wk.sub _ z)
  intro d
  induction d with
  | zero =>
    intro i c s T e1 e2 e3 st RZ fin
    obtain rfl : i = n := by omega
    refine codeAny_builtin PyProof.Rows.F.entry_set_update_loop ?_
    rw [Around.under_plainId PyProof.Rows.F.plain_set_update_loop _]
    refine (show wpAny _ A.in1 (pyNext (.ref I) >>= _) _ _ s from wpAny_bind (Wk.done s _ _ st fun s1 mv => ?_))
    refine (show wpAny _ A.in1 (ret Value.none) _ _ s1 from wpAny_pure (fin s1 T c (mv.mono sub1) (RZ.at fun o z => mv.heap Z o nZw z) e3 fun k => ⟨.inl, fun z => z.elim id fun ⟨j, a, b, _⟩ => ?_⟩))
    omega
  | succ d ih =>
    intro i c s T e1 e2 e3 st RZ fin
    have lt : i < n := by omega
    refine codeAny_builtin PyProof.Rows.F.entry_set_update_loop ?_
    rw [Around.under_plainId PyProof.Rows.F.plain_set_update_loop _]
    refine (show wpAny _ A.in1 (pyNext (.ref I) >>= _) _ _ s from wpAny_bind (Wk.item i s _ _ lt st fun v s1 pv st1 mv => ?_))
    obtain ⟨tk, rfl⟩ := hvl i v pv
    have RZ1 : SetR w s1.heap Z T c := RZ.at fun o z => mv.heap Z o nZw z
    refine (show wpAny _ A.in1 (holding [Value.int (vl i) tk] (setAdd Z (.int (vl i) tk)) >>= _) _ _ s1 from wpAny_bind (wpAny_holding ?_))
    unfold setAdd
    refine wpAny_holding (wpAny_bind ((intKind prog w).pyHash (k := vl i) (intKind_is _ _ _ _) ?_))
    refine setR_add_hashed (s := { s1 with toks := s1.toks + 1 }) RZ1 (by omega) fun h2 sb RZ2 => ?_
    refine wpAny_pure ⟨plainId_quiet PyProof.Rows.F.plain_set_update_loop _, ih (i + 1) _ _ _ (by omega) lt (by split <;> omega) (Wk.frame _ s1 _ _ st1 (Nat.le_succ _) fun b hb o z => ?_) RZ2 fun s3 T3 c3 mv3 RZ3 l3 m3 => ?_⟩
    · rw [sb.2 b fun y => nZ (y ▸ hb)]
      exact z
    · refine fin s3 T3 c3 (Moved.trans Wk.gtrans ((mv.mono sub1).then_heap (Nat.le_succ _) fun b o hb z => ?_) mv3) RZ3 l3 fun k => ?_
      · rw [sb.2 b fun y => hb (by rw [y]; exact List.mem_cons_self)]
        exact z
      · rw [m3 k, Bool.or_eq_true, decide_eq_true_iff]
        constructor
        · rintro ((a | a) | ⟨j, a, b, c⟩)
          · exact .inl a
          · exact .inr ⟨i, Nat.le_refl _, lt, a.symm⟩
          · exact .inr ⟨j, by omega, b, c⟩
        · rintro (a | ⟨j, a, b, c⟩)
          · exact .inl (.inl a)
          · rcases Nat.eq_or_lt_of_le a with y | y
            · exact .inl (.inr (by rw [← c, y]))
            · exact .inr ⟨j, y, b, c⟩
end
section
variable {P : Program} {w : World} {A : Around} {E : Value → Shared → Prop} {s : Shared}
abbrev newSet (w : World) : Obj := { cls := .type "set", dict := none, data := .set #[] 0 (.fresh 0 0 (!w.params.followText "set-order")) }
theorem set_new1 (x : Value) {Q1 : Value → Shared → Prop} (h : Q1 (.ref s.heap.objs.size) { s with heap := s.heap.push (newSet w) }) :
    codeAny (model P w) A (.call (.builtin "set.__new__") ⟨[.type "set", x], []⟩) (wants Q1 E) s := by
  refine codeAny_of_tree (show wpAny _ A.in1 (do checkBuiltinCall "set.__new__" ⟨[.type "set", x], []⟩; again (.builtin "set.__new__" ⟨[.type "set", x], []⟩)) _ _ s from ?_)
  refine wpAny_bind (wpAny_of_eq (PySem.F.newCall_set_1 x) (wpAny_pure ⟨plainId_quiet PySem.F.plain_set_new _, codeAny_builtin PySem.F.entry_set_new ?_⟩))
  rw [Around.under_plainId PySem.F.plain_set_new _]
  unfold Builtin.«set.__new__» Builtin.Frozenset.newClass
  have sb := sub_set_self
  obtain ⟨hp, g, dr, tk, os⟩ := s
  dsimp only
  wp_walk
  refine wpAny_askSetting (wpAny_pure ?_)
  dsimp only
  simp only [newObj]
  exact wpAny_bind (wpAny_alloc (wpAny_pure (wpAny_pure h)))
set_option maxHeartbeats 8000000 in
theorem set_of {l : Addr} {its : Array Value} {ns : List Int} {Q : Value → Shared → Prop} (calm : A.handled = none) (pl : s.heap.IsList l its) (ri : IntsAre its.toList ns) (room : its.size + 1 < scanBound)
    (fin : ∀ (h1 : Heap) (tk : Nat) (T : Int → Bool) (c : Nat), SetR w h1 s.heap.objs.size T c → c ≤ its.size → (∀ k, T k = true ↔ ∃ j, j < its.size ∧ ns.getD j 0 = k) → (∀ b o, b < s.heap.objs.size → s.heap.get? b = some o → h1.get? b = some o) → Q (.ref s.heap.objs.size) { s with heap := h1, toks := tk }) :
    wpAny (model P w) A (call (.type "set") [.ref l]) Q E s := by
  obtain ⟨c0, tl, hmro⟩ := PySem.F.called_set.mro
  have hmade := PySem.F.called_set.made
  have hsub := PySem.F.called_set.sub
  refine wpAny_call (codeAny_of_tree (show wpAny _ _ (callAny (.type "set") ⟨[.ref l], []⟩) _ _ _ from wpAny_pure ⟨Code.quiet_builtin _ (by decide +kernel), codeAny_builtin PySem.F.entry_type_call ?_⟩))
  rw [Around.under_plain (weight_type_call_type "set" [.ref l] []) rfl]
  have a1 := PySem.F.called_set.notType
  have a2 := PySem.F.called_set.canCreate
  have a3 := PySem.F.typeCall_set_1 (.ref l)
  repeat (any_goals (first | assumption | wp_step))
  refine codeAny_mono (set_new1 (.ref l) (E := E) (Q1 := fun ob s1 => ob = .ref s.heap.objs.size ∧ s1 = { s with heap := s.heap.push (newSet w) }) ⟨rfl, rfl⟩) fun r s1 hr => ?_
  cases r with
  | error e => exact hr
  | ok fl =>
    cases fl with
    | ret ob =>
      obtain ⟨rfl, rfl⟩ := hr
      have gz : (s.heap.push (newSet w)).get? s.heap.objs.size = some (newSet w) := Heap.get?_push_size _ rfl
      have tz : Shared.TypeIs { s with heap := s.heap.push (newSet w) } (.ref s.heap.objs.size) "set" := ⟨_, gz, rfl⟩
      have b1 := PySem.F.called_set.init.lookup
      have b2 := PySem.F.called_set.init.bind (.ref s.heap.objs.size)
      repeat (any_goals (first | assumption | wp_step))
      refine codeAny_mono (codeAny_call_builtin (R := wants (fun r s2 => r = .none ∧ ∃ h1 tk T c, s2 = { s with heap := h1, toks := tk } ∧ SetR w h1 s.heap.objs.size T c ∧ c ≤ its.size ∧ (∀ k, T k = true ↔ ∃ j, j < its.size ∧ ns.getD j 0 = k) ∧ (∀ b o, b < s.heap.objs.size → s.heap.get? b = some o → h1.get? b = some o)) E)
        PySem.F.called_set.init.plain PySem.F.entry_set_init (check_set_init_1 tz ?_)) fun r2 s2 hr2 => ?_
      · obtain ⟨ol, gl, cl, nl, dl⟩ := pl
        obtain ⟨ocls, odict, odata, oslots⟩ := ol
        simp only at cl dl
        subst cl
        subst dl
        have gl1 : (s.heap.push (newSet w)).get? l = some { cls := .type "list", dict := odict, data := .seq its nl, slots := oslots } := Heap.get?_push_of_some _ gl
        have c1 := PySem.F.sub_list_set
        have c2 := PySem.F.sub_list_frozenset
        have c3 : (Value.type "list" == Value.type "dict") = false := by decide
        have pl1 : (s.heap.push (newSet w)).IsList l its := ⟨_, gl1, rfl, nl, rfl⟩
        unfold Builtin.«set.__init__» noKeywords Builtin.Frozenset.updateFrom
        generalize ep : pyIter = PI
        wp_walk
        subst ep
        refine wpAny_pyIter_list pl1 (wpAny_bind (wpAny_runValue ?_))
        have lS : l < s.heap.objs.size := Heap.lt_size gl
        have calm3 : A.in1.in1.in1.handled = none := by simp [calm]
        have sz : (s.heap.push (newSet w)).objs.size = s.heap.objs.size + 1 := Heap.size_push ..
        have nI : l ≠ (s.heap.push (newSet w)).objs.size := by
          rw [sz]
          exact Nat.ne_of_lt (Nat.lt_succ_of_lt lS)
        have nf : s.heap.objs.size ∉ [(s.heap.push (newSet w)).objs.size, l] := by
          intro z
          rcases List.mem_cons.mp z with y | y
          · exact Nat.ne_of_lt (Nat.lt_succ_self _) (y.trans sz)
          · rw [List.mem_singleton] at y
            exact Nat.ne_of_gt lS y
        have vl : ∀ (j : Nat) (v : Value), its[j]? = some v → ∃ tk, v = .int ((fun j => ns.getD j 0) j) tk := fun j v hv => IntsAre.int_at ri j v (by rw [Array.getElem?_toList]; exact hv)
        refine fill_loop ((Walks.list calm3 _ l nI its).toS) s.heap.objs.size nf (fun j => ns.getD j 0) vl room (its.size - 0) 0 0 _ (fun _ => false) (by omega) (Nat.zero_le _) (Nat.le_refl _) ⟨⟨_, Heap.get?_push_size _ rfl, rfl, rfl⟩, pl1.push _⟩ ((setR_fresh w).at fun o z => Heap.get?_push_of_some _ z) ?_
        intro s3 T c mv RZ lc mT
        obtain ⟨h3, g3, d3, tk3, os3⟩ := s3
        obtain rfl : g3 = s.gens := mv.gens
        obtain rfl : d3 = s.drawn := mv.drawn
        obtain rfl : os3 = s.os := mv.os
        refine (show wpAny _ _ _ _ _ _ from wpAny_pure (show wpAny _ _ (ret Value.none) _ _ _ from wpAny_pure ⟨rfl, h3, tk3, T, c, rfl, RZ, lc, fun k => (mT k).trans ?_, fun b o hb z => ?_⟩))
        · exact ⟨fun y => y.elim (fun z => nomatch z) fun ⟨j, _, a, b⟩ => ⟨j, a, b⟩, fun ⟨j, a, b⟩ => .inr ⟨j, Nat.zero_le _, a, b⟩⟩
        · refine mv.heap b o (fun y => ?_) (Heap.get?_push_of_some _ (Heap.get?_push_of_some _ z))
          rcases List.mem_cons.mp y with y | y
          · exact Nat.ne_of_lt hb y
          · rw [List.mem_singleton, sz] at y
            exact Nat.ne_of_lt (Nat.lt_succ_of_lt hb) y
      · cases r2 with
        | error e => exact hr2
        | ok fl2 =>
          cases fl2 with
          | ret r =>
            obtain ⟨rfl, h1, tk, T, c, rfl, RZ, lc, mT, kk⟩ := hr2
            repeat (any_goals (first | assumption | wp_step))
            exact fin h1 tk T c RZ lc mT kk
          | _ => exact hr2.elim
    | _ => exact hr.elim
end
/-- set(xs), xs a list of ints -/
def rSetI (K : PySem.W.Frag) (w : World) : List V → Hp → VK → Prop := fun vs H Q => ∃ (a : Addr) (ns : List Int), vs = [V.ref a] ∧ SqL K H a (ns.map V.int) ∧ ns.length + 1 < scanBound ∧
  ∀ (p : Addr) (T : Int → Bool) (c : Nat), H p = none → c ≤ ns.length → (∀ k, T k = true ↔ k ∈ ns) → Q (.ref p) (upd H p (SetO w p T c))
theorem cr_setI {X : Cx} (hc : X.calm = true) : CallR X (.type "set") (rSetI X.K X.w) := by
  intro pins s σ H vs us Q I r h
  obtain ⟨l, ns, rfl, hq, room, q1⟩ := h
  obtain ⟨its, rv, pl, hz⟩ := I.list hq
  rw [Vals.ref1 r]
  have hl : its.toArray.size = ns.length := by rw [List.size_toArray, ← rv.length, List.length_map]
  refine set_of (I.ok.hd hc) pl.isList (ns := ns) (by simpa using rv.ints) (by omega) fun h1 tk T c RZ lc mT kk => ?_
  rw [hl] at lc mT
  refine ⟨.ref _, _, I.laid (t' := tk) (fun b o e => kk b o (Heap.lt_size e) e) (Nat.le_refl _) (setO_new RZ), rfl, q1 _ T c (I.hok.fresh (Nat.le_refl _)) lc fun k => (mT k).trans ⟨fun ⟨j, a, b⟩ => ?_, fun m => ?_⟩⟩
  · rw [← b, List.getD_eq_getElem?_getD, List.getElem?_eq_getElem a]
    exact List.getElem_mem a
  · obtain ⟨j, a, b⟩ := List.getElem_of_mem m
    exact ⟨j, a, by rw [List.getD_eq_getElem?_getD, List.getElem?_eq_getElem a]; exact b⟩
theorem dc_list {K : PySem.W.Frag} {a : Addr} {xs : List V} {g : TG} {tt : TT} {tk tv : TE} {vs : List Nat} {σ : St} {H1 : Hp} {D : Addr} {Qd : Hp → Prop} (Pw : Nat → Hp → Prop) (z0 : Pw 0 (upd H1 D (.dK []))) (zl : ∀ i H, i ≤ xs.length → Pw i H → SqL K H a xs)
    (zs : ∀ i x H, xs[i]? = some x → Pw i H → g x (wipe σ vs) H fun σ2 H2 => wipe σ2 vs = wipe σ vs ∧ tt σ2 H2 fun b H3 => if b = true then tk σ2 H3 fun y H4 => tv σ2 H4 fun z H5 => ∃ kvs k, y = kV k ∧ H5 D = some (.dK kvs) ∧ kvs.length < sizeLine ∧ Pw (i + 1) (upd H5 D (.dK (putK kvs k z))) else Pw (i + 1) H3)
    (zd : ∀ H, Pw xs.length H → Qd H) :
    ∃ W : Nat → Nat → Hp → Prop, (∃ m, W 0 m (upd H1 D (.dK []))) ∧ ∀ i m H, W i m H → ((Itl K a).stop i H ∧ Qd H) ∨ ((Itl K a).go i H ∧ ∃ Nx : Hp → Prop, (∀ H', Nx H' → ∃ m', m' < m ∧ W (i + 1) m' H') ∧ ∀ x H', (Itl K a).yld i H x H' → g x (wipe σ vs) H' fun σ2 H2 => wipe σ2 vs = wipe σ vs ∧ tt σ2 H2 fun b H3 =>
      if b = true then tk σ2 H3 fun y H4 => tv σ2 H4 fun z H5 => ∃ kvs k, y = kV k ∧ H5 D = some (.dK kvs) ∧ kvs.length < sizeLine ∧ Nx (upd H5 D (.dK (putK kvs k z))) else Nx H3) := by
  refine ⟨fun i m H => m + i = xs.length ∧ Pw i H, ⟨xs.length, by simp, z0⟩, ?_⟩
  rintro i m H ⟨em, pw⟩
  have sq := zl i H (by omega) pw
  by_cases lt : i < xs.length
  · refine .inr ⟨⟨xs, xs[i], sq, List.getElem?_eq_getElem lt⟩, Pw (i + 1), fun H2 p2 => ⟨m - 1, by omega, by omega, p2⟩, fun x H2 yd => ?_⟩
    obtain ⟨rfl, yd⟩ := yd
    exact zs i x _ (yd xs sq) pw
  · obtain rfl : i = xs.length := by omega
    exact .inl ⟨⟨xs, sq, Nat.le_refl _⟩, zd H pw⟩
end L2

/-! An own exception class's __init__ that begins with super().__init__(x): its promise, by what stands behind that row. -/
namespace L2
open PySem PySem.Spec PyProof.Rows
/-- the names of such a def: its parameters, and __class__ from outside -/
structure InScope (N ps : List Str) (sc : Scope) : Prop where
  kind : sc.kind = .function
  co : sc.isCoroutine = false
  gen : sc.isGenerator = false
  nd : N.Nodup
  pre : N.take ps.length = ps
  par : ∀ x ∈ ps, sc.names.lookup x = some .local
  nocell : ∀ y ∈ sc.names, y.2 ≠ .cell
  free : ∀ y ∈ sc.names, y.2 = .free → y.1 = "__class__"
  cls : sc.names.lookup ("__class__" : Str) = some .free
  sup : sc.names.lookup ("super" : Str) = some .globalImplicit
/-- the context of its body -/
def cxI (CX : CXT) (P : Program) (w : World) (K : PySem.W.Frag) (mg : Str → Option Value) (base : Heap) (N : List Str) (qual : Str) (sc : Scope) (f : Addr) (cd : Value) (cc : Addr) (A : Around) (outer : List Env) (s : Shared) (H : Hp) (E : XK) : Cx :=
  { prog := P, w := w, K := K, mg := mg, base := base, A := A.deeper (PySem.W.ksEnv qual sc s.heap.objs.size f cd cc), N := N, s_0 := s, H_0 := H, env := PySem.W.ksEnv qual sc s.heap.objs.size f cd cc,
    outer := outer, stack := PySem.W.ksEnv qual sc s.heap.objs.size f cd cc :: outer, ex := [], calm := true, fn := fun _ => false, pn := [],
    xe := fun e s1 => wpAny (model P w) (A.deeper (PySem.W.ksEnv qual sc s.heap.objs.size f cd cc)) (leaving (PySem.W.ksEnv qual sc s.heap.objs.size f cd cc) e) (fun _ s2 => CX outer H s E e s2) (fun e2 s2 => CX outer H s E e2 s2) s1 }
theorem look_nd {α : Type} {x : Str} {v : α} : ∀ {l : List (Str × α)}, (l.map (·.1)).Nodup → (x, v) ∈ l → l.lookup x = some v
  | [], _, h => absurd h List.not_mem_nil
  | (y, u) :: l, nd, h => by
    rw [List.map_cons, List.nodup_cons] at nd
    rcases List.mem_cons.mp h with e | e
    · cases e
      simp
    · have ne : x ≠ y := fun z => nd.1 (z ▸ List.mem_map.mpr ⟨_, e, rfl⟩)
      rw [List.lookup_cons, show (x == y) = false from beq_false_of_ne ne]
      exact look_nd nd.2 e
theorem zip_fst {α β : Type} : ∀ (ps : List α) (us : List β), ((ps.zip us).map (·.1)).Sublist ps
  | [], _ => .slnil
  | _ :: _, [] => List.nil_sublist _
  | p :: ps, u :: us => (zip_fst ps us).cons_cons p
theorem look_rev {ps : List Str} {us : List Value} {i : Nat} {x : Str} {u : Value} (nd : ps.Nodup) (h1 : ps[i]? = some x) (h2 : us[i]? = some u) : (ps.zip us).reverse.lookup x = some u := by
  refine look_nd ?_ (List.mem_reverse.mpr (List.mem_of_getElem? (i := i) (by rw [List.getElem?_zip_eq_some]; exact ⟨h1, h2⟩)))
  have nz : ((ps.zip us).map (·.1)).Nodup := nd.sublist (zip_fst ps us)
  rw [List.map_reverse]
  unfold List.Nodup
  rw [List.pairwise_reverse]
  exact List.Pairwise.imp (fun z => z.symm) nz
section
variable {CX : CXT} {P : Program} {w : World} {K : PySem.W.Frag} {mg : Str → Option Value} {base : Heap} {N ps : List Str} {qual : Str} {sc : Scope} {f cc : Addr} {cd : Value} {A : Around} {outer : List Env} {s : Shared} {H : Hp} {E : XK} {us : List Value} {vs : List V}
theorem inv_in {h1 : Heap} {t : Nat} {cl : Value} {cld : Option Addr} {csl : Array (Option Value)} {vc : Option Value} (S : InScope N ps sc) (hd : A.handled = none) (e0 : Env0 P w K mg base A outer s H) (hc : K.lookup cc = some ⟨cl, cld, .cell vc, csl⟩) (hl : vs.length = ps.length) (r : Vals vs us)
    (hns : h1.Ns s.heap.objs.size fun x => (ps.zip us).reverse.lookup x) (hk : ∀ b o, s.heap.get? b = some o → h1.get? b = some o) :
    Inv (cxI CX P w K mg base N qual sc f cd cc A outer s H E) [] (start N vs) H { s with heap := h1, toks := t } := by
  have hpl : ps.length ≤ N.length := by
    have := congrArg List.length S.pre
    rw [List.length_take] at this
    omega
  have only : ∀ {x : Str} {c : Addr}, ([(("__class__" : Str), cc)] : List (Str × Addr)).lookup x = some c → x = "__class__" ∧ c = cc := fun {x c} h => by
    rw [List.lookup_cons] at h
    by_cases e : (x == ("__class__" : Str)) = true
    · rw [e] at h
      exact ⟨eq_of_beq e, (Option.some.inj h).symm⟩
    · rw [Bool.not_eq_true] at e
      rw [e] at h
      cases h
  have hcb : base.get? cc = some ⟨cl, cld, .cell vc, csl⟩ := e0.mod.kin _ _ hc
  have hcs := (e0.bs _ _ hcb).1
  refine ⟨⟨e0.mod, S.kind, rfl, rfl, Nat.le_refl _, fun x y c a b => ((only a).1).trans ((only b).1).symm, fun x hx => ?_, (fun _ _ z => nomatch z), fun _ => hd, Around.frames_deeper e0.frames, .inr ⟨rfl, rfl⟩, (fun _ z => nomatch z), e0.bs, e0.bsz, (fun _ _ _ z => nomatch z), (fun _ z => nomatch z), e0.funs, e0.frf⟩,
    rfl, e0.bare, Un.kept hk, ⟨_, hns, fun i y v a b _ => ?_⟩, fun x c h => ?_, e0.hok.fresh (Nat.le_refl _), fun x c h => ?_, fun p hp => absurd (show p ∈ ([] : List (Addr × Obj)) from hp) (by simp), e0.hok.kept hk, ?_⟩
  · rcases hx with z | z
    · exact absurd rfl (S.nocell _ (PySem.mem_of_lookup z))
    · exact ⟨cc, by rw [show x = ("__class__" : Str) from S.free _ (PySem.mem_of_lookup z) rfl]; rfl⟩
  · have hi : i < vs.length := by
      unfold start at b
      by_cases hi : i < vs.length
      · exact hi
      · rw [List.getElem?_append_right (by simpa using hi), List.getElem?_replicate] at b
        split at b <;> cases b
    have ha : vs[i]? = some v := by
      unfold start at b
      rw [List.getElem?_append_left (by simpa using hi), List.getElem?_map] at b
      cases z : vs[i]? with
      | none => rw [z] at b; cases b
      | some u => rw [z] at b; cases b; rfl
    obtain ⟨u, hu, rv⟩ := r.get ha
    have hp : ps[i]? = some y := by
      rw [← S.pre, List.getElem?_take_of_lt (by omega)]
      exact a
    have ndP : ps.Nodup := by
      rw [← S.pre]
      exact S.nd.sublist (List.take_sublist _ _)
    exact ⟨u, rv, .inl ⟨S.par y (List.mem_of_getElem? hp), look_rev ndP hp hu⟩⟩
  · rw [(only h).2]
    exact ⟨vc, _, hk _ _ hcs, rfl⟩
  · rw [(only h).2]
    exact (e0.bs _ _ hcb).2
  · unfold start
    show _ = N.length
    rw [List.length_append, List.length_map, List.length_replicate]
    omega
end
section
variable {CX : CXT} {P : Program} {w : World} {K : PySem.W.Frag} {mg : Str → Option Value} {base : Heap} {k : Nat} {f cc cda D C : Addr} {name qual : Str} {params : Arguments} {rest : List Stmt} {sc : Scope} {dV kV doc pm ct oc ccl cl : Value} {an od cdd cld : Option Addr}
  {osl ccs csl : Array (Option Value)} {cv : Array Value} {N ps : List Str} {sp : Sp} {ar : Arg} {file : Str} {tf : Tok} {cdD : ClassData} {e : Expr} {p0 p1 p2 p3 p4 : Pos}
theorem mw_call {X : Cx} {pins : List (Addr × Obj)} {σ : St} {H : Hp} {s : Shared} {u a C : Addr} {us : List Value} {Q : Value → Shared → Prop} {A : Around} {E : Value → Shared → Prop} (T : OexC X.K C) (I : Inv X pins σ H s)
    (hu : s.heap.get? u = some (PySem.W.kxs_mw "ValueError.__init__" a)) (ea : H a = some (exo a C none)) (hl : us.length ≤ sizeLine) (h : ∀ s1, Inv X pins σ H s1 → Q .none s1) : wpAny (model X.prog X.w) A (call (.ref u) us) Q E s := by
  obtain ⟨nm, q, Nc, bs, bm, sn, sub, ab, col, dd, k0, k1, k2, k3, k5, hC, hbm⟩ := T.cls
  obtain ⟨t1, he⟩ := exo_at I.hok ea
  have hC1 := I.kIn _ _ hC
  obtain ⟨hp, g, d, tk, os⟩ := s
  refine wpAny_call (codeAny_of_tree (show wpAny _ _ (callAny (.ref u) ⟨us, []⟩) _ _ _ from ?_))
  simp only [callAny]
  refine wpAny_bind (wpAny_load hu ?_)
  simp only [PySem.W.kxs_mw]
  refine PySem.W.KFB.if_so (by decide) (wpAny_bind (PySem.W.check_bound_init F.excBase_ValueError.toExcCallFacts hC1 he rfl (wpAny_bind (wpAny_pure (wpAny_pure ⟨plainId_quiet F.excBase_ValueError.init.plain _, codeAny_builtin F.excBase_ValueError.initEntry ?_⟩)))))
  refine PySem.W.exc_init_tree he hl fun h2 kk hx _ => ?_
  have J := I.write (t' := tk) (x := a) (e := a) (o := exo a C none) (by rw [ea]; exact True.intro) (.inl rfl) kk ⟨_, hx⟩ (exo_ok hx)
  have eu : upd H a (exo a C none) = H := funext fun b => by
    by_cases z : b = a
    · rw [z, upd_same, ea]
    · exact upd_ne z
  rw [eu] at J
  exact h _ J
abbrev supRow (e : Expr) (p0 p1 p2 p3 p4 : Pos) : Stmt := .Expr (.Call (.Attribute (.Call (.Name "super" p0) [] [] p1) "__init__" p2) [e] [] p3) p4
theorem init_fn (lk : K.lookup f = some ⟨oc, od, .func (PySem.W.ksFn name qual params (supRow e p0 p1 p2 p3 p4 :: rest) sc dV kV doc pm an (.ref cda) ct cc), osl⟩)
    (hcd : PySem.W.codeIn K (.ref cda) qual = true) (S : InScope N ps sc) (hp : (params.posonlyargs ++ params.args).head? = some ar) (hps : ps.head? = some ar.arg)
    (hcode : K.lookup cda = some ⟨ccl, cdd, .fields cv, ccs⟩) (hcv : cv[2]? = some (.str file tf)) (hfile : ((P.main.file : Str) == file) = true) (htop : (P.main.scope.names.lookup ("super" : Str)).isSome = false)
    (hcell : K.lookup cc = some ⟨cl, cld, .cell (some (.ref D)), csl⟩) (hD : PySem.W.clsIn K D = some cdD) (hsup : mg "super" = none)
    (T : OexC K C) (hsub : PySem.W.mroIn K C (.ref D) = some true) (hm : PySem.W.ks_superIn K C D "__init__" = some (some (.builtin "ValueError.__init__")))
    (hB : PySem.W.subIn K (.ref C) (.type "ValueError") = some true) (ho : PySem.W.nsIn K cStatics "thirdparty.any" = some none)
    (hst : ∀ env, starEach [e] env = (false, eval e env) :: starEach [] env)
    (hcall : ∀ env, ∃ pl : Sem Bool, eval (.Call (.Attribute (.Call (.Name "super" p0) [] [] p1) "__init__" p2) [e] [] p3) env = (do
      let ov ← attributeBase (.Call (.Name "super" p0) [] [] p1) "__init__" env (eval (.Call (.Name "super" p0) [] [] p1) env)
      standAt p2.atName
      let (f, first) ← holding [ov] (getMethod ov "__init__" pl)
      callWith p3 f first (backTo p3 (starEach [e] env)) []))
    (len : ∀ vs H Q E, sp vs H Q E → vs.length = ps.length)
    (hbody : ∀ (A : Around) (outer : List Env) (s : Shared) (H : Hp) (vs : List V) (Q : VK) (E : XK), Room k (A.deeper (PySem.W.ksEnv qual sc s.heap.objs.size f (.ref cda) cc)) → sp vs H Q E →
      ∃ (a : Addr) (ws : List V) (ta : TA) (tr : TS), vs = .ref a :: ws ∧ H a = some (exo a C none) ∧ PA (cxI CX P w K mg base N qual sc f (.ref cda) cc A outer s H E) [e] ta ∧ PSs (cxI CX P w K mg base N qual sc f (.ref cda) cc A outer s H E) rest tr ∧
        ta (start N vs) H fun xs H1 => xs.length ≤ 1000 ∧ H1 a = some (exo a C none) ∧ tr { nx := fun _ H' => Q .non H', rt := Q } (start N vs) H1) :
    FnOk P w K mg base CX (k + 1) f (PySem.W.ksFn name qual params (supRow e p0 p1 p2 p3 p4 :: rest) sc dV kV doc pm an (.ref cda) ct cc) ps sp := by
  refine ⟨len, fun A outer s H args us vs Q E hr e0 hb r hsp => ?_⟩
  have hl := len _ _ _ _ hsp
  have KX : K.In s.heap := e0.mod.kin.keeps fun b o z => (e0.bs b o z).1
  have lim : s.heap.NoLimit := e0.mod.nolimit.keeps fun b o z => (e0.bs b o z).1
  have hloc : ∀ y ∈ ps.zip us, sc.names.lookup y.1 = some .local := fun ⟨n, v⟩ hy => S.par n (List.of_mem_zip hy).1
  refine PySem.ks_codeAny_call_defAt (fd := PySem.W.ksFn name qual params (supRow e p0 p1 p2 p3 p4 :: rest) sc dV kV doc pm an (.ref cda) ct cc) (body := supRow e p0 p1 p2 p3 p4 :: rest) hr.depth (KX _ _ lk) rfl lim (PySem.W.codeRec_of KX hcd) rfl (hb) S.nocell hloc (fun h1 hns hk => ?_) S.co S.gen S.kind
  obtain ⟨a, ws, ta, tr, ev, ea, hA, hR, hq⟩ := hbody A outer s H vs Q E (hr.deeper _) hsp
  have I : Inv (cxI CX P w K mg base N qual sc f (.ref cda) cc A outer s H E) [] (start N vs) H { s with heap := h1, toks := s.toks + (ps.zip us).length } := inv_in S hr.hd e0 hcell hl r hns hk
  subst ev
  obtain ⟨ur, rfl⟩ : ∃ ur, us = Value.ref a :: ur := by
    cases r with
    | @cons _ u0 _ ur ra rw' =>
      obtain rfl : u0 = Value.ref a := ra
      exact ⟨ur, rfl⟩
  have ndP : ps.Nodup := by
    rw [← S.pre]
    exact S.nd.sublist (List.take_sublist _ _)
  have h0 : ps[0]? = some ar.arg := by rw [← List.head?_eq_getElem?]; exact hps
  have hself : (ps.zip (Value.ref a :: ur)).reverse.lookup ar.arg = some (.ref a) := look_rev ndP h0 rfl
  have har : sc.names.lookup ar.arg = some .local := S.par _ (List.mem_of_getElem? h0)
  have k1 : ∀ b o, K.lookup b = some o → h1.get? b = some o := fun b o z => hk _ _ (KX _ _ z)
  have KX1 : K.In h1 := k1
  obtain ⟨mb, hb1, hb2⟩ := I.mod.blt
  obtain ⟨oD, hD1, hD2⟩ : ∃ oD, h1.get? D = some oD ∧ oD.data = .cls cdD := by
    unfold PySem.W.clsIn at hD
    split at hD
    · rename_i c d cd' sl hoD
      cases hD
      exact ⟨_, k1 _ _ hoD, rfl⟩
    · cases hD
  obtain ⟨t1, hoA⟩ := exo_at I.hok ea
  show _root_.PySem.wpAt (model P w) (A.deeper (PySem.W.ksEnv qual sc s.heap.objs.size f (.ref cda) cc)) (.func _ (PySem.W.ksEnv qual sc s.heap.objs.size f (.ref cda) cc)) (execs _ (PySem.W.ksEnv qual sc s.heap.objs.size f (.ref cda) cc)) _ _ _
  obtain ⟨pl, hcl⟩ := hcall (PySem.W.ksEnv qual sc s.heap.objs.size f (.ref cda) cc)
  refine PySem.ks_wpAt_execs_cons (PySem.ks_wpAt_Expr_any (PySem.ks_wpAt_MethodCall ?_ hcl) (by
    show (sc.kind == .module && _) = false
    rw [S.kind]
    rfl))
  refine PySem.ks_wpAt_super_base (env := PySem.W.ksEnv qual sc s.heap.objs.size f (.ref cda) cc) S.sup S.cls (by decide) rfl (k1 _ _ lk) rfl hp rfl (k1 _ _ hcode) rfl hcv hfile htop ?_
  refine PySem.W.ks_loadName_global S.kind S.sup (Calls.loadGlobal_builtin (I.mod.glob.keeps I.bk) hsup (hb1.keeps I.bk) ((hb2 _ (by decide)).trans (by rfl)) ⟨rfl, ?_⟩)
  refine wpAny_loadName_free S.kind S.cls rfl ⟨_, k1 _ _ hcell, rfl⟩ ?_
  refine wpAny_loadName_local S.kind har hns hself ?_
  refine PySem.ks_wpAny_isType_cls hD1 hD2 ⟨rfl, ?_⟩
  refine PySem.ks_wpAny_call_super hD1 hD2 hoA rfl (fun c z => nomatch z) (PySem.W.looks_mroIn KX1 hsub) (fun h2 e2 k2 => ?_)
  have k12 : ∀ b o, h1.get? b = some o → h2.get? b = some o := k2
  have KX2 : K.In h2 := fun b o z => k12 _ _ (k1 _ _ z)
  have J : PySem.W.InstAt h2 a _ C none := ⟨k12 _ _ hoA, rfl, rfl, trivial⟩
  have lt2 : h1.objs.size < h2.objs.size := Heap.lt_size e2
  cases hc : PySem.W.clsIn K C with
  | none =>
    unfold PySem.W.ks_superIn at hm
    rw [hc] at hm
    cases hm
  | some cdC =>
    unfold PySem.W.ks_superIn at hm
    rw [hc] at hm
    refine PySem.W.kxs_getMethod PySem.W.kxs_ValueError e2 (PySem.W.looks_opaque KX2 ho) (l₀ := cdC.mro) (fun A' Q' E' s' k' q' => wpAny_bind ((PySem.W.looks_clsIn KX2 hc) A' _ E' s' k' (wpAny_pure q'))) rfl KX2 hm (J.type.andThen (PySem.W.looks_subIn KX2 hB)) (PySem.W.ks_ne KX2 J hc) (by decide) ?_
    have I3 : Inv (cxI CX P w K mg base N qual sc f (.ref cda) cc A outer s H E) [] (start N (V.ref a :: ws)) H ⟨h2.push (PySem.W.kxs_mw "ValueError.__init__" a), s.gens, s.drawn, s.toks + (ps.zip (Value.ref a :: ur)).length + 1, s.os⟩ :=
      I.kept fun b o z => Heap.get?_push_of_some _ (k12 _ _ z)
    have I4 := I3.pins_of (pins' := [(h2.objs.size, PySem.W.kxs_mw "ValueError.__init__" a)]) fun p hp => by
      rw [List.mem_singleton] at hp
      rw [hp]
      exact ⟨Heap.get?_push_size _ rfl, I.hok.fresh (Nat.le_of_lt lt2), Nat.ne_of_gt (Nat.lt_trans I.lt lt2), I.nofs (Nat.le_of_lt lt2), fun v z => nomatch z⟩
    have run := hA.run p3 _ _ _ _ _ I4 hq
    refine PySem.W.kxs_callWith (i := "ValueError.__init__") (x := a) (by rw [hst]; rfl) ?_
    rw [hst]
    refine Calls.evalArgs_plain ?_
    have run2 := run
    rw [hst] at run2
    refine thn run2 fun us1 s1 ⟨xs, H1, I5, r5, x5, ea5, q5⟩ => ?_
    have hu : s1.heap.get? h2.objs.size = some (PySem.W.kxs_mw "ValueError.__init__" a) := (I5.pin _ (List.mem_append_right _ (List.mem_singleton.mpr rfl))).1
    refine ⟨hu, ?_⟩
    obtain ⟨t5, ho5⟩ := exo_at I5.hok ea5
    have l5 : us1.length ≤ sizeLine := by
      rw [← Paired.length r5, sizeLine_eq]
      omega
    refine mw_call T I5 hu ea5 l5 fun s6 I6 => ?_
    show _root_.PySem.wpAt (model P w) (A.deeper (PySem.W.ksEnv qual sc s.heap.objs.size f (.ref cda) cc)) _ (execs rest (PySem.W.ksEnv qual sc s.heap.objs.size f (.ref cda) cc)) _ _ s6
    refine wpAt_of_wpAny (wpAny_mono (hR.run _ s6 _ _ _ I6 q5) (fun fl s7 hs => ?_) fun _ _ z => z)
    have fin : ∀ {σ7 : St} {H7 : Hp} {v : V} {u : Value} {pn : List (Addr × Obj)}, Inv (cxI CX P w K mg base N qual sc f (.ref cda) cc A outer s H E) pn σ7 H7 s7 → RelV v u → Q v H7 → CE outer P w H s Q u s7 := fun I7 rv q7 => ⟨_, _, I7.os, I7.bare, I7.base, I7.hok, rv, q7⟩
    cases fl with
    | ret u =>
      obtain ⟨v, σ7, H7, I7, rv, q7⟩ := hs
      exact fin I7 rv q7
    | next =>
      obtain ⟨σ7, H7, I7, q7⟩ := hs
      exact fin (v := V.non) (u := Value.none) I7 rfl q7
    | brk => exact hs.elim fun _ z => z.elim fun _ z => z.2.elim
    | cont => exact hs.elim fun _ z => z.elim fun _ z => z.2.elim
end
end L2

namespace XR
open PySem PySem.Spec PyProof.Rows L2
/-! ### exceptions of own classes as values: made, their class asked, their fields read -/
/-- what an own class of errors says of its instances -/
structure KxC (K : PySem.W.Frag) (D : Addr) : Prop where
  cl : (PySem.W.clsIn K D).isSome = true
  ga : PySem.W.findIn K (.ref D) "__getattribute__" = some (some (.builtin "BaseException.__getattribute__"))
  gg : PySem.W.findIn K (.ref D) "__getattr__" = some none
  bx : PySem.W.subIn K (.ref D) (.type "BaseException") = some true
  ca : PySem.W.findIn K (.ref D) "__class__" = some (some (.builtin "object.__class__"))
  mo : PySem.W.mroIn K D (.type "object") = some true
structure KxG (K : PySem.W.Frag) : Prop where
  gn : PySem.W.specialIn K (.builtin "object.__class__") "__get__" = some (some (.builtin "getset_descriptor.__get__"))
  gt : PySem.W.takesIn K (.builtin "object.__class__") = some true
/-- at a: an exception of the class D -/
def ExAt (H : Hp) (a D : Addr) : Prop := H a = some (ExO (.ref D) a) ∨ ∃ d : Option Addr, H a = some (exo a D d) ∧ ∀ e, d = some e → ∃ fs, H e = some (exd e fs)
theorem ExAt.mono {H H' : Hp} {a D : Addr} (s : ∀ b o, H b = some o → H' b = some o) : ExAt H a D → ExAt H' a D
  | .inl h => .inl (s _ _ h)
  | .inr ⟨d, h, k⟩ => .inr ⟨d, s _ _ h, fun e z => let ⟨fs, q⟩ := k e z; ⟨fs, s _ _ q⟩⟩
section
variable {X : Cx} {pins : List (Addr × Obj)} {σ : L2.St} {H : Hp} {s : Shared} {E : XK}
theorem inst_of {a D : Addr} (I : Inv X pins σ H s) (h : ExAt H a D) : ∃ ox od, PySem.W.InstAt s.heap a ox D od := by
  rcases h with h | ⟨d, h, k⟩
  · obtain ⟨⟨oe, fv, h1, ⟨h2, h3⟩, h4, _⟩, _⟩ := I.hok a _ h
    obtain ⟨oc, oi, oda, osl⟩ := oe
    dsimp only at h2 h3 h4
    subst h2 h3 h4
    exact ⟨_, none, h1, rfl, rfl, trivial⟩
  · obtain ⟨t1, hg⟩ := exo_at I.hok h
    cases d with
    | none => exact ⟨_, none, hg, rfl, rfl, trivial⟩
    | some e =>
      obtain ⟨fs, he⟩ := k e rfl
      obtain ⟨mA, hns, _⟩ := exd_at I.hok he
      obtain ⟨od, ho, _⟩ := lookIn_ns hns
      exact ⟨_, some od, hg, rfl, rfl, ho⟩
/-- isinstance(x, c), x an exception -/
def rIsV (K : PySem.W.Frag) : List V → Hp → VK → Prop := fun xs H Q => ∃ (a D : Addr) (c : V) (cv : Value) (b : Bool), xs = [.ref a, c] ∧ ExAt H a D ∧ KxC K D ∧ (∀ u, RelV c u → u = cv) ∧ PySem.W.kitOne K (.ref D) cv = some b ∧ Q (.bl b) H
theorem call_isV (g : KxG X.K) : CallR X (.builtin "isinstance") (rIsV X.K) := by
  intro pins s σ H xs us Q I r h
  obtain ⟨a, D, c, cv, b, rfl, ha, kc, hcv, e, q⟩ := h
  match r with
  | .cons rx (.cons rt .nil) =>
    cases rx
    obtain rfl := hcv _ rt
    obtain ⟨ox, od, J⟩ := inst_of I ha
    exact PySem.W.kia_one (PySem.W.kitx_exc (od := od) kc.cl kc.ga kc.gg kc.bx kc.ca g.gn g.gt kc.mo) I.kIn J e (fun z => nomatch z) fun tk => ⟨.bl b, H, I.kept (t' := tk) fun _ _ z => z, rfl, q⟩
/-- x.f, x an exception with fields -/
def tVf (K : PySem.W.Frag) (f : Str) (te : TE) : TE := fun σ H Q => te σ H fun x H1 => ∃ (a D e : Addr) (fs : List (Str × V)) (v : V), x = .ref a ∧ H1 a = some (exo a D (some e)) ∧ H1 e = some (exd e fs) ∧ XfC K D ∧ PySem.W.findIn K (.ref D) f = some none ∧ fs.lookup f = some v ∧ Q v H1
theorem pe_vf {e : Expr} {te : TE} {pos : Pos} {n : Str} (he : PE X e te) (hb : attributeBase e n X.env (eval e X.env) = eval e X.env := by rfl) : PE X (.Attribute e n pos) (tVf X.K n te) := by
  refine ⟨fun pins s σ H Q I h => attr_of hb (thn (he.run pins s σ H _ I h) fun u s1 hh => ?_)⟩
  obtain ⟨x, H1, I1, rx, a, D, ed, fs, v, rfl, ha, hd, T, hno, l, q⟩ := hh
  cases rx
  obtain ⟨t1, hg⟩ := exo_at I1.hok ha
  obtain ⟨mA, hns, rel⟩ := exd_at I1.hok hd
  obtain ⟨od, ho, hl⟩ := lookIn_ns hns
  obtain ⟨u, hu, ru⟩ := RelO.some_of (v := v) (o := mA n) (by rw [← l]; exact rel n)
  exact HandSPX.exc_get (od := some od) I1.kIn ⟨hg, rfl, rfl, ho⟩ T.ga T.gg T.exC (PySem.W.findObj_own T.hdC hno rfl (by rw [hl, hu])) (handed_of ru) ⟨v, H1, I1.tok _, ru, q⟩
/-- X(e, ..) of a class with its own __init__, as a value -/
def tMkV (C : Addr) (sp : Sp) (E : XK) (ta : TA) : TE := fun σ H Q => ta σ H fun vs H1 => vs.length ≤ 1000 ∧ ∀ a, H1 a = none → sp (.ref a :: vs) (upd H1 a (exo a C none)) (fun v H' => v = .non ∧ Q (.ref a) H') E
theorem pe_mkv {CX : CXT} {e : Expr} {es : List Expr} {p pos : Pos} {x : Str} {C fI : Addr} {k : Nat} {fd : FuncData} {ps : List Str} {sp : Sp} {ta : TA} (T : OexC X.K C) (iC : PySem.W.findIn X.K (.ref C) "__init__" = some (some (.ref fI))) (tI : PySem.W.typeIn X.K (.ref fI) = some (.type "function"))
    (F1 : FnOk X.prog X.w X.K X.mg X.base CX k fI fd ps sp) (hr : Room (k + 1) X.A) (hb : Binds X.K fd ps []) (hx : Passes CX X E) (hg : Gl X x) (hm : X.mg x = some (.ref C)) (ha : PA X (e :: es) ta)
    (hdb : (x == ("__debug__" : Str)) = false := by decide) (he : starEach (e :: es) X.env = (false, eval e X.env) :: starEach es X.env := by rfl) (hpl : (backTo pos (starEach es X.env)).any (·.1) = false := by rfl) :
    PE X (.Call (.Name x p) (e :: es) [] pos) (tMkV C sp E ta) := by
  refine ⟨fun pins s σ H Q I h => wpAny_Call_Name_kw (ld_glob I hg hm ?_ hdb)⟩
  obtain ⟨nm, q, N, bs, bm, sn, sub, ab, col, dd, k0, k1, k2, k3, k5, hC, hbm⟩ := T.cls
  refine PySem.W.callWith_K (h₀ := X.base) I.ok.mod.kin T.kC (thn (ha.run pos pins s σ H _ I h) fun us s1 ⟨vs, H1, J1, r1, hz, q1⟩ => ⟨J1.kIn, ?_⟩) he hpl
  show wpAny _ _ (call (.ref C) us) _ _ _
  obtain ⟨hp, g, dr, tk, os⟩ := s1
  obtain ⟨b1, hb1⟩ : ∃ b1 : Addr, b1 = hp.objs.size + 1 := ⟨_, rfl⟩
  have le1 : hp.objs.size ≤ b1 := by rw [hb1]; exact Nat.le_succ _
  have q2 := q1 b1 (J1.hok.fresh le1)
  have kp : ∀ b o, hp.get? b = some o → ((hp.push (PySem.W.kdv_tup us)).push (PySem.HandSPX.excO C hp.objs.size)).get? b = some o := fun b o z => Heap.get?_push_of_some _ (Heap.get?_push_of_some _ z)
  have at1 : ((hp.push (PySem.W.kdv_tup us)).push (PySem.HandSPX.excO C hp.objs.size)).get? b1 = some (PySem.HandSPX.excO C hp.objs.size) := by
    subst hb1
    heap_get
  have J2 : Inv X pins σ (upd H1 b1 (exo b1 C none)) ⟨(hp.push (PySem.W.kdv_tup us)).push (PySem.HandSPX.excO C hp.objs.size), g, dr, tk, os⟩ := J1.laid (t' := tk) kp le1 (exo_ok at1)
  have r3 : Vals (V.ref b1 :: vs) (Value.ref b1 :: us) := .cons rfl r1
  have l3 : (Value.ref b1 :: us).length = ps.length := by
    rw [← F1.len _ _ _ _ q2]
    exact r3.length.symm
  have l4 : us.length ≤ sizeLine := by
    rw [← Paired.length r1, sizeLine_eq]
    omega
  subst hb1
  refine wpAny_call (PySem.HandSPX.call_own F.excBase_ValueError (fun Y => PySem.HandSPX.refsVE_contains Y bm hbm) (J1.kIn _ _ hC) (PySem.W.looks_findIn J1.kIn iC) (fun self => PySem.W.bind_fn J1.kIn self tI) l4
    (codeAny_mono (F1.run _ X.stack _ _ ⟨Value.ref (hp.objs.size + 1) :: us, []⟩ (Value.ref (hp.objs.size + 1) :: us) _ _ E (hr.make C us []) (J2.env0.make C us []) ?_ r3 q2) fun r s' hq' => ?_))
  · have z := hb ⟨(hp.push (PySem.W.kdv_tup us)).push (PySem.HandSPX.excO C hp.objs.size), g, dr, tk, os⟩ (Value.ref (hp.objs.size + 1) :: us) J2.kIn (by rw [List.append_nil]; exact l3)
    rw [List.append_nil] at z
    exact z
  · cases r with
    | error er => exact hx pins σ _ _ er s' J2 hq'
    | ok fl =>
      cases fl with
      | ret u =>
        obtain ⟨v, H2, J3, rv, ev, q5⟩ := J2.after hq'
        subst ev
        cases rv
        exact ⟨rfl, .ref _, H2, J3, rfl, q5⟩
      | next => exact False.elim hq'
      | brk => exact False.elim hq'
      | cont => exact False.elim hq'
/-- a def that lets nothing out where nothing is wanted -/
theorem noX {P : Program} {w : World} {K : PySem.W.Frag} {mg : Str → Option Value} {base : Heap} {k : Nat} {f : Addr} {fd : FuncData} {ps : List Str} {sp : Sp} (F1 : FnOk P w K mg base (L2.CX P w) k f fd ps sp) : FnOk P w K mg base L2.CX0 k f fd ps (fun vs H Q _ => sp vs H Q (fun _ _ _ => False)) where
  len := fun vs H Q _ h => F1.len vs H Q _ h
  run := fun A outer s H args us vs Q E hr e0 hb hv hs => codeAny_mono (F1.run A outer s H args us vs Q _ hr e0 hb hv hs) fun r s' c => by
    cases r with
    | error e =>
      obtain ⟨_, _, _, _, _, _, _, _, _, _, _, _, z⟩ := c
      exact z
    | ok fl => cases fl <;> exact c
end
end XR

/-! An own exception class with its own __init__, made by a call with keywords alone. -/
namespace PySem.HandSPX
open PySem PySem.Spec PySem.Calls PyProof.Rows
section
variable {M : Model} {prog : Program} {w : World} {A : Around} {E : Value → Shared → Prop} {R : Result → Shared → Prop} {h : Heap} {g : Array GenState} {d : Drawn} {t : Nat} {os : OsState}
variable {nm q : Str} {C N : Addr} {bs bm bmB : List Value} {hdct : Bool} {sn : List Str} {sub : List Value} {ab : Bool} {col : Option Bool} {dd : Option Addr} {k0 k1 k2 k3 k5 : Option Value} {B newId initId : String} {kw : List (Str × Value)}
theorem kw_check (F9 : ExcBaseFacts B newId initId bmB) (hT9 : ∀ X : String, bm.contains (.type X) = bmB.contains (.type X)) {Q : Unit → Shared → Prop}
    (hC9 : h.get? C = some (excClassObj nm q C N bs bm hdct sn sub ab col dd k0 k1 k2 k3 k5 newId)) (z9 : Q () ⟨h, g, d, t, os⟩) : wpAny M A (checkBuiltinCall newId ⟨[.ref C], kw⟩) Q E ⟨h, g, d, t, os⟩ := by
  have e9 : (Value.ref C :: bm).contains (.type B) = true := by rw [List.contains_cons, hT9, F9.hasB, Bool.or_true]
  have y9 := F9.noStar
  simp only [checkBuiltinCall, F9.newKind, F9.newSplit, F9.newRow]
  repeat (first | refine wpAny_loadPart_at hC9 ?_ | (refine wpAny_isSubtype_exc hC9 ?_; rw [e9]) | refine wpAny_staticBase_exc hC9 ?_ | refine wpAny_madeBy_exc hC9 ?_ | simp only [bne_self_eq_false, Bool.false_eq_true, if_false] | wp_step)
  exact z9
theorem kw_new (F9 : ExcBaseFacts B newId initId bmB) (hT9 : ∀ X : String, bm.contains (.type X) = bmB.contains (.type X))
    (hC9 : h.get? C = some (excClassObj nm q C N bs bm hdct sn sub ab col dd k0 k1 k2 k3 k5 newId))
    (z9 : R (.ok (.ret (.ref (h.objs.size + 1)))) ⟨(h.push (W.kdv_tup [])).push (excO C h.objs.size), g, d, t, os⟩) :
    codeAny (model prog w) A (.builtin newId ⟨[.ref C], kw⟩) R ⟨h, g, d, t, os⟩ := by
  have y9 := F9.ends
  have e1 : (Value.ref C :: bm).contains (.type B) = true := by rw [List.contains_cons, hT9, F9.hasB, Bool.or_true]
  have e2 : (Value.ref C :: bm).contains (.type "AttributeError") = false := by rw [List.contains_cons, hT9, F9.noAttr]; rfl
  have e3 : (Value.ref C :: bm).contains (.type "NameError") = false := by rw [List.contains_cons, hT9, F9.noName]; rfl
  refine codeAny_builtinAt F9.entry ?_
  unfold Builtin.«BaseException.__new__»
  refine wpAt_bind ?_
  show wpAt _ _ _ (stack >>= _) _ _ _
  refine wpAt_bind (wpAt_stack fun _ _ => wpAt_of_wpAny ?_)
  wp_walk
  refine wpAt_of_wpAny ?_
  rw [F9.owner]
  repeat (first | with_reducible refine wpAny_madeHere_exc F9.canon hC9 ?_ | with_reducible refine wpAny_loadPart_at hC9 ?_ | (with_reducible refine wpAny_isSubtype_exc hC9 ?_; first | rw [e1] | rw [e2] | rw [e3]) | wp_step)
  show R _ _
  rw [Heap.size_push]
  exact z9
theorem kw_type {fI : Addr} {Q : Fin → Shared → Prop} (F9 : ExcBaseFacts B newId initId bmB) (hT9 : ∀ X : String, bm.contains (.type X) = bmB.contains (.type X))
    (hC9 : h.get? C = some (excClassObj nm q C N bs bm hdct sn sub ab col dd k0 k1 k2 k3 k5 newId))
    (i9 : W.Looks (model prog w) h (typeLookup (.ref C) "__init__") (some (.ref fI))) (b9 : ∀ self, W.Looks (model prog w) h (bindSpecial (.ref fI) self) (.ref fI, [self]))
    (z9 : codeAny (model prog w) A (.call (.ref fI) ⟨[.ref (h.objs.size + 1)], kw⟩) (fun r s' => match r with | .ok (.ret v) => v = .none ∧ Q (.done (.ret (.ref (h.objs.size + 1)))) s' | .ok _ => False | .error e => E e s') ⟨(h.push (W.kdv_tup [])).push (excO C h.objs.size), g, d, t, os⟩) :
    wpAny (model prog w) A (Builtin.«type.__call__» ⟨[.ref C], kw⟩) Q E ⟨h, g, d, t, os⟩ := by
  repeat (first | with_reducible refine wpAny_loadPart_at hC9 ?_ | with_reducible refine wpAny_madeBy_exc hC9 ?_ | wp_step)
  refine codeAny_call_builtin_code (Code.quiet_builtin _ F9.quiet) (kw_check F9 hT9 hC9 (kw_new F9 hT9 hC9 ?_))
  show wpAny _ _ _ _ _ _
  have k9 : ∀ b o, h.get? b = some o → ((h.push (W.kdv_tup [])).push (excO C h.objs.size)).get? b = some o := fun b o y => Heap.get?_push_of_some _ (Heap.get?_push_of_some _ y)
  have c9 := k9 _ _ hC9
  have g9 : ((h.push (W.kdv_tup [])).push (excO C h.objs.size)).get? (h.objs.size + 1) = some (excO C h.objs.size) := by heap_get
  have s9 : (Value.ref C :: bm).contains (.ref C) = true := by simp
  unfold isInstance
  repeat (first | with_reducible refine wpAny_loadPart_at g9 ?_ | (with_reducible refine wpAny_isSubtype_exc c9 ?_; rw [s9]) | wp_step)
  show wpAny _ _ (typeLookup (.ref C) _) _ _ _
  refine (i9.keeps k9).at ?_
  refine wpAny_holding (wpAny_bind (((b9 (.ref (h.objs.size + 1))).keeps k9).at ?_))
  refine wpAny_bind (wpAny_call (codeAny_mono z9 fun r s' y => ?_))
  rcases r with e | (v | _ | _ | _) <;> first | exact y | exact y.elim | skip
  obtain ⟨rfl, y⟩ := y
  first
    | exact wpAny_pure (wpAny_pure y)
    | (wp_walk; exact y)
theorem kw_own {fI : Addr} (F9 : ExcBaseFacts B newId initId bmB) (hT9 : ∀ X : String, bm.contains (.type X) = bmB.contains (.type X))
    (hC9 : h.get? C = some (excClassObj nm q C N bs bm hdct sn sub ab col dd k0 k1 k2 k3 k5 newId))
    (i9 : W.Looks (model prog w) h (typeLookup (.ref C) "__init__") (some (.ref fI))) (b9 : ∀ self, W.Looks (model prog w) h (bindSpecial (.ref fI) self) (.ref fI, [self]))
    (z9 : codeAny (model prog w) (A.under (.builtin "type.__call__" ⟨[.ref C], kw⟩)) (.call (.ref fI) ⟨[.ref (h.objs.size + 1)], kw⟩) (W.InitBack (h.objs.size + 1) R) ⟨(h.push (W.kdv_tup [])).push (excO C h.objs.size), g, d, t, os⟩) :
    codeAny (model prog w) A (.call (.ref C) ⟨[], kw⟩) R ⟨h, g, d, t, os⟩ := by
  have f9 := tc_lookup
  have f8 := tc_bind (.ref C)
  have y9 : (⟨h, g, d, t, os⟩ : Shared).TypeIs (.ref C) "type" := ⟨_, hC9, rfl⟩
  refine codeAny_of_tree ?_
  show wpAny _ _ (callAny (.ref C) _) _ _ _
  repeat (any_goals (first | assumption | with_reducible refine wpAny_loadPart_at hC9 ?_ | wp_step))
  refine ⟨rfl, ?_⟩
  refine codeAny_call_builtin_at (Code.quiet_builtin _ (by decide +kernel)) entry_typeCall (wpAny_check_type_call_sub hC9 (kw_type F9 hT9 hC9 i9 b9 (codeAny_mono z9 fun r s' y => ?_)))
  rcases r with e | (v | _ | _ | _) <;> exact y
end
end PySem.HandSPX
namespace XR
open PySem PySem.Spec PyProof.Rows L2
section
variable {X : Cx} {E : XK}
/-- X(k = v, ..) of a class with its own __init__, as a value -/
def tMkK (C : Addr) (n : Nat) (sp : Sp) (gV : List V → List V → List V) (E : XK) (tk : TA) : TE := fun σ H Q => tk σ H fun zs H1 => zs.length = n ∧ ∀ a, H1 a = none → sp (gV [.ref a] zs) (upd H1 a (exo a C none)) (fun v H' => v = .non ∧ Q (.ref a) H') E
theorem pe_mkk {CX : CXT} {kws : List Keyword} {p pos : Pos} {x : Str} {C fI : Addr} {k : Nat} {fd : FuncData} {ps ks : List Str} {sp : Sp} {tk : TA} {gu : List Value → List Value → List Value} {gV : List V → List V → List V} (T : OexC X.K C) (iC : PySem.W.findIn X.K (.ref C) "__init__" = some (some (.ref fI))) (tI : PySem.W.typeIn X.K (.ref fI) = some (.type "function"))
    (F1 : FnOk X.prog X.w X.K X.mg X.base CX k fI fd ps sp) (hr : Room (k + 1) X.A) (hb : KBn X.K fd ps 1 ks gu gV) (hx : Passes CX X E) (hg : Gl X x) (hm : X.mg x = some (.ref C)) (hkw : PK X kws tk)
    (hall : (backToKw pos (keywordEach kws X.env)).all (·.1.isSome) = true := by rfl) (hks : (backToKw pos (keywordEach kws X.env)).filterMap (·.1) = ks := by rfl) (hdb : (x == ("__debug__" : Str)) = false := by decide)
    (hpl : ((backTo pos (starEach [] X.env)).any (·.1) || (backToKw pos (keywordEach kws X.env)).any (·.1.isNone)) = false := by rfl) :
    PE X (.Call (.Name x p) [] kws pos) (tMkK C ks.length sp gV E tk) := by
  refine ⟨fun pins s σ H Q I h => wpAny_Call_Name_kw (ld_glob I hg hm ?_ hdb)⟩
  obtain ⟨nm, q, N, bs, bm, sn, sub, ab, col, dd, k0, k1, k2, k3, k5, hC, hbm⟩ := T.cls
  refine PySem.W.callWith_KW0 (h₀ := X.base) I.ok.mod.kin T.kC hall (thn (hkw.run pos pins s σ H _ I h) fun ws s1 ⟨zs, H1, J1, rz, l2, q1⟩ => ⟨J1.kIn, ?_⟩) hpl
  rw [hks]
  show wpAny _ _ (call (.ref C) [] (ks.zip ws)) _ _ _
  obtain ⟨hp, g, dr, tk0, os⟩ := s1
  obtain ⟨b1, hb1⟩ : ∃ b1 : Addr, b1 = hp.objs.size + 1 := ⟨_, rfl⟩
  have le1 : hp.objs.size ≤ b1 := by rw [hb1]; exact Nat.le_succ _
  have q2 := q1 b1 (J1.hok.fresh le1)
  have kp : ∀ b o, hp.get? b = some o → ((hp.push (PySem.W.kdv_tup [])).push (PySem.HandSPX.excO C hp.objs.size)).get? b = some o := fun b o z => Heap.get?_push_of_some _ (Heap.get?_push_of_some _ z)
  have at1 : ((hp.push (PySem.W.kdv_tup [])).push (PySem.HandSPX.excO C hp.objs.size)).get? b1 = some (PySem.HandSPX.excO C hp.objs.size) := by
    subst hb1
    heap_get
  have J2 : Inv X pins σ (upd H1 b1 (exo b1 C none)) ⟨(hp.push (PySem.W.kdv_tup [])).push (PySem.HandSPX.excO C hp.objs.size), g, dr, tk0, os⟩ := J1.laid (t' := tk0) kp le1 (exo_ok at1)
  have r1 : Vals [V.ref b1] [Value.ref b1] := .cons rfl .nil
  have r3 := hb.rel r1 rz
  subst hb1
  refine wpAny_call (PySem.HandSPX.kw_own F.excBase_ValueError (fun Y => PySem.HandSPX.refsVE_contains Y bm hbm) (J1.kIn _ _ hC) (PySem.W.looks_findIn J1.kIn iC) (fun self => PySem.W.bind_fn J1.kIn self tI)
    (codeAny_mono (F1.run _ X.stack _ _ ⟨[Value.ref (hp.objs.size + 1)], ks.zip ws⟩ (gu [Value.ref (hp.objs.size + 1)] ws) _ _ E (hr.make C [] (ks.zip ws)) (J2.env0.make C [] (ks.zip ws)) (hb.to _ [Value.ref (hp.objs.size + 1)] ws J2.kIn rfl (rz.length.symm.trans l2)) r3 q2) fun r s' hq' => ?_))
  cases r with
  | error er => exact hx pins σ _ _ er s' J2 hq'
  | ok fl =>
    cases fl with
    | ret u =>
      obtain ⟨v, H2, J3, rv, ev, q5⟩ := J2.after hq'
      subst ev
      cases rv
      exact ⟨rfl, .ref _, H2, J3, rfl, q5⟩
    | next => exact False.elim hq'
    | brk => exact False.elim hq'
    | cont => exact False.elim hq'
end
end XR
namespace XR
open PySem PySem.Spec PyProof.Rows L2
theorem kbnI1 {K : PySem.W.Frag} {fd : FuncData} {o a : Str} (h : ∀ s u, bindArgs fd ⟨[s], [(a, u)]⟩ = pure [(o, s), (a, u)]) : KBn K fd [o, a] 1 [a] (fun us ws => us ++ ws) (fun vs zs => vs ++ zs) where
  to := fun s us ws _ l1 l2 => match us, ws, l1, l2 with | [u], [v], _, _ => .of_eq (h u v)
  rel := fun r1 r2 => r1.append r2
theorem kbnI2 {K : PySem.W.Frag} {fd : FuncData} {o a b : Str} (h : ∀ s u v, bindArgs fd ⟨[s], [(b, u), (a, v)]⟩ = pure [(o, s), (a, v), (b, u)]) : KBn K fd [o, a, b] 1 [b, a] (fun us ws => us ++ swap2 ws) (fun vs zs => vs ++ swap2 zs) where
  to := fun s us ws _ l1 l2 => match us, ws, l1, l2 with | [u], [v, x], _, _ => .of_eq (h u v x)
  rel := fun r1 r2 => r1.append (swap2_rel r2)
/-- what isinstance answers for an error of the class D, class by class -/
def kitRow (K : PySem.W.Frag) (D : Addr) (cs : List Value) (bs : List Bool) : Bool := (cs.map fun c => PySem.W.kitOne K (.ref D) c) == bs.map some
theorem kitRow_at {K : PySem.W.Frag} {D : Addr} {cs : List Value} {bs : List Bool} (h : kitRow K D cs bs = true) {j : Nat} {c : Value} {b : Bool} (hc : cs[j]? = some c) (hb : bs[j]? = some b) : PySem.W.kitOne K (.ref D) c = some b := by
  have e : (cs.map fun c => PySem.W.kitOne K (.ref D) c)[j]? = (bs.map some)[j]? := by rw [eq_of_beq h]
  rw [List.getElem?_map, List.getElem?_map, hc, hb] at e
  exact Option.some.inj e
end XR

namespace Wd
open PySem PySem.Spec PyProof.Rows L2 XR Mth GL
def top (i : Nat) : Stmt := PySem.Challenge.pw_frameseams_k62_errors_made.main.body.getD i (.Pass ⟨0, 0, 0, 0⟩)
def nI (n : Nat) : V := .int (n : Int)
/-! ### heaps -/
theorem same_upd {H : Hp} {p : Addr} {o : HO} (h : H p = none) : Same H (upd H p o) := fun b x e => by
  rw [upd_ne (ne_of_none e h)]
  exact e
/-- all but the object at j stands as it stood -/
def SameBut (j : Addr) (H H' : Hp) : Prop := ∀ b o, b ≠ j → H b = some o → H' b = some o
theorem SameBut.of {j : Addr} {H H' : Hp} (h : Same H H') : SameBut j H H' := fun b o _ e => h b o e
theorem SameBut.refl (j : Addr) (H : Hp) : SameBut j H H := fun _ _ _ e => e
theorem SameBut.trans {j : Addr} {H H1 H2 : Hp} (a : SameBut j H H1) (b : SameBut j H1 H2) : SameBut j H H2 := fun c o n e => b c o n (a c o n e)
theorem sb_upd {j : Addr} {H : Hp} {o : HO} : SameBut j H (upd H j o) := fun b x n e => by
  rw [upd_ne n]
  exact e
theorem SameBut.seq {K : PySem.W.Frag} {j : Addr} {H H' : Hp} {a : Addr} {xs : List V} {o : HO} (e : SameBut j H H') (hj : H j = some o) (ho : ∀ zs, o ≠ .lst zs) (ho2 : ∀ q zs, o ≠ .frz q zs) (h : SqL K H a xs) : SqL K H' a xs := by
  rcases h with (h | ⟨q, h⟩) | h
  · exact .inl (.inl (e _ _ (ne_of h hj (fun z => ho _ z.symm)) h))
  · exact .inl (.inr ⟨q, e _ _ (ne_of h hj (fun z => ho2 _ _ z.symm)) h⟩)
  · exact .inr h
theorem SameBut.seq' {K : PySem.W.Frag} {j : Addr} {H H' : Hp} {a : Addr} {xs : List V} (e : SameBut j H H') (n : a ≠ j) (h : SqL K H a xs) : SqL K H' a xs := by
  rcases h with (h | ⟨q, h⟩) | h
  · exact .inl (.inl (e _ _ n h))
  · exact .inl (.inr ⟨q, e _ _ n h⟩)
  · exact .inr h
/-- all that stood before H0 was left stands in H: H0's free places aside -/
theorem same_set {H0 H : Hp} {p : Addr} {o : HO} (s : Same H0 H) (h : H0 p = none) : Same H0 (upd H p o) := fun b x e => by
  rw [upd_ne (ne_of_none e h)]
  exact s _ _ e
theorem get_map {α β : Type} {f : α → β} {xs : List α} {i : Nat} {x : β} (h : (xs.map f)[i]? = some x) : ∃ y, xs[i]? = some y ∧ x = f y := by
  rw [List.getElem?_map] at h
  cases e : xs[i]? with
  | none => rw [e] at h; cases h
  | some y =>
    rw [e] at h
    exact ⟨y, rfl, (Option.some.inj h).symm⟩
theorem small_len {n : Nat} (h : n ≤ 1000) : n ≤ sizeLine := Nat.le_of_lt (small1000 h)
theorem iteD {c A B : Prop} [Decidable c] (hc : c) (h : A) : if decide c = true then A else B := by
  rw [if_pos (decide_eq_true hc)]
  exact h
theorem iteDF {c A B : Prop} [Decidable c] (hc : ¬ c) (h : B) : if decide c = true then A else B := by
  rw [if_neg (by rw [decide_eq_true_iff]; exact hc)]
  exact h
theorem ixN_nat {n j : Nat} (h : j < n) : ixN n (j : Int) = some j := by
  unfold ixN
  rw [if_pos (Int.natCast_nonneg j), if_pos (by omega), Int.toNat_natCast]
theorem ixN_of {n j : Nat} {z : Int} (e : z = (j : Int)) (h : j < n) : ixN n z = some j := by
  rw [e]
  exact ixN_nat h
theorem map_set' {α β : Type} (f : α → β) (l : List α) (j : Nat) (v : α) : (l.map f).set j (f v) = (l.set j v).map f := by
  rw [List.map_set]
theorem free_upd {H : Hp} {l p : Addr} {o : HO} (hl : H l = none) (hp : upd H l o p = none) : H p = none := (same_upd hl).free hp
abbrev sLawBag : Stmt := top 16
abbrev sLawStirred : Stmt := top 17
abbrev sLawDraw : Stmt := top 18
abbrev sLawAlike : Stmt := top 19
abbrev sLawOf : Stmt := top 20
abbrev sLaw : Stmt := top 21
def clsBody (s : Stmt) (j : Nat) : Stmt := match s with
  | .ClassDef _ _ _ b _ _ _ _ _ _ _ => b.getD j (.Pass ⟨0, 0, 0, 0⟩)
  | _ => .Pass ⟨0, 0, 0, 0⟩
abbrev sNotevenInit : Stmt := clsBody (top 11) 0
abbrev sNopartnerInit : Stmt := clsBody (top 12) 0
abbrev sNolistInit : Stmt := clsBody (top 13) 0
abbrev sInvalidtextInit : Stmt := clsBody (top 14) 0
structure Txt (K : PySem.W.Frag) (mg : Str → Option Value) : Prop where
  isinstance : mg "isinstance" = none
  int : mg "int" = none
  bool : mg "bool" = none
  list : mg "list" = none
  len : mg "len" = none
  all : mg "all" = none
  range : mg "range" = none
  abs : mg "abs" = none
  tuple : mg "tuple" = none
  str : mg "str" = none
  ValueError : mg "ValueError" = none
end Wd

namespace Wd
open PySem PySem.Spec PyProof.Rows L2 XR Mth GL
section
variable {P : Program} {w : World} {K : PySem.W.Frag} {mg : Str → Option Value} {base : Heap}
/-- the law's source of draws: a list of five at j, its cells at q, at most c draws behind it -/
def Bag (H : Hp) (j q : Addr) (c : Nat) : Prop := ∃ (cells : List Int) (pos : Nat) (cur stir : Int) (n : Nat), H j = some (.lst [.ref q, .int (pos : Int), .int cur, .int stir, .int (n : Int)]) ∧ H q = some (.lst (cells.map V.int)) ∧ 0 ≤ stir ∧ stir < 2147483648 ∧ n ≤ c
theorem cpowB : CPowW ((10 : Int) ^ (60 : Int).toNat) 10 := ⟨by decide, by decide +kernel⟩
theorem Bag.jq {H : Hp} {j q : Addr} {c : Nat} (h : Bag H j q c) : q ≠ j := by
  obtain ⟨cells, pos, cur, stir, n, e, e2, _⟩ := h
  intro z
  rw [z, e] at e2
  cases cells <;> cases e2
theorem Bag.mono {H : Hp} {j q : Addr} {n m : Nat} (h : Bag H j q n) (l : n ≤ m) : Bag H j q m := by
  obtain ⟨a1, a2, a3, a4, a5, e1, e2, h3, h4, h5⟩ := h
  exact ⟨a1, a2, a3, a4, a5, e1, e2, h3, h4, by omega⟩
theorem Bag.same {H H' : Hp} {j q : Addr} {n : Nat} (h : Bag H j q n) (s : Same H H') : Bag H' j q n := by
  obtain ⟨a1, a2, a3, a4, a5, e1, e2, h1⟩ := h
  exact ⟨a1, a2, a3, a4, a5, s _ _ e1, s _ _ e2, h1⟩
theorem Bag.but {H H' : Hp} {j q p : Addr} {n : Nat} (h : Bag H j q n) (n1 : p ≠ j) (n2 : p ≠ q) (s : SameBut p H H') : Bag H' j q n := by
  obtain ⟨a1, a2, a3, a4, a5, e1, e2, h1⟩ := h
  exact ⟨a1, a2, a3, a4, a5, s _ _ (Ne.symm n1) e1, s _ _ (Ne.symm n2) e2, h1⟩
theorem Bag.upd {H : Hp} {j q p : Addr} {n : Nat} {o : HO} (h : Bag H j q n) (n1 : p ≠ j) (n2 : p ≠ q) : Bag (upd H p o) j q n := h.but n1 n2 sb_upd
theorem Bag.ne {H : Hp} {j q p : Addr} {n : Nat} (h : Bag H j q n) (e : H p = none) : p ≠ j ∧ p ≠ q := by
  obtain ⟨a1, a2, a3, a4, a5, e1, e2, h1⟩ := h
  exact ⟨(ne_of_none e1 e).symm, (ne_of_none e2 e).symm⟩
theorem Bag.new {H : Hp} {j q p : Addr} {n : Nat} {o : HO} (h : Bag H j q n) (e : H p = none) : Bag (L2.upd H p o) j q n := h.same (same_upd e)
theorem emod_lt_nat {x m : Int} (h : 0 < m) : ∃ d : Nat, x % m = (d : Int) ∧ (d : Int) < m := by
  refine ⟨(x % m).toNat, ?_, ?_⟩
  · rw [Int.toNat_of_nonneg (Int.emod_nonneg _ (by omega))]
  · rw [Int.toNat_of_nonneg (Int.emod_nonneg _ (by omega))]
    exact Int.emod_lt_of_pos _ h
theorem lt_pow_of {x y : Int} {k : Nat} (h0 : 0 ≤ x) (h : x < y) (hy : y ≤ 2 ^ k) : x.natAbs < 2 ^ k := by
  have e : ((2 ^ k : Nat) : Int) = (2 : Int) ^ k := by simp
  omega
theorem sb_set {j p : Addr} {H H' : Hp} {o : HO} (s : SameBut j H H') (h : H p = none) : SameBut j H (upd H' p o) := fun b x n e => by
  rw [upd_ne (ne_of_none e h)]
  exact s _ _ n e
theorem sb_same {j : Addr} {H H1 H2 : Hp} (s : SameBut j H H1) (t : Same H1 H2) : SameBut j H H2 := s.trans (SameBut.of t)
theorem SameBut.free {j p : Addr} {H H' : Hp} (s : SameBut j H H') (n : p ≠ j) (h : H' p = none) : H p = none := by
  cases q : H p with
  | none => rfl
  | some o =>
    rw [s p o n q] at h
    cases h
def spBag (K : PySem.W.Frag) : Sp := fun vs H Q _ => ∃ (a : Addr) (ns : List Int), vs = [.ref a] ∧ SqL K H a (ns.map V.int) ∧ ns.length ≤ 63 ∧ ∀ H' j q, Same H H' → H j = none → H q = none → Bag H' j q 0 → Q (.ref j) H'
theorem scBag : FnScope ["script", "stir", "cell"] ["script"] (defScope sLawBag) := ⟨rfl, rfl, rfl, by decide +kernel, rfl, by decide +kernel, by decide +kernel⟩
theorem ok_bag {f : Addr} {fd : FuncData} {k : Nat} (F : Fun K "_law_bag" "_law_bag" sLawBag f fd) (T : Txt K mg) :
    FnOk P w K mg base CX0 (k + 1) f fd ["script"] (spBag K) := by
  refine F.ok scBag (fun vs H Q E h => ?_) (fun cdv A outer s H vs Q E hr h => ?_)
  · first | (obtain ⟨_, rfl, _⟩ := h; rfl) | (obtain ⟨_, _, rfl, _⟩ := h; rfl) | (obtain ⟨_, _, _, rfl, _⟩ := h; rfl) | (obtain ⟨_, _, _, _, rfl, _⟩ := h; rfl) | (obtain ⟨_, _, _, _, _, rfl, _⟩ := h; rfl) | (obtain ⟨_, _, _, _, _, _, rfl, _⟩ := h; rfl) | (obtain ⟨_, _, _, _, _, _, _, rfl, _⟩ := h; rfl) | (obtain ⟨_, _, _, _, _, _, _, _, rfl, _⟩ := h; rfl) | (obtain ⟨_, _, _, _, _, _, _, _, _, rfl, _⟩ := h; rfl) | (obtain ⟨_, _, _, _, _, _, _, _, _, _, rfl, _⟩ := h; rfl) | (obtain ⟨_, _, _, _, _, _, _, _, _, _, _, rfl, _⟩ := h; rfl)
  · have nd := scBag.nd
    obtain ⟨a, ns, rfl, hA, hlen, q⟩ := h
    refine ⟨_, pss_cons (ps_set (i := 1) nd rfl (.inl rfl) pe_int)
      (pss_cons (ps_for PassesOwn.never rfl (pi_list (pe_slice sl_list (pv 0) po_none (po_some pe_int))) (pg_name (i := 2) nd rfl (.inl rfl))
        (pss_one (ps_set (i := 1) nd rfl (.inl rfl) (pe_op op_mod (pe_callTy call_int1 (by rfl) T.int (by decide +kernel) (pa_cons (pe_op op_add (pe_op op_add (pe_op op_mul (pv 1) pe_int) (pe_op op_mod (pe_callTy call_int1 (by rfl) T.int (by decide +kernel) (pa_cons (pv 2) pa_nil)) pe_int)) pe_int) pa_nil)) pe_int))))
      (pss_one (ps_ret (pe_lst (pa_cons (pe_lc (own := [("cell", 2)]) (g := (gName 2)) (tt := tYes) rfl nd (pi_list (pe_slice sl_list (pv 0) po_none (po_some pe_int))) (blkOk_by (N := ["script", "stir", "cell"]) (sc := defScope sLawBag) (by decide +kernel)) (fun _ _ _ _ _ => pg_name (i := 2) nd rfl (Or.inl rfl)) (fun _ _ _ _ _ => pts_nil) (fun _ _ _ _ _ => pe_op op_mod (pe_callTy call_int1 (by rfl) T.int (by decide +kernel) (pa_cons (pe_callB call_abs (by rfl) T.abs (by decide +kernel) (pa_cons (pv 2) pa_nil)) pa_nil)) (pe_op op_powW (pe_op op_pow pe_int pe_int) pe_int))) (pa_cons pe_int (pa_cons pe_int (pa_cons (pv 1) (pa_cons pe_int pa_nil))))))))), ?_⟩
    refine ⟨_, rfl, 63, rfl, a, _, rfl, hA, fun p hp => ?_⟩
    have hz : ∀ (i : Nat) (x : V), (cutV (ns.map V.int) none (some 63))[i]? = some x → ∃ n : Int, x = .int n := by
      intro i x hx
      have hm := List.mem_of_getElem? hx
      unfold cutV at hm
      have hm2 := List.mem_of_mem_drop (List.mem_of_mem_take hm)
      obtain ⟨n, _, rfl⟩ := List.mem_map.mp hm2
      exact ⟨n, rfl⟩
    have hzl : (cutV (ns.map V.int) none (some 63)).length ≤ 63 := by
      unfold cutV
      rw [List.length_take, List.length_drop, List.length_map]
      omega
    generalize cutV (ns.map V.int) none (some 63) = zs at *
    refine ⟨p, rfl, ⟨_, SqL.of upd_same⟩, ?_⟩
    refine for_list (K := K) (a := p) (xs := zs) (fun i σ H' => ∃ (st : Int) (y : Option V), σ = [some (.ref a), some (.int st), y] ∧ H' = upd H p (.lst zs) ∧ 0 ≤ st ∧ st < 2147483648) ⟨143, none, rfl, rfl, by decide, by decide⟩ (fun i σ H' _ ⟨_, _, _, e, _⟩ => by rw [e]; exact SqL.of upd_same) ?_ ?_
    · rintro i x σ H' hi ⟨st, y, rfl, rfl, s1, s2⟩
      obtain ⟨n, rfl⟩ := hz i x hi
      refine ⟨_, rfl, _, _, rfl, rfl, .inr ⟨by decide, by decide⟩, _, rfl, .inl ⟨_, rfl, _, _, rfl, rfl, (show (0 : Int) < 2147483629 by decide), _, _, rfl, rfl, _, _, rfl, rfl, .inl ⟨_, rfl, _, _, rfl, rfl, (show (0 : Int) < 2147483647 by decide), ?_⟩⟩⟩
      refine ⟨_, _, rfl, rfl, Int.emod_nonneg _ (by decide), ?_⟩
      have := Int.emod_lt_of_pos (st * 48271 + n % 2147483629 + 1) (show (0 : Int) < 2147483647 by decide)
      omega
    · rintro σ H' ⟨st, y, rfl, rfl, s1, s2'⟩
      have hA1 : SqL K (upd H p (.lst zs)) a (ns.map V.int) := by
        rcases hA with (h | ⟨o, h⟩) | h
        · exact .inl (.inl (same_upd hp _ _ h))
        · exact .inl (.inr ⟨o, same_upd hp _ _ h⟩)
        · exact .inr h
      refine ⟨_, rfl, 63, rfl, a, _, rfl, hA1, fun p2 hp2 => ?_⟩
      have hz2 : ∀ (i : Nat) (x : V), (cutV (ns.map V.int) none (some 63))[i]? = some x → ∃ n : Int, x = .int n := by
        intro i x hx
        have hm := List.mem_of_getElem? hx
        unfold cutV at hm
        obtain ⟨n, _, rfl⟩ := List.mem_map.mp (List.mem_of_mem_drop (List.mem_of_mem_take hm))
        exact ⟨n, rfl⟩
      have hzl2 : (cutV (ns.map V.int) none (some 63)).length ≤ 63 := by
        unfold cutV
        rw [List.length_take, List.length_drop, List.length_map]
        omega
      generalize cutV (ns.map V.int) none (some 63) = zs2 at *
      have s2 := (same_upd (H := H) (o := .lst zs) hp).trans (same_upd (o := .lst zs2) hp2)
      refine ⟨p2, rfl, ⟨_, SqL.of upd_same⟩, fun D hD => ?_⟩
      have s3 := s2.trans (same_upd (o := .lst []) hD)
      have np2 : p2 ≠ D := fun e => by rw [← e, upd_same] at hD; cases hD
      refine lc_list (K := K) (a := p2) (xs := zs2) (fun i H' => Same H H' ∧ H' p2 = some (.lst zs2) ∧ ∃ cs : List Int, H' D = some (.lst (cs.map V.int)) ∧ cs.length = i) ⟨s3, by rw [upd_ne np2]; exact upd_same, [], upd_same, rfl⟩ (fun i H' _ ⟨_, e, _⟩ => SqL.of e) ?_ ?_
      · rintro i x H' hi ⟨s4, e4, cs, hD4, hl4⟩
        obtain ⟨n, rfl⟩ := hz2 i x hi
        have hlt := (List.getElem?_eq_some_iff.mp hi).1
        refine ⟨rfl, _, rfl, _, rfl, .inl ⟨_, rfl, _, _, rfl, rfl, ⟨by decide, by decide, by decide⟩, _, _, rfl, rfl, cpowB, _, _, rfl, rfl, (show (0 : Int) < ((10 : Int) ^ (60 : Int).toNat) ^ (10 : Int).toNat by decide), ?_⟩⟩
        refine ⟨_, hD4, ?_, same_set s4 (s2.free hD), by rw [upd_ne np2]; exact e4, cs ++ [(if n < 0 then -n else n) % ((10 : Int) ^ (60 : Int).toNat) ^ (10 : Int).toNat], ?_, by rw [List.length_append, hl4]; rfl⟩
        · rw [List.length_map, hl4]
          exact small1000 (by omega)
        · rw [upd_same, List.map_append]
          rfl
      · rintro H' ⟨s4, e4, cs, hD4, hl4⟩
        refine ⟨_, rfl, small_len (by show 5 ≤ 1000; decide), fun j hj => ?_⟩
        have njD : D ≠ j := ne_of_none hD4 hj
        exact q _ j D (s4.trans (same_upd hj)) (s4.free hj) (s2.free hD) ⟨cs, 0, 0, st, 0, upd_same, by rw [upd_ne njD]; exact hD4, s1, s2', Nat.le_refl _⟩
end
section
variable {P : Program} {w : World} {K : PySem.W.Frag} {mg : Str → Option Value} {base : Heap}
def spStirred : Sp := fun vs H Q _ => ∃ (j q : Addr) (c m : Nat), vs = [.ref j, .int (m : Int)] ∧ Bag H j q c ∧ c ≤ 1000000000 ∧ 1 ≤ m ∧ m < 2 ^ 300 ∧ ∀ H' (d : Nat), SameBut j H H' → Bag H' j q (c + 12) → d < m → Q (.int (d : Int)) H'
theorem scStirred : FnScope ["bag", "wide", "found", "k", "mixed"] ["bag", "wide"] (defScope sLawStirred) := ⟨rfl, rfl, rfl, by decide +kernel, rfl, by decide +kernel, by decide +kernel⟩
theorem ok_stirred {f : Addr} {fd : FuncData} {k : Nat} (F : Fun K "_law_stirred" "_law_stirred" sLawStirred f fd) (T : Txt K mg) :
    FnOk P w K mg base CX0 (k + 1) f fd ["bag", "wide"] spStirred := by
  refine F.ok scStirred (fun vs H Q E h => ?_) (fun cdv A outer s H vs Q E hr h => ?_)
  · first | (obtain ⟨_, rfl, _⟩ := h; rfl) | (obtain ⟨_, _, rfl, _⟩ := h; rfl) | (obtain ⟨_, _, _, rfl, _⟩ := h; rfl) | (obtain ⟨_, _, _, _, rfl, _⟩ := h; rfl) | (obtain ⟨_, _, _, _, _, rfl, _⟩ := h; rfl) | (obtain ⟨_, _, _, _, _, _, rfl, _⟩ := h; rfl) | (obtain ⟨_, _, _, _, _, _, _, rfl, _⟩ := h; rfl) | (obtain ⟨_, _, _, _, _, _, _, _, rfl, _⟩ := h; rfl) | (obtain ⟨_, _, _, _, _, _, _, _, _, rfl, _⟩ := h; rfl) | (obtain ⟨_, _, _, _, _, _, _, _, _, _, rfl, _⟩ := h; rfl) | (obtain ⟨_, _, _, _, _, _, _, _, _, _, _, rfl, _⟩ := h; rfl)
  · have nd := scStirred.nd
    obtain ⟨j, q, c, m, rfl, hB, hc, m1, m2, qq⟩ := h
    refine ⟨_, pss_cons (ps_set (i := 2) nd rfl (.inl rfl) pe_int)
      (pss_cons (ps_for PassesOwn.never rfl (pi_range1 rfl T.range (pa_cons (pe_op op_add pe_int (pe_op op_fdivW (pe_bits (pv 1)) pe_int)) pa_nil)) (pg_name (i := 3) nd rfl (.inl rfl))
        (pss_cons (ps_asg (pe_op op_add (pe_ix ix_list (pv 0) pe_int (fun _ _ => rfl)) pe_int) (pg_sub (pv 0) pe_int set_list))
        (pss_cons (ps_set (i := 4) nd rfl (.inl rfl) (pe_op op_add (pe_op op_add (pe_op op_add (pe_op op_powW (pe_ix ix_list (pv 0) pe_int (fun _ _ => rfl)) pe_int) (pe_op op_mul pe_int (pe_ix ix_list (pv 0) pe_int (fun _ _ => rfl)))) (pe_op op_mul pe_int (pe_ix ix_list (pv 0) pe_int (fun _ _ => rfl)))) pe_int))
        (pss_cons (ps_asg (pe_op op_mod (pe_callTy call_int1 (by rfl) T.int (by decide +kernel) (pa_cons (pv 4) pa_nil)) pe_int) (pg_sub (pv 0) pe_int set_list))
        (pss_one (ps_set (i := 2) nd rfl (.inl rfl) (pe_op op_add (pe_op op_mul (pv 2) pe_int) (pe_op op_fdivW (pe_ix ix_list (pv 0) pe_int (fun _ _ => rfl)) pe_int))))))))
      (pss_one (ps_ret (pe_op op_mod (pe_callTy call_int1 (by rfl) T.int (by decide +kernel) (pa_cons (pv 2) pa_nil)) (pv 1))))), ?_⟩
    have jq := hB.jq
    obtain ⟨cells, pos, cur, st0, n, e1, e2, h3, h4, h5⟩ := hB
    have mI : (0 : Int) < (m : Int) := by omega
    obtain ⟨N, hN, hN2⟩ : ∃ N : Nat, 1 + ((Builtin.Int.intBits (m : Int) : Nat) : Int) / 27 = (N : Int) ∧ N ≤ 12 := by
      have b := PyProof.Rows.intBits_le (a := (m : Int)) (k := 300) (by omega)
      exact ⟨1 + Builtin.Int.intBits (m : Int) / 27, by omega, by omega⟩
    refine ⟨_, rfl, _, rfl, _, _, rfl, rfl, wide_div (b := 10) (by decide) (by decide) (by decide) (by decide), _, _, rfl, rfl, ?_⟩
    refine ⟨(N : Int), congrArg (fun z => [V.int z]) hN, by omega, by omega, ?_⟩
    rw [Int.toNat_natCast]
    refine for_range (lo := 0) (n := N) (fun i σ H' => ∃ (y3 y4 : Option V) (fo st : Int), σ = [some (.ref j), some (.int (m : Int)), some (.int fo), y3, y4] ∧ SameBut j H H' ∧ H' j = some (.lst [.ref q, .int (pos : Int), .int cur, .int st, .int ((n + i : Nat) : Int)]) ∧ 0 ≤ st ∧ st < 2147483648) ⟨none, none, 0, st0, rfl, SameBut.refl _ _, e1, h3, h4⟩ ?_ ?_
    · rintro i σ H' hi ⟨y3, y4, fo, st, rfl, sb, hj, s1, s2⟩
      refine ⟨_, rfl, j, _, 4, _, rfl, rfl, SqL.of hj, atI_nat (j := 4) rfl, _, _, rfl, rfl, _, rfl, j, _, 4, 4, rfl, rfl, hj, rfl, ?_⟩
      have hj2 : upd H' j (.lst ([V.ref q, .int (pos : Int), .int cur, .int st, .int ((n + i : Nat) : Int)].set 4 (.int (((n + i : Nat) : Int) + 1)))) j = some (.lst [.ref q, .int (pos : Int), .int cur, .int st, .int (((n + i : Nat) : Int) + 1)]) := upd_same
      refine ⟨_, rfl, j, _, 3, _, rfl, rfl, SqL.of hj2, atI_nat (j := 3) rfl, _, _, rfl, rfl, cpow3 (k := 40) (by omega) (by decide) (by decide), _, rfl, j, _, 3, _, rfl, rfl, SqL.of hj2, atI_nat (j := 3) rfl, _, _, rfl, rfl, .inl ⟨by decide, by decide⟩, _, _, rfl, rfl,
        _, rfl, j, _, 4, _, rfl, rfl, SqL.of hj2, atI_nat (j := 4) rfl, _, _, rfl, rfl, .inl ⟨by decide, by decide⟩, _, _, rfl, rfl, _, _, rfl, rfl, ?_⟩
      dsimp only
      generalize st ^ (3 : Int).toNat + 69621 * st + 1031 * (((n + i : Nat) : Int) + 1) + 1 = mx
      refine ⟨_, rfl, .inl ⟨_, rfl, _, _, rfl, rfl, (show (0 : Int) < 2147483647 by decide), _, rfl, j, _, 3, 3, rfl, rfl, hj2, rfl, ?_⟩⟩
      have z1 := Int.emod_nonneg mx (show (2147483647 : Int) ≠ 0 by decide)
      have z2 := Int.emod_lt_of_pos mx (show (0 : Int) < 2147483647 by decide)
      dsimp only
      generalize mx % 2147483647 = st2 at *
      refine ⟨_, rfl, _, _, rfl, rfl, .inr ⟨by decide, by decide⟩, _, rfl, j, _, 3, _, rfl, rfl, SqL.of upd_same, atI_nat (j := 3) rfl, _, _, rfl, rfl, wide_div (b := 10) (by decide) (by decide) (by decide) (by decide), _, _, rfl, rfl, ?_⟩
      refine ⟨_, _, _, st2, rfl, (sb.trans sb_upd).trans sb_upd, ?_, z1, by omega⟩
      rw [upd_same]
      have e : ((n + (i + 1) : Nat) : Int) = ((n + i : Nat) : Int) + 1 := by omega
      rw [e]
      rfl
    · rintro σ H' ⟨y3, y4, fo, st, rfl, sb, hj, s1, s2⟩
      obtain ⟨d, ed, hd⟩ := emod_lt_nat (x := fo) mI
      refine ⟨_, rfl, .inl ⟨_, rfl, _, rfl, _, _, rfl, rfl, mI, ?_⟩⟩
      dsimp only
      rw [ed]
      exact qq _ d sb ⟨cells, pos, cur, st, n + N, hj, sb _ _ jq e2, s1, s2, by omega⟩ (by omega)
end
section
variable {P : Program} {w : World} {K : PySem.W.Frag} {mg : Str → Option Value} {base : Heap}
def spDraw : Sp := fun vs H Q _ => ∃ (j q : Addr) (c m : Nat), vs = [.ref j, .int (m : Int)] ∧ Bag H j q c ∧ c ≤ 1000000000 ∧ 1 ≤ m ∧ m < 2 ^ 300 ∧ ∀ H' (d : Nat), SameBut j H H' → Bag H' j q (c + 12) → d < m → Q (.int (d : Int)) H'
theorem scDraw : FnScope ["bag", "wide", "found"] ["bag", "wide"] (defScope sLawDraw) := ⟨rfl, rfl, rfl, by decide +kernel, rfl, by decide +kernel, by decide +kernel⟩
theorem ok_draw {f fS : Addr} {fd fdS : FuncData} {k : Nat} (F : Fun K "_law_draw" "_law_draw" sLawDraw f fd) (T : Txt K mg)
    (GS : FnOk P w K mg base CX0 k fS fdS ["bag", "wide"] spStirred) (gS : mg "_law_stirred" = some (.ref fS)) (kS : PySem.W.keepIn K (.ref fS) = true) (bS : Binds K fdS ["bag", "wide"] []) :
    FnOk P w K mg base CX0 (k + 1) f fd ["bag", "wide"] spDraw := by
  refine F.ok scDraw (fun vs H Q E h => ?_) (fun cdv A outer s H vs Q E hr h => ?_)
  · first | (obtain ⟨_, rfl, _⟩ := h; rfl) | (obtain ⟨_, _, rfl, _⟩ := h; rfl) | (obtain ⟨_, _, _, rfl, _⟩ := h; rfl) | (obtain ⟨_, _, _, _, rfl, _⟩ := h; rfl) | (obtain ⟨_, _, _, _, _, rfl, _⟩ := h; rfl) | (obtain ⟨_, _, _, _, _, _, rfl, _⟩ := h; rfl) | (obtain ⟨_, _, _, _, _, _, _, rfl, _⟩ := h; rfl) | (obtain ⟨_, _, _, _, _, _, _, _, rfl, _⟩ := h; rfl) | (obtain ⟨_, _, _, _, _, _, _, _, _, rfl, _⟩ := h; rfl) | (obtain ⟨_, _, _, _, _, _, _, _, _, _, rfl, _⟩ := h; rfl) | (obtain ⟨_, _, _, _, _, _, _, _, _, _, _, rfl, _⟩ := h; rfl)
  · have nd := scDraw.nd
    obtain ⟨j, q, c, m, rfl, hB, hc, m1, m2, qq⟩ := h
    refine ⟨_, pss_cons (ps_if (PW.pt (pw_and (pt_cmpR op_eq (pe_ix ix_list (pv 0) pe_int (fun _ _ => rfl)) pe_int (nomark _)) (pw_and1 (pt_cmpR op_lt (pe_ix ix_list (pv 0) pe_int (fun _ _ => rfl)) (pe_callB call_len_seq (by rfl) T.len PySem.boot_len (pa_cons (pe_ix ix_list (pv 0) pe_int (fun _ _ => rfl)) pa_nil)) (nomark _))))) (pss_cons (ps_asg (pe_ix ix_list (pe_ix ix_list (pv 0) pe_int (fun _ _ => rfl)) (pe_ix ix_list (pv 0) pe_int (fun _ _ => rfl)) (fun _ _ => rfl)) (pg_sub (pv 0) pe_int set_list))
        (pss_one (ps_asg (pe_op op_add (pe_ix ix_list (pv 0) pe_int (fun _ _ => rfl)) pe_int) (pg_sub (pv 0) pe_int set_list)))) (pss_one (ps_if (pt_cmpR op_eq (pe_ix ix_list (pv 0) pe_int (fun _ _ => rfl)) pe_int (nomark _)) (pss_one (ps_ret (pe_call GS hr (by rfl) gS kS bS .nil pass0 (pa_cons (pv 0) (pa_cons (pv 1) pa_nil))))) pss_nil)))
      (pss_cons (ps_set (i := 2) nd rfl (.inl rfl) (pe_op op_mod (pe_callTy call_int1 (by rfl) T.int (by decide +kernel) (pa_cons (pe_ix ix_list (pv 0) pe_int (fun _ _ => rfl)) pa_nil)) (pv 1)))
      (pss_cons (ps_asg (pe_op op_fdivW (pe_ix ix_list (pv 0) pe_int (fun _ _ => rfl)) (pv 1)) (pg_sub (pv 0) pe_int set_list))
      (pss_one (ps_ret (pv 2))))), ?_⟩
    have jq := hB.jq
    have hB0 := hB
    obtain ⟨cells, pos, cur, st0, n, e1, e2, h3, h4, h5⟩ := hB
    have mI : (0 : Int) < (m : Int) := by omega
    refine ⟨_, rfl, j, _, 2, _, rfl, rfl, SqL.of e1, atI_nat (j := 2) rfl, rfl, _, rfl, ?_⟩
    by_cases c1 : cur = 0
    · refine iteD (congrArg V.int c1) ?_
      refine ⟨_, rfl, j, _, 1, _, rfl, rfl, SqL.of e1, atI_nat (j := 1) rfl, _, rfl, j, _, 0, _, rfl, rfl, SqL.of e1, atI_nat (j := 0) rfl, q, _, rfl, .inl (SqL.of e2), _, _, rfl, rfl, _, rfl, ?_⟩
      rw [List.length_map]
      by_cases c2 : (pos : Int) < (cells.length : Int)
      · refine iteD c2 ?_
        have hpl : pos < cells.length := by omega
        have g : (cells.map V.int)[pos]? = some (.int cells[pos]) := by
          rw [List.getElem?_map, List.getElem?_eq_getElem hpl]
          rfl
        generalize cells[pos] = v at g
        refine ⟨_, rfl, j, _, 0, _, rfl, rfl, SqL.of e1, atI_nat (j := 0) rfl, _, rfl, j, _, 1, _, rfl, rfl, SqL.of e1, atI_nat (j := 1) rfl, q, _, _, _, rfl, rfl, SqL.of e2, atI_nat g, _, rfl, j, _, 2, 2, rfl, rfl, e1, rfl, ?_⟩
        have hj1 : upd H j (.lst ([V.ref q, .int (pos : Int), .int cur, .int st0, .int (n : Int)].set 2 (.int v))) j = some (.lst [.ref q, .int (pos : Int), .int v, .int st0, .int (n : Int)]) := upd_same
        refine ⟨_, rfl, j, _, 1, _, rfl, rfl, SqL.of hj1, atI_nat (j := 1) rfl, _, _, rfl, rfl, _, rfl, j, _, 1, 1, rfl, rfl, hj1, rfl, ?_⟩
        have hj : upd (upd H j (.lst ([V.ref q, .int (pos : Int), .int cur, .int st0, .int (n : Int)].set 2 (.int v)))) j (.lst ([V.ref q, .int (pos : Int), .int v, .int st0, .int (n : Int)].set 1 (.int ((pos : Int) + 1)))) j = some (.lst [.ref q, .int ((pos : Int) + 1), .int v, .int st0, .int (n : Int)]) := upd_same
        obtain ⟨d, ed, hd⟩ := emod_lt_nat (x := v) mI
        refine ⟨_, rfl, j, _, 2, _, rfl, rfl, SqL.of hj, atI_nat (j := 2) rfl, .inl ⟨_, rfl, _, rfl, _, _, rfl, rfl, mI, ?_⟩⟩
        refine ⟨_, rfl, j, _, 2, _, rfl, rfl, SqL.of hj, atI_nat (j := 2) rfl, _, rfl, _, _, rfl, rfl, wide_div mI (show (m : Int).natAbs < 2 ^ 300 by omega) (by decide) (by decide), ?_⟩
        refine ⟨_, rfl, j, _, 2, 2, rfl, rfl, hj, rfl, ?_⟩
        refine ⟨_, rfl, ?_⟩
        dsimp only
        rw [ed]
        exact qq _ d ((sb_upd.trans sb_upd).trans sb_upd) ⟨cells, pos + 1, v / (m : Int), st0, n, by rw [upd_same]; rfl, by rw [upd_ne jq, upd_ne jq, upd_ne jq]; exact e2, h3, h4, by omega⟩ (by omega)
      · refine iteDF c2 ?_
        refine ⟨_, rfl, j, _, 2, _, rfl, rfl, SqL.of e1, atI_nat (j := 2) rfl, rfl, _, rfl, iteD (congrArg V.int c1) ?_⟩
        exact ⟨_, rfl, _, rfl, j, q, c, m, rfl, hB0, hc, m1, m2, qq⟩
    · refine iteDF (fun z => c1 (V.int.inj z)) ?_
      refine ⟨_, rfl, j, _, 2, _, rfl, rfl, SqL.of e1, atI_nat (j := 2) rfl, rfl, _, rfl, iteDF (fun z => c1 (V.int.inj z)) ?_⟩
      have hj := e1
      obtain ⟨d, ed, hd⟩ := emod_lt_nat (x := cur) mI
      refine ⟨_, rfl, j, _, 2, _, rfl, rfl, SqL.of hj, atI_nat (j := 2) rfl, .inl ⟨_, rfl, _, rfl, _, _, rfl, rfl, mI, ?_⟩⟩
      refine ⟨_, rfl, j, _, 2, _, rfl, rfl, SqL.of hj, atI_nat (j := 2) rfl, _, rfl, _, _, rfl, rfl, wide_div mI (show (m : Int).natAbs < 2 ^ 300 by omega) (by decide) (by decide), ?_⟩
      refine ⟨_, rfl, j, _, 2, 2, rfl, rfl, hj, rfl, ?_⟩
      refine ⟨_, rfl, ?_⟩
      dsimp only
      rw [ed]
      exact qq _ d sb_upd ⟨cells, pos, cur / (m : Int), st0, n, by rw [upd_same]; rfl, by rw [upd_ne jq]; exact e2, h3, h4, by omega⟩ (by omega)
end
section
variable {P : Program} {w : World} {K : PySem.W.Frag} {mg : Str → Option Value} {base : Heap}
theorem kaNo {K : PySem.W.Frag} {t : String} (h1 : kitB t "list" = some false) (h2 : kitB t "tuple" = some false) : PySem.W.kitAny K (.type t) [.type "list", .type "tuple"] = some false :=
  kitAny_cons (b := false) (kit_ty h1) (fun _ => kitAny_cons (b := false) (kit_ty h2) (fun _ => kitAny_nil) (fun z => nomatch z)) (fun z => nomatch z)
theorem kaList {K : PySem.W.Frag} : PySem.W.kitAny K (.type "list") [.type "list", .type "tuple"] = some true :=
  kitAny_cons (b := true) (kit_ty (by decide +kernel)) (fun z => nomatch z) (fun _ => rfl)
theorem kaTuple {K : PySem.W.Frag} : PySem.W.kitAny K (.type "tuple") [.type "list", .type "tuple"] = some true :=
  kitAny_cons (b := false) (kit_ty (by decide +kernel)) (fun _ => kitAny_cons (b := true) (kit_ty (by decide +kernel)) (fun z => nomatch z) (fun _ => rfl)) (fun z => nomatch z)
inductive Sc : V → String → Prop
  | non : Sc .non "NoneType"
  | bl (b : Bool) : Sc (.bl b) "bool"
  | int (i : Int) : Sc (.int i) "int"
  | str (s : Str) : Sc (.str s) "str"
/-- two values that are alike: scalars, or lists, or tuples of such, n deep -/
def Al : Nat → Hp → V → V → Prop
  | 0, _, x, y => x = y ∧ ∃ t, Sc x t
  | n + 1, H, x, y => (x = y ∧ ∃ t, Sc x t) ∨ ∃ (a b : Addr) (xs ys : List V), x = .ref a ∧ y = .ref b ∧ ((H a = some (.lst xs) ∧ H b = some (.lst ys)) ∨ (H a = some (.tup xs) ∧ H b = some (.tup ys))) ∧ xs.length = ys.length ∧ xs.length ≤ 1000 ∧ ∀ (i : Nat) (u v : V), xs[i]? = some u → ys[i]? = some v → Al n H u v
theorem Al.same : ∀ {n : Nat} {H H' : Hp} {x y : V}, Same H H' → Al n H x y → Al n H' x y
  | 0, _, _, _, _, _, h => h
  | n + 1, _, _, _, _, s, .inl h => .inl h
  | n + 1, _, _, _, _, s, .inr ⟨a, b, xs, ys, e1, e2, e3, e4, e5, h⟩ => .inr ⟨a, b, xs, ys, e1, e2, e3.elim (fun z => .inl ⟨s _ _ z.1, s _ _ z.2⟩) (fun z => .inr ⟨s _ _ z.1, s _ _ z.2⟩), e4, e5, fun i u v hu hv => (h i u v hu hv).same s⟩
theorem Al.int {H : Hp} {n : Nat} (i : Int) : Al n H (.int i) (.int i) := by
  cases n with
  | zero => exact ⟨rfl, _, .int i⟩
  | succ n => exact .inl ⟨rfl, _, .int i⟩
theorem Al.ints {H : Hp} {n : Nat} {a b : Addr} {xs : List Int} (h1 : H a = some (.lst (xs.map V.int))) (h2 : H b = some (.lst (xs.map V.int))) (hl : xs.length ≤ 1000) : Al (n + 1) H (.ref a) (.ref b) := by
  refine .inr ⟨a, b, _, _, rfl, rfl, .inl ⟨h1, h2⟩, rfl, by rw [List.length_map]; exact hl, fun i u v hu hv => ?_⟩
  rw [hu] at hv
  cases hv
  obtain ⟨n, _, rfl⟩ := get_map hu
  exact Al.int n
def spAlike0 : Sp := fun vs H Q _ => ∃ (x y : V), vs = [x, y] ∧ Al 0 H x y ∧ ∀ H', Same H H' → Q (.bl true) H'
theorem scAlike0 : FnScope ["found", "due", "k"] ["found", "due"] (defScope sLawAlike) := ⟨rfl, rfl, rfl, by decide +kernel, rfl, by decide +kernel, by decide +kernel⟩
theorem ok_alike0 {f : Addr} {fd : FuncData} {k : Nat} (F : Fun K "_law_alike" "_law_alike" sLawAlike f fd) (T : Txt K mg) :
    FnOk P w K mg base CX0 (k + 1) f fd ["found", "due"] spAlike0 := by
  refine F.ok scAlike0 (fun vs H Q E h => ?_) (fun cdv A outer s H vs Q E hr h => ?_)
  · first | (obtain ⟨_, rfl, _⟩ := h; rfl) | (obtain ⟨_, _, rfl, _⟩ := h; rfl) | (obtain ⟨_, _, _, rfl, _⟩ := h; rfl) | (obtain ⟨_, _, _, _, rfl, _⟩ := h; rfl) | (obtain ⟨_, _, _, _, _, rfl, _⟩ := h; rfl) | (obtain ⟨_, _, _, _, _, _, rfl, _⟩ := h; rfl) | (obtain ⟨_, _, _, _, _, _, _, rfl, _⟩ := h; rfl) | (obtain ⟨_, _, _, _, _, _, _, _, rfl, _⟩ := h; rfl) | (obtain ⟨_, _, _, _, _, _, _, _, _, rfl, _⟩ := h; rfl) | (obtain ⟨_, _, _, _, _, _, _, _, _, _, rfl, _⟩ := h; rfl) | (obtain ⟨_, _, _, _, _, _, _, _, _, _, _, rfl, _⟩ := h; rfl)
  · have nd := scAlike0.nd
    obtain ⟨x, y, rfl, ⟨rfl, t, ht⟩, q⟩ := h
    refine ⟨_, pss_cons (ps_if (pt_val (pe_callB call_isiT (by rfl) T.isinstance (by decide +kernel) (pa_cons (pv 1) (pa_cons (pe_tup (pa_cons (pe_bltn (v := .ty "list") (by rfl) T.list (by decide +kernel) rfl) (pa_cons (pe_bltn (v := .ty "tuple") (by rfl) T.tuple (by decide +kernel) rfl) pa_nil))) pa_nil)))) pss_never pss_nil)
      (pss_cons (ps_if (PW.pt (pw_or (pt_cmpR op_ne (pe_callB call_isi (by rfl) T.isinstance (by decide +kernel) (pa_cons (pv 0) (pa_cons (pe_bltn (v := .ty "bool") (by rfl) T.bool (by decide +kernel) rfl) pa_nil))) (pe_callB call_isi (by rfl) T.isinstance (by decide +kernel) (pa_cons (pv 1) (pa_cons (pe_bltn (v := .ty "bool") (by rfl) T.bool (by decide +kernel) rfl) pa_nil))) (nomark _)) (pw_or1 (pt_cmpR op_ne (pe_callB call_isi (by rfl) T.isinstance (by decide +kernel) (pa_cons (pv 0) (pa_cons (pe_bltn (v := .ty "int") (by rfl) T.int (by decide +kernel) rfl) pa_nil))) (pe_callB call_isi (by rfl) T.isinstance (by decide +kernel) (pa_cons (pv 1) (pa_cons (pe_bltn (v := .ty "int") (by rfl) T.int (by decide +kernel) rfl) pa_nil))) (nomark _))))) pss_never pss_nil)
      (pss_one (ps_ret (pe_and (pe_cmpR op_eq (pe_callB call_isi (by rfl) T.isinstance (by decide +kernel) (pa_cons (pv 0) (pa_cons (pe_bltn (v := .ty "str") (by rfl) T.str (by decide +kernel) rfl) pa_nil))) (pe_callB call_isi (by rfl) T.isinstance (by decide +kernel) (pa_cons (pv 1) (pa_cons (pe_bltn (v := .ty "str") (by rfl) T.str (by decide +kernel) rfl) pa_nil))) (nomark _)) (pe_one (pe_cmpR op_eq (pv 0) (pv 1) (nomark _))))))), ?_⟩
    cases ht with
    | non =>
      refine ⟨_, rfl, small_len (by show 2 ≤ 1000; decide), fun tp htp => ⟨_, tp, _, _, _, false, rfl, upd_same, .cons (.ty _) (.cons (.ty _) .nil), .base (.non), kaNo (by decide +kernel) (by decide +kernel), false, rfl, iteF ?_⟩⟩
      refine ⟨_, rfl, _, _, _, _, false, rfl, .ty _, .base (.non), kit_ty (by decide +kernel), _, rfl, _, _, _, _, false, rfl, .ty _, .base (.non), kit_ty (by decide +kernel), rfl, _, rfl, iteNS rfl ?_⟩
      refine ⟨_, rfl, _, _, _, _, false, rfl, .ty _, .base (.non), kit_ty (by decide +kernel), _, rfl, _, _, _, _, false, rfl, .ty _, .base (.non), kit_ty (by decide +kernel), rfl, _, rfl, iteNS rfl ?_⟩
      refine ⟨_, rfl, _, _, _, _, false, rfl, .ty _, .base (.non), kit_ty (by decide +kernel), _, rfl, _, _, _, _, false, rfl, .ty _, .base (.non), kit_ty (by decide +kernel), rfl, _, rfl, iteD rfl ?_⟩
      refine ⟨_, rfl, _, rfl, rfl, ?_⟩
      have q' := q _ (same_upd (o := .tup [V.ty "list", V.ty "tuple"]) htp)
      rw [show decide ((V.non : V) = V.non) = true from decide_eq_true rfl]
      exact q'
    | bl z =>
      refine ⟨_, rfl, small_len (by show 2 ≤ 1000; decide), fun tp htp => ⟨_, tp, _, _, _, false, rfl, upd_same, .cons (.ty _) (.cons (.ty _) .nil), .base (.bl _), kaNo (by decide +kernel) (by decide +kernel), false, rfl, iteF ?_⟩⟩
      refine ⟨_, rfl, _, _, _, _, true, rfl, .ty _, .base (.bl _), kit_ty (by decide +kernel), _, rfl, _, _, _, _, true, rfl, .ty _, .base (.bl _), kit_ty (by decide +kernel), rfl, _, rfl, iteNS rfl ?_⟩
      refine ⟨_, rfl, _, _, _, _, true, rfl, .ty _, .base (.bl _), kit_ty (by decide +kernel), _, rfl, _, _, _, _, true, rfl, .ty _, .base (.bl _), kit_ty (by decide +kernel), rfl, _, rfl, iteNS rfl ?_⟩
      refine ⟨_, rfl, _, _, _, _, false, rfl, .ty _, .base (.bl _), kit_ty (by decide +kernel), _, rfl, _, _, _, _, false, rfl, .ty _, .base (.bl _), kit_ty (by decide +kernel), rfl, _, rfl, iteD rfl ?_⟩
      refine ⟨_, rfl, _, rfl, rfl, ?_⟩
      have q' := q _ (same_upd (o := .tup [V.ty "list", V.ty "tuple"]) htp)
      rw [show decide ((V.bl z : V) = V.bl z) = true from decide_eq_true rfl]
      exact q'
    | int z =>
      refine ⟨_, rfl, small_len (by show 2 ≤ 1000; decide), fun tp htp => ⟨_, tp, _, _, _, false, rfl, upd_same, .cons (.ty _) (.cons (.ty _) .nil), .base (.int _), kaNo (by decide +kernel) (by decide +kernel), false, rfl, iteF ?_⟩⟩
      refine ⟨_, rfl, _, _, _, _, false, rfl, .ty _, .base (.int _), kit_ty (by decide +kernel), _, rfl, _, _, _, _, false, rfl, .ty _, .base (.int _), kit_ty (by decide +kernel), rfl, _, rfl, iteNS rfl ?_⟩
      refine ⟨_, rfl, _, _, _, _, true, rfl, .ty _, .base (.int _), kit_ty (by decide +kernel), _, rfl, _, _, _, _, true, rfl, .ty _, .base (.int _), kit_ty (by decide +kernel), rfl, _, rfl, iteNS rfl ?_⟩
      refine ⟨_, rfl, _, _, _, _, false, rfl, .ty _, .base (.int _), kit_ty (by decide +kernel), _, rfl, _, _, _, _, false, rfl, .ty _, .base (.int _), kit_ty (by decide +kernel), rfl, _, rfl, iteD rfl ?_⟩
      refine ⟨_, rfl, _, rfl, rfl, ?_⟩
      have q' := q _ (same_upd (o := .tup [V.ty "list", V.ty "tuple"]) htp)
      rw [show decide ((V.int z : V) = V.int z) = true from decide_eq_true rfl]
      exact q'
    | str z =>
      refine ⟨_, rfl, small_len (by show 2 ≤ 1000; decide), fun tp htp => ⟨_, tp, _, _, _, false, rfl, upd_same, .cons (.ty _) (.cons (.ty _) .nil), .base (.str _), kaNo (by decide +kernel) (by decide +kernel), false, rfl, iteF ?_⟩⟩
      refine ⟨_, rfl, _, _, _, _, false, rfl, .ty _, .base (.str _), kit_ty (by decide +kernel), _, rfl, _, _, _, _, false, rfl, .ty _, .base (.str _), kit_ty (by decide +kernel), rfl, _, rfl, iteNS rfl ?_⟩
      refine ⟨_, rfl, _, _, _, _, false, rfl, .ty _, .base (.str _), kit_ty (by decide +kernel), _, rfl, _, _, _, _, false, rfl, .ty _, .base (.str _), kit_ty (by decide +kernel), rfl, _, rfl, iteNS rfl ?_⟩
      refine ⟨_, rfl, _, _, _, _, true, rfl, .ty _, .base (.str _), kit_ty (by decide +kernel), _, rfl, _, _, _, _, true, rfl, .ty _, .base (.str _), kit_ty (by decide +kernel), rfl, _, rfl, iteD rfl ?_⟩
      refine ⟨_, rfl, _, rfl, rfl, ?_⟩
      have q' := q _ (same_upd (o := .tup [V.ty "list", V.ty "tuple"]) htp)
      rw [show decide ((V.str z : V) = V.str z) = true from decide_eq_true rfl]
      exact q'
end
section
variable {P : Program} {w : World} {K : PySem.W.Frag} {mg : Str → Option Value} {base : Heap}
def spAlike (n : Nat) : Sp := fun vs H Q _ => ∃ (x y : V), vs = [x, y] ∧ Al n H x y ∧ ∀ H', Same H H' → Q (.bl true) H'
theorem scAlikeS : FnScope ["found", "due", "k"] ["found", "due"] (defScope sLawAlike) := ⟨rfl, rfl, rfl, by decide +kernel, rfl, by decide +kernel, by decide +kernel⟩
theorem ok_alikeS {f fA : Addr} {fd fdA : FuncData} {k : Nat} (F : Fun K "_law_alike" "_law_alike" sLawAlike f fd) (T : Txt K mg) {n : Nat}
    (GA : FnOk P w K mg base CX0 k fA fdA ["found", "due"] (spAlike n)) (gA : mg "_law_alike" = some (.ref fA)) (kA : PySem.W.keepIn K (.ref fA) = true) (bA : Binds K fdA ["found", "due"] []) :
    FnOk P w K mg base CX0 (k + 1) f fd ["found", "due"] (spAlike (n + 1)) := by
  refine F.ok scAlikeS (fun vs H Q E h => ?_) (fun cdv A outer s H vs Q E hr h => ?_)
  · first | (obtain ⟨_, rfl, _⟩ := h; rfl) | (obtain ⟨_, _, rfl, _⟩ := h; rfl) | (obtain ⟨_, _, _, rfl, _⟩ := h; rfl) | (obtain ⟨_, _, _, _, rfl, _⟩ := h; rfl) | (obtain ⟨_, _, _, _, _, rfl, _⟩ := h; rfl) | (obtain ⟨_, _, _, _, _, _, rfl, _⟩ := h; rfl) | (obtain ⟨_, _, _, _, _, _, _, rfl, _⟩ := h; rfl) | (obtain ⟨_, _, _, _, _, _, _, _, rfl, _⟩ := h; rfl) | (obtain ⟨_, _, _, _, _, _, _, _, _, rfl, _⟩ := h; rfl) | (obtain ⟨_, _, _, _, _, _, _, _, _, _, rfl, _⟩ := h; rfl) | (obtain ⟨_, _, _, _, _, _, _, _, _, _, _, rfl, _⟩ := h; rfl)
  · have nd := scAlikeS.nd
    obtain ⟨x, y, rfl, hAl, q⟩ := h
    refine ⟨_, pss_cons (ps_if (pt_val (pe_callB call_isiT (by rfl) T.isinstance (by decide +kernel) (pa_cons (pv 1) (pa_cons (pe_tup (pa_cons (pe_bltn (v := .ty "list") (by rfl) T.list (by decide +kernel) rfl) (pa_cons (pe_bltn (v := .ty "tuple") (by rfl) T.tuple (by decide +kernel) rfl) pa_nil))) pa_nil)))) (pss_cons (ps_if (PW.pt (pw_or (pt_not (pt_val (pe_callB call_isiT (by rfl) T.isinstance (by decide +kernel) (pa_cons (pv 0) (pa_cons (pe_tup (pa_cons (pe_bltn (v := .ty "list") (by rfl) T.list (by decide +kernel) rfl) (pa_cons (pe_bltn (v := .ty "tuple") (by rfl) T.tuple (by decide +kernel) rfl) pa_nil))) pa_nil))))) (pw_or1 (pt_cmpR op_ne (pe_callB call_isi (by rfl) T.isinstance (by decide +kernel) (pa_cons (pv 0) (pa_cons (pe_bltn (v := .ty "list") (by rfl) T.list (by decide +kernel) rfl) pa_nil))) (pe_callB call_isi (by rfl) T.isinstance (by decide +kernel) (pa_cons (pv 1) (pa_cons (pe_bltn (v := .ty "list") (by rfl) T.list (by decide +kernel) rfl) pa_nil))) (nomark _))))) pss_never pss_nil)
        (pss_cons (ps_if (pt_cmpR op_ne (pe_callB call_len_seq (by rfl) T.len PySem.boot_len (pa_cons (pv 0) pa_nil)) (pe_callB call_len_seq (by rfl) T.len PySem.boot_len (pa_cons (pv 1) pa_nil)) (nomark _)) pss_never pss_nil)
        (pss_one (ps_ret (pe_callB (cr_all rfl) (by rfl) T.all (by decide +kernel) (pa_cons (pe_lc (own := [("k", 2)]) (g := (gName 2)) (tt := tYes) (te := (tCall (spAlike n) [] E0 (tCons (tOp (rIx K) (tVar 0) (tVar 2)) (tCons (tOp (rIx K) (tVar 1) (tVar 2)) tNil)))) rfl nd (pi_range1 rfl T.range (pa_cons (pe_callB call_len_seq (by rfl) T.len PySem.boot_len (pa_cons (pv 1) pa_nil)) pa_nil)) (blkOk_by (N := ["found", "due", "k"]) (sc := defScope sLawAlike) (by decide +kernel)) (fun _ _ _ _ _ => pg_name (i := 2) nd rfl (Or.inl rfl)) (fun _ _ _ _ _ => pts_nil) (fun _ _ _ _ _ => pe_call GA hr (by rfl) gA kA bA .nil pass0 (pa_cons (pe_ix ix_seq (pv 0) (pv 2) (fun _ _ => rfl)) (pa_cons (pe_ix ix_seq (pv 1) (pv 2) (fun _ _ => rfl)) pa_nil)))) pa_nil)))))) pss_nil)
      (pss_cons (ps_if (PW.pt (pw_or (pt_cmpR op_ne (pe_callB call_isi (by rfl) T.isinstance (by decide +kernel) (pa_cons (pv 0) (pa_cons (pe_bltn (v := .ty "bool") (by rfl) T.bool (by decide +kernel) rfl) pa_nil))) (pe_callB call_isi (by rfl) T.isinstance (by decide +kernel) (pa_cons (pv 1) (pa_cons (pe_bltn (v := .ty "bool") (by rfl) T.bool (by decide +kernel) rfl) pa_nil))) (nomark _)) (pw_or1 (pt_cmpR op_ne (pe_callB call_isi (by rfl) T.isinstance (by decide +kernel) (pa_cons (pv 0) (pa_cons (pe_bltn (v := .ty "int") (by rfl) T.int (by decide +kernel) rfl) pa_nil))) (pe_callB call_isi (by rfl) T.isinstance (by decide +kernel) (pa_cons (pv 1) (pa_cons (pe_bltn (v := .ty "int") (by rfl) T.int (by decide +kernel) rfl) pa_nil))) (nomark _))))) pss_never pss_nil)
      (pss_one (ps_ret (pe_and (pe_cmpR op_eq (pe_callB call_isi (by rfl) T.isinstance (by decide +kernel) (pa_cons (pv 0) (pa_cons (pe_bltn (v := .ty "str") (by rfl) T.str (by decide +kernel) rfl) pa_nil))) (pe_callB call_isi (by rfl) T.isinstance (by decide +kernel) (pa_cons (pv 1) (pa_cons (pe_bltn (v := .ty "str") (by rfl) T.str (by decide +kernel) rfl) pa_nil))) (nomark _)) (pe_one (pe_cmpR op_eq (pv 0) (pv 1) (nomark _))))))), ?_⟩
    rcases hAl with ⟨rfl, t, ht⟩ | ⟨a, b, xs, ys, rfl, rfl, hab, hl, hl2, hel⟩
    · cases ht with
      | non =>
        refine ⟨_, rfl, small_len (by show 2 ≤ 1000; decide), fun tp htp => ⟨_, tp, _, _, _, false, rfl, upd_same, .cons (.ty _) (.cons (.ty _) .nil), .base (.non), kaNo (by decide +kernel) (by decide +kernel), false, rfl, iteF ?_⟩⟩
        refine ⟨_, rfl, _, _, _, _, false, rfl, .ty _, .base (.non), kit_ty (by decide +kernel), _, rfl, _, _, _, _, false, rfl, .ty _, .base (.non), kit_ty (by decide +kernel), rfl, _, rfl, iteNS rfl ?_⟩
        refine ⟨_, rfl, _, _, _, _, false, rfl, .ty _, .base (.non), kit_ty (by decide +kernel), _, rfl, _, _, _, _, false, rfl, .ty _, .base (.non), kit_ty (by decide +kernel), rfl, _, rfl, iteNS rfl ?_⟩
        refine ⟨_, rfl, _, _, _, _, false, rfl, .ty _, .base (.non), kit_ty (by decide +kernel), _, rfl, _, _, _, _, false, rfl, .ty _, .base (.non), kit_ty (by decide +kernel), rfl, _, rfl, iteD rfl ?_⟩
        refine ⟨_, rfl, _, rfl, rfl, ?_⟩
        have q' := q _ (same_upd (o := .tup [V.ty "list", V.ty "tuple"]) htp)
        rw [show decide ((V.non : V) = V.non) = true from decide_eq_true rfl]
        exact q'
      | bl z =>
        refine ⟨_, rfl, small_len (by show 2 ≤ 1000; decide), fun tp htp => ⟨_, tp, _, _, _, false, rfl, upd_same, .cons (.ty _) (.cons (.ty _) .nil), .base (.bl _), kaNo (by decide +kernel) (by decide +kernel), false, rfl, iteF ?_⟩⟩
        refine ⟨_, rfl, _, _, _, _, true, rfl, .ty _, .base (.bl _), kit_ty (by decide +kernel), _, rfl, _, _, _, _, true, rfl, .ty _, .base (.bl _), kit_ty (by decide +kernel), rfl, _, rfl, iteNS rfl ?_⟩
        refine ⟨_, rfl, _, _, _, _, true, rfl, .ty _, .base (.bl _), kit_ty (by decide +kernel), _, rfl, _, _, _, _, true, rfl, .ty _, .base (.bl _), kit_ty (by decide +kernel), rfl, _, rfl, iteNS rfl ?_⟩
        refine ⟨_, rfl, _, _, _, _, false, rfl, .ty _, .base (.bl _), kit_ty (by decide +kernel), _, rfl, _, _, _, _, false, rfl, .ty _, .base (.bl _), kit_ty (by decide +kernel), rfl, _, rfl, iteD rfl ?_⟩
        refine ⟨_, rfl, _, rfl, rfl, ?_⟩
        have q' := q _ (same_upd (o := .tup [V.ty "list", V.ty "tuple"]) htp)
        rw [show decide ((V.bl z : V) = V.bl z) = true from decide_eq_true rfl]
        exact q'
      | int z =>
        refine ⟨_, rfl, small_len (by show 2 ≤ 1000; decide), fun tp htp => ⟨_, tp, _, _, _, false, rfl, upd_same, .cons (.ty _) (.cons (.ty _) .nil), .base (.int _), kaNo (by decide +kernel) (by decide +kernel), false, rfl, iteF ?_⟩⟩
        refine ⟨_, rfl, _, _, _, _, false, rfl, .ty _, .base (.int _), kit_ty (by decide +kernel), _, rfl, _, _, _, _, false, rfl, .ty _, .base (.int _), kit_ty (by decide +kernel), rfl, _, rfl, iteNS rfl ?_⟩
        refine ⟨_, rfl, _, _, _, _, true, rfl, .ty _, .base (.int _), kit_ty (by decide +kernel), _, rfl, _, _, _, _, true, rfl, .ty _, .base (.int _), kit_ty (by decide +kernel), rfl, _, rfl, iteNS rfl ?_⟩
        refine ⟨_, rfl, _, _, _, _, false, rfl, .ty _, .base (.int _), kit_ty (by decide +kernel), _, rfl, _, _, _, _, false, rfl, .ty _, .base (.int _), kit_ty (by decide +kernel), rfl, _, rfl, iteD rfl ?_⟩
        refine ⟨_, rfl, _, rfl, rfl, ?_⟩
        have q' := q _ (same_upd (o := .tup [V.ty "list", V.ty "tuple"]) htp)
        rw [show decide ((V.int z : V) = V.int z) = true from decide_eq_true rfl]
        exact q'
      | str z =>
        refine ⟨_, rfl, small_len (by show 2 ≤ 1000; decide), fun tp htp => ⟨_, tp, _, _, _, false, rfl, upd_same, .cons (.ty _) (.cons (.ty _) .nil), .base (.str _), kaNo (by decide +kernel) (by decide +kernel), false, rfl, iteF ?_⟩⟩
        refine ⟨_, rfl, _, _, _, _, false, rfl, .ty _, .base (.str _), kit_ty (by decide +kernel), _, rfl, _, _, _, _, false, rfl, .ty _, .base (.str _), kit_ty (by decide +kernel), rfl, _, rfl, iteNS rfl ?_⟩
        refine ⟨_, rfl, _, _, _, _, false, rfl, .ty _, .base (.str _), kit_ty (by decide +kernel), _, rfl, _, _, _, _, false, rfl, .ty _, .base (.str _), kit_ty (by decide +kernel), rfl, _, rfl, iteNS rfl ?_⟩
        refine ⟨_, rfl, _, _, _, _, true, rfl, .ty _, .base (.str _), kit_ty (by decide +kernel), _, rfl, _, _, _, _, true, rfl, .ty _, .base (.str _), kit_ty (by decide +kernel), rfl, _, rfl, iteD rfl ?_⟩
        refine ⟨_, rfl, _, rfl, rfl, ?_⟩
        have q' := q _ (same_upd (o := .tup [V.ty "list", V.ty "tuple"]) htp)
        rw [show decide ((V.str z : V) = V.str z) = true from decide_eq_true rfl]
        exact q'
    rcases hab with ⟨ha, hb⟩ | ⟨ha, hb⟩
    · refine ⟨_, rfl, small_len (by show 2 ≤ 1000; decide), fun tp htp => ⟨_, tp, _, _, _, true, rfl, upd_same, .cons (.ty _) (.cons (.ty _) .nil), .base (.lst (same_upd htp _ _ hb)), kaList, true, rfl, iteT ?_⟩⟩
      have s1 := same_upd (o := .tup [V.ty "list", V.ty "tuple"]) htp
      refine ⟨_, rfl, small_len (by show 2 ≤ 1000; decide), fun tq htq => ⟨_, tq, _, _, _, true, rfl, upd_same, .cons (.ty _) (.cons (.ty _) .nil), .base (.lst (same_upd htq _ _ (s1 _ _ ha))), kaList, true, rfl, iteF ?_⟩⟩
      have s2 := s1.trans (same_upd (o := .tup [V.ty "list", V.ty "tuple"]) htq)
      have ha2 := s2 _ _ ha
      have hb2 := s2 _ _ hb
      refine ⟨_, rfl, _, _, _, _, true, rfl, .ty _, .base (.lst ha2), kit_ty (by decide +kernel), _, rfl, _, _, _, _, true, rfl, .ty _, .base (.lst hb2), kit_ty (by decide +kernel), rfl, _, rfl, iteNS rfl ?_⟩
      refine ⟨_, rfl, a, xs, rfl, .inl (SqL.of ha2), _, rfl, b, ys, rfl, .inl (SqL.of hb2), rfl, _, rfl, ?_⟩
      rw [hl]
      refine iteNS rfl ?_
      refine ⟨_, rfl, b, ys, rfl, .inl (SqL.of hb2), _, rfl, by omega, by omega, fun D hD => ?_⟩
      rw [Int.toNat_natCast]
      refine lc_range (lo := 0) (n := ys.length) (fun i H' => Same H H' ∧ H' D = some (.lst ((List.replicate i true).map V.bl))) ⟨s2.trans (same_upd hD), upd_same⟩ ?_ ?_
      · rintro i H' hi ⟨s3, hD'⟩
        rw [Int.zero_add]
        have gx : xs[i]? = some xs[i] := List.getElem?_eq_getElem (by omega)
        have gy : ys[i]? = some ys[i] := List.getElem?_eq_getElem hi
        refine ⟨rfl, _, rfl, _, rfl, .inl ⟨a, _, _, xs[i], rfl, rfl, SqL.of (s3 _ _ ha), atI_nat gx, _, rfl, _, rfl, .inl ⟨b, _, _, ys[i], rfl, rfl, SqL.of (s3 _ _ hb), atI_nat gy, ?_⟩⟩⟩
        refine ⟨_, _, rfl, (hel i _ _ gx gy).same s3, fun H4 s4 => ?_⟩
        refine ⟨_, s4 _ _ hD', ?_, same_set (s3.trans s4) (s2.free hD), ?_⟩
        · rw [List.length_map, List.length_replicate]
          exact small1000 (by omega)
        · rw [upd_same, List.replicate_succ', List.map_append]
          rfl
      · rintro H' ⟨s3, hD'⟩
        refine ⟨_, _, rfl, SqL.of hD', ?_⟩
        have e : (List.replicate ys.length true).all id = true := by
          rw [List.all_eq_true]
          intro x hx
          exact (List.mem_replicate.mp hx).2
        rw [e]
        exact q _ s3
    · refine ⟨_, rfl, small_len (by show 2 ≤ 1000; decide), fun tp htp => ⟨_, tp, _, _, _, true, rfl, upd_same, .cons (.ty _) (.cons (.ty _) .nil), .base (.tup (same_upd htp _ _ hb)), kaTuple, true, rfl, iteT ?_⟩⟩
      have s1 := same_upd (o := .tup [V.ty "list", V.ty "tuple"]) htp
      refine ⟨_, rfl, small_len (by show 2 ≤ 1000; decide), fun tq htq => ⟨_, tq, _, _, _, true, rfl, upd_same, .cons (.ty _) (.cons (.ty _) .nil), .base (.tup (same_upd htq _ _ (s1 _ _ ha))), kaTuple, true, rfl, iteF ?_⟩⟩
      have s2 := s1.trans (same_upd (o := .tup [V.ty "list", V.ty "tuple"]) htq)
      have ha2 := s2 _ _ ha
      have hb2 := s2 _ _ hb
      refine ⟨_, rfl, _, _, _, _, false, rfl, .ty _, .base (.tup ha2), kit_ty (by decide +kernel), _, rfl, _, _, _, _, false, rfl, .ty _, .base (.tup hb2), kit_ty (by decide +kernel), rfl, _, rfl, iteNS rfl ?_⟩
      refine ⟨_, rfl, a, xs, rfl, .inr (SqT.of ha2), _, rfl, b, ys, rfl, .inr (SqT.of hb2), rfl, _, rfl, ?_⟩
      rw [hl]
      refine iteNS rfl ?_
      refine ⟨_, rfl, b, ys, rfl, .inr (SqT.of hb2), _, rfl, by omega, by omega, fun D hD => ?_⟩
      rw [Int.toNat_natCast]
      refine lc_range (lo := 0) (n := ys.length) (fun i H' => Same H H' ∧ H' D = some (.lst ((List.replicate i true).map V.bl))) ⟨s2.trans (same_upd hD), upd_same⟩ ?_ ?_
      · rintro i H' hi ⟨s3, hD'⟩
        rw [Int.zero_add]
        have gx : xs[i]? = some xs[i] := List.getElem?_eq_getElem (by omega)
        have gy : ys[i]? = some ys[i] := List.getElem?_eq_getElem hi
        refine ⟨rfl, _, rfl, _, rfl, .inr (.inl ⟨a, _, _, xs[i], rfl, rfl, SqT.of (s3 _ _ ha), atI_nat gx, _, rfl, _, rfl, .inr (.inl ⟨b, _, _, ys[i], rfl, rfl, SqT.of (s3 _ _ hb), atI_nat gy, ?_⟩)⟩)⟩
        refine ⟨_, _, rfl, (hel i _ _ gx gy).same s3, fun H4 s4 => ?_⟩
        refine ⟨_, s4 _ _ hD', ?_, same_set (s3.trans s4) (s2.free hD), ?_⟩
        · rw [List.length_map, List.length_replicate]
          exact small1000 (by omega)
        · rw [upd_same, List.replicate_succ', List.map_append]
          rfl
      · rintro H' ⟨s3, hD'⟩
        refine ⟨_, _, rfl, SqL.of hD', ?_⟩
        have e : (List.replicate ys.length true).all id = true := by
          rw [List.all_eq_true]
          intro x hx
          exact (List.mem_replicate.mp hx).2
        rw [e]
        exact q _ s3
end
end Wd

namespace Wd
open PySem PySem.Spec PyProof.Rows L2 XR Mth GL

theorem cat_len {x y : Str} {m n : Nat} (hx : x.length ≤ m) (hy : y.length ≤ n) : (x ++ y).length ≤ m + n := by
  rw [Str.length_append]
  omega
theorem txt_len {t : String} {n : Nat} (h : t.length ≤ n) : (Str.ofString t).length ≤ n := by
  rw [PySem.ofString_length]
  exact h
theorem num_len {i : Int} (h : i.natAbs ≤ 1000) : (Str.ofString (toString i)).length ≤ 10 := by
  have e := int_text_length_le10 (a := i) (k := 4) (by decide) (Nat.lt_of_le_of_lt h (by decide))
  rw [PySem.ofString_length]
  omega
theorem fit_len {x : Str} {m : Nat} (h : x.length ≤ m) (hm : m ≤ 1000) : x.length ≤ sizeLine := by
  rw [sizeLine_eq]
  omega
/-- the class of an error that is made of two numbers, and its __init__ -/
structure NEx (K : PySem.W.Frag) (mg : Str → Option Value) (x : Str) (C f : Addr) : Prop where
  g : mg x = some (.ref C)
  ox : OexC K C
  iC : PySem.W.findIn K (.ref C) "__init__" = some (some (.ref f))
  tI : PySem.W.typeIn K (.ref f) = some (.type "function")
  n1 : PySem.W.findIn K (.ref C) "rest" = some none
  n2 : PySem.W.findIn K (.ref C) "other" = some none
section
variable {P : Program} {w : World} {K : PySem.W.Frag} {mg : Str → Option Value} {base : Heap}
def spNotEven (C : Addr) : Sp := fun vs H Q _ => ∃ (a : Addr) (i j : Int), vs = [.ref a, .int i, .int j] ∧ H a = some (exo a C none) ∧ i.natAbs ≤ 1000 ∧ j.natAbs ≤ 1000 ∧
  ∀ H' d, H d = none → d ≠ a → H' a = some (exo a C (some d)) → H' d = some (exd d [("other", .int j), ("rest", .int i)]) → (∀ b, b ≠ a → b ≠ d → H' b = H b) → Q .non H'
theorem scNotEven : InScope ["self", "rest", "other"] ["self", "rest", "other"] (defScope sNotevenInit) := ⟨rfl, rfl, rfl, by decide +kernel, rfl, by decide +kernel, by decide +kernel, by decide +kernel, rfl, rfl⟩
theorem ok_notEven {f cc cda C : Addr} {kV doc pm ct oc ccl cl : Value} {an od cdd cld : Option Addr} {osl ccs csl : Array (Option Value)} {cv : Array Value} {file : Str} {tf : Tok} {cdD : ClassData} {k : Nat}
    (lk : K.lookup f = some ⟨oc, od, .func (PySem.W.ksFn "__init__" "NotEven.__init__" (defArgs sNotevenInit) (defBody sNotevenInit) (defScope sNotevenInit) .none kV doc pm an (.ref cda) ct cc), osl⟩)
    (hcd : PySem.W.codeIn K (.ref cda) "NotEven.__init__" = true) (hcode : K.lookup cda = some ⟨ccl, cdd, .fields cv, ccs⟩) (hcv : cv[2]? = some (.str file tf)) (hfile : ((P.main.file : Str) == file) = true) (htop : (P.main.scope.names.lookup ("super" : Str)).isSome = false)
    (hcell : K.lookup cc = some ⟨cl, cld, .cell (some (.ref C)), csl⟩) (hD : PySem.W.clsIn K C = some cdD) (hsup : mg "super" = none) (T : OexC K C) (hsub : PySem.W.mroIn K C (.ref C) = some true)
    (hm : PySem.W.ks_superIn K C C "__init__" = some (some (.builtin "ValueError.__init__"))) (hB : PySem.W.subIn K (.ref C) (.type "ValueError") = some true) (ho : PySem.W.nsIn K cStatics "thirdparty.any" = some none)
    (n1 : PySem.W.findIn K (.ref C) "rest" = some none) (n2 : PySem.W.findIn K (.ref C) "other" = some none) :
    FnOk P w K mg base CX0 (k + 1) f (PySem.W.ksFn "__init__" "NotEven.__init__" (defArgs sNotevenInit) (defBody sNotevenInit) (defScope sNotevenInit) .none kV doc pm an (.ref cda) ct cc) ["self", "rest", "other"] (spNotEven C) := by
  refine init_fn lk hcd scNotEven rfl rfl hcode hcv hfile htop hcell hD hsup T hsub hm hB ho (fun _ => rfl) (fun _ => ⟨_, rfl⟩) (fun vs H Q E h => ?_) (fun A outer s H vs Q E hr h => ?_)
  · obtain ⟨_, _, _, rfl, _⟩ := h
    rfl
  · obtain ⟨a, i, j, rfl, ea, bi, bj, q⟩ := h
    refine ⟨a, _, _, _, rfl, ea, pa_cons (pe_joined (.cons pe_str (.cons (pe_fmt (pv 1)) (.cons pe_str (.cons (pe_fmt (pv 2)) (.cons pe_str .nil)))))) pa_nil, pss_cons (ps_ost (pv 0) (pv 1)) (pss_one (ps_ost (pv 0) (pv 2))), ?_⟩
    have l0 : (Str.empty).length ≤ 0 := Nat.le_refl _
    have l1 := cat_len l0 (txt_len (t := "the rests ") (n := 20) (by decide))
    have l2 := cat_len l1 (num_len bi)
    have l3 := cat_len l2 (txt_len (t := " and ") (n := 20) (by decide))
    have l4 := cat_len l3 (num_len bj)
    have l5 := cat_len l4 (txt_len (t := " have different sums") (n := 50) (by decide))
    have lg : ∀ {i : Int}, i.natAbs ≤ 1000 → i.natAbs.log2 < 1920 := fun {i} h => Nat.lt_of_le_of_lt (Nat.log2_le_self _) (by omega)
    refine ⟨_, rfl, fit_len l1 (by decide), _, rfl, .inr ⟨i, rfl, lg bi, _, rfl, fit_len l2 (by decide), _, rfl, fit_len l3 (by decide), _, rfl, .inr ⟨j, rfl, lg bj, _, rfl, fit_len l4 (by decide), _, rfl, fit_len l5 (by decide), ?_⟩⟩⟩
    refine ⟨by show 1 ≤ 1000; decide, ea, ?_⟩
    refine ⟨_, rfl, _, rfl, a, C, rfl, T, n1, .inl ⟨ea, fun d hd nda => ?_⟩⟩
    refine ⟨_, rfl, _, rfl, a, C, rfl, T, n2, .inr ⟨d, _, upd_same, by rw [upd_ne nda]; exact upd_same, by show 1 ≤ 900; decide, ?_⟩⟩
    refine q _ d hd nda ?_ upd_same fun b h1 h2 => ?_
    · rw [upd_ne (fun z => nda z.symm), upd_same]
    · rw [upd_ne h2, upd_ne h1, upd_ne h2]
end

theorem num_len31 {i : Int} (h : i.natAbs ≤ 10 ^ 30) : (Str.ofString (toString i)).length ≤ 40 := by
  have e := int_text_length_le10 (a := i) (k := 31) (by decide) (Nat.lt_of_le_of_lt h (by decide))
  rw [PySem.ofString_length]
  omega
theorem log31 {i : Int} (h : i.natAbs ≤ 10 ^ 30) : i.natAbs.log2 < 1920 := by
  by_cases z : i.natAbs = 0
  · rw [z]
    decide
  · rw [Nat.log2_lt z]
    exact Nat.lt_of_le_of_lt h (by decide)

structure NoPartnerC (K : PySem.W.Frag) (mg : Str → Option Value) (x : Str) (C f : Addr) : Prop where
  g : mg x = some (.ref C)
  ox : OexC K C
  iC : PySem.W.findIn K (.ref C) "__init__" = some (some (.ref f))
  tI : PySem.W.typeIn K (.ref f) = some (.type "function")
  n1 : PySem.W.findIn K (.ref C) "rest" = some none
section
variable {P : Program} {w : World} {K : PySem.W.Frag} {mg : Str → Option Value} {base : Heap}
def spNoPartner (C : Addr) : Sp := fun vs H Q _ => ∃ (a : Addr) (i : Int), vs = [.ref a, .int i] ∧ H a = some (exo a C none) ∧ i.natAbs ≤ 10 ^ 30 ∧
  ∀ H' d, H d = none → d ≠ a → H' a = some (exo a C (some d)) → H' d = some (exd d [("rest", .int i)]) → (∀ b, b ≠ a → b ≠ d → H' b = H b) → Q .non H'
theorem scNoPartner : InScope ["self", "rest"] ["self", "rest"] (defScope sNopartnerInit) := ⟨rfl, rfl, rfl, by decide +kernel, rfl, by decide +kernel, by decide +kernel, by decide +kernel, rfl, rfl⟩
theorem ok_NoPartner {f cc cda C : Addr} {kV doc pm ct oc ccl cl : Value} {an od cdd cld : Option Addr} {osl ccs csl : Array (Option Value)} {cv : Array Value} {file : Str} {tf : Tok} {cdD : ClassData} {k : Nat}
    (lk : K.lookup f = some ⟨oc, od, .func (PySem.W.ksFn "__init__" "NoPartner.__init__" (defArgs sNopartnerInit) (defBody sNopartnerInit) (defScope sNopartnerInit) .none kV doc pm an (.ref cda) ct cc), osl⟩)
    (hcd : PySem.W.codeIn K (.ref cda) "NoPartner.__init__" = true) (hcode : K.lookup cda = some ⟨ccl, cdd, .fields cv, ccs⟩) (hcv : cv[2]? = some (.str file tf)) (hfile : ((P.main.file : Str) == file) = true) (htop : (P.main.scope.names.lookup ("super" : Str)).isSome = false)
    (hcell : K.lookup cc = some ⟨cl, cld, .cell (some (.ref C)), csl⟩) (hD : PySem.W.clsIn K C = some cdD) (hsup : mg "super" = none) (T : OexC K C) (hsub : PySem.W.mroIn K C (.ref C) = some true)
    (hm : PySem.W.ks_superIn K C C "__init__" = some (some (.builtin "ValueError.__init__"))) (hB : PySem.W.subIn K (.ref C) (.type "ValueError") = some true) (ho : PySem.W.nsIn K cStatics "thirdparty.any" = some none)
    (n1 : PySem.W.findIn K (.ref C) "rest" = some none) :
    FnOk P w K mg base CX0 (k + 1) f (PySem.W.ksFn "__init__" "NoPartner.__init__" (defArgs sNopartnerInit) (defBody sNopartnerInit) (defScope sNopartnerInit) .none kV doc pm an (.ref cda) ct cc) ["self", "rest"] (spNoPartner C) := by
  refine init_fn lk hcd scNoPartner rfl rfl hcode hcv hfile htop hcell hD hsup T hsub hm hB ho (fun _ => rfl) (fun _ => ⟨_, rfl⟩) (fun vs H Q E h => ?_) (fun A outer s H vs Q E hr h => ?_)
  · obtain ⟨_, _, rfl, _⟩ := h
    rfl
  · obtain ⟨a, i, rfl, ea, bi, q⟩ := h
    refine ⟨a, _, _, _, rfl, ea, pa_cons (pe_joined (.cons pe_str (.cons (pe_fmt (pv 1)) (.cons pe_str .nil)))) pa_nil, pss_one (ps_ost (pv 0) (pv 1)), ?_⟩
    have l0 : (Str.empty).length ≤ 0 := Nat.le_refl _
    have l1 := cat_len l0 (txt_len (t := "the divisor of the rest ") (n := 50) (by decide))
    have l2 := cat_len l1 (num_len31 bi)
    have l3 := cat_len l2 (txt_len (t := " does not divide the level") (n := 50) (by decide))
    refine ⟨_, rfl, fit_len l1 (by decide), _, rfl, .inr ⟨i, rfl, log31 bi, _, rfl, fit_len l2 (by decide), _, rfl, fit_len l3 (by decide), ?_⟩⟩
    refine ⟨by show 1 ≤ 1000; decide, ea, ?_⟩
    refine ⟨_, rfl, _, rfl, a, C, rfl, T, n1, .inl ⟨ea, fun d hd nda => ?_⟩⟩
    refine q _ d hd nda ?_ ?_ fun b h1 h2 => ?_
    · first | exact upd_same | rw [upd_ne (fun z => nda z.symm), upd_same]
    · first | exact upd_same | rw [upd_ne nda, upd_same]
    · first | rw [upd_ne h2, upd_ne h1] | rw [upd_ne h1, upd_ne h2]
end

structure NoListC (K : PySem.W.Frag) (mg : Str → Option Value) (x : Str) (C f : Addr) : Prop where
  g : mg x = some (.ref C)
  ox : OexC K C
  iC : PySem.W.findIn K (.ref C) "__init__" = some (some (.ref f))
  tI : PySem.W.typeIn K (.ref f) = some (.type "function")
  n1 : PySem.W.findIn K (.ref C) "point" = some none
section
variable {P : Program} {w : World} {K : PySem.W.Frag} {mg : Str → Option Value} {base : Heap}
def spNoList (C : Addr) : Sp := fun vs H Q _ => ∃ (a : Addr) (i : Int), vs = [.ref a, .int i] ∧ H a = some (exo a C none) ∧ i.natAbs ≤ 10 ^ 30 ∧
  ∀ H' d, H d = none → d ≠ a → H' a = some (exo a C (some d)) → H' d = some (exd d [("point", .int i)]) → (∀ b, b ≠ a → b ≠ d → H' b = H b) → Q .non H'
theorem scNoList : InScope ["self", "point"] ["self", "point"] (defScope sNolistInit) := ⟨rfl, rfl, rfl, by decide +kernel, rfl, by decide +kernel, by decide +kernel, by decide +kernel, rfl, rfl⟩
theorem ok_NoList {f cc cda C : Addr} {kV doc pm ct oc ccl cl : Value} {an od cdd cld : Option Addr} {osl ccs csl : Array (Option Value)} {cv : Array Value} {file : Str} {tf : Tok} {cdD : ClassData} {k : Nat}
    (lk : K.lookup f = some ⟨oc, od, .func (PySem.W.ksFn "__init__" "NoList.__init__" (defArgs sNolistInit) (defBody sNolistInit) (defScope sNolistInit) .none kV doc pm an (.ref cda) ct cc), osl⟩)
    (hcd : PySem.W.codeIn K (.ref cda) "NoList.__init__" = true) (hcode : K.lookup cda = some ⟨ccl, cdd, .fields cv, ccs⟩) (hcv : cv[2]? = some (.str file tf)) (hfile : ((P.main.file : Str) == file) = true) (htop : (P.main.scope.names.lookup ("super" : Str)).isSome = false)
    (hcell : K.lookup cc = some ⟨cl, cld, .cell (some (.ref C)), csl⟩) (hD : PySem.W.clsIn K C = some cdD) (hsup : mg "super" = none) (T : OexC K C) (hsub : PySem.W.mroIn K C (.ref C) = some true)
    (hm : PySem.W.ks_superIn K C C "__init__" = some (some (.builtin "ValueError.__init__"))) (hB : PySem.W.subIn K (.ref C) (.type "ValueError") = some true) (ho : PySem.W.nsIn K cStatics "thirdparty.any" = some none)
    (n1 : PySem.W.findIn K (.ref C) "point" = some none) :
    FnOk P w K mg base CX0 (k + 1) f (PySem.W.ksFn "__init__" "NoList.__init__" (defArgs sNolistInit) (defBody sNolistInit) (defScope sNolistInit) .none kV doc pm an (.ref cda) ct cc) ["self", "point"] (spNoList C) := by
  refine init_fn lk hcd scNoList rfl rfl hcode hcv hfile htop hcell hD hsup T hsub hm hB ho (fun _ => rfl) (fun _ => ⟨_, rfl⟩) (fun vs H Q E h => ?_) (fun A outer s H vs Q E hr h => ?_)
  · obtain ⟨_, _, rfl, _⟩ := h
    rfl
  · obtain ⟨a, i, rfl, ea, bi, q⟩ := h
    refine ⟨a, _, _, _, rfl, ea, pa_cons (pe_joined (.cons pe_str (.cons (pe_fmt (pv 1)) (.cons pe_str .nil)))) pa_nil, pss_one (ps_ost (pv 0) (pv 1)), ?_⟩
    have l0 : (Str.empty).length ≤ 0 := Nat.le_refl _
    have l1 := cat_len l0 (txt_len (t := "the sums of the points joined with ") (n := 50) (by decide))
    have l2 := cat_len l1 (num_len31 bi)
    have l3 := cat_len l2 (txt_len (t := " differ") (n := 50) (by decide))
    refine ⟨_, rfl, fit_len l1 (by decide), _, rfl, .inr ⟨i, rfl, log31 bi, _, rfl, fit_len l2 (by decide), _, rfl, fit_len l3 (by decide), ?_⟩⟩
    refine ⟨by show 1 ≤ 1000; decide, ea, ?_⟩
    refine ⟨_, rfl, _, rfl, a, C, rfl, T, n1, .inl ⟨ea, fun d hd nda => ?_⟩⟩
    refine q _ d hd nda ?_ ?_ fun b h1 h2 => ?_
    · first | exact upd_same | rw [upd_ne (fun z => nda z.symm), upd_same]
    · first | exact upd_same | rw [upd_ne nda, upd_same]
    · first | rw [upd_ne h2, upd_ne h1] | rw [upd_ne h1, upd_ne h2]
end

structure InvalidTextC (K : PySem.W.Frag) (mg : Str → Option Value) (x : Str) (C f : Addr) : Prop where
  g : mg x = some (.ref C)
  ox : OexC K C
  iC : PySem.W.findIn K (.ref C) "__init__" = some (some (.ref f))
  tI : PySem.W.typeIn K (.ref f) = some (.type "function")
  n1 : PySem.W.findIn K (.ref C) "place" = some none
section
variable {P : Program} {w : World} {K : PySem.W.Frag} {mg : Str → Option Value} {base : Heap}
def spInvalidText (C : Addr) : Sp := fun vs H Q _ => ∃ (a : Addr) (i : Int), vs = [.ref a, .int i] ∧ H a = some (exo a C none) ∧ i.natAbs ≤ 10 ^ 30 ∧
  ∀ H' d, H d = none → d ≠ a → H' a = some (exo a C (some d)) → H' d = some (exd d [("place", .int i)]) → (∀ b, b ≠ a → b ≠ d → H' b = H b) → Q .non H'
theorem scInvalidText : InScope ["self", "place"] ["self", "place"] (defScope sInvalidtextInit) := ⟨rfl, rfl, rfl, by decide +kernel, rfl, by decide +kernel, by decide +kernel, by decide +kernel, rfl, rfl⟩
theorem ok_InvalidText {f cc cda C : Addr} {kV doc pm ct oc ccl cl : Value} {an od cdd cld : Option Addr} {osl ccs csl : Array (Option Value)} {cv : Array Value} {file : Str} {tf : Tok} {cdD : ClassData} {k : Nat}
    (lk : K.lookup f = some ⟨oc, od, .func (PySem.W.ksFn "__init__" "InvalidText.__init__" (defArgs sInvalidtextInit) (defBody sInvalidtextInit) (defScope sInvalidtextInit) .none kV doc pm an (.ref cda) ct cc), osl⟩)
    (hcd : PySem.W.codeIn K (.ref cda) "InvalidText.__init__" = true) (hcode : K.lookup cda = some ⟨ccl, cdd, .fields cv, ccs⟩) (hcv : cv[2]? = some (.str file tf)) (hfile : ((P.main.file : Str) == file) = true) (htop : (P.main.scope.names.lookup ("super" : Str)).isSome = false)
    (hcell : K.lookup cc = some ⟨cl, cld, .cell (some (.ref C)), csl⟩) (hD : PySem.W.clsIn K C = some cdD) (hsup : mg "super" = none) (T : OexC K C) (hsub : PySem.W.mroIn K C (.ref C) = some true)
    (hm : PySem.W.ks_superIn K C C "__init__" = some (some (.builtin "ValueError.__init__"))) (hB : PySem.W.subIn K (.ref C) (.type "ValueError") = some true) (ho : PySem.W.nsIn K cStatics "thirdparty.any" = some none)
    (n1 : PySem.W.findIn K (.ref C) "place" = some none) :
    FnOk P w K mg base CX0 (k + 1) f (PySem.W.ksFn "__init__" "InvalidText.__init__" (defArgs sInvalidtextInit) (defBody sInvalidtextInit) (defScope sInvalidtextInit) .none kV doc pm an (.ref cda) ct cc) ["self", "place"] (spInvalidText C) := by
  refine init_fn lk hcd scInvalidText rfl rfl hcode hcv hfile htop hcell hD hsup T hsub hm hB ho (fun _ => rfl) (fun _ => ⟨_, rfl⟩) (fun vs H Q E h => ?_) (fun A outer s H vs Q E hr h => ?_)
  · obtain ⟨_, _, rfl, _⟩ := h
    rfl
  · obtain ⟨a, i, rfl, ea, bi, q⟩ := h
    refine ⟨a, _, _, _, rfl, ea, pa_cons (pe_joined (.cons pe_str (.cons (pe_fmt (pv 1)) (.cons pe_str .nil)))) pa_nil, pss_one (ps_ost (pv 0) (pv 1)), ?_⟩
    have l0 : (Str.empty).length ≤ 0 := Nat.le_refl _
    have l1 := cat_len l0 (txt_len (t := "the word ") (n := 50) (by decide))
    have l2 := cat_len l1 (num_len31 bi)
    have l3 := cat_len l2 (txt_len (t := " cannot stand there, or is missing") (n := 50) (by decide))
    refine ⟨_, rfl, fit_len l1 (by decide), _, rfl, .inr ⟨i, rfl, log31 bi, _, rfl, fit_len l2 (by decide), _, rfl, fit_len l3 (by decide), ?_⟩⟩
    refine ⟨by show 1 ≤ 1000; decide, ea, ?_⟩
    refine ⟨_, rfl, _, rfl, a, C, rfl, T, n1, .inl ⟨ea, fun d hd nda => ?_⟩⟩
    refine q _ d hd nda ?_ ?_ fun b h1 h2 => ?_
    · first | exact upd_same | rw [upd_ne (fun z => nda z.symm), upd_same]
    · first | exact upd_same | rw [upd_ne nda, upd_same]
    · first | rw [upd_ne h2, upd_ne h1] | rw [upd_ne h1, upd_ne h2]
end
end Wd

namespace Wd
open PySem PySem.Spec PyProof.Rows L2 XR Mth GL
section
variable {P : Program} {w : World} {K : PySem.W.Frag} {mg : Str → Option Value} {base : Heap}
/-- the classes of the package, by their place -/
structure Cl13 (mg : Str → Option Value) (c : Nat → Addr) : Prop where
  g0 : mg "InvalidWindow" = some (.ref (c 0))
  g1 : mg "InvalidHop" = some (.ref (c 1))
  g2 : mg "InvalidHops" = some (.ref (c 2))
  g3 : mg "InvalidNumber" = some (.ref (c 3))
  g4 : mg "InvalidList" = some (.ref (c 4))
  g5 : mg "InvalidDeck" = some (.ref (c 5))
  g6 : mg "InvalidStream" = some (.ref (c 6))
  g7 : mg "InvalidIndex" = some (.ref (c 7))
  g8 : mg "NothingToUndo" = some (.ref (c 8))
  g9 : mg "NotEven" = some (.ref (c 9))
  g10 : mg "NoPartner" = some (.ref (c 10))
  g11 : mg "NoList" = some (.ref (c 11))
  g12 : mg "InvalidText" = some (.ref (c 12))
  g13 : mg "SeamError" = some (.ref (c 13))
def cF (l : List Addr) : Nat → Addr := fun j => l.getD j 0
def csL (c : Nat → Addr) : List Value := [.ref (c 0), .ref (c 1), .ref (c 2), .ref (c 3), .ref (c 4), .ref (c 5), .ref (c 6), .ref (c 7), .ref (c 8), .ref (c 9), .ref (c 10), .ref (c 11), .ref (c 12), .ref (c 13), .type "ValueError"]
def spLof62 (K : PySem.W.Frag) (c : Nat → Addr) : Sp := fun vs H Q _ => ∃ (a D : Addr) (bs : List Bool), vs = [.ref a] ∧ ExAt H a D ∧ KxC K D ∧ kitRow K D (csL c) bs = true ∧ 13 ≤ bs.length ∧ ∀ H' p, Same H H' → H p = none → H' p = some (.lst ((bs.take 13).map V.bl)) → Q (.ref p) H'
theorem scLof62 : FnScope ["made", "found"] ["made"] (defScope sLawOf) := ⟨rfl, rfl, rfl, by decide +kernel, rfl, by decide +kernel, by decide +kernel⟩
theorem ok_lof62 {f : Addr} {fd : FuncData} {k : Nat} (F : Fun K "_law_of" "_law_of" sLawOf f fd) (T : Txt K mg) {c : Nat → Addr} (CT : Cl13 mg c) (KG : KxG K) :
    FnOk P w K mg base CX0 (k + 1) f fd ["made"] (spLof62 K c) := by
  refine F.ok scLof62 (fun vs H Q E h => ?_) (fun cdv A outer s H vs Q E hr h => ?_)
  · first | (obtain ⟨_, rfl, _⟩ := h; rfl) | (obtain ⟨_, _, rfl, _⟩ := h; rfl) | (obtain ⟨_, _, _, rfl, _⟩ := h; rfl) | (obtain ⟨_, _, _, _, rfl, _⟩ := h; rfl) | (obtain ⟨_, _, _, _, _, rfl, _⟩ := h; rfl) | (obtain ⟨_, _, _, _, _, _, rfl, _⟩ := h; rfl) | (obtain ⟨_, _, _, _, _, _, _, rfl, _⟩ := h; rfl) | (obtain ⟨_, _, _, _, _, _, _, _, rfl, _⟩ := h; rfl) | (obtain ⟨_, _, _, _, _, _, _, _, _, rfl, _⟩ := h; rfl) | (obtain ⟨_, _, _, _, _, _, _, _, _, _, rfl, _⟩ := h; rfl) | (obtain ⟨_, _, _, _, _, _, _, _, _, _, _, rfl, _⟩ := h; rfl)
  · have nd := scLof62.nd
    obtain ⟨a, D, bs, rfl, hA, kx, hk, lb, q⟩ := h
    refine ⟨_, pss_cons (ps_set (i := 1) nd rfl (.inl rfl) (pe_lst (pa_cons (pe_callB (call_isV KG) (by rfl) T.isinstance (by decide +kernel) (pa_cons (pv 0) (pa_cons (pe_glob (v := .ref (c 0)) rfl CT.g0 rfl) pa_nil))) (pa_cons (pe_callB (call_isV KG) (by rfl) T.isinstance (by decide +kernel) (pa_cons (pv 0) (pa_cons (pe_glob (v := .ref (c 1)) rfl CT.g1 rfl) pa_nil))) (pa_cons (pe_callB (call_isV KG) (by rfl) T.isinstance (by decide +kernel) (pa_cons (pv 0) (pa_cons (pe_glob (v := .ref (c 2)) rfl CT.g2 rfl) pa_nil))) pa_nil)))))
      (pss_cons (ps_set (i := 1) nd rfl (.inl rfl) (pe_op op_cat (pv 1) (pe_lst (pa_cons (pe_callB (call_isV KG) (by rfl) T.isinstance (by decide +kernel) (pa_cons (pv 0) (pa_cons (pe_glob (v := .ref (c 3)) rfl CT.g3 rfl) pa_nil))) (pa_cons (pe_callB (call_isV KG) (by rfl) T.isinstance (by decide +kernel) (pa_cons (pv 0) (pa_cons (pe_glob (v := .ref (c 4)) rfl CT.g4 rfl) pa_nil))) (pa_cons (pe_callB (call_isV KG) (by rfl) T.isinstance (by decide +kernel) (pa_cons (pv 0) (pa_cons (pe_glob (v := .ref (c 5)) rfl CT.g5 rfl) pa_nil))) pa_nil))))))
      (pss_cons (ps_set (i := 1) nd rfl (.inl rfl) (pe_op op_cat (pv 1) (pe_lst (pa_cons (pe_callB (call_isV KG) (by rfl) T.isinstance (by decide +kernel) (pa_cons (pv 0) (pa_cons (pe_glob (v := .ref (c 6)) rfl CT.g6 rfl) pa_nil))) (pa_cons (pe_callB (call_isV KG) (by rfl) T.isinstance (by decide +kernel) (pa_cons (pv 0) (pa_cons (pe_glob (v := .ref (c 7)) rfl CT.g7 rfl) pa_nil))) (pa_cons (pe_callB (call_isV KG) (by rfl) T.isinstance (by decide +kernel) (pa_cons (pv 0) (pa_cons (pe_glob (v := .ref (c 8)) rfl CT.g8 rfl) pa_nil))) pa_nil))))))
      (pss_cons (ps_set (i := 1) nd rfl (.inl rfl) (pe_op op_cat (pv 1) (pe_lst (pa_cons (pe_callB (call_isV KG) (by rfl) T.isinstance (by decide +kernel) (pa_cons (pv 0) (pa_cons (pe_glob (v := .ref (c 9)) rfl CT.g9 rfl) pa_nil))) (pa_cons (pe_callB (call_isV KG) (by rfl) T.isinstance (by decide +kernel) (pa_cons (pv 0) (pa_cons (pe_glob (v := .ref (c 10)) rfl CT.g10 rfl) pa_nil))) (pa_cons (pe_callB (call_isV KG) (by rfl) T.isinstance (by decide +kernel) (pa_cons (pv 0) (pa_cons (pe_glob (v := .ref (c 11)) rfl CT.g11 rfl) pa_nil))) pa_nil))))))
      (pss_one (ps_ret (pe_op op_cat (pv 1) (pe_lst (pa_cons (pe_callB (call_isV KG) (by rfl) T.isinstance (by decide +kernel) (pa_cons (pv 0) (pa_cons (pe_glob (v := .ref (c 12)) rfl CT.g12 rfl) pa_nil))) pa_nil)))))))), ?_⟩
    rcases bs with _ | ⟨b0, bs⟩
    · exact absurd lb (by show ¬ 13 ≤ 0; decide)
    rcases bs with _ | ⟨b1, bs⟩
    · exact absurd lb (by show ¬ 13 ≤ 1; decide)
    rcases bs with _ | ⟨b2, bs⟩
    · exact absurd lb (by show ¬ 13 ≤ 2; decide)
    rcases bs with _ | ⟨b3, bs⟩
    · exact absurd lb (by show ¬ 13 ≤ 3; decide)
    rcases bs with _ | ⟨b4, bs⟩
    · exact absurd lb (by show ¬ 13 ≤ 4; decide)
    rcases bs with _ | ⟨b5, bs⟩
    · exact absurd lb (by show ¬ 13 ≤ 5; decide)
    rcases bs with _ | ⟨b6, bs⟩
    · exact absurd lb (by show ¬ 13 ≤ 6; decide)
    rcases bs with _ | ⟨b7, bs⟩
    · exact absurd lb (by show ¬ 13 ≤ 7; decide)
    rcases bs with _ | ⟨b8, bs⟩
    · exact absurd lb (by show ¬ 13 ≤ 8; decide)
    rcases bs with _ | ⟨b9, bs⟩
    · exact absurd lb (by show ¬ 13 ≤ 9; decide)
    rcases bs with _ | ⟨b10, bs⟩
    · exact absurd lb (by show ¬ 13 ≤ 10; decide)
    rcases bs with _ | ⟨b11, bs⟩
    · exact absurd lb (by show ¬ 13 ≤ 11; decide)
    rcases bs with _ | ⟨b12, bs⟩
    · exact absurd lb (by show ¬ 13 ≤ 12; decide)
    have k0 := kitRow_at hk (j := 0) (c := .ref (c 0)) (b := b0) rfl rfl
    have k1 := kitRow_at hk (j := 1) (c := .ref (c 1)) (b := b1) rfl rfl
    have k2 := kitRow_at hk (j := 2) (c := .ref (c 2)) (b := b2) rfl rfl
    have k3 := kitRow_at hk (j := 3) (c := .ref (c 3)) (b := b3) rfl rfl
    have k4 := kitRow_at hk (j := 4) (c := .ref (c 4)) (b := b4) rfl rfl
    have k5 := kitRow_at hk (j := 5) (c := .ref (c 5)) (b := b5) rfl rfl
    have k6 := kitRow_at hk (j := 6) (c := .ref (c 6)) (b := b6) rfl rfl
    have k7 := kitRow_at hk (j := 7) (c := .ref (c 7)) (b := b7) rfl rfl
    have k8 := kitRow_at hk (j := 8) (c := .ref (c 8)) (b := b8) rfl rfl
    have k9 := kitRow_at hk (j := 9) (c := .ref (c 9)) (b := b9) rfl rfl
    have k10 := kitRow_at hk (j := 10) (c := .ref (c 10)) (b := b10) rfl rfl
    have k11 := kitRow_at hk (j := 11) (c := .ref (c 11)) (b := b11) rfl rfl
    have k12 := kitRow_at hk (j := 12) (c := .ref (c 12)) (b := b12) rfl rfl
    clear hk
    refine ⟨_, rfl, a, D, _, _, b0, rfl, hA, kx, fun _ z => z, k0, _, rfl, a, D, _, _, b1, rfl, hA, kx, fun _ z => z, k1, _, rfl, a, D, _, _, b2, rfl, hA, kx, fun _ z => z, k2, small_len (by show 3 ≤ 1000; decide), fun p0 hp0 => ?_⟩
    have s0 := same_upd (o := .lst [V.bl b0, .bl b1, .bl b2]) hp0
    have q0 := upd_same (H := H) (a := p0) (o := .lst [V.bl b0, .bl b1, .bl b2])
    generalize upd H p0 (.lst [V.bl b0, .bl b1, .bl b2]) = H0 at *
    have A0 := hA.mono s0
    refine ⟨_, rfl, _, rfl, a, D, _, _, b3, rfl, A0, kx, fun _ z => z, k3, _, rfl, a, D, _, _, b4, rfl, A0, kx, fun _ z => z, k4, _, rfl, a, D, _, _, b5, rfl, A0, kx, fun _ z => z, k5, small_len (by show 3 ≤ 1000; decide), fun l1 hl1 => ?_⟩
    have sl1 := same_upd (o := .lst [V.bl b3, .bl b4, .bl b5]) hl1
    refine ⟨p0, l1, _, _, rfl, rfl, sl1 _ _ q0, upd_same, small_len (by show 6 ≤ 1000; decide), fun p1 hp1 => ?_⟩
    have s1 : Same H (upd (upd H0 l1 (.lst [V.bl b3, .bl b4, .bl b5])) p1 (.lst ([V.bl b0, .bl b1, .bl b2] ++ [V.bl b3, .bl b4, .bl b5]))) := (s0.trans sl1).trans (same_upd hp1)
    have q1 : upd (upd H0 l1 (.lst [V.bl b3, .bl b4, .bl b5])) p1 (.lst ([V.bl b0, .bl b1, .bl b2] ++ [V.bl b3, .bl b4, .bl b5])) p1 = some (.lst [V.bl b0, .bl b1, .bl b2, .bl b3, .bl b4, .bl b5]) := upd_same
    generalize upd (upd H0 l1 (.lst [V.bl b3, .bl b4, .bl b5])) p1 (.lst ([V.bl b0, .bl b1, .bl b2] ++ [V.bl b3, .bl b4, .bl b5])) = H1 at *
    have A1 := hA.mono s1
    refine ⟨_, rfl, _, rfl, a, D, _, _, b6, rfl, A1, kx, fun _ z => z, k6, _, rfl, a, D, _, _, b7, rfl, A1, kx, fun _ z => z, k7, _, rfl, a, D, _, _, b8, rfl, A1, kx, fun _ z => z, k8, small_len (by show 3 ≤ 1000; decide), fun l2 hl2 => ?_⟩
    have sl2 := same_upd (o := .lst [V.bl b6, .bl b7, .bl b8]) hl2
    refine ⟨p1, l2, _, _, rfl, rfl, sl2 _ _ q1, upd_same, small_len (by show 9 ≤ 1000; decide), fun p2 hp2 => ?_⟩
    have s2 : Same H (upd (upd H1 l2 (.lst [V.bl b6, .bl b7, .bl b8])) p2 (.lst ([V.bl b0, .bl b1, .bl b2, .bl b3, .bl b4, .bl b5] ++ [V.bl b6, .bl b7, .bl b8]))) := (s1.trans sl2).trans (same_upd hp2)
    have q2 : upd (upd H1 l2 (.lst [V.bl b6, .bl b7, .bl b8])) p2 (.lst ([V.bl b0, .bl b1, .bl b2, .bl b3, .bl b4, .bl b5] ++ [V.bl b6, .bl b7, .bl b8])) p2 = some (.lst [V.bl b0, .bl b1, .bl b2, .bl b3, .bl b4, .bl b5, .bl b6, .bl b7, .bl b8]) := upd_same
    generalize upd (upd H1 l2 (.lst [V.bl b6, .bl b7, .bl b8])) p2 (.lst ([V.bl b0, .bl b1, .bl b2, .bl b3, .bl b4, .bl b5] ++ [V.bl b6, .bl b7, .bl b8])) = H2 at *
    have A2 := hA.mono s2
    refine ⟨_, rfl, _, rfl, a, D, _, _, b9, rfl, A2, kx, fun _ z => z, k9, _, rfl, a, D, _, _, b10, rfl, A2, kx, fun _ z => z, k10, _, rfl, a, D, _, _, b11, rfl, A2, kx, fun _ z => z, k11, small_len (by show 3 ≤ 1000; decide), fun l3 hl3 => ?_⟩
    have sl3 := same_upd (o := .lst [V.bl b9, .bl b10, .bl b11]) hl3
    refine ⟨p2, l3, _, _, rfl, rfl, sl3 _ _ q2, upd_same, small_len (by show 12 ≤ 1000; decide), fun p3 hp3 => ?_⟩
    have s3 : Same H (upd (upd H2 l3 (.lst [V.bl b9, .bl b10, .bl b11])) p3 (.lst ([V.bl b0, .bl b1, .bl b2, .bl b3, .bl b4, .bl b5, .bl b6, .bl b7, .bl b8] ++ [V.bl b9, .bl b10, .bl b11]))) := (s2.trans sl3).trans (same_upd hp3)
    have q3 : upd (upd H2 l3 (.lst [V.bl b9, .bl b10, .bl b11])) p3 (.lst ([V.bl b0, .bl b1, .bl b2, .bl b3, .bl b4, .bl b5, .bl b6, .bl b7, .bl b8] ++ [V.bl b9, .bl b10, .bl b11])) p3 = some (.lst [V.bl b0, .bl b1, .bl b2, .bl b3, .bl b4, .bl b5, .bl b6, .bl b7, .bl b8, .bl b9, .bl b10, .bl b11]) := upd_same
    generalize upd (upd H2 l3 (.lst [V.bl b9, .bl b10, .bl b11])) p3 (.lst ([V.bl b0, .bl b1, .bl b2, .bl b3, .bl b4, .bl b5, .bl b6, .bl b7, .bl b8] ++ [V.bl b9, .bl b10, .bl b11])) = H3 at *
    have A3 := hA.mono s3
    refine ⟨_, rfl, _, rfl, a, D, _, _, b12, rfl, A3, kx, fun _ z => z, k12, small_len (by show 1 ≤ 1000; decide), fun l4 hl4 => ?_⟩
    have sl4 := same_upd (o := .lst [V.bl b12]) hl4
    refine ⟨p3, l4, _, _, rfl, rfl, sl4 _ _ q3, upd_same, small_len (by show 13 ≤ 1000; decide), fun p4 hp4 => ?_⟩
    have s4 : Same H (upd (upd H3 l4 (.lst [V.bl b12])) p4 (.lst ([V.bl b0, .bl b1, .bl b2, .bl b3, .bl b4, .bl b5, .bl b6, .bl b7, .bl b8, .bl b9, .bl b10, .bl b11] ++ [V.bl b12]))) := (s3.trans sl4).trans (same_upd hp4)
    exact q _ p4 s4 (s3.free (sl4.free hp4)) upd_same
end
end Wd

namespace Wd
open PySem PySem.Spec PyProof.Rows L2 XR Mth GL
section
variable {P : Program} {w : World} {K : PySem.W.Frag} {mg : Str → Option Value} {base : Heap}
structure Own10 (K : PySem.W.Frag) (mg : Str → Option Value) (c : Nat → Addr) : Prop where
  o0 : Own K mg "InvalidWindow" (c 0)
  o1 : Own K mg "InvalidHop" (c 1)
  o2 : Own K mg "InvalidHops" (c 2)
  o3 : Own K mg "InvalidNumber" (c 3)
  o4 : Own K mg "InvalidList" (c 4)
  o5 : Own K mg "InvalidDeck" (c 5)
  o6 : Own K mg "InvalidStream" (c 6)
  o7 : Own K mg "InvalidIndex" (c 7)
  o8 : Own K mg "NothingToUndo" (c 8)
  o13 : Own K mg "SeamError" (c 13)
theorem abc_len : (Str.ofString "abc \n-").length = 6 := by decide +kernel
theorem abc_size : (Str.ofString "abc \n-").cps.size = 6 := by decide +kernel
theorem empty_len : (Str.ofString "").length = 0 := by decide +kernel
theorem b300 {m : Nat} (h : m ≤ 1000000) : m < 2 ^ 300 := Nat.lt_of_le_of_lt h (by decide)
theorem sum_len1 : ∀ {cs : List Str}, (∀ s ∈ cs, s.length = 1) → (cs.map (·.length)).sum = cs.length
  | [], _ => rfl
  | s :: cs, h => by
    rw [List.map_cons, List.sum_cons, sum_len1 fun x hx => h x (List.mem_cons_of_mem _ hx), h s List.mem_cons_self, List.length_cons]
    omega
theorem ow_same {H H' : Hp} {a d : Addr} {o : HO} (ha : H a = none) (hd : upd H a o d = none) (hk : ∀ b, b ≠ a → b ≠ d → H' b = upd H a o b) : Same H H' := fun b x e => by
  have nba : b ≠ a := fun z => by rw [z, ha] at e; cases e
  have nbd : b ≠ d := fun z => by rw [← z, upd_ne nba, e] at hd; cases hd
  rw [hk b nba nbd, upd_ne nba]
  exact e
def rowB (j : Nat) : List Bool := (List.range 13).map (· == j) ++ [true, true]
theorem rowB_13 (j : Nat) : (rowB j)[13]? = some true := by
  unfold rowB
  rw [List.getElem?_append_right (by rw [List.length_map, List.length_range]; decide), List.length_map, List.length_range]
  rfl
theorem rowB_14 (j : Nat) : (rowB j)[14]? = some true := by
  unfold rowB
  rw [List.getElem?_append_right (by rw [List.length_map, List.length_range]; decide), List.length_map, List.length_range]
  rfl
theorem rowB_len (j : Nat) : 13 ≤ (rowB j).length := by
  unfold rowB
  rw [List.length_append, List.length_map, List.length_range]
  decide
theorem rowB_cut (j : Nat) : (rowB j).take 13 = tab 13 fun i => i == j := rfl
theorem int_beq (i k : Nat) : decide ((V.int (i : Int)) = V.int (k : Int)) = (i == k) := by
  by_cases e : i = k
  · rw [e, decide_eq_true rfl]
    exact (beq_self_eq_true k).symm
  · rw [decide_eq_false (fun z => e (by injection z with z; omega))]
    exact (beq_eq_false_iff_ne.mpr e).symm
theorem dp_bools {K : PySem.W.Frag} {H : Hp} : ∀ bs : List Bool, DpAll K H (bs.map V.bl) (bs.map PyData.bool)
  | [] => .nil
  | b :: bs => .cons (.bl b) (dp_bools bs)
theorem shaped_b {bs : List Bool} : SeqAt.shaped (.list (bs.map PyData.bool)) = true := by
  have c : ∀ bs : List Bool, PyData.canLayAll0 (bs.map PyData.bool) = true := fun bs => by
    induction bs with
    | nil => rfl
    | cons b bs ih => simp [PyData.canLayAll0, PyData.canLay0, ih]
  have d : ∀ bs : List Bool, PyData.depthAll (bs.map PyData.bool) ≤ 2 := fun bs => by
    induction bs with
    | nil => exact Nat.zero_le _
    | cons b bs ih =>
      simp only [List.map_cons, PyData.depthAll, PyData.depth]
      omega
  have d2 := d bs
  show (PyData.canLay0 (.list (bs.map PyData.bool)) && decide (PyData.depth (.list (bs.map PyData.bool)) ≤ 64)) = true
  rw [Bool.and_eq_true]
  refine ⟨by simp only [PyData.canLay0]; exact c bs, decide_eq_true ?_⟩
  simp only [PyData.depth]
  omega
theorem eqv_b : ∀ bs : List Bool, PyData.eqvAll (bs.map PyData.bool) (bs.map PyData.bool) = true
  | [] => by simp [PyData.eqvAll]
  | b :: bs => by simp [PyData.eqvAll, PyData.eqv, eqv_b bs]
def spLaw (K : PySem.W.Frag) : Sp := fun vs H Q _ => ∃ (a : Addr) (ns : List Int), vs = [.ref a] ∧ SqL K H a (ns.map V.int) ∧ ns.length ≤ 63 ∧ ∀ H', Q (.bl true) H'
theorem scLaw62 : FnScope ["script", "bag", "k", "word", "spot", "one", "two", "rows", "i", "made", "told"] ["script"] (defScope sLaw) := ⟨rfl, rfl, rfl, by decide +kernel, rfl, by decide +kernel, by decide +kernel⟩
theorem ok_law {f fG fB fO fA : Addr} {fd fdG fdB fdO fdA : FuncData} {k : Nat} (F : Fun K "law" "law" sLaw f fd) (T : Txt K mg) {c : Nat → Addr} (CT : Cl13 mg c) (KG : KxG K) (OW : Own10 K mg c) (KX : ∀ j, j < 14 → KxC K (c j)) (KR : ∀ j, j < 14 → kitRow K (c j) (csL c) (rowB j) = true)
    {x9 : Addr} {y9 : FuncData} (X9 : FnOk P w K mg base CX0 k x9 y9 ["self", "rest", "other"] (spNotEven (c 9))) (b9 : Binds K y9 ["self", "rest", "other"] []) (w9 : KBn K y9 ["self", "rest", "other"] 1 ["other", "rest"] (fun us ws => us ++ swap2 ws) (fun vs zs => vs ++ swap2 zs)) (T9 : NEx K mg "NotEven" (c 9) x9) (F9 : XfC K (c 9))
    {x10 : Addr} {y10 : FuncData} (X10 : FnOk P w K mg base CX0 k x10 y10 ["self", "rest"] (spNoPartner (c 10))) (b10 : Binds K y10 ["self", "rest"] []) (w10 : KBn K y10 ["self", "rest"] 1 ["rest"] (fun us ws => us ++ ws) (fun vs zs => vs ++ zs)) (T10 : NoPartnerC K mg "NoPartner" (c 10) x10) (F10 : XfC K (c 10))
    {x11 : Addr} {y11 : FuncData} (X11 : FnOk P w K mg base CX0 k x11 y11 ["self", "point"] (spNoList (c 11))) (b11 : Binds K y11 ["self", "point"] []) (w11 : KBn K y11 ["self", "point"] 1 ["point"] (fun us ws => us ++ ws) (fun vs zs => vs ++ zs)) (T11 : NoListC K mg "NoList" (c 11) x11) (F11 : XfC K (c 11))
    {x12 : Addr} {y12 : FuncData} (X12 : FnOk P w K mg base CX0 k x12 y12 ["self", "place"] (spInvalidText (c 12))) (b12 : Binds K y12 ["self", "place"] []) (w12 : KBn K y12 ["self", "place"] 1 ["place"] (fun us ws => us ++ ws) (fun vs zs => vs ++ zs)) (T12 : InvalidTextC K mg "InvalidText" (c 12) x12) (F12 : XfC K (c 12))
    (GG : FnOk P w K mg base CX0 (k + 1) fG fdG ["script"] (spBag K)) (gG : mg "_law_bag" = some (.ref fG)) (kG : PySem.W.keepIn K (.ref fG) = true) (bG : Binds K fdG ["script"] [])
    (GB : FnOk P w K mg base CX0 (k + 1) fB fdB ["bag", "wide"] spDraw) (gB : mg "_law_draw" = some (.ref fB)) (kB : PySem.W.keepIn K (.ref fB) = true) (bB : Binds K fdB ["bag", "wide"] [])
    (GO : FnOk P w K mg base CX0 (k + 1) fO fdO ["made"] (spLof62 K c)) (gO : mg "_law_of" = some (.ref fO)) (kO : PySem.W.keepIn K (.ref fO) = true) (bO : Binds K fdO ["made"] [])
    (GA : FnOk P w K mg base CX0 (k + 1) fA fdA ["found", "due"] (spAlike 1)) (gA : mg "_law_alike" = some (.ref fA)) (kA : PySem.W.keepIn K (.ref fA) = true) (bA : Binds K fdA ["found", "due"] []) :
    FnOk P w K mg base CX0 (k + 2) f fd ["script"] (spLaw K) := by
  refine F.ok scLaw62 (fun vs H Q E h => ?_) (fun cdv A outer s H vs Q E hr h => ?_)
  · first | (obtain ⟨_, rfl, _⟩ := h; rfl) | (obtain ⟨_, _, rfl, _⟩ := h; rfl) | (obtain ⟨_, _, _, rfl, _⟩ := h; rfl) | (obtain ⟨_, _, _, _, rfl, _⟩ := h; rfl) | (obtain ⟨_, _, _, _, _, rfl, _⟩ := h; rfl) | (obtain ⟨_, _, _, _, _, _, rfl, _⟩ := h; rfl) | (obtain ⟨_, _, _, _, _, _, _, rfl, _⟩ := h; rfl) | (obtain ⟨_, _, _, _, _, _, _, _, rfl, _⟩ := h; rfl) | (obtain ⟨_, _, _, _, _, _, _, _, _, rfl, _⟩ := h; rfl) | (obtain ⟨_, _, _, _, _, _, _, _, _, _, rfl, _⟩ := h; rfl) | (obtain ⟨_, _, _, _, _, _, _, _, _, _, _, rfl, _⟩ := h; rfl)
  · have nd := scLaw62.nd
    obtain ⟨a, ns, rfl, hA, hlen, q⟩ := h
    refine ⟨_, pss_cons (ps_set (i := 1) nd rfl (.inr rfl) (pe_call GG hr (by rfl) gG kG bG .nil pass0 (pa_cons (pv 0) pa_nil)))
      (pss_cons (ps_set (i := 3) nd rfl (.inl rfl) (pe_join pe_str (pe_lc (own := [("k", 2)]) (g := (gName 2)) (tt := tYes) (te := (tOp (fun x y H Q => ∃ z i cc, x = .str z ∧ y = .int i ∧ 0 ≤ i ∧ i < 2 ^ 63 ∧ i < z.length ∧ z.cps[i.toNat]? = some cc ∧ Q (.str ⟨#[cc]⟩) H) (tC (.str "abc \n-")) (tCall spDraw [] E0 (tCons (tVar 1) (tCons (tC (.int 6)) tNil))))) rfl nd (pi_range1 rfl T.range (pa_cons (pe_call GB hr (by rfl) gB kB bB .nil pass0 (pa_cons (pv 1) (pa_cons pe_int pa_nil))) pa_nil)) (blkOk_by (N := ["script", "bag", "k", "word", "spot", "one", "two", "rows", "i", "made", "told"]) (sc := defScope sLaw) (by decide +kernel)) (fun _ _ _ _ _ => pg_name (i := 2) nd rfl (Or.inl rfl)) (fun _ _ _ _ _ => pts_nil) (fun _ _ _ _ _ => (pe_item_str pe_str (pe_call GB hr (by rfl) gB kB bB .nil pass0 (pa_cons (pv 1) (pa_cons pe_int pa_nil))) (fun _ _ => rfl))))))
      (pss_cons (ps_par3 (i := 4) (j := 5) (l := 6) rfl nd rfl rfl rfl (by decide) (by decide) (by decide) rfl rfl rfl (pa_cons (pe_ix ix_list (pe_lst (pa_cons (pe_call GB hr (by rfl) gB kB bB .nil pass0 (pa_cons (pv 1) (pa_cons pe_int pa_nil))) (pa_cons (pe_op op_pow pe_int pe_int) (pa_cons pe_int pa_nil)))) (pe_call GB hr (by rfl) gB kB bB .nil pass0 (pa_cons (pv 1) (pa_cons pe_int pa_nil))) (fun _ _ => rfl)) (pa_cons (pe_call GB hr (by rfl) gB kB bB .nil pass0 (pa_cons (pv 1) (pa_cons pe_int pa_nil))) (pa_cons (pe_call GB hr (by rfl) gB kB bB .nil pass0 (pa_cons (pv 1) (pa_cons pe_int pa_nil))) pa_nil))) (by rfl))
      (pss_cons (ps_set (i := 7) nd rfl (.inl rfl) (pe_lst (pa_cons (pe_exc1 PySem.F.excBase_ValueError OW.o0.ex OW.o0.g OW.o0.kp (by rfl) (pv 3)) (pa_cons (pe_exc1 PySem.F.excBase_ValueError OW.o1.ex OW.o1.g OW.o1.kp (by rfl) (pv 3)) (pa_cons (pe_exc1 PySem.F.excBase_ValueError OW.o2.ex OW.o2.g OW.o2.kp (by rfl) (pv 3)) (pa_cons (pe_exc1 PySem.F.excBase_ValueError OW.o3.ex OW.o3.g OW.o3.kp (by rfl) (pv 3)) (pa_cons (pe_exc1 PySem.F.excBase_ValueError OW.o4.ex OW.o4.g OW.o4.kp (by rfl) (pv 3)) pa_nil)))))))
      (pss_cons (ps_set (i := 7) nd rfl (.inl rfl) (pe_op op_cat (pv 7) (pe_lst (pa_cons (pe_exc1 PySem.F.excBase_ValueError OW.o5.ex OW.o5.g OW.o5.kp (by rfl) (pv 3)) (pa_cons (pe_exc1 PySem.F.excBase_ValueError OW.o6.ex OW.o6.g OW.o6.kp (by rfl) (pv 3)) (pa_cons (pe_exc1 PySem.F.excBase_ValueError OW.o7.ex OW.o7.g OW.o7.kp (by rfl) (pv 3)) (pa_cons (pe_exc1 PySem.F.excBase_ValueError OW.o8.ex OW.o8.g OW.o8.kp (by rfl) (pv 3)) pa_nil)))))))
      (pss_cons (ps_set (i := 7) nd rfl (.inl rfl) (pe_op op_cat (pv 7) (pe_lst (pa_cons (pe_mkv T9.ox T9.iC T9.tI X9 hr b9 pass0 (by rfl) T9.g (pa_cons (pv 5) (pa_cons (pv 6) pa_nil))) (pa_cons (pe_mkv T10.ox T10.iC T10.tI X10 hr b10 pass0 (by rfl) T10.g (pa_cons (pv 5) pa_nil)) (pa_cons (pe_mkv T11.ox T11.iC T11.tI X11 hr b11 pass0 (by rfl) T11.g (pa_cons (pv 6) pa_nil)) (pa_cons (pe_mkv T12.ox T12.iC T12.tI X12 hr b12 pass0 (by rfl) T12.g (pa_cons (pv 4) pa_nil)) pa_nil)))))))
      (pss_cons (ps_for PassesOwn.never rfl (pi_range1 rfl T.range (pa_cons (pe_callB call_len_seq (by rfl) T.len PySem.boot_len (pa_cons (pv 7) pa_nil)) pa_nil)) (pg_name (i := 2) nd rfl (.inr rfl))
        (pss_cons (ps_if (PW.pt (pw_or (pt_not (pt_val (pe_callB (call_isV KG) (by rfl) T.isinstance (by decide +kernel) (pa_cons (pe_ix ix_list (pv 7) (pv 2) (fun _ _ => rfl)) (pa_cons (pe_glob (v := .ref (c 13)) rfl CT.g13 rfl) pa_nil))))) (pw_or1 (pt_not (pt_val (pe_callB (call_isV KG) (by rfl) T.isinstance (by decide +kernel) (pa_cons (pe_ix ix_list (pv 7) (pv 2) (fun _ _ => rfl)) (pa_cons (pe_bltn (v := .ty "ValueError") (by rfl) T.ValueError (by decide +kernel) rfl) pa_nil)))))))) pss_never pss_nil)
        (pss_one (ps_if (pt_cmpR (op_neD hr.units) (pe_call GO hr (by rfl) gO kO bO .nil pass0 (pa_cons (pe_ix ix_list (pv 7) (pv 2) (fun _ _ => rfl)) pa_nil)) (pe_lc (own := [("i", 8)]) (g := (gName 8)) (tt := tYes) (te := (tOp rEq (tVar 8) (tVar 2))) rfl nd (pi_range1 rfl T.range (pa_cons (pe_callB call_len_seq (by rfl) T.len PySem.boot_len (pa_cons (pv 7) pa_nil)) pa_nil)) (blkOk_by (N := ["script", "bag", "k", "word", "spot", "one", "two", "rows", "i", "made", "told"]) (sc := defScope sLaw) (by decide +kernel)) (fun _ _ _ _ _ => pg_name (i := 8) nd rfl (Or.inl rfl)) (fun _ _ _ _ _ => pts_nil) (fun _ _ _ _ _ => pe_cmpR op_eq (pv 8) (pv 2) (nomark _))) (nomark _)) pss_never pss_nil))))
      (pss_cons (ps_if (pt_cmpR (op_neD hr.units) (pe_call GO hr (by rfl) gO kO bO .nil pass0 (pa_cons (pe_exc1 PySem.F.excBase_ValueError OW.o13.ex OW.o13.g OW.o13.kp (by rfl) (pv 3)) pa_nil)) (pe_op op_rep (pe_lst (pa_cons pe_bl pa_nil)) (pe_callB call_len_seq (by rfl) T.len PySem.boot_len (pa_cons (pv 7) pa_nil))) (nomark _)) pss_never pss_nil)
      (pss_cons (ps_set (i := 9) nd rfl (.inl rfl) (pe_mkk T9.ox T9.iC T9.tI X9 hr w9 pass0 (by rfl) T9.g (pk_cons (pv 6) (pk_cons (pv 5) pk_nil))))
      (pss_cons (ps_set (i := 10) nd rfl (.inl rfl) (pe_lst (pa_cons (pe_vf (pe_ix ix_list (pv 7) pe_int (fun _ _ => rfl))) (pa_cons (pe_vf (pe_ix ix_list (pv 7) pe_int (fun _ _ => rfl))) (pa_cons (pe_vf (pv 9)) (pa_cons (pe_vf (pv 9)) (pa_cons (pe_vf (pe_ix ix_list (pv 7) pe_int (fun _ _ => rfl))) (pa_cons (pe_vf (pe_ix ix_list (pv 7) pe_int (fun _ _ => rfl))) (pa_cons (pe_vf (pe_ix ix_list (pv 7) pe_int (fun _ _ => rfl))) pa_nil)))))))))
      (pss_cons (ps_set (i := 10) nd rfl (.inl rfl) (pe_op op_cat (pv 10) (pe_lst (pa_cons (pe_vf (pe_mkk T10.ox T10.iC T10.tI X10 hr w10 pass0 (by rfl) T10.g (pk_cons (pv 5) pk_nil))) (pa_cons (pe_vf (pe_mkk T11.ox T11.iC T11.tI X11 hr w11 pass0 (by rfl) T11.g (pk_cons (pv 6) pk_nil))) (pa_cons (pe_vf (pe_mkk T12.ox T12.iC T12.tI X12 hr w12 pass0 (by rfl) T12.g (pk_cons (pv 4) pk_nil))) pa_nil))))))
      (pss_one (ps_ret (pe_call GA hr (by rfl) gA kA bA .nil pass0 (pa_cons (pv 10) (pa_cons (pe_lst (pa_cons (pv 5) (pa_cons (pv 6) (pa_cons (pv 5) (pa_cons (pv 6) (pa_cons (pv 5) (pa_cons (pv 6) (pa_cons (pv 4) (pa_cons (pv 5) (pa_cons (pv 6) (pa_cons (pv 4) pa_nil))))))))))) pa_nil))))))))))))))), ?_⟩
    refine ⟨_, rfl, a, ns, rfl, hA, hlen, fun H1 j q0 s1 j0 q00 B1 => ?_⟩
    refine ⟨⟨_, rfl⟩, _, rfl, j, q0, _, 9, rfl, B1, by omega, by decide, b300 (by decide), fun H2 n s2 B2 hn => ⟨_, rfl, by omega, by omega, fun D hD => ?_⟩⟩
    rw [Int.toNat_natCast]
    obtain ⟨nDj, nDq⟩ := B2.ne hD
    refine lc_range (lo := 0) (n := n) (fun i H' => ∃ cs : List Str, cs.length = i ∧ (∀ s ∈ cs, s.length = 1) ∧ H' D = some (.lst (cs.map V.str)) ∧ Bag H' j q0 (12 + 12 * i)) ⟨[], rfl, fun s hs => absurd hs List.not_mem_nil, upd_same, (B2.same (same_upd hD)).mono (by omega)⟩ ?_ ?_
    · rintro i H3 hi ⟨cs, lc, l1, hD3, B3⟩
      refine ⟨rfl, _, rfl, j, q0, _, 6, rfl, B3, by omega, by decide, b300 (by decide), fun H4 d s4 B4 hd => ?_⟩
      obtain ⟨cc, hc⟩ : ∃ cc, (Str.ofString "abc \n-").cps[d]? = some cc := ⟨_, Array.getElem?_eq_getElem (by rw [abc_size]; exact hd)⟩
      refine ⟨_, _, cc, rfl, rfl, by omega, by omega, by rw [abc_len]; omega, hc, _, s4 _ _ nDj hD3, ?_, cs ++ [⟨#[cc]⟩], by rw [List.length_append, lc]; rfl, fun s hs => ?_, ?_, (B4.upd nDj nDq).mono (by omega)⟩
      · rw [List.length_map, lc]
        exact small1000 (by omega)
      · rcases List.mem_append.mp hs with z | z
        · exact l1 s z
        · rw [List.mem_singleton] at z
          rw [z]
          rfl
      · rw [upd_same, List.map_append]
        rfl
    rintro H3 ⟨cs, lc, l1, hD3, B3⟩
    refine ⟨_, D, cs, rfl, rfl, .inl (SqL.of hD3), by rw [sum_len1 l1, empty_len]; omega, ?_⟩
    generalize Txt.join _ cs = word
    have B3' : Bag H3 j q0 200 := B3.mono (by omega)
    clear hD3 l1 lc hD B1 B2 B3 s1 s2 hA
    refine ⟨_, rfl, j, q0, _, 30, rfl, B3', by omega, by decide, b300 (by decide), fun H4 sp0 s4 B4 hsp => ⟨_, _, rfl, rfl, ⟨by decide, by decide, by decide⟩, small_len (by show 3 ≤ 1000; decide), fun l1 hl1 => ?_⟩⟩
    obtain ⟨n1j, n1q⟩ := B4.ne hl1
    refine ⟨_, rfl, j, q0, _, 3, rfl, B4.same (same_upd hl1), by omega, by decide, b300 (by decide), fun H5 e s5 B5 he => ?_⟩
    obtain ⟨S, hS, bS⟩ : ∃ S : Int, ([V.int (sp0 : Int), .int (10 ^ (29 : Int).toNat), .int 0] : List V)[e]? = some (V.int S) ∧ S.natAbs ≤ 10 ^ 30 := by
      have hlt : e < 3 := he
      rcases (by omega : e = 0 ∨ e = 1 ∨ e = 2) with z | z | z
      · exact ⟨_, by rw [z]; rfl, by omega⟩
      · exact ⟨_, by rw [z]; rfl, by decide⟩
      · exact ⟨_, by rw [z]; rfl, by decide⟩
    refine ⟨l1, _, _, _, rfl, rfl, SqL.of (s5 _ _ n1j upd_same), atI_nat hS, ?_⟩
    refine ⟨_, rfl, j, q0, _, 9, rfl, B5, by omega, by decide, b300 (by decide), fun H6 d1 s6 B6 hd1 => ⟨_, rfl, j, q0, _, 99, rfl, B6, by omega, by decide, b300 (by decide), fun H7 d2 s7 B7 hd2 => ?_⟩⟩
    clear hS he hl1 s4 s5 s6 s7 B3' B4 B5 B6 hsp n1j n1q
    skip
    refine ⟨_, _, _, rfl, ?_⟩
    refine ⟨_, rfl, fun e0 he0 => ?_⟩
    have x0 := (show ExAt (upd H7 e0 (ExO (.ref (c 0)) e0)) e0 (c 0) from Or.inl upd_same)
    generalize upd H7 e0 (ExO (.ref (c 0)) e0) = H8 at *
    refine ⟨_, rfl, fun e1 he1 => ?_⟩
    have x1 := (show ExAt (upd H8 e1 (ExO (.ref (c 1)) e1)) e1 (c 1) from Or.inl upd_same)
    replace x0 := ExAt.mono (same_upd (o := ExO (.ref (c 1)) e1) he1) x0
    generalize upd H8 e1 (ExO (.ref (c 1)) e1) = H9 at *
    refine ⟨_, rfl, fun e2 he2 => ?_⟩
    have x2 := (show ExAt (upd H9 e2 (ExO (.ref (c 2)) e2)) e2 (c 2) from Or.inl upd_same)
    replace x0 := ExAt.mono (same_upd (o := ExO (.ref (c 2)) e2) he2) x0
    replace x1 := ExAt.mono (same_upd (o := ExO (.ref (c 2)) e2) he2) x1
    generalize upd H9 e2 (ExO (.ref (c 2)) e2) = H10 at *
    refine ⟨_, rfl, fun e3 he3 => ?_⟩
    have x3 := (show ExAt (upd H10 e3 (ExO (.ref (c 3)) e3)) e3 (c 3) from Or.inl upd_same)
    replace x0 := ExAt.mono (same_upd (o := ExO (.ref (c 3)) e3) he3) x0
    replace x1 := ExAt.mono (same_upd (o := ExO (.ref (c 3)) e3) he3) x1
    replace x2 := ExAt.mono (same_upd (o := ExO (.ref (c 3)) e3) he3) x2
    generalize upd H10 e3 (ExO (.ref (c 3)) e3) = H11 at *
    refine ⟨_, rfl, fun e4 he4 => ?_⟩
    have x4 := (show ExAt (upd H11 e4 (ExO (.ref (c 4)) e4)) e4 (c 4) from Or.inl upd_same)
    replace x0 := ExAt.mono (same_upd (o := ExO (.ref (c 4)) e4) he4) x0
    replace x1 := ExAt.mono (same_upd (o := ExO (.ref (c 4)) e4) he4) x1
    replace x2 := ExAt.mono (same_upd (o := ExO (.ref (c 4)) e4) he4) x2
    replace x3 := ExAt.mono (same_upd (o := ExO (.ref (c 4)) e4) he4) x3
    generalize upd H11 e4 (ExO (.ref (c 4)) e4) = H12 at *
    refine ⟨small_len (by show 5 ≤ 1000; decide), fun p1 h_p1 => ?_⟩
    have r_p1 := upd_same (H := H12) (a := p1) (o := .lst [V.ref e0, .ref e1, .ref e2, .ref e3, .ref e4])
    replace x0 := ExAt.mono (same_upd (o := .lst [V.ref e0, .ref e1, .ref e2, .ref e3, .ref e4]) h_p1) x0
    replace x1 := ExAt.mono (same_upd (o := .lst [V.ref e0, .ref e1, .ref e2, .ref e3, .ref e4]) h_p1) x1
    replace x2 := ExAt.mono (same_upd (o := .lst [V.ref e0, .ref e1, .ref e2, .ref e3, .ref e4]) h_p1) x2
    replace x3 := ExAt.mono (same_upd (o := .lst [V.ref e0, .ref e1, .ref e2, .ref e3, .ref e4]) h_p1) x3
    replace x4 := ExAt.mono (same_upd (o := .lst [V.ref e0, .ref e1, .ref e2, .ref e3, .ref e4]) h_p1) x4
    generalize upd H12 p1 (.lst [V.ref e0, .ref e1, .ref e2, .ref e3, .ref e4]) = H13 at *
    refine ⟨_, rfl, ?_⟩
    refine ⟨_, rfl, fun e5 he5 => ?_⟩
    have x5 := (show ExAt (upd H13 e5 (ExO (.ref (c 5)) e5)) e5 (c 5) from Or.inl upd_same)
    replace x0 := ExAt.mono (same_upd (o := ExO (.ref (c 5)) e5) he5) x0
    replace x1 := ExAt.mono (same_upd (o := ExO (.ref (c 5)) e5) he5) x1
    replace x2 := ExAt.mono (same_upd (o := ExO (.ref (c 5)) e5) he5) x2
    replace x3 := ExAt.mono (same_upd (o := ExO (.ref (c 5)) e5) he5) x3
    replace x4 := ExAt.mono (same_upd (o := ExO (.ref (c 5)) e5) he5) x4
    replace r_p1 := same_upd (o := ExO (.ref (c 5)) e5) he5 _ _ r_p1
    generalize upd H13 e5 (ExO (.ref (c 5)) e5) = H14 at *
    refine ⟨_, rfl, fun e6 he6 => ?_⟩
    have x6 := (show ExAt (upd H14 e6 (ExO (.ref (c 6)) e6)) e6 (c 6) from Or.inl upd_same)
    replace x0 := ExAt.mono (same_upd (o := ExO (.ref (c 6)) e6) he6) x0
    replace x1 := ExAt.mono (same_upd (o := ExO (.ref (c 6)) e6) he6) x1
    replace x2 := ExAt.mono (same_upd (o := ExO (.ref (c 6)) e6) he6) x2
    replace x3 := ExAt.mono (same_upd (o := ExO (.ref (c 6)) e6) he6) x3
    replace x4 := ExAt.mono (same_upd (o := ExO (.ref (c 6)) e6) he6) x4
    replace r_p1 := same_upd (o := ExO (.ref (c 6)) e6) he6 _ _ r_p1
    replace x5 := ExAt.mono (same_upd (o := ExO (.ref (c 6)) e6) he6) x5
    generalize upd H14 e6 (ExO (.ref (c 6)) e6) = H15 at *
    refine ⟨_, rfl, fun e7 he7 => ?_⟩
    have x7 := (show ExAt (upd H15 e7 (ExO (.ref (c 7)) e7)) e7 (c 7) from Or.inl upd_same)
    replace x0 := ExAt.mono (same_upd (o := ExO (.ref (c 7)) e7) he7) x0
    replace x1 := ExAt.mono (same_upd (o := ExO (.ref (c 7)) e7) he7) x1
    replace x2 := ExAt.mono (same_upd (o := ExO (.ref (c 7)) e7) he7) x2
    replace x3 := ExAt.mono (same_upd (o := ExO (.ref (c 7)) e7) he7) x3
    replace x4 := ExAt.mono (same_upd (o := ExO (.ref (c 7)) e7) he7) x4
    replace r_p1 := same_upd (o := ExO (.ref (c 7)) e7) he7 _ _ r_p1
    replace x5 := ExAt.mono (same_upd (o := ExO (.ref (c 7)) e7) he7) x5
    replace x6 := ExAt.mono (same_upd (o := ExO (.ref (c 7)) e7) he7) x6
    generalize upd H15 e7 (ExO (.ref (c 7)) e7) = H16 at *
    refine ⟨_, rfl, fun e8 he8 => ?_⟩
    have x8 := (show ExAt (upd H16 e8 (ExO (.ref (c 8)) e8)) e8 (c 8) from Or.inl upd_same)
    replace x0 := ExAt.mono (same_upd (o := ExO (.ref (c 8)) e8) he8) x0
    replace x1 := ExAt.mono (same_upd (o := ExO (.ref (c 8)) e8) he8) x1
    replace x2 := ExAt.mono (same_upd (o := ExO (.ref (c 8)) e8) he8) x2
    replace x3 := ExAt.mono (same_upd (o := ExO (.ref (c 8)) e8) he8) x3
    replace x4 := ExAt.mono (same_upd (o := ExO (.ref (c 8)) e8) he8) x4
    replace r_p1 := same_upd (o := ExO (.ref (c 8)) e8) he8 _ _ r_p1
    replace x5 := ExAt.mono (same_upd (o := ExO (.ref (c 8)) e8) he8) x5
    replace x6 := ExAt.mono (same_upd (o := ExO (.ref (c 8)) e8) he8) x6
    replace x7 := ExAt.mono (same_upd (o := ExO (.ref (c 8)) e8) he8) x7
    generalize upd H16 e8 (ExO (.ref (c 8)) e8) = H17 at *
    refine ⟨small_len (by show 4 ≤ 1000; decide), fun p2 h_p2 => ?_⟩
    have r_p2 := upd_same (H := H17) (a := p2) (o := .lst [V.ref e5, .ref e6, .ref e7, .ref e8])
    replace x0 := ExAt.mono (same_upd (o := .lst [V.ref e5, .ref e6, .ref e7, .ref e8]) h_p2) x0
    replace x1 := ExAt.mono (same_upd (o := .lst [V.ref e5, .ref e6, .ref e7, .ref e8]) h_p2) x1
    replace x2 := ExAt.mono (same_upd (o := .lst [V.ref e5, .ref e6, .ref e7, .ref e8]) h_p2) x2
    replace x3 := ExAt.mono (same_upd (o := .lst [V.ref e5, .ref e6, .ref e7, .ref e8]) h_p2) x3
    replace x4 := ExAt.mono (same_upd (o := .lst [V.ref e5, .ref e6, .ref e7, .ref e8]) h_p2) x4
    replace r_p1 := same_upd (o := .lst [V.ref e5, .ref e6, .ref e7, .ref e8]) h_p2 _ _ r_p1
    replace x5 := ExAt.mono (same_upd (o := .lst [V.ref e5, .ref e6, .ref e7, .ref e8]) h_p2) x5
    replace x6 := ExAt.mono (same_upd (o := .lst [V.ref e5, .ref e6, .ref e7, .ref e8]) h_p2) x6
    replace x7 := ExAt.mono (same_upd (o := .lst [V.ref e5, .ref e6, .ref e7, .ref e8]) h_p2) x7
    replace x8 := ExAt.mono (same_upd (o := .lst [V.ref e5, .ref e6, .ref e7, .ref e8]) h_p2) x8
    generalize upd H17 p2 (.lst [V.ref e5, .ref e6, .ref e7, .ref e8]) = H18 at *
    refine ⟨p1, p2, _, _, rfl, rfl, r_p1, r_p2, small_len (by show 9 ≤ 1000; decide), fun p3 h_p3 => ?_⟩
    have r_p3 := (show upd H18 p3 (.lst ([V.ref e0, .ref e1, .ref e2, .ref e3, .ref e4] ++ [V.ref e5, .ref e6, .ref e7, .ref e8])) p3 = some (.lst [V.ref e0, .ref e1, .ref e2, .ref e3, .ref e4, .ref e5, .ref e6, .ref e7, .ref e8]) from upd_same)
    replace x0 := ExAt.mono (same_upd (o := .lst ([V.ref e0, .ref e1, .ref e2, .ref e3, .ref e4] ++ [V.ref e5, .ref e6, .ref e7, .ref e8])) h_p3) x0
    replace x1 := ExAt.mono (same_upd (o := .lst ([V.ref e0, .ref e1, .ref e2, .ref e3, .ref e4] ++ [V.ref e5, .ref e6, .ref e7, .ref e8])) h_p3) x1
    replace x2 := ExAt.mono (same_upd (o := .lst ([V.ref e0, .ref e1, .ref e2, .ref e3, .ref e4] ++ [V.ref e5, .ref e6, .ref e7, .ref e8])) h_p3) x2
    replace x3 := ExAt.mono (same_upd (o := .lst ([V.ref e0, .ref e1, .ref e2, .ref e3, .ref e4] ++ [V.ref e5, .ref e6, .ref e7, .ref e8])) h_p3) x3
    replace x4 := ExAt.mono (same_upd (o := .lst ([V.ref e0, .ref e1, .ref e2, .ref e3, .ref e4] ++ [V.ref e5, .ref e6, .ref e7, .ref e8])) h_p3) x4
    replace r_p1 := same_upd (o := .lst ([V.ref e0, .ref e1, .ref e2, .ref e3, .ref e4] ++ [V.ref e5, .ref e6, .ref e7, .ref e8])) h_p3 _ _ r_p1
    replace x5 := ExAt.mono (same_upd (o := .lst ([V.ref e0, .ref e1, .ref e2, .ref e3, .ref e4] ++ [V.ref e5, .ref e6, .ref e7, .ref e8])) h_p3) x5
    replace x6 := ExAt.mono (same_upd (o := .lst ([V.ref e0, .ref e1, .ref e2, .ref e3, .ref e4] ++ [V.ref e5, .ref e6, .ref e7, .ref e8])) h_p3) x6
    replace x7 := ExAt.mono (same_upd (o := .lst ([V.ref e0, .ref e1, .ref e2, .ref e3, .ref e4] ++ [V.ref e5, .ref e6, .ref e7, .ref e8])) h_p3) x7
    replace x8 := ExAt.mono (same_upd (o := .lst ([V.ref e0, .ref e1, .ref e2, .ref e3, .ref e4] ++ [V.ref e5, .ref e6, .ref e7, .ref e8])) h_p3) x8
    replace r_p2 := same_upd (o := .lst ([V.ref e0, .ref e1, .ref e2, .ref e3, .ref e4] ++ [V.ref e5, .ref e6, .ref e7, .ref e8])) h_p3 _ _ r_p2
    generalize upd H18 p3 (.lst ([V.ref e0, .ref e1, .ref e2, .ref e3, .ref e4] ++ [V.ref e5, .ref e6, .ref e7, .ref e8])) = H19 at *
    clear r_p1 r_p2
    refine ⟨_, rfl, ?_⟩
    refine ⟨_, rfl, _, rfl, by show 2 ≤ 1000; decide, fun e9 he9 => ⟨e9, (d1 : Int), (d2 : Int), rfl, upd_same, by omega, by omega, fun H20 q9 hd9 nda9 ha9 hdd9 hk9 => ⟨rfl, ?_⟩⟩⟩
    have sw9 := ow_same he9 hd9 hk9
    replace x0 := ExAt.mono sw9 x0
    replace x1 := ExAt.mono sw9 x1
    replace x2 := ExAt.mono sw9 x2
    replace x3 := ExAt.mono sw9 x3
    replace x4 := ExAt.mono sw9 x4
    replace x5 := ExAt.mono sw9 x5
    replace x6 := ExAt.mono sw9 x6
    replace x7 := ExAt.mono sw9 x7
    replace x8 := ExAt.mono sw9 x8
    replace r_p3 := sw9 _ _ r_p3
    have x9 : ExAt H20 e9 (c 9) := .inr ⟨_, ha9, fun z y => by cases y; exact ⟨_, hdd9⟩⟩
    clear sw9 hk9 hd9 he9
    refine ⟨_, rfl, by show 1 ≤ 1000; decide, fun e10 he10 => ⟨e10, (d1 : Int), rfl, upd_same, by omega, fun H21 q10 hd10 nda10 ha10 hdd10 hk10 => ⟨rfl, ?_⟩⟩⟩
    have sw10 := ow_same he10 hd10 hk10
    replace x0 := ExAt.mono sw10 x0
    replace x1 := ExAt.mono sw10 x1
    replace x2 := ExAt.mono sw10 x2
    replace x3 := ExAt.mono sw10 x3
    replace x4 := ExAt.mono sw10 x4
    replace x5 := ExAt.mono sw10 x5
    replace x6 := ExAt.mono sw10 x6
    replace x7 := ExAt.mono sw10 x7
    replace x8 := ExAt.mono sw10 x8
    replace r_p3 := sw10 _ _ r_p3
    replace x9 := ExAt.mono sw10 x9
    replace ha9 := sw10 _ _ ha9
    replace hdd9 := sw10 _ _ hdd9
    have x10 : ExAt H21 e10 (c 10) := .inr ⟨_, ha10, fun z y => by cases y; exact ⟨_, hdd10⟩⟩
    clear sw10 hk10 hd10 he10
    refine ⟨_, rfl, by show 1 ≤ 1000; decide, fun e11 he11 => ⟨e11, (d2 : Int), rfl, upd_same, by omega, fun H22 q11 hd11 nda11 ha11 hdd11 hk11 => ⟨rfl, ?_⟩⟩⟩
    have sw11 := ow_same he11 hd11 hk11
    replace x0 := ExAt.mono sw11 x0
    replace x1 := ExAt.mono sw11 x1
    replace x2 := ExAt.mono sw11 x2
    replace x3 := ExAt.mono sw11 x3
    replace x4 := ExAt.mono sw11 x4
    replace x5 := ExAt.mono sw11 x5
    replace x6 := ExAt.mono sw11 x6
    replace x7 := ExAt.mono sw11 x7
    replace x8 := ExAt.mono sw11 x8
    replace r_p3 := sw11 _ _ r_p3
    replace x9 := ExAt.mono sw11 x9
    replace ha9 := sw11 _ _ ha9
    replace hdd9 := sw11 _ _ hdd9
    replace x10 := ExAt.mono sw11 x10
    replace ha10 := sw11 _ _ ha10
    replace hdd10 := sw11 _ _ hdd10
    have x11 : ExAt H22 e11 (c 11) := .inr ⟨_, ha11, fun z y => by cases y; exact ⟨_, hdd11⟩⟩
    clear sw11 hk11 hd11 he11
    refine ⟨_, rfl, by show 1 ≤ 1000; decide, fun e12 he12 => ⟨e12, S, rfl, upd_same, bS, fun H23 q12 hd12 nda12 ha12 hdd12 hk12 => ⟨rfl, ?_⟩⟩⟩
    have sw12 := ow_same he12 hd12 hk12
    replace x0 := ExAt.mono sw12 x0
    replace x1 := ExAt.mono sw12 x1
    replace x2 := ExAt.mono sw12 x2
    replace x3 := ExAt.mono sw12 x3
    replace x4 := ExAt.mono sw12 x4
    replace x5 := ExAt.mono sw12 x5
    replace x6 := ExAt.mono sw12 x6
    replace x7 := ExAt.mono sw12 x7
    replace x8 := ExAt.mono sw12 x8
    replace r_p3 := sw12 _ _ r_p3
    replace x9 := ExAt.mono sw12 x9
    replace ha9 := sw12 _ _ ha9
    replace hdd9 := sw12 _ _ hdd9
    replace x10 := ExAt.mono sw12 x10
    replace ha10 := sw12 _ _ ha10
    replace hdd10 := sw12 _ _ hdd10
    replace x11 := ExAt.mono sw12 x11
    replace ha11 := sw12 _ _ ha11
    replace hdd11 := sw12 _ _ hdd11
    have x12 : ExAt H23 e12 (c 12) := .inr ⟨_, ha12, fun z y => by cases y; exact ⟨_, hdd12⟩⟩
    clear sw12 hk12 hd12 he12
    refine ⟨small_len (by show 4 ≤ 1000; decide), fun p4 h_p4 => ?_⟩
    have r_p4 := upd_same (H := H23) (a := p4) (o := .lst [V.ref e9, .ref e10, .ref e11, .ref e12])
    replace x0 := ExAt.mono (same_upd (o := .lst [V.ref e9, .ref e10, .ref e11, .ref e12]) h_p4) x0
    replace x1 := ExAt.mono (same_upd (o := .lst [V.ref e9, .ref e10, .ref e11, .ref e12]) h_p4) x1
    replace x2 := ExAt.mono (same_upd (o := .lst [V.ref e9, .ref e10, .ref e11, .ref e12]) h_p4) x2
    replace x3 := ExAt.mono (same_upd (o := .lst [V.ref e9, .ref e10, .ref e11, .ref e12]) h_p4) x3
    replace x4 := ExAt.mono (same_upd (o := .lst [V.ref e9, .ref e10, .ref e11, .ref e12]) h_p4) x4
    replace x5 := ExAt.mono (same_upd (o := .lst [V.ref e9, .ref e10, .ref e11, .ref e12]) h_p4) x5
    replace x6 := ExAt.mono (same_upd (o := .lst [V.ref e9, .ref e10, .ref e11, .ref e12]) h_p4) x6
    replace x7 := ExAt.mono (same_upd (o := .lst [V.ref e9, .ref e10, .ref e11, .ref e12]) h_p4) x7
    replace x8 := ExAt.mono (same_upd (o := .lst [V.ref e9, .ref e10, .ref e11, .ref e12]) h_p4) x8
    replace r_p3 := same_upd (o := .lst [V.ref e9, .ref e10, .ref e11, .ref e12]) h_p4 _ _ r_p3
    replace x9 := ExAt.mono (same_upd (o := .lst [V.ref e9, .ref e10, .ref e11, .ref e12]) h_p4) x9
    replace ha9 := same_upd (o := .lst [V.ref e9, .ref e10, .ref e11, .ref e12]) h_p4 _ _ ha9
    replace hdd9 := same_upd (o := .lst [V.ref e9, .ref e10, .ref e11, .ref e12]) h_p4 _ _ hdd9
    replace x10 := ExAt.mono (same_upd (o := .lst [V.ref e9, .ref e10, .ref e11, .ref e12]) h_p4) x10
    replace ha10 := same_upd (o := .lst [V.ref e9, .ref e10, .ref e11, .ref e12]) h_p4 _ _ ha10
    replace hdd10 := same_upd (o := .lst [V.ref e9, .ref e10, .ref e11, .ref e12]) h_p4 _ _ hdd10
    replace x11 := ExAt.mono (same_upd (o := .lst [V.ref e9, .ref e10, .ref e11, .ref e12]) h_p4) x11
    replace ha11 := same_upd (o := .lst [V.ref e9, .ref e10, .ref e11, .ref e12]) h_p4 _ _ ha11
    replace hdd11 := same_upd (o := .lst [V.ref e9, .ref e10, .ref e11, .ref e12]) h_p4 _ _ hdd11
    replace x12 := ExAt.mono (same_upd (o := .lst [V.ref e9, .ref e10, .ref e11, .ref e12]) h_p4) x12
    replace ha12 := same_upd (o := .lst [V.ref e9, .ref e10, .ref e11, .ref e12]) h_p4 _ _ ha12
    replace hdd12 := same_upd (o := .lst [V.ref e9, .ref e10, .ref e11, .ref e12]) h_p4 _ _ hdd12
    generalize upd H23 p4 (.lst [V.ref e9, .ref e10, .ref e11, .ref e12]) = H24 at *
    refine ⟨p3, p4, _, _, rfl, rfl, r_p3, r_p4, small_len (by show 13 ≤ 1000; decide), fun p5 h_p5 => ?_⟩
    have r_p5 := (show upd H24 p5 (.lst ([V.ref e0, .ref e1, .ref e2, .ref e3, .ref e4, .ref e5, .ref e6, .ref e7, .ref e8] ++ [V.ref e9, .ref e10, .ref e11, .ref e12])) p5 = some (.lst [V.ref e0, .ref e1, .ref e2, .ref e3, .ref e4, .ref e5, .ref e6, .ref e7, .ref e8, .ref e9, .ref e10, .ref e11, .ref e12]) from upd_same)
    replace x0 := ExAt.mono (same_upd (o := .lst ([V.ref e0, .ref e1, .ref e2, .ref e3, .ref e4, .ref e5, .ref e6, .ref e7, .ref e8] ++ [V.ref e9, .ref e10, .ref e11, .ref e12])) h_p5) x0
    replace x1 := ExAt.mono (same_upd (o := .lst ([V.ref e0, .ref e1, .ref e2, .ref e3, .ref e4, .ref e5, .ref e6, .ref e7, .ref e8] ++ [V.ref e9, .ref e10, .ref e11, .ref e12])) h_p5) x1
    replace x2 := ExAt.mono (same_upd (o := .lst ([V.ref e0, .ref e1, .ref e2, .ref e3, .ref e4, .ref e5, .ref e6, .ref e7, .ref e8] ++ [V.ref e9, .ref e10, .ref e11, .ref e12])) h_p5) x2
    replace x3 := ExAt.mono (same_upd (o := .lst ([V.ref e0, .ref e1, .ref e2, .ref e3, .ref e4, .ref e5, .ref e6, .ref e7, .ref e8] ++ [V.ref e9, .ref e10, .ref e11, .ref e12])) h_p5) x3
    replace x4 := ExAt.mono (same_upd (o := .lst ([V.ref e0, .ref e1, .ref e2, .ref e3, .ref e4, .ref e5, .ref e6, .ref e7, .ref e8] ++ [V.ref e9, .ref e10, .ref e11, .ref e12])) h_p5) x4
    replace x5 := ExAt.mono (same_upd (o := .lst ([V.ref e0, .ref e1, .ref e2, .ref e3, .ref e4, .ref e5, .ref e6, .ref e7, .ref e8] ++ [V.ref e9, .ref e10, .ref e11, .ref e12])) h_p5) x5
    replace x6 := ExAt.mono (same_upd (o := .lst ([V.ref e0, .ref e1, .ref e2, .ref e3, .ref e4, .ref e5, .ref e6, .ref e7, .ref e8] ++ [V.ref e9, .ref e10, .ref e11, .ref e12])) h_p5) x6
    replace x7 := ExAt.mono (same_upd (o := .lst ([V.ref e0, .ref e1, .ref e2, .ref e3, .ref e4, .ref e5, .ref e6, .ref e7, .ref e8] ++ [V.ref e9, .ref e10, .ref e11, .ref e12])) h_p5) x7
    replace x8 := ExAt.mono (same_upd (o := .lst ([V.ref e0, .ref e1, .ref e2, .ref e3, .ref e4, .ref e5, .ref e6, .ref e7, .ref e8] ++ [V.ref e9, .ref e10, .ref e11, .ref e12])) h_p5) x8
    replace r_p3 := same_upd (o := .lst ([V.ref e0, .ref e1, .ref e2, .ref e3, .ref e4, .ref e5, .ref e6, .ref e7, .ref e8] ++ [V.ref e9, .ref e10, .ref e11, .ref e12])) h_p5 _ _ r_p3
    replace x9 := ExAt.mono (same_upd (o := .lst ([V.ref e0, .ref e1, .ref e2, .ref e3, .ref e4, .ref e5, .ref e6, .ref e7, .ref e8] ++ [V.ref e9, .ref e10, .ref e11, .ref e12])) h_p5) x9
    replace ha9 := same_upd (o := .lst ([V.ref e0, .ref e1, .ref e2, .ref e3, .ref e4, .ref e5, .ref e6, .ref e7, .ref e8] ++ [V.ref e9, .ref e10, .ref e11, .ref e12])) h_p5 _ _ ha9
    replace hdd9 := same_upd (o := .lst ([V.ref e0, .ref e1, .ref e2, .ref e3, .ref e4, .ref e5, .ref e6, .ref e7, .ref e8] ++ [V.ref e9, .ref e10, .ref e11, .ref e12])) h_p5 _ _ hdd9
    replace x10 := ExAt.mono (same_upd (o := .lst ([V.ref e0, .ref e1, .ref e2, .ref e3, .ref e4, .ref e5, .ref e6, .ref e7, .ref e8] ++ [V.ref e9, .ref e10, .ref e11, .ref e12])) h_p5) x10
    replace ha10 := same_upd (o := .lst ([V.ref e0, .ref e1, .ref e2, .ref e3, .ref e4, .ref e5, .ref e6, .ref e7, .ref e8] ++ [V.ref e9, .ref e10, .ref e11, .ref e12])) h_p5 _ _ ha10
    replace hdd10 := same_upd (o := .lst ([V.ref e0, .ref e1, .ref e2, .ref e3, .ref e4, .ref e5, .ref e6, .ref e7, .ref e8] ++ [V.ref e9, .ref e10, .ref e11, .ref e12])) h_p5 _ _ hdd10
    replace x11 := ExAt.mono (same_upd (o := .lst ([V.ref e0, .ref e1, .ref e2, .ref e3, .ref e4, .ref e5, .ref e6, .ref e7, .ref e8] ++ [V.ref e9, .ref e10, .ref e11, .ref e12])) h_p5) x11
    replace ha11 := same_upd (o := .lst ([V.ref e0, .ref e1, .ref e2, .ref e3, .ref e4, .ref e5, .ref e6, .ref e7, .ref e8] ++ [V.ref e9, .ref e10, .ref e11, .ref e12])) h_p5 _ _ ha11
    replace hdd11 := same_upd (o := .lst ([V.ref e0, .ref e1, .ref e2, .ref e3, .ref e4, .ref e5, .ref e6, .ref e7, .ref e8] ++ [V.ref e9, .ref e10, .ref e11, .ref e12])) h_p5 _ _ hdd11
    replace x12 := ExAt.mono (same_upd (o := .lst ([V.ref e0, .ref e1, .ref e2, .ref e3, .ref e4, .ref e5, .ref e6, .ref e7, .ref e8] ++ [V.ref e9, .ref e10, .ref e11, .ref e12])) h_p5) x12
    replace ha12 := same_upd (o := .lst ([V.ref e0, .ref e1, .ref e2, .ref e3, .ref e4, .ref e5, .ref e6, .ref e7, .ref e8] ++ [V.ref e9, .ref e10, .ref e11, .ref e12])) h_p5 _ _ ha12
    replace hdd12 := same_upd (o := .lst ([V.ref e0, .ref e1, .ref e2, .ref e3, .ref e4, .ref e5, .ref e6, .ref e7, .ref e8] ++ [V.ref e9, .ref e10, .ref e11, .ref e12])) h_p5 _ _ hdd12
    replace r_p4 := same_upd (o := .lst ([V.ref e0, .ref e1, .ref e2, .ref e3, .ref e4, .ref e5, .ref e6, .ref e7, .ref e8] ++ [V.ref e9, .ref e10, .ref e11, .ref e12])) h_p5 _ _ r_p4
    generalize upd H24 p5 (.lst ([V.ref e0, .ref e1, .ref e2, .ref e3, .ref e4, .ref e5, .ref e6, .ref e7, .ref e8] ++ [V.ref e9, .ref e10, .ref e11, .ref e12])) = H25 at *
    clear r_p3 r_p4
    generalize hHR : H25 = HR at *
    have tbl : ∀ k, k < 13 → ∃ e, ([V.ref e0, .ref e1, .ref e2, .ref e3, .ref e4, .ref e5, .ref e6, .ref e7, .ref e8, .ref e9, .ref e10, .ref e11, .ref e12] : List V)[k]? = some (.ref e) ∧ ExAt HR e (c k) := fun k hk => by
      rcases (by omega : k = 0 ∨ k = 1 ∨ k = 2 ∨ k = 3 ∨ k = 4 ∨ k = 5 ∨ k = 6 ∨ k = 7 ∨ k = 8 ∨ k = 9 ∨ k = 10 ∨ k = 11 ∨ k = 12) with z | z | z | z | z | z | z | z | z | z | z | z | z <;> subst z
      · exact ⟨e0, rfl, x0⟩
      · exact ⟨e1, rfl, x1⟩
      · exact ⟨e2, rfl, x2⟩
      · exact ⟨e3, rfl, x3⟩
      · exact ⟨e4, rfl, x4⟩
      · exact ⟨e5, rfl, x5⟩
      · exact ⟨e6, rfl, x6⟩
      · exact ⟨e7, rfl, x7⟩
      · exact ⟨e8, rfl, x8⟩
      · exact ⟨e9, rfl, x9⟩
      · exact ⟨e10, rfl, x10⟩
      · exact ⟨e11, rfl, x11⟩
      · exact ⟨e12, rfl, x12⟩
    clear x0 x1 x2 x3 x4 x5 x6 x7 x8 x9 x10 x11 x12
    have lrow : ([V.ref e0, .ref e1, .ref e2, .ref e3, .ref e4, .ref e5, .ref e6, .ref e7, .ref e8, .ref e9, .ref e10, .ref e11, .ref e12] : List V).length = 13 := rfl
    refine ⟨_, rfl, p5, _, rfl, .inl (SqL.of r_p5), _, rfl, by omega, by omega, ?_⟩
    rw [Int.toNat_natCast, lrow]
    refine for_range (lo := 0) (n := 13) (fun k σ H' => ∃ y2, σ = [some (.ref a), some (.ref j), y2, some (.str word), some (.int S), some (.int (d1 : Int)), some (.int (d2 : Int)), some (.ref p5), none, none, none] ∧ Same HR H') ⟨_, rfl, Same.refl _⟩ ?_ ?_
    · rintro k σ H8 hk ⟨y2, rfl, s8⟩
      rw [Int.zero_add]
      obtain ⟨e, he, xe⟩ := tbl k hk
      have xe8 := ExAt.mono s8 xe
      have r8 := s8 _ _ r_p5
      have kr := KR k (by omega)
      have kx := KX k (by omega)
      refine ⟨_, rfl, _, rfl, p5, _, _, _, rfl, rfl, SqL.of r8, atI_nat he, e, c k, _, _, true, rfl, xe8, kx, fun _ z => z, kitRow_at kr (j := 13) rfl (rowB_13 k), true, rfl, iteF ?_⟩
      refine ⟨_, rfl, _, rfl, p5, _, _, _, rfl, rfl, SqL.of r8, atI_nat he, e, c k, _, _, true, rfl, xe8, kx, fun _ z => z, kitRow_at kr (j := 14) rfl (rowB_14 k), true, rfl, iteF ?_⟩
      refine ⟨_, rfl, _, rfl, p5, _, _, _, rfl, rfl, SqL.of r8, atI_nat he, e, c k, rowB k, rfl, xe8, kx, kr, rowB_len k, fun H9 m1 s9 m0 hm1 => ?_⟩
      have r9 := s9 _ _ r8
      refine ⟨_, rfl, p5, _, rfl, .inl (SqL.of r9), _, rfl, by omega, by omega, fun D2 hD2 => ?_⟩
      rw [Int.toNat_natCast, lrow]
      refine lc_range (lo := 0) (n := 13) (fun i H' => Same H9 H' ∧ H' D2 = some (.lst ((tab i fun i => i == k).map V.bl))) ⟨same_upd hD2, upd_same⟩ ?_ ?_
      · rintro i H10 hi ⟨s10, hD10⟩
        rw [Int.zero_add]
        refine ⟨rfl, _, rfl, _, rfl, rfl, _, hD10, ?_, same_set s10 hD2, ?_⟩
        · rw [List.length_map, tab_len]
          exact small1000 (by omega)
        · rw [upd_same, tab_succ, List.map_append, int_beq]
          rfl
      rintro H10 ⟨s10, hD10⟩
      refine ⟨_, _, .lst (SqL.of (s10 _ _ hm1)) (dp_bools _), .lst (SqL.of hD10) (dp_bools _), shaped_b, shaped_b, _, rfl, ?_⟩
      rw [rowB_cut, show PyData.eqv (.list ((tab 13 fun i => i == k).map PyData.bool)) (.list ((tab 13 fun i => i == k).map PyData.bool)) = true from eqv_b _]
      exact iteF ⟨_, rfl, (s8.trans s9).trans s10⟩
    rintro σ H8 ⟨y2, rfl, s8⟩
    refine ⟨_, rfl, fun e13 he13 => ?_⟩
    have sA := same_upd (o := ExO (.ref (c 13)) e13) he13
    refine ⟨e13, c 13, rowB 13, rfl, .inl upd_same, KX 13 (by decide), KR 13 (by decide), rowB_len 13, fun H9 m1 s9 m0 hm1 => ?_⟩
    have s89 := (s8.trans sA).trans s9
    refine ⟨small_len (by show 1 ≤ 1000; decide), fun l hl => ⟨_, rfl, p5, _, rfl, .inl (SqL.of (same_upd hl _ _ (s89 _ _ r_p5))), l, _, [.bl false], rfl, rfl, upd_same, ?_⟩⟩
    refine ⟨by rw [lrow]; decide, by rw [lrow]; decide, by rw [lrow]; exact small_len (by decide), fun r hr => ?_⟩
    have hr1 : upd (upd H9 l (.lst [V.bl false])) r (.lst (List.replicate (([V.ref e0, .ref e1, .ref e2, .ref e3, .ref e4, .ref e5, .ref e6, .ref e7, .ref e8, .ref e9, .ref e10, .ref e11, .ref e12].length : Nat) : Int).toNat [V.bl false]).flatten) r = some (.lst ((tab 13 fun i => i == 13).map V.bl)) := upd_same
    have sl := (same_upd (o := .lst [V.bl false]) hl).trans (same_upd (o := .lst (List.replicate (([V.ref e0, .ref e1, .ref e2, .ref e3, .ref e4, .ref e5, .ref e6, .ref e7, .ref e8, .ref e9, .ref e10, .ref e11, .ref e12].length : Nat) : Int).toNat [V.bl false]).flatten) hr)
    refine ⟨_, _, .lst (SqL.of (sl _ _ hm1)) (dp_bools _), .lst (SqL.of hr1) (dp_bools _), shaped_b, shaped_b, _, rfl, ?_⟩
    rw [rowB_cut, show PyData.eqv (.list ((tab 13 fun i => i == 13).map PyData.bool)) (.list ((tab 13 fun i => i == 13).map PyData.bool)) = true from eqv_b _]
    refine iteF ?_
    have sR := s89.trans sl
    clear hr1 hm1
    generalize upd (upd H9 l (.lst [V.bl false])) r _ = HS at *
    replace ha9 := sR _ _ ha9
    replace hdd9 := sR _ _ hdd9
    replace ha10 := sR _ _ ha10
    replace hdd10 := sR _ _ hdd10
    replace ha11 := sR _ _ ha11
    replace hdd11 := sR _ _ hdd11
    replace ha12 := sR _ _ ha12
    replace hdd12 := sR _ _ hdd12
    replace r_p5 := sR _ _ r_p5
    refine ⟨_, rfl, _, rfl, rfl, fun e14 he14 => ⟨e14, (d1 : Int), (d2 : Int), rfl, upd_same, by omega, by omega, fun H41 q14 hd14 nda14 ha14 hdd14 hk14 => ⟨rfl, ?_⟩⟩⟩
    have sw14 := ow_same he14 hd14 hk14
    replace ha9 := sw14 _ _ ha9
    replace hdd9 := sw14 _ _ hdd9
    replace ha10 := sw14 _ _ ha10
    replace hdd10 := sw14 _ _ hdd10
    replace ha11 := sw14 _ _ ha11
    replace hdd11 := sw14 _ _ hdd11
    replace ha12 := sw14 _ _ ha12
    replace hdd12 := sw14 _ _ hdd12
    replace r_p5 := sw14 _ _ r_p5
    refine ⟨_, rfl, p5, _, _, _, rfl, rfl, SqL.of r_p5, atI_nat (j := 9) rfl, e9, c 9, q9, _, _, rfl, ha9, hdd9, F9, T9.n1, rfl, _, rfl, p5, _, _, _, rfl, rfl, SqL.of r_p5, atI_nat (j := 9) rfl, e9, c 9, q9, _, _, rfl, ha9, hdd9, F9, T9.n2, rfl, _, rfl, e14, c 9, q14, _, _, rfl, ha14, hdd14, F9, T9.n1, rfl, _, rfl, e14, c 9, q14, _, _, rfl, ha14, hdd14, F9, T9.n2, rfl, _, rfl, p5, _, _, _, rfl, rfl, SqL.of r_p5, atI_nat (j := 10) rfl, e10, c 10, q10, _, _, rfl, ha10, hdd10, F10, T10.n1, rfl, _, rfl, p5, _, _, _, rfl, rfl, SqL.of r_p5, atI_nat (j := 11) rfl, e11, c 11, q11, _, _, rfl, ha11, hdd11, F11, T11.n1, rfl, _, rfl, p5, _, _, _, rfl, rfl, SqL.of r_p5, atI_nat (j := 12) rfl, e12, c 12, q12, _, _, rfl, ha12, hdd12, F12, T12.n1, rfl, small_len (by show 7 ≤ 1000; decide), fun t1 h_t1 => ?_⟩
    have r_t1 := upd_same (H := H41) (a := t1) (o := .lst [V.int (d1 : Int), .int (d2 : Int), .int (d1 : Int), .int (d2 : Int), .int (d1 : Int), .int (d2 : Int), .int S])
    replace ha9 := same_upd (o := .lst [V.int (d1 : Int), .int (d2 : Int), .int (d1 : Int), .int (d2 : Int), .int (d1 : Int), .int (d2 : Int), .int S]) h_t1 _ _ ha9
    replace hdd9 := same_upd (o := .lst [V.int (d1 : Int), .int (d2 : Int), .int (d1 : Int), .int (d2 : Int), .int (d1 : Int), .int (d2 : Int), .int S]) h_t1 _ _ hdd9
    replace ha10 := same_upd (o := .lst [V.int (d1 : Int), .int (d2 : Int), .int (d1 : Int), .int (d2 : Int), .int (d1 : Int), .int (d2 : Int), .int S]) h_t1 _ _ ha10
    replace hdd10 := same_upd (o := .lst [V.int (d1 : Int), .int (d2 : Int), .int (d1 : Int), .int (d2 : Int), .int (d1 : Int), .int (d2 : Int), .int S]) h_t1 _ _ hdd10
    replace ha11 := same_upd (o := .lst [V.int (d1 : Int), .int (d2 : Int), .int (d1 : Int), .int (d2 : Int), .int (d1 : Int), .int (d2 : Int), .int S]) h_t1 _ _ ha11
    replace hdd11 := same_upd (o := .lst [V.int (d1 : Int), .int (d2 : Int), .int (d1 : Int), .int (d2 : Int), .int (d1 : Int), .int (d2 : Int), .int S]) h_t1 _ _ hdd11
    replace ha12 := same_upd (o := .lst [V.int (d1 : Int), .int (d2 : Int), .int (d1 : Int), .int (d2 : Int), .int (d1 : Int), .int (d2 : Int), .int S]) h_t1 _ _ ha12
    replace hdd12 := same_upd (o := .lst [V.int (d1 : Int), .int (d2 : Int), .int (d1 : Int), .int (d2 : Int), .int (d1 : Int), .int (d2 : Int), .int S]) h_t1 _ _ hdd12
    replace r_p5 := same_upd (o := .lst [V.int (d1 : Int), .int (d2 : Int), .int (d1 : Int), .int (d2 : Int), .int (d1 : Int), .int (d2 : Int), .int S]) h_t1 _ _ r_p5
    replace ha14 := same_upd (o := .lst [V.int (d1 : Int), .int (d2 : Int), .int (d1 : Int), .int (d2 : Int), .int (d1 : Int), .int (d2 : Int), .int S]) h_t1 _ _ ha14
    replace hdd14 := same_upd (o := .lst [V.int (d1 : Int), .int (d2 : Int), .int (d1 : Int), .int (d2 : Int), .int (d1 : Int), .int (d2 : Int), .int S]) h_t1 _ _ hdd14
    generalize upd H41 t1 (.lst [V.int (d1 : Int), .int (d2 : Int), .int (d1 : Int), .int (d2 : Int), .int (d1 : Int), .int (d2 : Int), .int S]) = H41 at *
    refine ⟨_, rfl, ?_⟩
    refine ⟨_, rfl, rfl, fun e15 he15 => ⟨e15, (d1 : Int), rfl, upd_same, by omega, fun H42 q15 hd15 nda15 ha15 hdd15 hk15 => ⟨rfl, e15, c 10, q15, _, _, rfl, ha15, hdd15, F10, T10.n1, rfl, ?_⟩⟩⟩
    replace r_t1 := ow_same he15 hd15 hk15 _ _ r_t1
    refine ⟨_, rfl, rfl, fun e16 he16 => ⟨e16, (d2 : Int), rfl, upd_same, by omega, fun H43 q16 hd16 nda16 ha16 hdd16 hk16 => ⟨rfl, e16, c 11, q16, _, _, rfl, ha16, hdd16, F11, T11.n1, rfl, ?_⟩⟩⟩
    replace r_t1 := ow_same he16 hd16 hk16 _ _ r_t1
    refine ⟨_, rfl, rfl, fun e17 he17 => ⟨e17, S, rfl, upd_same, bS, fun H44 q17 hd17 nda17 ha17 hdd17 hk17 => ⟨rfl, e17, c 12, q17, _, _, rfl, ha17, hdd17, F12, T12.n1, rfl, ?_⟩⟩⟩
    replace r_t1 := ow_same he17 hd17 hk17 _ _ r_t1
    refine ⟨small_len (by show 3 ≤ 1000; decide), fun t2 h_t2 => ?_⟩
    have r_t2 := upd_same (H := H44) (a := t2) (o := .lst [V.int (d1 : Int), .int (d2 : Int), .int S])
    replace r_t1 := same_upd (o := .lst [V.int (d1 : Int), .int (d2 : Int), .int S]) h_t2 _ _ r_t1
    generalize upd H44 t2 (.lst [V.int (d1 : Int), .int (d2 : Int), .int S]) = H61 at *
    refine ⟨t1, t2, _, _, rfl, rfl, r_t1, r_t2, small_len (by show 10 ≤ 1000; decide), fun t3 h_t3 => ?_⟩
    have r_t3 := (show upd H61 t3 (.lst ([V.int (d1 : Int), .int (d2 : Int), .int (d1 : Int), .int (d2 : Int), .int (d1 : Int), .int (d2 : Int), .int S] ++ [V.int (d1 : Int), .int (d2 : Int), .int S])) t3 = some (.lst [V.int (d1 : Int), .int (d2 : Int), .int (d1 : Int), .int (d2 : Int), .int (d1 : Int), .int (d2 : Int), .int S, .int (d1 : Int), .int (d2 : Int), .int S]) from upd_same)
    replace r_t1 := same_upd (o := .lst ([V.int (d1 : Int), .int (d2 : Int), .int (d1 : Int), .int (d2 : Int), .int (d1 : Int), .int (d2 : Int), .int S] ++ [V.int (d1 : Int), .int (d2 : Int), .int S])) h_t3 _ _ r_t1
    replace r_t2 := same_upd (o := .lst ([V.int (d1 : Int), .int (d2 : Int), .int (d1 : Int), .int (d2 : Int), .int (d1 : Int), .int (d2 : Int), .int S] ++ [V.int (d1 : Int), .int (d2 : Int), .int S])) h_t3 _ _ r_t2
    generalize upd H61 t3 (.lst ([V.int (d1 : Int), .int (d2 : Int), .int (d1 : Int), .int (d2 : Int), .int (d1 : Int), .int (d2 : Int), .int S] ++ [V.int (d1 : Int), .int (d2 : Int), .int S])) = H62 at *
    refine ⟨_, rfl, _, rfl, _, rfl, _, rfl, _, rfl, _, rfl, _, rfl, _, rfl, _, rfl, _, rfl, _, rfl, small_len (by show 10 ≤ 1000; decide), fun t4 h_t4 => ?_⟩
    refine ⟨.ref t3, .ref t4, rfl, Al.ints (xs := [(d1 : Int), d2, d1, d2, d1, d2, S, d1, d2, S]) (same_upd h_t4 _ _ r_t3) upd_same (by show 10 ≤ 1000; decide), fun H' s' => q _⟩
end
end Wd

namespace Wd
open PySem PySem.Spec PyProof.Rows L2 XR Mth GL

theorem all_mk {l : PySem.W.OpenLaw} {w : World} {K : PySem.W.Frag} {h : Heap} {mg : Str → Option Value} {fa : Addr} (X : K.In h) (G : h.Ns mainGlobals mg) (hfa : mg "law" = some (.ref fa))
    {od1 an1 : Option Addr} {sl1 : Array (Option Value)} {oc1 kV1 dc1 pm1 cd1 ct1 : Value} {f1 : Addr}
    (a1 : PySem.W.nsIn K mainGlobals "_law_bag" = some (some (.ref f1))) (l1 : K.lookup f1 = some ⟨oc1, od1, .func (PySem.W.fnOf "_law_bag" "_law_bag" (defArgs sLawBag) (defBody sLawBag) (defScope sLawBag) .none kV1 dc1 pm1 an1 cd1 ct1), sl1⟩) (c1 : PySem.W.codeIn K cd1 "_law_bag" = true) (k1 : PySem.W.keepIn K (.ref f1) = true)
    {od2 an2 : Option Addr} {sl2 : Array (Option Value)} {oc2 kV2 dc2 pm2 cd2 ct2 : Value} {f2 : Addr}
    (a2 : PySem.W.nsIn K mainGlobals "_law_stirred" = some (some (.ref f2))) (l2 : K.lookup f2 = some ⟨oc2, od2, .func (PySem.W.fnOf "_law_stirred" "_law_stirred" (defArgs sLawStirred) (defBody sLawStirred) (defScope sLawStirred) .none kV2 dc2 pm2 an2 cd2 ct2), sl2⟩) (c2 : PySem.W.codeIn K cd2 "_law_stirred" = true) (k2 : PySem.W.keepIn K (.ref f2) = true)
    {od3 an3 : Option Addr} {sl3 : Array (Option Value)} {oc3 kV3 dc3 pm3 cd3 ct3 : Value} {f3 : Addr}
    (a3 : PySem.W.nsIn K mainGlobals "_law_draw" = some (some (.ref f3))) (l3 : K.lookup f3 = some ⟨oc3, od3, .func (PySem.W.fnOf "_law_draw" "_law_draw" (defArgs sLawDraw) (defBody sLawDraw) (defScope sLawDraw) .none kV3 dc3 pm3 an3 cd3 ct3), sl3⟩) (c3 : PySem.W.codeIn K cd3 "_law_draw" = true) (k3 : PySem.W.keepIn K (.ref f3) = true)
    {od4 an4 : Option Addr} {sl4 : Array (Option Value)} {oc4 kV4 dc4 pm4 cd4 ct4 : Value} {f4 : Addr}
    (a4 : PySem.W.nsIn K mainGlobals "_law_alike" = some (some (.ref f4))) (l4 : K.lookup f4 = some ⟨oc4, od4, .func (PySem.W.fnOf "_law_alike" "_law_alike" (defArgs sLawAlike) (defBody sLawAlike) (defScope sLawAlike) .none kV4 dc4 pm4 an4 cd4 ct4), sl4⟩) (c4 : PySem.W.codeIn K cd4 "_law_alike" = true) (k4 : PySem.W.keepIn K (.ref f4) = true)
    {od5 an5 : Option Addr} {sl5 : Array (Option Value)} {oc5 kV5 dc5 pm5 cd5 ct5 : Value} {f5 : Addr}
    (a5 : PySem.W.nsIn K mainGlobals "_law_of" = some (some (.ref f5))) (l5 : K.lookup f5 = some ⟨oc5, od5, .func (PySem.W.fnOf "_law_of" "_law_of" (defArgs sLawOf) (defBody sLawOf) (defScope sLawOf) .none kV5 dc5 pm5 an5 cd5 ct5), sl5⟩) (c5 : PySem.W.codeIn K cd5 "_law_of" = true) (k5 : PySem.W.keepIn K (.ref f5) = true)
    {od6 an6 : Option Addr} {sl6 : Array (Option Value)} {oc6 kV6 dc6 pm6 cd6 ct6 : Value} {f6 : Addr}
    (a6 : PySem.W.nsIn K mainGlobals "law" = some (some (.ref f6))) (l6 : K.lookup f6 = some ⟨oc6, od6, .func (PySem.W.fnOf "law" "law" (defArgs sLaw) (defBody sLaw) (defScope sLaw) .none kV6 dc6 pm6 an6 cd6 ct6), sl6⟩) (c6 : PySem.W.codeIn K cd6 "law" = true) (k6 : PySem.W.keepIn K (.ref f6) = true)
    (z1 : PySem.W.nsIn K mainGlobals "isinstance" = some none)
    (z2 : PySem.W.nsIn K mainGlobals "int" = some none)
    (z3 : PySem.W.nsIn K mainGlobals "bool" = some none)
    (z4 : PySem.W.nsIn K mainGlobals "list" = some none)
    (z5 : PySem.W.nsIn K mainGlobals "len" = some none)
    (z6 : PySem.W.nsIn K mainGlobals "all" = some none)
    (z7 : PySem.W.nsIn K mainGlobals "range" = some none)
    (z8 : PySem.W.nsIn K mainGlobals "abs" = some none)
    (z9 : PySem.W.nsIn K mainGlobals "tuple" = some none)
    (z10 : PySem.W.nsIn K mainGlobals "str" = some none)
    (z11 : PySem.W.nsIn K mainGlobals "ValueError" = some none)
    {C1 : Addr} (xa1 : PySem.W.nsIn K mainGlobals "InvalidWindow" = some (some (.ref C1))) (xb1 : PySem.W.excIn K C1 [.type "ValueError", .type "Exception", .type "BaseException", .type "object"] "ValueError.__new__" = true) (xc1 : PySem.W.keepIn K (.ref C1) = true) (xd1 : PySem.W.subIn K (.ref C1) (.type "BaseException") = some true) (xe1 : PySem.W.typeIn K (.ref C1) = some (.type "type")) (xh1 : PySem.W.isClsIn K C1 = true) (xi1 : PySem.W.subIn K (.ref C1) (.ref C1) = some true)
    {C2 : Addr} (xa2 : PySem.W.nsIn K mainGlobals "InvalidHop" = some (some (.ref C2))) (xb2 : PySem.W.excIn K C2 [.type "ValueError", .type "Exception", .type "BaseException", .type "object"] "ValueError.__new__" = true) (xc2 : PySem.W.keepIn K (.ref C2) = true) (xd2 : PySem.W.subIn K (.ref C2) (.type "BaseException") = some true) (xe2 : PySem.W.typeIn K (.ref C2) = some (.type "type")) (xh2 : PySem.W.isClsIn K C2 = true) (xi2 : PySem.W.subIn K (.ref C2) (.ref C2) = some true)
    {C3 : Addr} (xa3 : PySem.W.nsIn K mainGlobals "InvalidHops" = some (some (.ref C3))) (xb3 : PySem.W.excIn K C3 [.type "ValueError", .type "Exception", .type "BaseException", .type "object"] "ValueError.__new__" = true) (xc3 : PySem.W.keepIn K (.ref C3) = true) (xd3 : PySem.W.subIn K (.ref C3) (.type "BaseException") = some true) (xe3 : PySem.W.typeIn K (.ref C3) = some (.type "type")) (xh3 : PySem.W.isClsIn K C3 = true) (xi3 : PySem.W.subIn K (.ref C3) (.ref C3) = some true)
    {C4 : Addr} (xa4 : PySem.W.nsIn K mainGlobals "InvalidNumber" = some (some (.ref C4))) (xb4 : PySem.W.excIn K C4 [.type "ValueError", .type "Exception", .type "BaseException", .type "object"] "ValueError.__new__" = true) (xc4 : PySem.W.keepIn K (.ref C4) = true) (xd4 : PySem.W.subIn K (.ref C4) (.type "BaseException") = some true) (xe4 : PySem.W.typeIn K (.ref C4) = some (.type "type")) (xh4 : PySem.W.isClsIn K C4 = true) (xi4 : PySem.W.subIn K (.ref C4) (.ref C4) = some true)
    {C5 : Addr} (xa5 : PySem.W.nsIn K mainGlobals "InvalidList" = some (some (.ref C5))) (xb5 : PySem.W.excIn K C5 [.type "ValueError", .type "Exception", .type "BaseException", .type "object"] "ValueError.__new__" = true) (xc5 : PySem.W.keepIn K (.ref C5) = true) (xd5 : PySem.W.subIn K (.ref C5) (.type "BaseException") = some true) (xe5 : PySem.W.typeIn K (.ref C5) = some (.type "type")) (xh5 : PySem.W.isClsIn K C5 = true) (xi5 : PySem.W.subIn K (.ref C5) (.ref C5) = some true)
    {C6 : Addr} (xa6 : PySem.W.nsIn K mainGlobals "InvalidDeck" = some (some (.ref C6))) (xb6 : PySem.W.excIn K C6 [.type "ValueError", .type "Exception", .type "BaseException", .type "object"] "ValueError.__new__" = true) (xc6 : PySem.W.keepIn K (.ref C6) = true) (xd6 : PySem.W.subIn K (.ref C6) (.type "BaseException") = some true) (xe6 : PySem.W.typeIn K (.ref C6) = some (.type "type")) (xh6 : PySem.W.isClsIn K C6 = true) (xi6 : PySem.W.subIn K (.ref C6) (.ref C6) = some true)
    {C7 : Addr} (xa7 : PySem.W.nsIn K mainGlobals "InvalidStream" = some (some (.ref C7))) (xb7 : PySem.W.excIn K C7 [.type "ValueError", .type "Exception", .type "BaseException", .type "object"] "ValueError.__new__" = true) (xc7 : PySem.W.keepIn K (.ref C7) = true) (xd7 : PySem.W.subIn K (.ref C7) (.type "BaseException") = some true) (xe7 : PySem.W.typeIn K (.ref C7) = some (.type "type")) (xh7 : PySem.W.isClsIn K C7 = true) (xi7 : PySem.W.subIn K (.ref C7) (.ref C7) = some true)
    {C8 : Addr} (xa8 : PySem.W.nsIn K mainGlobals "InvalidIndex" = some (some (.ref C8))) (xb8 : PySem.W.excIn K C8 [.type "ValueError", .type "Exception", .type "BaseException", .type "object"] "ValueError.__new__" = true) (xc8 : PySem.W.keepIn K (.ref C8) = true) (xd8 : PySem.W.subIn K (.ref C8) (.type "BaseException") = some true) (xe8 : PySem.W.typeIn K (.ref C8) = some (.type "type")) (xh8 : PySem.W.isClsIn K C8 = true) (xi8 : PySem.W.subIn K (.ref C8) (.ref C8) = some true)
    {C9 : Addr} (xa9 : PySem.W.nsIn K mainGlobals "NothingToUndo" = some (some (.ref C9))) (xb9 : PySem.W.excIn K C9 [.type "ValueError", .type "Exception", .type "BaseException", .type "object"] "ValueError.__new__" = true) (xc9 : PySem.W.keepIn K (.ref C9) = true) (xd9 : PySem.W.subIn K (.ref C9) (.type "BaseException") = some true) (xe9 : PySem.W.typeIn K (.ref C9) = some (.type "type")) (xh9 : PySem.W.isClsIn K C9 = true) (xi9 : PySem.W.subIn K (.ref C9) (.ref C9) = some true)
    {C10 : Addr} (xa10 : PySem.W.nsIn K mainGlobals "SeamError" = some (some (.ref C10))) (xb10 : PySem.W.excIn K C10 [.type "ValueError", .type "Exception", .type "BaseException", .type "object"] "ValueError.__new__" = true) (xc10 : PySem.W.keepIn K (.ref C10) = true) (xd10 : PySem.W.subIn K (.ref C10) (.type "BaseException") = some true) (xe10 : PySem.W.typeIn K (.ref C10) = some (.type "type")) (xh10 : PySem.W.isClsIn K C10 = true) (xi10 : PySem.W.subIn K (.ref C10) (.ref C10) = some true)
    {X1 : Addr} (uax1 : PySem.W.nsIn K mainGlobals "NotEven" = some (some (.ref X1)))
    {nm1 qn1 : Str} {Nn1 : Addr} {bs1 bm1 : List Value} {sn1 : List Str} {sub1 : List Value} {ab1 : Bool} {col1 : Option Bool} {ddx1 : Option Addr} {e01 e11 e21 e31 e51 : Option Value} (ubx1 : K.lookup X1 = some (excClassObj nm1 qn1 X1 Nn1 bs1 bm1 true sn1 sub1 ab1 col1 ddx1 e01 e11 e21 e31 e51 "ValueError.__new__")) (ucx1 : PySem.HandSPX.refsVE bm1 = true)
    (udx1 : PySem.W.findIn K (.ref X1) "__setattr__" = some (some (.builtin "object.__setattr__"))) (uex1 : PySem.W.subIn K (.ref X1) (.type "BaseException") = some true) (ufx1 : PySem.W.typeIn K (.ref X1) = some (.type "type")) (ugx1 : PySem.W.keepIn K (.ref X1) = true)
    {fX1 cda1 cc1 : Addr} {kVx1 dcx1 pmx1 ctx1 ocx1 ccl1 clx1 : Value} {anx1 odx1 cdd1 cld1 : Option Addr} {osl1 ccs1 csl1 : Array (Option Value)} {cv1 : Array Value} {file1 : Str} {tf1 : Tok} {cdD1 : ClassData}
    (uhx1 : PySem.W.findIn K (.ref X1) "__init__" = some (some (.ref fX1))) (uix1 : PySem.W.typeIn K (.ref fX1) = some (.type "function")) (ujx1 : K.lookup fX1 = some ⟨ocx1, odx1, .func (PySem.W.ksFn "__init__" "NotEven.__init__" (defArgs sNotevenInit) (defBody sNotevenInit) (defScope sNotevenInit) .none kVx1 dcx1 pmx1 anx1 (.ref cda1) ctx1 cc1), osl1⟩) (ukx1 : PySem.W.codeIn K (.ref cda1) "NotEven.__init__" = true)
    (ulx1 : K.lookup cda1 = some ⟨ccl1, cdd1, .fields cv1, ccs1⟩) (umx1 : cv1[2]? = some (.str file1 tf1)) (unx1 : ((l.prog.main.file : Str) == file1) = true) (uox1 : (l.prog.main.scope.names.lookup ("super" : Str)).isSome = false) (upx1 : K.lookup cc1 = some ⟨clx1, cld1, .cell (some (.ref X1)), csl1⟩) (uqx1 : PySem.W.clsIn K X1 = some cdD1)
    (urx1 : PySem.W.nsIn K mainGlobals "super" = some none) (usx1 : PySem.W.mroIn K X1 (.ref X1) = some true) (utx1 : PySem.W.ks_superIn K X1 X1 "__init__" = some (some (.builtin "ValueError.__init__"))) (uux1 : PySem.W.subIn K (.ref X1) (.type "ValueError") = some true) (uvx1 : PySem.W.nsIn K cStatics "thirdparty.any" = some none)
    (ugax1 : PySem.W.findIn K (.ref X1) "__getattribute__" = some (some (.builtin "BaseException.__getattribute__"))) (uggx1 : PySem.W.findIn K (.ref X1) "__getattr__" = some none) (uhdx1 : PySem.W.hasDictIn K X1 = true) (uxhx1 : PySem.W.isClsIn K X1 = true) (uxix1 : PySem.W.subIn K (.ref X1) (.ref X1) = some true)
    (uw1_0 : PySem.W.findIn K (.ref X1) "rest" = some none)
    (uw1_1 : PySem.W.findIn K (.ref X1) "other" = some none)
    {X2 : Addr} (uax2 : PySem.W.nsIn K mainGlobals "NoPartner" = some (some (.ref X2)))
    {nm2 qn2 : Str} {Nn2 : Addr} {bs2 bm2 : List Value} {sn2 : List Str} {sub2 : List Value} {ab2 : Bool} {col2 : Option Bool} {ddx2 : Option Addr} {e02 e12 e22 e32 e52 : Option Value} (ubx2 : K.lookup X2 = some (excClassObj nm2 qn2 X2 Nn2 bs2 bm2 true sn2 sub2 ab2 col2 ddx2 e02 e12 e22 e32 e52 "ValueError.__new__")) (ucx2 : PySem.HandSPX.refsVE bm2 = true)
    (udx2 : PySem.W.findIn K (.ref X2) "__setattr__" = some (some (.builtin "object.__setattr__"))) (uex2 : PySem.W.subIn K (.ref X2) (.type "BaseException") = some true) (ufx2 : PySem.W.typeIn K (.ref X2) = some (.type "type")) (ugx2 : PySem.W.keepIn K (.ref X2) = true)
    {fX2 cda2 cc2 : Addr} {kVx2 dcx2 pmx2 ctx2 ocx2 ccl2 clx2 : Value} {anx2 odx2 cdd2 cld2 : Option Addr} {osl2 ccs2 csl2 : Array (Option Value)} {cv2 : Array Value} {file2 : Str} {tf2 : Tok} {cdD2 : ClassData}
    (uhx2 : PySem.W.findIn K (.ref X2) "__init__" = some (some (.ref fX2))) (uix2 : PySem.W.typeIn K (.ref fX2) = some (.type "function")) (ujx2 : K.lookup fX2 = some ⟨ocx2, odx2, .func (PySem.W.ksFn "__init__" "NoPartner.__init__" (defArgs sNopartnerInit) (defBody sNopartnerInit) (defScope sNopartnerInit) .none kVx2 dcx2 pmx2 anx2 (.ref cda2) ctx2 cc2), osl2⟩) (ukx2 : PySem.W.codeIn K (.ref cda2) "NoPartner.__init__" = true)
    (ulx2 : K.lookup cda2 = some ⟨ccl2, cdd2, .fields cv2, ccs2⟩) (umx2 : cv2[2]? = some (.str file2 tf2)) (unx2 : ((l.prog.main.file : Str) == file2) = true) (uox2 : (l.prog.main.scope.names.lookup ("super" : Str)).isSome = false) (upx2 : K.lookup cc2 = some ⟨clx2, cld2, .cell (some (.ref X2)), csl2⟩) (uqx2 : PySem.W.clsIn K X2 = some cdD2)
    (urx2 : PySem.W.nsIn K mainGlobals "super" = some none) (usx2 : PySem.W.mroIn K X2 (.ref X2) = some true) (utx2 : PySem.W.ks_superIn K X2 X2 "__init__" = some (some (.builtin "ValueError.__init__"))) (uux2 : PySem.W.subIn K (.ref X2) (.type "ValueError") = some true) (uvx2 : PySem.W.nsIn K cStatics "thirdparty.any" = some none)
    (ugax2 : PySem.W.findIn K (.ref X2) "__getattribute__" = some (some (.builtin "BaseException.__getattribute__"))) (uggx2 : PySem.W.findIn K (.ref X2) "__getattr__" = some none) (uhdx2 : PySem.W.hasDictIn K X2 = true) (uxhx2 : PySem.W.isClsIn K X2 = true) (uxix2 : PySem.W.subIn K (.ref X2) (.ref X2) = some true)
    (uw2_0 : PySem.W.findIn K (.ref X2) "rest" = some none)
    {X3 : Addr} (uax3 : PySem.W.nsIn K mainGlobals "NoList" = some (some (.ref X3)))
    {nm3 qn3 : Str} {Nn3 : Addr} {bs3 bm3 : List Value} {sn3 : List Str} {sub3 : List Value} {ab3 : Bool} {col3 : Option Bool} {ddx3 : Option Addr} {e03 e13 e23 e33 e53 : Option Value} (ubx3 : K.lookup X3 = some (excClassObj nm3 qn3 X3 Nn3 bs3 bm3 true sn3 sub3 ab3 col3 ddx3 e03 e13 e23 e33 e53 "ValueError.__new__")) (ucx3 : PySem.HandSPX.refsVE bm3 = true)
    (udx3 : PySem.W.findIn K (.ref X3) "__setattr__" = some (some (.builtin "object.__setattr__"))) (uex3 : PySem.W.subIn K (.ref X3) (.type "BaseException") = some true) (ufx3 : PySem.W.typeIn K (.ref X3) = some (.type "type")) (ugx3 : PySem.W.keepIn K (.ref X3) = true)
    {fX3 cda3 cc3 : Addr} {kVx3 dcx3 pmx3 ctx3 ocx3 ccl3 clx3 : Value} {anx3 odx3 cdd3 cld3 : Option Addr} {osl3 ccs3 csl3 : Array (Option Value)} {cv3 : Array Value} {file3 : Str} {tf3 : Tok} {cdD3 : ClassData}
    (uhx3 : PySem.W.findIn K (.ref X3) "__init__" = some (some (.ref fX3))) (uix3 : PySem.W.typeIn K (.ref fX3) = some (.type "function")) (ujx3 : K.lookup fX3 = some ⟨ocx3, odx3, .func (PySem.W.ksFn "__init__" "NoList.__init__" (defArgs sNolistInit) (defBody sNolistInit) (defScope sNolistInit) .none kVx3 dcx3 pmx3 anx3 (.ref cda3) ctx3 cc3), osl3⟩) (ukx3 : PySem.W.codeIn K (.ref cda3) "NoList.__init__" = true)
    (ulx3 : K.lookup cda3 = some ⟨ccl3, cdd3, .fields cv3, ccs3⟩) (umx3 : cv3[2]? = some (.str file3 tf3)) (unx3 : ((l.prog.main.file : Str) == file3) = true) (uox3 : (l.prog.main.scope.names.lookup ("super" : Str)).isSome = false) (upx3 : K.lookup cc3 = some ⟨clx3, cld3, .cell (some (.ref X3)), csl3⟩) (uqx3 : PySem.W.clsIn K X3 = some cdD3)
    (urx3 : PySem.W.nsIn K mainGlobals "super" = some none) (usx3 : PySem.W.mroIn K X3 (.ref X3) = some true) (utx3 : PySem.W.ks_superIn K X3 X3 "__init__" = some (some (.builtin "ValueError.__init__"))) (uux3 : PySem.W.subIn K (.ref X3) (.type "ValueError") = some true) (uvx3 : PySem.W.nsIn K cStatics "thirdparty.any" = some none)
    (ugax3 : PySem.W.findIn K (.ref X3) "__getattribute__" = some (some (.builtin "BaseException.__getattribute__"))) (uggx3 : PySem.W.findIn K (.ref X3) "__getattr__" = some none) (uhdx3 : PySem.W.hasDictIn K X3 = true) (uxhx3 : PySem.W.isClsIn K X3 = true) (uxix3 : PySem.W.subIn K (.ref X3) (.ref X3) = some true)
    (uw3_0 : PySem.W.findIn K (.ref X3) "point" = some none)
    {X4 : Addr} (uax4 : PySem.W.nsIn K mainGlobals "InvalidText" = some (some (.ref X4)))
    {nm4 qn4 : Str} {Nn4 : Addr} {bs4 bm4 : List Value} {sn4 : List Str} {sub4 : List Value} {ab4 : Bool} {col4 : Option Bool} {ddx4 : Option Addr} {e04 e14 e24 e34 e54 : Option Value} (ubx4 : K.lookup X4 = some (excClassObj nm4 qn4 X4 Nn4 bs4 bm4 true sn4 sub4 ab4 col4 ddx4 e04 e14 e24 e34 e54 "ValueError.__new__")) (ucx4 : PySem.HandSPX.refsVE bm4 = true)
    (udx4 : PySem.W.findIn K (.ref X4) "__setattr__" = some (some (.builtin "object.__setattr__"))) (uex4 : PySem.W.subIn K (.ref X4) (.type "BaseException") = some true) (ufx4 : PySem.W.typeIn K (.ref X4) = some (.type "type")) (ugx4 : PySem.W.keepIn K (.ref X4) = true)
    {fX4 cda4 cc4 : Addr} {kVx4 dcx4 pmx4 ctx4 ocx4 ccl4 clx4 : Value} {anx4 odx4 cdd4 cld4 : Option Addr} {osl4 ccs4 csl4 : Array (Option Value)} {cv4 : Array Value} {file4 : Str} {tf4 : Tok} {cdD4 : ClassData}
    (uhx4 : PySem.W.findIn K (.ref X4) "__init__" = some (some (.ref fX4))) (uix4 : PySem.W.typeIn K (.ref fX4) = some (.type "function")) (ujx4 : K.lookup fX4 = some ⟨ocx4, odx4, .func (PySem.W.ksFn "__init__" "InvalidText.__init__" (defArgs sInvalidtextInit) (defBody sInvalidtextInit) (defScope sInvalidtextInit) .none kVx4 dcx4 pmx4 anx4 (.ref cda4) ctx4 cc4), osl4⟩) (ukx4 : PySem.W.codeIn K (.ref cda4) "InvalidText.__init__" = true)
    (ulx4 : K.lookup cda4 = some ⟨ccl4, cdd4, .fields cv4, ccs4⟩) (umx4 : cv4[2]? = some (.str file4 tf4)) (unx4 : ((l.prog.main.file : Str) == file4) = true) (uox4 : (l.prog.main.scope.names.lookup ("super" : Str)).isSome = false) (upx4 : K.lookup cc4 = some ⟨clx4, cld4, .cell (some (.ref X4)), csl4⟩) (uqx4 : PySem.W.clsIn K X4 = some cdD4)
    (urx4 : PySem.W.nsIn K mainGlobals "super" = some none) (usx4 : PySem.W.mroIn K X4 (.ref X4) = some true) (utx4 : PySem.W.ks_superIn K X4 X4 "__init__" = some (some (.builtin "ValueError.__init__"))) (uux4 : PySem.W.subIn K (.ref X4) (.type "ValueError") = some true) (uvx4 : PySem.W.nsIn K cStatics "thirdparty.any" = some none)
    (ugax4 : PySem.W.findIn K (.ref X4) "__getattribute__" = some (some (.builtin "BaseException.__getattribute__"))) (uggx4 : PySem.W.findIn K (.ref X4) "__getattr__" = some none) (uhdx4 : PySem.W.hasDictIn K X4 = true) (uxhx4 : PySem.W.isClsIn K X4 = true) (uxix4 : PySem.W.subIn K (.ref X4) (.ref X4) = some true)
    (uw4_0 : PySem.W.findIn K (.ref X4) "place" = some none)
    (vaC1 : PySem.W.findIn K (.ref C1) "__getattribute__" = some (some (.builtin "BaseException.__getattribute__")))
    (vbC1 : PySem.W.findIn K (.ref C1) "__getattr__" = some none)
    (vcC1 : PySem.W.findIn K (.ref C1) "__class__" = some (some (.builtin "object.__class__")))
    (vdC1 : PySem.W.mroIn K C1 (.type "object") = some true)
    (vaC2 : PySem.W.findIn K (.ref C2) "__getattribute__" = some (some (.builtin "BaseException.__getattribute__")))
    (vbC2 : PySem.W.findIn K (.ref C2) "__getattr__" = some none)
    (vcC2 : PySem.W.findIn K (.ref C2) "__class__" = some (some (.builtin "object.__class__")))
    (vdC2 : PySem.W.mroIn K C2 (.type "object") = some true)
    (vaC3 : PySem.W.findIn K (.ref C3) "__getattribute__" = some (some (.builtin "BaseException.__getattribute__")))
    (vbC3 : PySem.W.findIn K (.ref C3) "__getattr__" = some none)
    (vcC3 : PySem.W.findIn K (.ref C3) "__class__" = some (some (.builtin "object.__class__")))
    (vdC3 : PySem.W.mroIn K C3 (.type "object") = some true)
    (vaC4 : PySem.W.findIn K (.ref C4) "__getattribute__" = some (some (.builtin "BaseException.__getattribute__")))
    (vbC4 : PySem.W.findIn K (.ref C4) "__getattr__" = some none)
    (vcC4 : PySem.W.findIn K (.ref C4) "__class__" = some (some (.builtin "object.__class__")))
    (vdC4 : PySem.W.mroIn K C4 (.type "object") = some true)
    (vaC5 : PySem.W.findIn K (.ref C5) "__getattribute__" = some (some (.builtin "BaseException.__getattribute__")))
    (vbC5 : PySem.W.findIn K (.ref C5) "__getattr__" = some none)
    (vcC5 : PySem.W.findIn K (.ref C5) "__class__" = some (some (.builtin "object.__class__")))
    (vdC5 : PySem.W.mroIn K C5 (.type "object") = some true)
    (vaC6 : PySem.W.findIn K (.ref C6) "__getattribute__" = some (some (.builtin "BaseException.__getattribute__")))
    (vbC6 : PySem.W.findIn K (.ref C6) "__getattr__" = some none)
    (vcC6 : PySem.W.findIn K (.ref C6) "__class__" = some (some (.builtin "object.__class__")))
    (vdC6 : PySem.W.mroIn K C6 (.type "object") = some true)
    (vaC7 : PySem.W.findIn K (.ref C7) "__getattribute__" = some (some (.builtin "BaseException.__getattribute__")))
    (vbC7 : PySem.W.findIn K (.ref C7) "__getattr__" = some none)
    (vcC7 : PySem.W.findIn K (.ref C7) "__class__" = some (some (.builtin "object.__class__")))
    (vdC7 : PySem.W.mroIn K C7 (.type "object") = some true)
    (vaC8 : PySem.W.findIn K (.ref C8) "__getattribute__" = some (some (.builtin "BaseException.__getattribute__")))
    (vbC8 : PySem.W.findIn K (.ref C8) "__getattr__" = some none)
    (vcC8 : PySem.W.findIn K (.ref C8) "__class__" = some (some (.builtin "object.__class__")))
    (vdC8 : PySem.W.mroIn K C8 (.type "object") = some true)
    (vaC9 : PySem.W.findIn K (.ref C9) "__getattribute__" = some (some (.builtin "BaseException.__getattribute__")))
    (vbC9 : PySem.W.findIn K (.ref C9) "__getattr__" = some none)
    (vcC9 : PySem.W.findIn K (.ref C9) "__class__" = some (some (.builtin "object.__class__")))
    (vdC9 : PySem.W.mroIn K C9 (.type "object") = some true)
    (vcX1 : PySem.W.findIn K (.ref X1) "__class__" = some (some (.builtin "object.__class__")))
    (vdX1 : PySem.W.mroIn K X1 (.type "object") = some true)
    (vcX2 : PySem.W.findIn K (.ref X2) "__class__" = some (some (.builtin "object.__class__")))
    (vdX2 : PySem.W.mroIn K X2 (.type "object") = some true)
    (vcX3 : PySem.W.findIn K (.ref X3) "__class__" = some (some (.builtin "object.__class__")))
    (vdX3 : PySem.W.mroIn K X3 (.type "object") = some true)
    (vcX4 : PySem.W.findIn K (.ref X4) "__class__" = some (some (.builtin "object.__class__")))
    (vdX4 : PySem.W.mroIn K X4 (.type "object") = some true)
    (vaC10 : PySem.W.findIn K (.ref C10) "__getattribute__" = some (some (.builtin "BaseException.__getattribute__")))
    (vbC10 : PySem.W.findIn K (.ref C10) "__getattr__" = some none)
    (vcC10 : PySem.W.findIn K (.ref C10) "__class__" = some (some (.builtin "object.__class__")))
    (vdC10 : PySem.W.mroIn K C10 (.type "object") = some true)
    (vg1 : PySem.W.specialIn K (.builtin "object.__class__") "__get__" = some (some (.builtin "getset_descriptor.__get__")))
    (vg2 : PySem.W.takesIn K (.builtin "object.__class__") = some true)
    (kr0 : kitRow K C1 [.ref C1, .ref C2, .ref C3, .ref C4, .ref C5, .ref C6, .ref C7, .ref C8, .ref C9, .ref X1, .ref X2, .ref X3, .ref X4, .ref C10, .type "ValueError"] [true, false, false, false, false, false, false, false, false, false, false, false, false, true, true] = true)
    (kr1 : kitRow K C2 [.ref C1, .ref C2, .ref C3, .ref C4, .ref C5, .ref C6, .ref C7, .ref C8, .ref C9, .ref X1, .ref X2, .ref X3, .ref X4, .ref C10, .type "ValueError"] [false, true, false, false, false, false, false, false, false, false, false, false, false, true, true] = true)
    (kr2 : kitRow K C3 [.ref C1, .ref C2, .ref C3, .ref C4, .ref C5, .ref C6, .ref C7, .ref C8, .ref C9, .ref X1, .ref X2, .ref X3, .ref X4, .ref C10, .type "ValueError"] [false, false, true, false, false, false, false, false, false, false, false, false, false, true, true] = true)
    (kr3 : kitRow K C4 [.ref C1, .ref C2, .ref C3, .ref C4, .ref C5, .ref C6, .ref C7, .ref C8, .ref C9, .ref X1, .ref X2, .ref X3, .ref X4, .ref C10, .type "ValueError"] [false, false, false, true, false, false, false, false, false, false, false, false, false, true, true] = true)
    (kr4 : kitRow K C5 [.ref C1, .ref C2, .ref C3, .ref C4, .ref C5, .ref C6, .ref C7, .ref C8, .ref C9, .ref X1, .ref X2, .ref X3, .ref X4, .ref C10, .type "ValueError"] [false, false, false, false, true, false, false, false, false, false, false, false, false, true, true] = true)
    (kr5 : kitRow K C6 [.ref C1, .ref C2, .ref C3, .ref C4, .ref C5, .ref C6, .ref C7, .ref C8, .ref C9, .ref X1, .ref X2, .ref X3, .ref X4, .ref C10, .type "ValueError"] [false, false, false, false, false, true, false, false, false, false, false, false, false, true, true] = true)
    (kr6 : kitRow K C7 [.ref C1, .ref C2, .ref C3, .ref C4, .ref C5, .ref C6, .ref C7, .ref C8, .ref C9, .ref X1, .ref X2, .ref X3, .ref X4, .ref C10, .type "ValueError"] [false, false, false, false, false, false, true, false, false, false, false, false, false, true, true] = true)
    (kr7 : kitRow K C8 [.ref C1, .ref C2, .ref C3, .ref C4, .ref C5, .ref C6, .ref C7, .ref C8, .ref C9, .ref X1, .ref X2, .ref X3, .ref X4, .ref C10, .type "ValueError"] [false, false, false, false, false, false, false, true, false, false, false, false, false, true, true] = true)
    (kr8 : kitRow K C9 [.ref C1, .ref C2, .ref C3, .ref C4, .ref C5, .ref C6, .ref C7, .ref C8, .ref C9, .ref X1, .ref X2, .ref X3, .ref X4, .ref C10, .type "ValueError"] [false, false, false, false, false, false, false, false, true, false, false, false, false, true, true] = true)
    (kr9 : kitRow K X1 [.ref C1, .ref C2, .ref C3, .ref C4, .ref C5, .ref C6, .ref C7, .ref C8, .ref C9, .ref X1, .ref X2, .ref X3, .ref X4, .ref C10, .type "ValueError"] [false, false, false, false, false, false, false, false, false, true, false, false, false, true, true] = true)
    (kr10 : kitRow K X2 [.ref C1, .ref C2, .ref C3, .ref C4, .ref C5, .ref C6, .ref C7, .ref C8, .ref C9, .ref X1, .ref X2, .ref X3, .ref X4, .ref C10, .type "ValueError"] [false, false, false, false, false, false, false, false, false, false, true, false, false, true, true] = true)
    (kr11 : kitRow K X3 [.ref C1, .ref C2, .ref C3, .ref C4, .ref C5, .ref C6, .ref C7, .ref C8, .ref C9, .ref X1, .ref X2, .ref X3, .ref X4, .ref C10, .type "ValueError"] [false, false, false, false, false, false, false, false, false, false, false, true, false, true, true] = true)
    (kr12 : kitRow K X4 [.ref C1, .ref C2, .ref C3, .ref C4, .ref C5, .ref C6, .ref C7, .ref C8, .ref C9, .ref X1, .ref X2, .ref X3, .ref X4, .ref C10, .type "ValueError"] [false, false, false, false, false, false, false, false, false, false, false, false, true, true, true] = true)
    (kr13 : kitRow K C10 [.ref C1, .ref C2, .ref C3, .ref C4, .ref C5, .ref C6, .ref C7, .ref C8, .ref C9, .ref X1, .ref X2, .ref X3, .ref X4, .ref C10, .type "ValueError"] [false, false, false, false, false, false, false, false, false, false, false, false, false, true, true] = true) :
    ∃ fd : FuncData, (∀ (s : Shared) (v : Value), BindsTo s fd ⟨[v], []⟩ [("script", v)]) ∧ ∀ base : Heap, K.In base → base.Ns mainGlobals mg → FnOk l.prog w K mg base CX0 3 fa fd ["script"] (spLaw K) := by
  have e := hfa.symm.trans (PySem.W.mg_of X G a6)
  cases e
  have T : Txt K mg := ⟨PySem.W.mg_none_of X G z1, PySem.W.mg_none_of X G z2, PySem.W.mg_none_of X G z3, PySem.W.mg_none_of X G z4, PySem.W.mg_none_of X G z5, PySem.W.mg_none_of X G z6, PySem.W.mg_none_of X G z7, PySem.W.mg_none_of X G z8, PySem.W.mg_none_of X G z9, PySem.W.mg_none_of X G z10, PySem.W.mg_none_of X G z11⟩
  have TE1 : Own K mg "InvalidWindow" C1 := ⟨PySem.W.mg_of X G xa1, xb1, xc1, xd1, xe1⟩
  have xg1 := exm_sub xd1 xh1 xe1 xi1
  have TE2 : Own K mg "InvalidHop" C2 := ⟨PySem.W.mg_of X G xa2, xb2, xc2, xd2, xe2⟩
  have xg2 := exm_sub xd2 xh2 xe2 xi2
  have TE3 : Own K mg "InvalidHops" C3 := ⟨PySem.W.mg_of X G xa3, xb3, xc3, xd3, xe3⟩
  have xg3 := exm_sub xd3 xh3 xe3 xi3
  have TE4 : Own K mg "InvalidNumber" C4 := ⟨PySem.W.mg_of X G xa4, xb4, xc4, xd4, xe4⟩
  have xg4 := exm_sub xd4 xh4 xe4 xi4
  have TE5 : Own K mg "InvalidList" C5 := ⟨PySem.W.mg_of X G xa5, xb5, xc5, xd5, xe5⟩
  have xg5 := exm_sub xd5 xh5 xe5 xi5
  have TE6 : Own K mg "InvalidDeck" C6 := ⟨PySem.W.mg_of X G xa6, xb6, xc6, xd6, xe6⟩
  have xg6 := exm_sub xd6 xh6 xe6 xi6
  have TE7 : Own K mg "InvalidStream" C7 := ⟨PySem.W.mg_of X G xa7, xb7, xc7, xd7, xe7⟩
  have xg7 := exm_sub xd7 xh7 xe7 xi7
  have TE8 : Own K mg "InvalidIndex" C8 := ⟨PySem.W.mg_of X G xa8, xb8, xc8, xd8, xe8⟩
  have xg8 := exm_sub xd8 xh8 xe8 xi8
  have TE9 : Own K mg "NothingToUndo" C9 := ⟨PySem.W.mg_of X G xa9, xb9, xc9, xd9, xe9⟩
  have xg9 := exm_sub xd9 xh9 xe9 xi9
  have TE10 : Own K mg "SeamError" C10 := ⟨PySem.W.mg_of X G xa10, xb10, xc10, xd10, xe10⟩
  have xg10 := exm_sub xd10 xh10 xe10 xi10
  have F1 := fun_mk (st := sLawBag) l1 c1 k1
  have b1 := F1.binds (ps := ["script"]) fun _ _ _ _ _ _ us hl => match us, hl with | [_], _ => rfl
  have g1 := PySem.W.mg_of X G a1
  have F2 := fun_mk (st := sLawStirred) l2 c2 k2
  have b2 := F2.binds (ps := ["bag", "wide"]) fun _ _ _ _ _ _ us hl => match us, hl with | [_, _], _ => rfl
  have g2 := PySem.W.mg_of X G a2
  have F3 := fun_mk (st := sLawDraw) l3 c3 k3
  have b3 := F3.binds (ps := ["bag", "wide"]) fun _ _ _ _ _ _ us hl => match us, hl with | [_, _], _ => rfl
  have g3 := PySem.W.mg_of X G a3
  have F4 := fun_mk (st := sLawAlike) l4 c4 k4
  have b4 := F4.binds (ps := ["found", "due"]) fun _ _ _ _ _ _ us hl => match us, hl with | [_, _], _ => rfl
  have g4 := PySem.W.mg_of X G a4
  have F5 := fun_mk (st := sLawOf) l5 c5 k5
  have b5 := F5.binds (ps := ["made"]) fun _ _ _ _ _ _ us hl => match us, hl with | [_], _ => rfl
  have g5 := PySem.W.mg_of X G a5
  have F6 := fun_mk (st := sLaw) l6 c6 k6
  have g6 := PySem.W.mg_of X G a6
  refine ⟨PySem.W.fnOf "law" "law" (defArgs sLaw) (defBody sLaw) (defScope sLaw) .none kV6 dc6 pm6 an6 cd6 ct6, fun s v => .of_eq rfl, fun base _ _ => ?_⟩
  have TO1 : OexC K X1 := ⟨⟨_, _, _, _, _, _, _, _, _, _, _, _, _, _, _, ubx1, ucx1⟩, udx1, uex1, ufx1, ugx1⟩
  have GX1 := ok_notEven (P := l.prog) (w := w) (base := base) (mg := mg) (k := 0) ujx1 ukx1 ulx1 umx1 unx1 uox1 upx1 uqx1 (PySem.W.mg_none_of X G urx1) TO1 usx1 utx1 uux1 uvx1 uw1_0 uw1_1
  have bX1 : Binds K (PySem.W.ksFn "__init__" "NotEven.__init__" (defArgs sNotevenInit) (defBody sNotevenInit) (defScope sNotevenInit) .none kVx1 dcx1 pmx1 anx1 (.ref cda1) ctx1 cc1) ["self", "rest", "other"] [] := Binds.all fun us hl => match us, hl with | [_, _, _], _ => rfl
  have TN1 : NEx K mg "NotEven" X1 fX1 := ⟨PySem.W.mg_of X G uax1, TO1, uhx1, uix1, uw1_0, uw1_1⟩
  have XF1 : XfC K X1 := ⟨ugax1, uggx1, uex1, uhdx1⟩
  have eN1 := exm_sub uex1 uxhx1 ufx1 uxix1
  have TO2 : OexC K X2 := ⟨⟨_, _, _, _, _, _, _, _, _, _, _, _, _, _, _, ubx2, ucx2⟩, udx2, uex2, ufx2, ugx2⟩
  have GX2 := ok_NoPartner (P := l.prog) (w := w) (base := base) (mg := mg) (k := 0) ujx2 ukx2 ulx2 umx2 unx2 uox2 upx2 uqx2 (PySem.W.mg_none_of X G urx2) TO2 usx2 utx2 uux2 uvx2 uw2_0
  have bX2 : Binds K (PySem.W.ksFn "__init__" "NoPartner.__init__" (defArgs sNopartnerInit) (defBody sNopartnerInit) (defScope sNopartnerInit) .none kVx2 dcx2 pmx2 anx2 (.ref cda2) ctx2 cc2) ["self", "rest"] [] := Binds.all fun us hl => match us, hl with | [_, _], _ => rfl
  have TN2 : NoPartnerC K mg "NoPartner" X2 fX2 := ⟨PySem.W.mg_of X G uax2, TO2, uhx2, uix2, uw2_0⟩
  have XF2 : XfC K X2 := ⟨ugax2, uggx2, uex2, uhdx2⟩
  have eN2 := exm_sub uex2 uxhx2 ufx2 uxix2
  have TO3 : OexC K X3 := ⟨⟨_, _, _, _, _, _, _, _, _, _, _, _, _, _, _, ubx3, ucx3⟩, udx3, uex3, ufx3, ugx3⟩
  have GX3 := ok_NoList (P := l.prog) (w := w) (base := base) (mg := mg) (k := 0) ujx3 ukx3 ulx3 umx3 unx3 uox3 upx3 uqx3 (PySem.W.mg_none_of X G urx3) TO3 usx3 utx3 uux3 uvx3 uw3_0
  have bX3 : Binds K (PySem.W.ksFn "__init__" "NoList.__init__" (defArgs sNolistInit) (defBody sNolistInit) (defScope sNolistInit) .none kVx3 dcx3 pmx3 anx3 (.ref cda3) ctx3 cc3) ["self", "point"] [] := Binds.all fun us hl => match us, hl with | [_, _], _ => rfl
  have TN3 : NoListC K mg "NoList" X3 fX3 := ⟨PySem.W.mg_of X G uax3, TO3, uhx3, uix3, uw3_0⟩
  have XF3 : XfC K X3 := ⟨ugax3, uggx3, uex3, uhdx3⟩
  have eN3 := exm_sub uex3 uxhx3 ufx3 uxix3
  have TO4 : OexC K X4 := ⟨⟨_, _, _, _, _, _, _, _, _, _, _, _, _, _, _, ubx4, ucx4⟩, udx4, uex4, ufx4, ugx4⟩
  have GX4 := ok_InvalidText (P := l.prog) (w := w) (base := base) (mg := mg) (k := 0) ujx4 ukx4 ulx4 umx4 unx4 uox4 upx4 uqx4 (PySem.W.mg_none_of X G urx4) TO4 usx4 utx4 uux4 uvx4 uw4_0
  have bX4 : Binds K (PySem.W.ksFn "__init__" "InvalidText.__init__" (defArgs sInvalidtextInit) (defBody sInvalidtextInit) (defScope sInvalidtextInit) .none kVx4 dcx4 pmx4 anx4 (.ref cda4) ctx4 cc4) ["self", "place"] [] := Binds.all fun us hl => match us, hl with | [_, _], _ => rfl
  have TN4 : InvalidTextC K mg "InvalidText" X4 fX4 := ⟨PySem.W.mg_of X G uax4, TO4, uhx4, uix4, uw4_0⟩
  have XF4 : XfC K X4 := ⟨ugax4, uggx4, uex4, uhdx4⟩
  have eN4 := exm_sub uex4 uxhx4 ufx4 uxix4
  have CT : Cl13 mg (cF [C1, C2, C3, C4, C5, C6, C7, C8, C9, X1, X2, X3, X4, C10]) := ⟨PySem.W.mg_of X G xa1, PySem.W.mg_of X G xa2, PySem.W.mg_of X G xa3, PySem.W.mg_of X G xa4, PySem.W.mg_of X G xa5, PySem.W.mg_of X G xa6, PySem.W.mg_of X G xa7, PySem.W.mg_of X G xa8, PySem.W.mg_of X G xa9, PySem.W.mg_of X G uax1, PySem.W.mg_of X G uax2, PySem.W.mg_of X G uax3, PySem.W.mg_of X G uax4, PySem.W.mg_of X G xa10⟩
  have KG : KxG K := ⟨vg1, vg2⟩
  have OW : Own10 K mg (cF [C1, C2, C3, C4, C5, C6, C7, C8, C9, X1, X2, X3, X4, C10]) := ⟨TE1, TE2, TE3, TE4, TE5, TE6, TE7, TE8, TE9, TE10⟩
  have KX : ∀ j, j < 14 → KxC K (cF [C1, C2, C3, C4, C5, C6, C7, C8, C9, X1, X2, X3, X4, C10] j) := fun j hj => by
    rcases (by omega : j = 0 ∨ j = 1 ∨ j = 2 ∨ j = 3 ∨ j = 4 ∨ j = 5 ∨ j = 6 ∨ j = 7 ∨ j = 8 ∨ j = 9 ∨ j = 10 ∨ j = 11 ∨ j = 12 ∨ j = 13) with z | z | z | z | z | z | z | z | z | z | z | z | z | z <;> subst z
    · exact ⟨xh1, vaC1, vbC1, xd1, vcC1, vdC1⟩
    · exact ⟨xh2, vaC2, vbC2, xd2, vcC2, vdC2⟩
    · exact ⟨xh3, vaC3, vbC3, xd3, vcC3, vdC3⟩
    · exact ⟨xh4, vaC4, vbC4, xd4, vcC4, vdC4⟩
    · exact ⟨xh5, vaC5, vbC5, xd5, vcC5, vdC5⟩
    · exact ⟨xh6, vaC6, vbC6, xd6, vcC6, vdC6⟩
    · exact ⟨xh7, vaC7, vbC7, xd7, vcC7, vdC7⟩
    · exact ⟨xh8, vaC8, vbC8, xd8, vcC8, vdC8⟩
    · exact ⟨xh9, vaC9, vbC9, xd9, vcC9, vdC9⟩
    · exact ⟨uxhx1, ugax1, uggx1, uex1, vcX1, vdX1⟩
    · exact ⟨uxhx2, ugax2, uggx2, uex2, vcX2, vdX2⟩
    · exact ⟨uxhx3, ugax3, uggx3, uex3, vcX3, vdX3⟩
    · exact ⟨uxhx4, ugax4, uggx4, uex4, vcX4, vdX4⟩
    · exact ⟨xh10, vaC10, vbC10, xd10, vcC10, vdC10⟩
  have KR : ∀ j, j < 14 → kitRow K (cF [C1, C2, C3, C4, C5, C6, C7, C8, C9, X1, X2, X3, X4, C10] j) (csL (cF [C1, C2, C3, C4, C5, C6, C7, C8, C9, X1, X2, X3, X4, C10])) (rowB j) = true := fun j hj => by
    rcases (by omega : j = 0 ∨ j = 1 ∨ j = 2 ∨ j = 3 ∨ j = 4 ∨ j = 5 ∨ j = 6 ∨ j = 7 ∨ j = 8 ∨ j = 9 ∨ j = 10 ∨ j = 11 ∨ j = 12 ∨ j = 13) with z | z | z | z | z | z | z | z | z | z | z | z | z | z <;> subst z
    · exact kr0
    · exact kr1
    · exact kr2
    · exact kr3
    · exact kr4
    · exact kr5
    · exact kr6
    · exact kr7
    · exact kr8
    · exact kr9
    · exact kr10
    · exact kr11
    · exact kr12
    · exact kr13
  have G1 : FnOk l.prog w K mg base CX0 1 f1 _ _ (spBag K) := ok_bag F1 T
  have G2 : FnOk l.prog w K mg base CX0 1 f2 _ _ spStirred := ok_stirred F2 T
  have G3 : FnOk l.prog w K mg base CX0 2 f3 _ _ spDraw := ok_draw F3 T G2 g2 k2 b2
  have G40 : FnOk l.prog w K mg base CX0 1 f4 _ _ (spAlike 0) := ok_alike0 F4 T
  have G41 : FnOk l.prog w K mg base CX0 2 f4 _ _ (spAlike 1) := ok_alikeS F4 T G40 g4 k4 b4
  have G5 : FnOk l.prog w K mg base CX0 1 f5 _ _ (spLof62 K (cF [C1, C2, C3, C4, C5, C6, C7, C8, C9, X1, X2, X3, X4, C10])) := ok_lof62 F5 T CT KG
  exact ok_law F6 T CT KG OW KX KR (GX1.mono (by decide)) bX1 (kbnI2 fun _ _ _ => rfl) TN1 XF1 (GX2.mono (by decide)) bX2 (kbnI1 fun _ _ => rfl) TN2 XF2 (GX3.mono (by decide)) bX3 (kbnI1 fun _ _ => rfl) TN3 XF3 (GX4.mono (by decide)) bX4 (kbnI1 fun _ _ => rfl) TN4 XF4 (G1.mono (by decide)) g1 k1 b1 G3 g3 k3 b3 (G5.mono (by decide)) g5 k5 b5 G41 g4 k4 b4
end Wd
open PySem PySem.W PyProof.Rows
set_option maxRecDepth 100000 in
set_option maxHeartbeats 0 in
theorem PySem.Challenge.cw_frameseams_k62_errors_made_holds : PySem.Challenge.rw_frameseams_k62_errors_made.Holds := by
  w_on; o_law; k_head; (case hw => w_witness2)
  k_fill
  refine L2.walk_of (l := PySem.Challenge.rw_frameseams_k62_errors_made) (n := 63) (k := 3) (x := "script") (CX := fun _ => L2.CX0) (sp := fun w => Wd.spLaw _) rfl (by decide) rfl ⟨rfl, by decide, by decide⟩ (fun w h Y => PySem.W.kIn_of Y) ?F (fun _ _ a ns hl _ hS => ⟨a, ns, rfl, hS, hl, fun _ => rfl⟩) (fun _ _ _ _ _ h => h)
  case F =>
    intro w mg fa h KX G hmg
    refine' Wd.all_mk KX G hmg ?a1 ?l1 ?c1 ?k1 ?a2 ?l2 ?c2 ?k2 ?a3 ?l3 ?c3 ?k3 ?a4 ?l4 ?c4 ?k4 ?a5 ?l5 ?c5 ?k5 ?a6 ?l6 ?c6 ?k6 ?z1 ?z2 ?z3 ?z4 ?z5 ?z6 ?z7 ?z8 ?z9 ?z10 ?z11 ?xa1 ?xb1 ?xc1 ?xd1 ?xe1 ?xh1 ?xi1 ?xa2 ?xb2 ?xc2 ?xd2 ?xe2 ?xh2 ?xi2 ?xa3 ?xb3 ?xc3 ?xd3 ?xe3 ?xh3 ?xi3 ?xa4 ?xb4 ?xc4 ?xd4 ?xe4 ?xh4 ?xi4 ?xa5 ?xb5 ?xc5 ?xd5 ?xe5 ?xh5 ?xi5 ?xa6 ?xb6 ?xc6 ?xd6 ?xe6 ?xh6 ?xi6 ?xa7 ?xb7 ?xc7 ?xd7 ?xe7 ?xh7 ?xi7 ?xa8 ?xb8 ?xc8 ?xd8 ?xe8 ?xh8 ?xi8 ?xa9 ?xb9 ?xc9 ?xd9 ?xe9 ?xh9 ?xi9 ?xa10 ?xb10 ?xc10 ?xd10 ?xe10 ?xh10 ?xi10 ?uax1 ?ubx1 ?ucx1 ?udx1 ?uex1 ?ufx1 ?ugx1 ?uhx1 ?uix1 ?ujx1 ?ukx1 ?ulx1 ?umx1 ?unx1 ?uox1 ?upx1 ?uqx1 ?urx1 ?usx1 ?utx1 ?uux1 ?uvx1 ?ugax1 ?uggx1 ?uhdx1 ?uxhx1 ?uxix1 ?uw1_0 ?uw1_1 ?uax2 ?ubx2 ?ucx2 ?udx2 ?uex2 ?ufx2 ?ugx2 ?uhx2 ?uix2 ?ujx2 ?ukx2 ?ulx2 ?umx2 ?unx2 ?uox2 ?upx2 ?uqx2 ?urx2 ?usx2 ?utx2 ?uux2 ?uvx2 ?ugax2 ?uggx2 ?uhdx2 ?uxhx2 ?uxix2 ?uw2_0 ?uax3 ?ubx3 ?ucx3 ?udx3 ?uex3 ?ufx3 ?ugx3 ?uhx3 ?uix3 ?ujx3 ?ukx3 ?ulx3 ?umx3 ?unx3 ?uox3 ?upx3 ?uqx3 ?urx3 ?usx3 ?utx3 ?uux3 ?uvx3 ?ugax3 ?uggx3 ?uhdx3 ?uxhx3 ?uxix3 ?uw3_0 ?uax4 ?ubx4 ?ucx4 ?udx4 ?uex4 ?ufx4 ?ugx4 ?uhx4 ?uix4 ?ujx4 ?ukx4 ?ulx4 ?umx4 ?unx4 ?uox4 ?upx4 ?uqx4 ?urx4 ?usx4 ?utx4 ?uux4 ?uvx4 ?ugax4 ?uggx4 ?uhdx4 ?uxhx4 ?uxix4 ?uw4_0 ?vaC1 ?vbC1 ?vcC1 ?vdC1 ?vaC2 ?vbC2 ?vcC2 ?vdC2 ?vaC3 ?vbC3 ?vcC3 ?vdC3 ?vaC4 ?vbC4 ?vcC4 ?vdC4 ?vaC5 ?vbC5 ?vcC5 ?vdC5 ?vaC6 ?vbC6 ?vcC6 ?vdC6 ?vaC7 ?vbC7 ?vcC7 ?vdC7 ?vaC8 ?vbC8 ?vcC8 ?vdC8 ?vaC9 ?vbC9 ?vcC9 ?vdC9 ?vcX1 ?vdX1 ?vcX2 ?vdX2 ?vcX3 ?vdX3 ?vcX4 ?vdX4 ?vaC10 ?vbC10 ?vcC10 ?vdC10 ?vg1 ?vg2 ?kr0 ?kr1 ?kr2 ?kr3 ?kr4 ?kr5 ?kr6 ?kr7 ?kr8 ?kr9 ?kr10 ?kr11 ?kr12 ?kr13
    (case a1 => k_is)
    (case l1 => k_is)
    (case c1 => k_is)
    (case k1 => k_is)
    (case a2 => k_is)
    (case l2 => k_is)
    (case c2 => k_is)
    (case k2 => k_is)
    (case a3 => k_is)
    (case l3 => k_is)
    (case c3 => k_is)
    (case k3 => k_is)
    (case a4 => k_is)
    (case l4 => k_is)
    (case c4 => k_is)
    (case k4 => k_is)
    (case a5 => k_is)
    (case l5 => k_is)
    (case c5 => k_is)
    (case k5 => k_is)
    (case a6 => k_is)
    (case l6 => k_is)
    (case c6 => k_is)
    (case k6 => k_is)
    (case z1 => k_is)
    (case z2 => k_is)
    (case z3 => k_is)
    (case z4 => k_is)
    (case z5 => k_is)
    (case z6 => k_is)
    (case z7 => k_is)
    (case z8 => k_is)
    (case z9 => k_is)
    (case z10 => k_is)
    (case z11 => k_is)
    (case xa1 => k_is)
    (case xb1 => k_exc)
    (case xc1 => k_is)
    (case xd1 => k_is)
    (case xe1 => k_is)
    (case xh1 => k_is)
    (case xi1 => first | rfl | k_is)
    (case xa2 => k_is)
    (case xb2 => k_exc)
    (case xc2 => k_is)
    (case xd2 => k_is)
    (case xe2 => k_is)
    (case xh2 => k_is)
    (case xi2 => first | rfl | k_is)
    (case xa3 => k_is)
    (case xb3 => k_exc)
    (case xc3 => k_is)
    (case xd3 => k_is)
    (case xe3 => k_is)
    (case xh3 => k_is)
    (case xi3 => first | rfl | k_is)
    (case xa4 => k_is)
    (case xb4 => k_exc)
    (case xc4 => k_is)
    (case xd4 => k_is)
    (case xe4 => k_is)
    (case xh4 => k_is)
    (case xi4 => first | rfl | k_is)
    (case xa5 => k_is)
    (case xb5 => k_exc)
    (case xc5 => k_is)
    (case xd5 => k_is)
    (case xe5 => k_is)
    (case xh5 => k_is)
    (case xi5 => first | rfl | k_is)
    (case xa6 => k_is)
    (case xb6 => k_exc)
    (case xc6 => k_is)
    (case xd6 => k_is)
    (case xe6 => k_is)
    (case xh6 => k_is)
    (case xi6 => first | rfl | k_is)
    (case xa7 => k_is)
    (case xb7 => k_exc)
    (case xc7 => k_is)
    (case xd7 => k_is)
    (case xe7 => k_is)
    (case xh7 => k_is)
    (case xi7 => first | rfl | k_is)
    (case xa8 => k_is)
    (case xb8 => k_exc)
    (case xc8 => k_is)
    (case xd8 => k_is)
    (case xe8 => k_is)
    (case xh8 => k_is)
    (case xi8 => first | rfl | k_is)
    (case xa9 => k_is)
    (case xb9 => k_exc)
    (case xc9 => k_is)
    (case xd9 => k_is)
    (case xe9 => k_is)
    (case xh9 => k_is)
    (case xi9 => first | rfl | k_is)
    (case xa10 => k_is)
    (case xb10 => k_exc)
    (case xc10 => k_is)
    (case xd10 => k_is)
    (case xe10 => k_is)
    (case xh10 => k_is)
    (case xi10 => first | rfl | k_is)
    (case uax1 => k_is)
    (case ubx1 => k_is)
    (case ucx1 => first | rfl | k_is)
    (case udx1 => k_is)
    (case uex1 => k_is)
    (case ufx1 => k_is)
    (case ugx1 => k_is)
    (case uhx1 => k_is)
    (case uix1 => k_is)
    (case ujx1 => k_is)
    (case ukx1 => k_is)
    (case ulx1 => k_is)
    (case umx1 => first | rfl | k_is)
    (case unx1 => first | rfl | k_is)
    (case uox1 => first | rfl | k_is)
    (case upx1 => k_is)
    (case uqx1 => k_is)
    (case urx1 => k_is)
    (case usx1 => first | rfl | k_is)
    (case utx1 => first | rfl | k_is)
    (case uux1 => first | rfl | k_is)
    (case uvx1 => k_is)
    (case ugax1 => k_is)
    (case uggx1 => k_is)
    (case uhdx1 => k_is)
    (case uxhx1 => k_is)
    (case uxix1 => k_is)
    (case uw1_0 => k_is)
    (case uw1_1 => k_is)
    (case uax2 => k_is)
    (case ubx2 => k_is)
    (case ucx2 => first | rfl | k_is)
    (case udx2 => k_is)
    (case uex2 => k_is)
    (case ufx2 => k_is)
    (case ugx2 => k_is)
    (case uhx2 => k_is)
    (case uix2 => k_is)
    (case ujx2 => k_is)
    (case ukx2 => k_is)
    (case ulx2 => k_is)
    (case umx2 => first | rfl | k_is)
    (case unx2 => first | rfl | k_is)
    (case uox2 => first | rfl | k_is)
    (case upx2 => k_is)
    (case uqx2 => k_is)
    (case urx2 => k_is)
    (case usx2 => first | rfl | k_is)
    (case utx2 => first | rfl | k_is)
    (case uux2 => first | rfl | k_is)
    (case uvx2 => k_is)
    (case ugax2 => k_is)
    (case uggx2 => k_is)
    (case uhdx2 => k_is)
    (case uxhx2 => k_is)
    (case uxix2 => k_is)
    (case uw2_0 => k_is)
    (case uax3 => k_is)
    (case ubx3 => k_is)
    (case ucx3 => first | rfl | k_is)
    (case udx3 => k_is)
    (case uex3 => k_is)
    (case ufx3 => k_is)
    (case ugx3 => k_is)
    (case uhx3 => k_is)
    (case uix3 => k_is)
    (case ujx3 => k_is)
    (case ukx3 => k_is)
    (case ulx3 => k_is)
    (case umx3 => first | rfl | k_is)
    (case unx3 => first | rfl | k_is)
    (case uox3 => first | rfl | k_is)
    (case upx3 => k_is)
    (case uqx3 => k_is)
    (case urx3 => k_is)
    (case usx3 => first | rfl | k_is)
    (case utx3 => first | rfl | k_is)
    (case uux3 => first | rfl | k_is)
    (case uvx3 => k_is)
    (case ugax3 => k_is)
    (case uggx3 => k_is)
    (case uhdx3 => k_is)
    (case uxhx3 => k_is)
    (case uxix3 => k_is)
    (case uw3_0 => k_is)
    (case uax4 => k_is)
    (case ubx4 => k_is)
    (case ucx4 => first | rfl | k_is)
    (case udx4 => k_is)
    (case uex4 => k_is)
    (case ufx4 => k_is)
    (case ugx4 => k_is)
    (case uhx4 => k_is)
    (case uix4 => k_is)
    (case ujx4 => k_is)
    (case ukx4 => k_is)
    (case ulx4 => k_is)
    (case umx4 => first | rfl | k_is)
    (case unx4 => first | rfl | k_is)
    (case uox4 => first | rfl | k_is)
    (case upx4 => k_is)
    (case uqx4 => k_is)
    (case urx4 => k_is)
    (case usx4 => first | rfl | k_is)
    (case utx4 => first | rfl | k_is)
    (case uux4 => first | rfl | k_is)
    (case uvx4 => k_is)
    (case ugax4 => k_is)
    (case uggx4 => k_is)
    (case uhdx4 => k_is)
    (case uxhx4 => k_is)
    (case uxix4 => k_is)
    (case uw4_0 => k_is)
    (case vaC1 => k_is)
    (case vbC1 => k_is)
    (case vcC1 => k_is)
    (case vdC1 => k_is)
    (case vaC2 => k_is)
    (case vbC2 => k_is)
    (case vcC2 => k_is)
    (case vdC2 => k_is)
    (case vaC3 => k_is)
    (case vbC3 => k_is)
    (case vcC3 => k_is)
    (case vdC3 => k_is)
    (case vaC4 => k_is)
    (case vbC4 => k_is)
    (case vcC4 => k_is)
    (case vdC4 => k_is)
    (case vaC5 => k_is)
    (case vbC5 => k_is)
    (case vcC5 => k_is)
    (case vdC5 => k_is)
    (case vaC6 => k_is)
    (case vbC6 => k_is)
    (case vcC6 => k_is)
    (case vdC6 => k_is)
    (case vaC7 => k_is)
    (case vbC7 => k_is)
    (case vcC7 => k_is)
    (case vdC7 => k_is)
    (case vaC8 => k_is)
    (case vbC8 => k_is)
    (case vcC8 => k_is)
    (case vdC8 => k_is)
    (case vaC9 => k_is)
    (case vbC9 => k_is)
    (case vcC9 => k_is)
    (case vdC9 => k_is)
    (case vcX1 => k_is)
    (case vdX1 => k_is)
    (case vcX2 => k_is)
    (case vdX2 => k_is)
    (case vcX3 => k_is)
    (case vdX3 => k_is)
    (case vcX4 => k_is)
    (case vdX4 => k_is)
    (case vaC10 => k_is)
    (case vbC10 => k_is)
    (case vcC10 => k_is)
    (case vdC10 => k_is)
    (case vg1 => k_is)
    (case vg2 => k_is)
    (case kr0 => kernel_rfl)
    (case kr1 => kernel_rfl)
    (case kr2 => kernel_rfl)
    (case kr3 => kernel_rfl)
    (case kr4 => kernel_rfl)
    (case kr5 => kernel_rfl)
    (case kr6 => kernel_rfl)
    (case kr7 => kernel_rfl)
    (case kr8 => kernel_rfl)
    (case kr9 => kernel_rfl)
    (case kr10 => kernel_rfl)
    (case kr11 => kernel_rfl)
    (case kr12 => kernel_rfl)
    (case kr13 => kernel_rfl)
