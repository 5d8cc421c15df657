import PyProof.Rows.All
import Wide.All
import OpenK.AllK
import Wide.FinOn
import HandS.ForMost
import HandS.Wide
import HandS.Style
import HandS.Flow
import HandS.IsInst
import HandS.Defaults
import HandS.Codes
import HandS.RaiseMore
import PyProof.ReprLen
import PyProof.FitsInt
import HandS.TupSets
import HandS.Gcd
import KE.KMathGC
import HandS.RevRange
import HandS.Conv
import HandS.ForExc
import HandS.FStr
import PySem.Challenge.RW_frameseams_k31_whole_orders_let_polynomi
set_option Elab.async false
set_option linter.all false
set_option maxRecDepth 100000
set_option maxHeartbeats 4000000
namespace XR
open PySem PySem.Spec PyProof.Rows L2
/-! ### wide powers -/
def CPowW (i j : Int) : Prop := 0 ≤ j ∧ (Builtin.Int.intBits i : Int) * j ≤ 2 ^ 27
theorem op_powW {X : Cx} : OpR X (binaryOp .Pow) (rI CPowW fun i j => .int (i ^ j.toNat)) := opI fun _ _ _ _ _ _ _ hc q => pow_int hc.1 hc.2 q
theorem cpow3 {i : Int} {k : Nat} (h : i.natAbs < 2 ^ k) (h0 : 0 < k) (h1 : k ≤ 1000000) : CPowW i 3 := by
  have x := PySem.Flt.log2_lt_of h0 h
  refine ⟨by decide, ?_⟩
  unfold Builtin.Int.intBits
  split <;> omega
/-! ### slices with a step -/
theorem paired_get {α β : Type} {F : α → β → Prop} : ∀ {xs : List α} {ys : List β}, Paired F xs ys → ∀ j : Nat, (xs[j]? = none ∧ ys[j]? = none) ∨ ∃ a b, xs[j]? = some a ∧ ys[j]? = some b ∧ F a b
  | _, _, .nil, j => .inl ⟨rfl, rfl⟩
  | _, _, .cons r t, 0 => .inr ⟨_, _, rfl, rfl, r⟩
  | _, _, .cons r t, j + 1 => paired_get t j
theorem paired_places {α β : Type} {F : α → β → Prop} {xs : List α} {ys : List β} (h : Paired F xs ys) : ∀ js : List Nat, Paired F (js.filterMap (xs[·]?)) (js.filterMap (ys[·]?))
  | [] => .nil
  | j :: js => by
    have ih := paired_places h js
    rcases paired_get h j with ⟨e1, e2⟩ | ⟨a, b, e1, e2, r⟩
    · simp only [List.filterMap_cons, e1, e2]
      exact ih
    · simp only [List.filterMap_cons, e1, e2]
      exact .cons r ih
def pickV {α : Type} (xs : List α) (lo hi st : Option Int) : List α :=
  (sliceRange (sliceBounds lo hi st xs.length).1 (sliceBounds lo hi st xs.length).2.1 (sliceBounds lo hi st xs.length).2.2).filterMap (xs[·]?)
theorem pickV_rel {xs : List V} {its : List Value} (h : Vals xs its) (lo hi st : Option Int) : Vals (pickV xs lo hi st) (slicePick its.toArray lo hi st).toList := by
  have e : (slicePick its.toArray lo hi st).toList = (sliceRange (sliceBounds lo hi st xs.length).1 (sliceBounds lo hi st xs.length).2.1 (sliceBounds lo hi st xs.length).2.2).filterMap (its[·]?) := by
    simp [slicePick, h.length]
  rw [e]
  exact paired_places h _
theorem pickV_map {α β : Type} (f : α → β) (xs : List α) (lo hi st : Option Int) : pickV (xs.map f) lo hi st = (pickV xs lo hi st).map f := by
  unfold pickV
  rw [List.length_map, List.map_filterMap]
  congr 1
  funext j
  rw [List.getElem?_map]
def tSl3 (K : PySem.W.Frag) (te : TE) (tl th ts : TO) : TE := fun σ H Q => te σ H fun x H1 => tl σ H1 fun l H2 => th σ H2 fun u H3 => ts σ H3 fun st H4 =>
  ∃ a xs, x = .ref a ∧ SqL K H4 a xs ∧ st ≠ some 0 ∧ ∀ p, H4 p = none → Q (.ref p) (upd H4 p (.lst (pickV xs l u st)))
theorem pe_slice3 {X : Cx} {e : Expr} {lo hi : Option Expr} {s0 : Expr} {te : TE} {tl th ts : TO} {p2 pos : Pos} (he : PE X e te) (hl : PO X lo tl) (hu : PO X hi th) (hst : PO X (some s0) ts) :
    PE X (.Subscript e (.Slice lo hi (some s0) p2) pos) (tSl3 X.K te tl th ts) := by
  refine ⟨fun pins s σ H Q I h => ?_⟩
  refine Subscript_ (thn (he.run pins s σ H _ I h) fun v s1 ⟨x, H1, I1, r1, q1⟩ => ?_)
  refine wpAny_Slice (thn (hl.run pins s1 σ H1 _ I1 q1) fun vl s2 ⟨l, H2, I2, pl, q2⟩ => thn (hu.run pins s2 σ H2 _ I2 q2) fun vu s3 ⟨u, H3, I3, pu, q3⟩ => ?_)
  refine thn (hst.run pins s3 σ H3 _ I3 q3) fun vs s4 ⟨o, H4, I4, ps, q4⟩ => ?_
  obtain ⟨a, xs, ex, hx, hne, q⟩ := q4
  subst ex
  cases r1
  have I5 : Inv X pins σ H4 { s4 with heap := s4.heap.push { cls := .type "slice", data := .fields #[vl, vu, vs] } } := I4.kept (t' := s4.toks) fun b ob q => Heap.get?_push_of_some _ q
  obtain ⟨its, r, ht, hz⟩ := I5.list hx
  have hlen := r.length
  show wpAny (model X.prog X.w) X.A (subscriptTail e (.Slice lo hi (some s0) p2) (.ref a) (.ref s4.heap.objs.size)) (EP X pins σ Q) X.xe { s4 with heap := s4.heap.push { cls := .type "slice", data := .fields #[vl, vu, vs] } }
  refine tail_any (ops := [.ref a, .ref s4.heap.objs.size]) ht.isList.typeIs (PySem.slot_list_getitem.lookup) ?_ (by with_unfolding_all rfl)
  refine wpAny_getItem_list_slice ht.isList (Heap.IsSliceOf.new _ vl vu vs) pl pu ps hne ?_ (by rw [List.size_toArray]; omega)
  have rp := pickV_rel r l u o
  have sz := slicePick_size_le its.toArray l u o
  have e2 : (slicePick its.toArray l u o).toList.toArray = slicePick its.toArray l u o := by simp
  refine ⟨.ref _, _, I5.laid (t' := s4.toks) (o := .lst (pickV xs l u o)) (fun b ob q => Heap.get?_push_of_some _ q) (Nat.le_refl _) ?_, rfl, q _ (I5.hok.fresh (Nat.le_refl _))⟩
  refine ⟨?_, _, 0, rp, ?_⟩
  · have l1 := rp.length
    have l4 : (slicePick its.toArray l u o).toList.length = (slicePick its.toArray l u o).size := Array.length_toList
    have l3 : its.toArray.size = its.length := List.size_toArray ..
    show (pickV xs l u o).length ≤ sizeLine
    have hz2 : xs.length ≤ sizeLine := hz
    omega
  · rw [e2]
    exact Heap.get?_push_size _ rfl
/-! ### any of a list of ints -/
theorem truth_ints {prog : Program} {w : World} {A : Around} {ns : List Int} {its : List Value} (e : IntsAre its ns) :
    TruthOf prog w A (fun i v => its.toArray[i]? = some v) (fun i => (ns.map (· != 0)).getD i false) := fun i v s Q E hv hq => by
  have hv' : its[i]? = some v := by simpa using hv
  have hl := e.length
  have hi : i < ns.length := by
    have := (List.getElem?_eq_some_iff.mp hv').1
    omega
  obtain ⟨t, ht⟩ := e.get i ns[i] (List.getElem?_eq_getElem hi)
  rw [ht] at hv'
  cases hv'
  have hg : (ns.map (· != 0)).getD i false = (ns[i] != 0) := by
    rw [List.getD_eq_getElem?_getD, List.getElem?_map, List.getElem?_eq_getElem hi]
    rfl
  have hq' : Q ((ns.map (· != 0)).getD i false) s := hq
  rw [hg] at hq'
  exact PyProof.Rows.truthy_int hq'
def rAnyI (K : PySem.W.Frag) : List V → Hp → VK → Prop := fun vs H Q => ∃ (a : Addr) (ns : List Int), vs = [V.ref a] ∧ SqL K H a (ns.map V.int) ∧ Q (.bl (ns.any (· != 0))) H
theorem cr_anyI {X : Cx} (hc : X.calm = true) : CallR X (.builtin "any") (rAnyI X.K) := by
  intro pins s σ H vs us Q I r h
  obtain ⟨a, ns, rfl, hs, q⟩ := h
  obtain ⟨its, rv, hl, _⟩ := I.list hs
  rw [Vals.ref1 r]
  have hi := rv.ints
  have hlen := hi.length
  refine call_any_walk (iter_any hl.isList fun s₂ e2 st hne => ?_)
  subst e2
  refine ⟨_, _, _, _, _, _, _, rfl, Walks.list (A := X.A.in1) (I.ok.hd hc) _ a hne its.toArray, st, truth_ints hi, fun h' tk hk => ?_⟩
  refine ⟨.bl _, H, I.kept fun b o eo => hk b o (fun hmem => ?_) (Heap.get?_push_of_some _ eo), ?_, q⟩
  · rcases List.mem_cons.mp hmem with e1 | hmem
    · exact absurd (e1 ▸ Heap.lt_size eo) (Nat.lt_irrefl _)
    · cases hmem
  · show Value.bool _ = Value.bool _
    have e3 : ns.any (· != 0) = (ns.map (· != 0)).any id := by rw [List.any_map]; rfl
    rw [e3, ← L2.any_range, List.size_toArray, List.length_map, hlen]
/-! ### a loop over enumerate of a list -/
theorem for_enum {K : PySem.W.Frag} {a : Addr} {xs : List V} {g : TG} {tb : TS} {D : Ends} {σ : L2.St} {H : Hp} (Pv : Nat → L2.St → Hp → Prop) (h0 : Pv 0 σ H) (hq : ∀ i σ H, i ≤ xs.length → Pv i σ H → SqL K H a xs)
    (hs : ∀ (i : Nat) (x : V) (T : Addr) (σ : L2.St) (H : Hp), xs[i]? = some x → Pv i σ H → H T = none → g (.ref T) σ (upd H T (.tup [.int (i : Nat), x])) fun σ2 H2 => tb { D with nx := Pv (i + 1), ct := Pv (i + 1), bk := D.nx } σ2 H2) (hd : ∀ σ H, Pv xs.length σ H → D.nx σ H) :
    ∃ W : Nat → Nat → L2.St → Hp → Prop, (∃ m, W 0 m σ H) ∧ ∀ i m σ H, W i m σ H →
      ((Ite K a).stop i H ∧ D.nx σ H) ∨ ((Ite K a).go i H ∧ ∃ N : L2.St → Hp → Prop, (∀ σ' H', N σ' H' → ∃ m', m' < m ∧ W (i + 1) m' σ' H') ∧ ∀ v H', (Ite K a).yld i H v H' → g v σ H' fun σ2 H2 => tb { D with nx := N, ct := N, bk := D.nx } σ2 H2) := by
  refine ⟨fun i m σ H => m = xs.length - i ∧ i ≤ xs.length ∧ Pv i σ H, ⟨xs.length, rfl, Nat.zero_le _, h0⟩, ?_⟩
  rintro i m σ H ⟨rfl, hi, p⟩
  have qx := hq i σ H hi p
  by_cases hlt : i < xs.length
  · have hx : xs[i]? = some xs[i] := List.getElem?_eq_getElem hlt
    refine .inr ⟨⟨xs, _, qx, hx⟩, Pv (i + 1), fun σ' H' p' => ⟨xs.length - (i + 1), by omega, rfl, hlt, p'⟩, fun v H' y => ?_⟩
    obtain ⟨T, x', rfl, hT, rfl, f1⟩ := y
    exact hs i x' T σ H (f1 xs qx) p hT
  · have e : i = xs.length := by omega
    subst e
    exact .inl ⟨⟨xs, qx, Nat.le_refl _⟩, hd σ H p⟩
/-! ### == and != of lists of ints -/
theorem dpAll_ints (K : PySem.W.Frag) (H : Hp) : ∀ ns : List Int, DpAll K H (ns.map V.int) (ns.map PyData.int)
  | [] => .nil
  | n :: ns => .cons (.int n) (dpAll_ints K H ns)
theorem eqv_ints : ∀ xs ys : List Int, PyData.eqvAll (xs.map PyData.int) (ys.map PyData.int) = decide (xs = ys)
  | [], [] => by simp [PyData.eqvAll]
  | [], _ :: _ => by simp [PyData.eqvAll]
  | _ :: _, [] => by simp [PyData.eqvAll]
  | x :: xs, y :: ys => by
    have ih := eqv_ints xs ys
    simp only [List.map_cons, PyData.eqvAll, PyData.eqv, ih]
    by_cases e : x = y
    · subst e
      simp
    · simp [e]
def rEqLI (K : PySem.W.Frag) : R2 := fun x y H Q => ∃ (a b : Addr) (xs ys : List Int), x = .ref a ∧ y = .ref b ∧ SqL K H a (xs.map V.int) ∧ SqL K H b (ys.map V.int) ∧ Q (.bl (decide (xs = ys))) H
def rNeLI (K : PySem.W.Frag) : R2 := fun x y H Q => ∃ (a b : Addr) (xs ys : List Int), x = .ref a ∧ y = .ref b ∧ SqL K H a (xs.map V.int) ∧ SqL K H b (ys.map V.int) ∧ Q (.bl (!decide (xs = ys))) H
theorem op_eqLI {X : Cx} (hu : X.A.units + 64 < cLine) : OpR X (compareOp .Eq) (rEqLI X.K) := by
  intro pins s σ H x y v u Q I rx ry h
  obtain ⟨a, b, xs, ys, rfl, rfl, h1, h2, q⟩ := h
  refine op_eqD hu pins s σ H _ _ v u Q I rx ry ⟨_, _, .lst h1 (dpAll_ints _ _ xs), .lst h2 (dpAll_ints _ _ ys), PySem.W.shaped_ints xs, PySem.W.shaped_ints ys, ?_⟩
  show Q (.bl (PyData.eqvAll (xs.map PyData.int) (ys.map PyData.int))) H
  rw [eqv_ints]
  exact q
theorem op_neLI {X : Cx} (hu : X.A.units + 64 < cLine) : OpR X (compareOp .NotEq) (rNeLI X.K) := by
  intro pins s σ H x y v u Q I rx ry h
  obtain ⟨a, b, xs, ys, rfl, rfl, h1, h2, q⟩ := h
  refine op_neD hu pins s σ H _ _ v u Q I rx ry ⟨_, _, .lst h1 (dpAll_ints _ _ xs), .lst h2 (dpAll_ints _ _ ys), PySem.W.shaped_ints xs, PySem.W.shaped_ints ys, ?_⟩
  show Q (.bl (!PyData.eqvAll (xs.map PyData.int) (ys.map PyData.int))) H
  rw [eqv_ints]
  exact q
/-! ### products that are no greater than Python lets them be -/
theorem op_mulOk {X : Cx} : OpR X (binaryOp .Mult) (rI IntMulOk fun i j => .int (i * j)) := opI fun _ _ _ _ _ _ _ hc q => mul_int q hc
theorem mulOk_small (i : Int) {j : Int} (h1 : -(2 ^ 64) < j) (h2 : j < 2 ^ 64) : IntMulOk i j := .of_right (intBits_le_64 h1 h2)
theorem mulOk_wide {i j : Int} {a b : Nat} (ha : i.natAbs < 2 ^ a) (hb : j.natAbs < 2 ^ b) (h0 : 0 < a) (h1 : 0 < b) (h : a + b ≤ 1000000) : IntMulOk i j := (wide_mul ha hb h0 h1 h).ok
/-! ### xs[j] op= e of a list -/
def rGetN : V → V → Hp → VK → Prop := fun o i H Q => ∃ (p : Addr) (xs : List V) (z : Int) (j : Nat) (v : V), o = .ref p ∧ i = .int z ∧ H p = some (.lst xs) ∧ z = (j : Int) ∧ xs[j]? = some v ∧ Q v H
theorem get_listN {X : Cx} : PGet X rGetN := by
  intro pins s σ H o i ov iv Q I ro ri h
  obtain ⟨p, xs, z, j, v, rfl, rfl, hp, ez, hx, q⟩ := h
  subst ez
  cases ro
  obtain ⟨t, rfl⟩ := ri
  obtain ⟨its, r, pl, hz⟩ := I.list (SqL.of hp)
  obtain ⟨u, hu, rv⟩ := r.get hx
  have hl := r.length
  have hn := line63
  have hj := (List.getElem?_eq_some_iff.mp hx).1
  exact wpAny_getItem_list pl.isList (by omega) (by omega) (by rw [Int.toNat_natCast]; simpa using hu) ⟨v, H, I, rv, q⟩
/-! ### a call by keywords alone -/
def tKw0 (m : Nat) (sp : Sp) (gV : List V → List V → List V) (tk : TA) : TE := fun σ H Q => tk σ H fun zs H2 => zs.length = m ∧ sp (gV [] zs) H2 Q E0
theorem pe_kw0 {X : Cx} {k : Nat} {f : Addr} {fd : FuncData} {ps ks : List Str} {sp : Sp} {x : Str} {p pos : Pos} {kws : List Keyword} {tk : TA} {g : List Value → List Value → List Value} {gV : List V → List V → List V}
    (F : FnOk X.prog X.w X.K X.mg X.base CX0 k f fd ps sp) (hr : Room k X.A) (hg : Gl X x) (hm : X.mg x = some (.ref f)) (hk : PySem.W.keepIn X.K (.ref f) = true) (hb : KBn X.K fd ps 0 ks g gV) (hkw : PK X kws tk)
    (hall : (backToKw pos (keywordEach kws X.env)).all (·.1.isSome) = true := by rfl) (hks : (backToKw pos (keywordEach kws X.env)).filterMap (·.1) = ks := by rfl)
    (hdb : (x == ("__debug__" : Str)) = false := by decide) (hpl : ((backTo pos (starEach [] X.env)).any (·.1) || (backToKw pos (keywordEach kws X.env)).any (·.1.isNone)) = false := by rfl) :
    PE X (.Call (.Name x p) [] kws pos) (tKw0 ks.length sp gV tk) := by
  constructor
  intro pins s σ H Q I h
  refine wpAny_Call_Name_kw (ld_glob I hg hm (PySem.W.callWith_KW0 (h₀ := X.base) I.ok.mod.kin hk hall (thn (hkw.run pos pins s σ H _ I h) fun ws s2 got => ?_) hpl) hdb)
  obtain ⟨zs, H2, J, rz, len, q⟩ := got
  refine ⟨J.kIn, ?_⟩
  rw [hks]
  exact run_fnN (us := []) (vs := []) F hr hb pass0 J .nil rz rfl len q
theorem kbn1 {K : PySem.W.Frag} {fd : FuncData} {a : Str} (h : ∀ u, bindArgs fd ⟨[], [(a, u)]⟩ = pure [(a, u)]) : KBn K fd [a] 0 [a] (fun _ ws => ws) (fun _ zs => zs) where
  to := fun s us ws _ l1 l2 => match us, ws, l1, l2 with | [], [u], _, _ => .of_eq (h u)
  rel := fun _ r => r
theorem kbn2 {K : PySem.W.Frag} {fd : FuncData} {a b : Str} (h : ∀ u v, bindArgs fd ⟨[], [(a, u), (b, v)]⟩ = pure [(a, u), (b, v)]) : KBn K fd [a, b] 0 [a, b] (fun _ ws => ws) (fun _ zs => zs) where
  to := fun s us ws _ l1 l2 => match us, ws, l1, l2 with | [], [u, v], _, _ => .of_eq (h u v)
  rel := fun _ r => r
def swap2 {α : Type} : List α → List α
  | [a, b] => [b, a]
  | l => l
theorem swap2_rel : ∀ {zs : List V} {ws : List Value}, Vals zs ws → Vals (swap2 zs) (swap2 ws)
  | _, _, .nil => .nil
  | _, _, .cons r .nil => .cons r .nil
  | _, _, .cons r (.cons r' .nil) => .cons r' (.cons r .nil)
  | _, _, .cons r (.cons r' (.cons r'' t)) => .cons r (.cons r' (.cons r'' t))
theorem kbn2r {K : PySem.W.Frag} {fd : FuncData} {a b : Str} (h : ∀ u v, bindArgs fd ⟨[], [(b, u), (a, v)]⟩ = pure [(a, v), (b, u)]) : KBn K fd [a, b] 0 [b, a] (fun _ ws => swap2 ws) (fun _ zs => swap2 zs) where
  to := fun s us ws _ l1 l2 => match us, ws, l1, l2 with | [], [u, v], _, _ => .of_eq (h u v)
  rel := fun _ r => swap2_rel r
/-! ### a comprehension over enumerate of a list -/
theorem lc_enum {K : PySem.W.Frag} {a : Addr} {xs : List V} {g : TG} {tt : TT} {te : TE} {vs : List Nat} {σ : L2.St} {H1 : Hp} {D : Addr} {Qd : Hp → Prop} (Pv : Nat → Hp → Prop) (h0 : Pv 0 (upd H1 D (.lst []))) (hl : ∀ i H, i ≤ xs.length → Pv i H → SqL K H a xs)
    (hs : ∀ (i : Nat) (x : V) (T : Addr) (H : Hp), xs[i]? = some x → Pv i H → H T = none → g (.ref T) (wipe σ vs) (upd H T (.tup [.int (i : Nat), x])) fun σ2 H2 => wipe σ2 vs = wipe σ vs ∧ tt σ2 H2 fun b H3 =>
      if b = true then te σ2 H3 fun y H4 => ∃ acc, H4 D = some (.lst acc) ∧ acc.length < sizeLine ∧ Pv (i + 1) (upd H4 D (.lst (acc ++ [y]))) else Pv (i + 1) H3) (hd : ∀ H, Pv xs.length H → Qd H) :
    ∃ W : Nat → Nat → Hp → Prop, (∃ m, W 0 m (upd H1 D (.lst []))) ∧ ∀ i m H, W i m H →
      ((Ite K a).stop i H ∧ Qd H) ∨ ((Ite K a).go i H ∧ ∃ Nx : Hp → Prop, (∀ H', Nx H' → ∃ m', m' < m ∧ W (i + 1) m' H') ∧ ∀ x H', (Ite K a).yld i H x H' → g x (wipe σ vs) H' fun σ2 H2 => wipe σ2 vs = wipe σ vs ∧ tt σ2 H2 fun b H3 =>
        if b = true then te σ2 H3 fun y H4 => ∃ acc, H4 D = some (.lst acc) ∧ acc.length < sizeLine ∧ Nx (upd H4 D (.lst (acc ++ [y]))) else Nx H3) := by
  refine ⟨fun i m H => m = xs.length - i ∧ i ≤ xs.length ∧ Pv i H, ⟨xs.length, rfl, Nat.zero_le _, h0⟩, ?_⟩
  rintro i m H ⟨rfl, hi, p⟩
  have q := hl i H hi p
  by_cases hlt : i < xs.length
  · refine .inr ⟨⟨xs, xs[i], q, List.getElem?_eq_getElem hlt⟩, Pv (i + 1), fun H' p' => ⟨xs.length - (i + 1), by omega, rfl, hlt, p'⟩, fun x H' y => ?_⟩
    obtain ⟨T, x', rfl, hT, rfl, f1⟩ := y
    exact hs i x' T H (f1 xs q) p hT
  · have e : i = xs.length := by omega
    subst e
    exact .inl ⟨⟨xs, q, Nat.le_refl _⟩, hd H p⟩
end XR

/-! Lists as tables of a function; sums over a range. Core Lean. -/
namespace Mth
def tab {α : Type} (m : Nat) (f : Nat → α) : List α := (List.range m).map f
theorem tab_len {α : Type} (m : Nat) (f : Nat → α) : (tab m f).length = m := by simp [tab]
theorem tab_get {α : Type} {m i : Nat} (f : Nat → α) (h : i < m) : (tab m f)[i]? = some (f i) := by simp [tab, h]
theorem tab_map {α β : Type} (m : Nat) (f : Nat → α) (g : α → β) : (tab m f).map g = tab m fun i => g (f i) := by simp [tab]
theorem tab_congr {α : Type} {m : Nat} {f g : Nat → α} (h : ∀ i, i < m → f i = g i) : tab m f = tab m g := by
  unfold tab
  apply List.map_congr_left
  intro i hi
  exact h i (List.mem_range.mp hi)
theorem tab_inj {α : Type} {m : Nat} {f g : Nat → α} (h : tab m f = tab m g) : ∀ i, i < m → f i = g i := fun i hi => by
  have e := congrArg (fun l => l[i]?) h
  simp only [tab_get f hi, tab_get g hi] at e
  exact Option.some.inj e
theorem tab_succ {α : Type} (m : Nat) (f : Nat → α) : tab (m + 1) f = tab m f ++ [f m] := by simp [tab, List.range_succ]
theorem tab_set {α : Type} (m p : Nat) (f : Nat → α) (v : α) : (tab m f).set p v = tab m fun i => if i = p then v else f i := by
  apply List.ext_getElem?
  intro i
  rw [List.getElem?_set, tab_len]
  by_cases hi : i < m
  · rw [tab_get _ hi, tab_get _ hi]
    by_cases e : p = i
    · subst e
      simp [hi]
    · rw [if_neg e, if_neg (fun z => e z.symm)]
  · have e1 : (tab m f)[i]? = none := by simp [tab]; omega
    have e2 : (tab m fun i => if i = p then v else f i)[i]? = none := by simp [tab]; omega
    rw [e1, e2]
    split <;> (try rfl)
    split <;> (try rfl)
    omega
theorem tab_self {α : Type} (l : List α) (d : α) : l = tab l.length fun i => l.getD i d := by
  apply List.ext_getElem?
  intro i
  by_cases hi : i < l.length
  · rw [tab_get _ hi, List.getD_eq_getElem?_getD, List.getElem?_eq_getElem hi]
    rfl
  · rw [List.getElem?_eq_none (by omega), List.getElem?_eq_none (by rw [tab_len]; omega)]
theorem rep_tab {α : Type} (m : Nat) (x : α) : List.replicate m x = tab m fun _ => x := by
  apply List.ext_getElem?
  intro i
  by_cases hi : i < m
  · rw [tab_get _ hi]
    simp [hi]
  · simp [tab, hi]
theorem flat_one {α : Type} (m : Nat) (x : α) : (List.replicate m [x]).flatten = List.replicate m x := by
  induction m with
  | zero => rfl
  | succ n ih => rw [List.replicate_succ, List.flatten_cons, ih]; rfl
/-- the sum of f 0 .. f (n - 1) -/
def sm (n : Nat) (f : Nat → Int) : Int := (tab n f).sum
theorem sm_zero (f : Nat → Int) : sm 0 f = 0 := rfl
theorem sm_succ (n : Nat) (f : Nat → Int) : sm (n + 1) f = sm n f + f n := by
  unfold sm
  rw [tab_succ]
  simp
theorem sm_congr {n : Nat} {f g : Nat → Int} (h : ∀ i, i < n → f i = g i) : sm n f = sm n g := by
  unfold sm
  rw [tab_congr h]
theorem sm_add (n : Nat) (f g : Nat → Int) : sm n (fun i => f i + g i) = sm n f + sm n g := by
  induction n with
  | zero => rfl
  | succ n ih => rw [sm_succ, sm_succ, sm_succ, ih]; omega
theorem sm_const0 (n : Nat) {f : Nat → Int} (h : ∀ i, i < n → f i = 0) : sm n f = 0 := by
  induction n with
  | zero => rfl
  | succ n ih => rw [sm_succ, ih (fun i hi => h i (by omega)), h n (by omega)]; rfl
theorem sm_comm (n m : Nat) (f : Nat → Nat → Int) : sm n (fun i => sm m (fun j => f i j)) = sm m (fun j => sm n (fun i => f i j)) := by
  induction n with
  | zero => rw [sm_zero]; exact (sm_const0 m fun i _ => rfl).symm
  | succ n ih =>
    rw [sm_succ, ih, ← sm_add]
    exact sm_congr fun j _ => (sm_succ n _).symm
theorem sm_sum (l : List Int) : l.sum = sm l.length fun i => l.getD i 0 := by
  unfold sm
  rw [← tab_self]
/-- one term alone -/
theorem sm_one (n p : Nat) (v : Int) : sm n (fun i => if i = p then v else 0) = if p < n then v else 0 := by
  induction n with
  | zero => rfl
  | succ n ih =>
    rw [sm_succ, ih]
    by_cases e : n = p
    · subst e
      rw [if_neg (Nat.lt_irrefl _), if_pos rfl, if_pos (Nat.lt_succ_self _)]
      omega
    · rw [if_neg e]
      by_cases h : p < n
      · rw [if_pos h, if_pos (by omega)]
        omega
      · rw [if_neg h, if_neg (by omega)]
        rfl
/-- the rest sums: at r of the entries whose number leaves r -/
def restS (w : List Int) (L r : Nat) : Int := sm w.length fun i => if i % L = r then w.getD i 0 else 0
theorem restS_total (w : List Int) {L : Nat} (h : 0 < L) : sm L (restS w L) = w.sum := by
  unfold restS
  rw [sm_comm, sm_sum]
  apply sm_congr
  intro i hi
  have e : sm L (fun j => if i % L = j then w.getD i 0 else 0) = sm L (fun j => if j = i % L then w.getD i 0 else 0) := sm_congr fun j _ => by
    by_cases e : i % L = j
    · rw [if_pos e, if_pos e.symm]
    · rw [if_neg e, if_neg (fun z => e z.symm)]
  rw [e, sm_one, if_pos (Nat.mod_lt _ h)]
/-! ### slices with a step -/
theorem range_mod (L r : Nat) (hr : r < L) (n : Nat) : (List.range n).filter (fun i => decide (i % L = r)) = (List.range ((n + L - 1 - r) / L)).map fun k => r + L * k := by
  induction n with
  | zero =>
    have e : (0 + L - 1 - r) / L = 0 := Nat.div_eq_of_lt (by omega)
    rw [e]
    rfl
  | succ n ih =>
    rw [List.range_succ, List.filter_append, ih]
    have hL : 0 < L := by omega
    have dm := Nat.div_add_mod n L
    have ml := Nat.mod_lt n hL
    have c1 : (n + L - 1 - r) / L = if n % L ≤ r then n / L else n / L + 1 := by
      split
      · apply Nat.div_eq_of_lt_le
        · rw [Nat.mul_comm]; omega
        · rw [Nat.mul_comm, Nat.mul_add]; omega
      · apply Nat.div_eq_of_lt_le
        · rw [Nat.mul_comm, Nat.mul_add]; omega
        · rw [Nat.mul_comm, Nat.mul_add, Nat.mul_add]; omega
    have c2 : (n + 1 + L - 1 - r) / L = if n % L < r then n / L else n / L + 1 := by
      split
      · apply Nat.div_eq_of_lt_le
        · rw [Nat.mul_comm]; omega
        · rw [Nat.mul_comm, Nat.mul_add]; omega
      · apply Nat.div_eq_of_lt_le
        · rw [Nat.mul_comm, Nat.mul_add]; omega
        · rw [Nat.mul_comm, Nat.mul_add, Nat.mul_add]; omega
    rw [c1, c2]
    by_cases e : n % L = r
    · rw [if_pos (by omega), if_neg (by omega), List.range_succ, List.map_append]
      have e2 : [n].filter (fun i => decide (i % L = r)) = [n] := by simp [e]
      rw [e2]
      congr 1
      show [n] = [r + L * (n / L)]
      congr 1
      omega
    · have e2 : [n].filter (fun i => decide (i % L = r)) = [] := by simp [e]
      rw [e2, List.append_nil]
      by_cases h : n % L < r
      · rw [if_pos (by omega), if_pos h]
      · rw [if_neg (by omega), if_neg h]
theorem slice_step (n r L : Nat) (hr : r < L) : PySem.sliceRange (PySem.sliceBounds (some (r : Int)) none (some (L : Int)) n).1 (PySem.sliceBounds (some (r : Int)) none (some (L : Int)) n).2.1 (PySem.sliceBounds (some (r : Int)) none (some (L : Int)) n).2.2 = (List.range n).filter (fun i => decide (i % L = r)) := by
  have hL : (L : Int) > 0 := by omega
  have e : PySem.sliceBounds (some (r : Int)) none (some (L : Int)) n = (((min r n : Nat) : Int), (n : Int), (L : Int)) := by
    unfold PySem.sliceBounds
    simp only [Option.getD_some, if_pos hL]
    have h0 : ¬ ((r : Int) < 0) := by omega
    rw [if_neg h0]
    congr 1
    omega
  rw [e, range_mod L r hr]
  unfold PySem.sliceRange
  simp only [if_pos hL]
  by_cases h : r < n
  · have h1 : (((min r n : Nat) : Int)) < (n : Int) := by omega
    rw [if_pos h1]
    have e1 : (((n : Int) - ((min r n : Nat) : Int) + (L : Int) - 1) / (L : Int)).toNat = (n + L - 1 - r) / L := by
      have e2 : ((n : Int) - ((min r n : Nat) : Int) + (L : Int) - 1) = ((n + L - 1 - r : Nat) : Int) := by omega
      rw [e2, ← Int.natCast_ediv, Int.toNat_natCast]
    rw [e1]
    apply List.map_congr_left
    intro k _
    have e3 : ((min r n : Nat) : Int) = (r : Int) := by omega
    rw [e3, ← Int.natCast_mul, ← Int.natCast_add, Int.toNat_natCast]
  · have h1 : ¬ (((min r n : Nat) : Int)) < (n : Int) := by omega
    rw [if_neg h1]
    have e1 : (n + L - 1 - r) / L = 0 := Nat.div_eq_of_lt (by omega)
    rw [e1]
    rfl
theorem sum_filter (w : List Int) (p : Nat → Bool) : ∀ js : List Nat, (∀ j ∈ js, j < w.length) → ((js.filter p).filterMap (w[·]?)).sum = (js.map fun i => if p i = true then w.getD i 0 else 0).sum
  | [], _ => rfl
  | j :: js, h => by
    have ih := sum_filter w p js fun k hk => h k (List.mem_cons_of_mem _ hk)
    have hj := h j (List.mem_cons_self ..)
    rw [List.map_cons, List.sum_cons, ← ih]
    by_cases e : p j = true
    · rw [List.filter_cons_of_pos e, if_pos e, List.getD_eq_getElem?_getD]
      simp only [List.filterMap_cons, List.getElem?_eq_getElem hj]
      rw [List.sum_cons]
      rfl
    · rw [List.filter_cons_of_neg e, if_neg e]
      omega
theorem pick_sum (w : List Int) (r L : Nat) (hr : r < L) : (XR.pickV w (some (r : Int)) none (some (L : Int))).sum = restS w L r := by
  unfold XR.pickV
  rw [slice_step _ _ _ hr, sum_filter w _ _ fun j hj => List.mem_range.mp hj]
  unfold restS sm tab
  congr 1
  apply List.map_congr_left
  intro i _
  simp only [decide_eq_true_eq]
end Mth

namespace Mth
/-- the stretched window behind t turns -/
def stF (w : List Int) (k t : Nat) (j : Nat) : Int := if j % k = 0 ∧ j / k < t then w.getD (j / k) 0 else 0
def stretchL (w : List Int) (k : Nat) : List Int := tab ((w.length - 1) * k + 1) (stF w k w.length)
theorem stF_step (w : List Int) (k t : Nat) (hk : 0 < k) (j : Nat) : (if j = t * k then w.getD t 0 else stF w k t j) = stF w k (t + 1) j := by
  unfold stF
  by_cases e : j = t * k
  · subst e
    rw [if_pos rfl, Nat.mul_mod_left, Nat.mul_div_cancel _ hk, if_pos ⟨rfl, by omega⟩]
  · rw [if_neg e]
    by_cases h : j % k = 0
    · have e2 : j / k * k = j := Nat.div_mul_cancel (Nat.dvd_of_mod_eq_zero h)
      have e3 : j / k ≠ t := fun z => e (by rw [← z, e2])
      by_cases h2 : j / k < t
      · rw [if_pos ⟨h, h2⟩, if_pos ⟨h, by omega⟩]
      · rw [if_neg (fun z => h2 z.2), if_neg (fun z => by omega)]
    · rw [if_neg (fun z => h z.1), if_neg (fun z => h z.1)]
theorem stF_zero (w : List Int) (k j : Nat) : stF w k 0 j = 0 := by
  unfold stF
  rw [if_neg (fun z => absurd z.2 (Nat.not_lt_zero _))]
end Mth
namespace Mth
/-- even at L: all rest sums are alike -/
def evenB (w : List Int) (L : Nat) : Bool := decide (∀ r, r < L → restS w L r = restS w L 0)
theorem evenB_iff {w : List Int} {L : Nat} : evenB w L = true ↔ ∀ r, r < L → restS w L r = restS w L 0 := by
  unfold evenB
  exact decide_eq_true_iff
def hopsTo (w : List Int) (n : Nat) : List Nat := ((List.range n).map (· + 1)).filter (evenB w)
theorem hopsTo_succ (w : List Int) (n : Nat) : hopsTo w (n + 1) = if evenB w (n + 1) = true then hopsTo w n ++ [n + 1] else hopsTo w n := by
  unfold hopsTo
  rw [List.range_succ, List.map_append, List.filter_append]
  split
  · rename_i h
    simp [h]
  · rename_i h
    simp [h]
theorem hopsTo_len (w : List Int) (n : Nat) : (hopsTo w n).length ≤ n := by
  unfold hopsTo
  refine Nat.le_trans (List.length_filter_le _ _) ?_
  simp
end Mth
namespace Mth
/-! ### rest sums step by step -/
def restP (w : List Int) (L i r : Nat) : Int := sm i fun t => if t % L = r then w.getD t 0 else 0
theorem restP_all (w : List Int) (L r : Nat) : restP w L w.length r = restS w L r := rfl
theorem restP_step (w : List Int) (L i j : Nat) : (if j = i % L then restP w L i (i % L) + w.getD i 0 else restP w L i j) = restP w L (i + 1) j := by
  unfold restP
  rw [sm_succ]
  by_cases e : j = i % L
  · subst e
    rw [if_pos rfl, if_pos rfl]
  · rw [if_neg e, if_neg (fun z => e z.symm)]
    omega
/-! ### products -/
def coef (one two : List Int) (k : Nat) : Int := sm one.length fun i => sm two.length fun j => if i + j = k then one.getD i 0 * two.getD j 0 else 0
def coefP (one two : List Int) (i j k : Nat) : Int := sm i (fun i' => sm two.length fun j' => if i' + j' = k then one.getD i' 0 * two.getD j' 0 else 0) + sm j fun j' => if i + j' = k then one.getD i 0 * two.getD j' 0 else 0
def prodL (one two : List Int) : List Int := tab (one.length + two.length - 1) (coef one two)
theorem coefP_zero (one two : List Int) (k : Nat) : coefP one two 0 0 k = 0 := rfl
theorem coefP_row (one two : List Int) (i k : Nat) : coefP one two i two.length k = coefP one two (i + 1) 0 k := by
  unfold coefP
  rw [sm_succ, sm_zero]
  omega
theorem coefP_all (one two : List Int) (k : Nat) : coefP one two one.length 0 k = coef one two k := by
  unfold coefP coef
  rw [sm_zero]
  omega
theorem coefP_step (one two : List Int) (i j k : Nat) : (if k = i + j then coefP one two i j (i + j) + one.getD i 0 * two.getD j 0 else coefP one two i j k) = coefP one two i (j + 1) k := by
  unfold coefP
  rw [sm_succ]
  by_cases e : k = i + j
  · subst e
    rw [if_pos rfl, if_pos rfl]
    omega
  · rw [if_neg e, if_neg (fun z => e z.symm)]
    omega
theorem prodL_len (one two : List Int) : (prodL one two).length = one.length + two.length - 1 := tab_len _ _
end Mth
namespace Mth
/-! ### lists that are not all 0 -/
theorem any_iff {xs : List Int} : xs.any (· != 0) = true ↔ ∃ i, i < xs.length ∧ xs.getD i 0 ≠ 0 := by
  rw [List.any_eq_true]
  constructor
  · rintro ⟨x, hx, h⟩
    obtain ⟨i, hi, rfl⟩ := List.getElem_of_mem hx
    refine ⟨i, hi, ?_⟩
    rw [List.getD_eq_getElem?_getD, List.getElem?_eq_getElem hi]
    simpa using h
  · rintro ⟨i, hi, h⟩
    refine ⟨xs[i], List.getElem_mem hi, ?_⟩
    rw [List.getD_eq_getElem?_getD, List.getElem?_eq_getElem hi] at h
    simpa using h
theorem any_of_ne_rep {xs : List Int} (h : xs ≠ List.replicate xs.length 0) : xs.any (· != 0) = true := by
  cases e : xs.any (· != 0) with
  | true => rfl
  | false =>
    refine absurd ?_ h
    apply List.ext_getElem?
    intro i
    by_cases hi : i < xs.length
    · have h2 : ¬ xs.any (· != 0) = true := by rw [e]; exact Bool.false_ne_true
      rw [any_iff] at h2
      have h3 : xs.getD i 0 = 0 := by
        cases Classical.em (xs.getD i 0 = 0) with
        | inl z => exact z
        | inr z => exact absurd ⟨i, hi, z⟩ h2
      rw [List.getD_eq_getElem?_getD, List.getElem?_eq_getElem hi] at h3
      rw [List.getElem?_eq_getElem hi, List.getElem?_replicate, if_pos hi]
      exact congrArg some h3
    · rw [List.getElem?_eq_none (by omega), List.getElem?_eq_none (by simp; omega)]
theorem any_of_sum {xs : List Int} (h : xs.sum ≠ 0) : xs.any (· != 0) = true := by
  cases e : xs.any (· != 0) with
  | true => rfl
  | false =>
    refine absurd ?_ h
    rw [sm_sum]
    apply sm_const0
    intro i hi
    have h2 : ¬ xs.any (· != 0) = true := by rw [e]; exact Bool.false_ne_true
    rw [any_iff] at h2
    cases Classical.em (xs.getD i 0 = 0) with
    | inl z => exact z
    | inr z => exact absurd ⟨i, hi, z⟩ h2
/-- the first index that is not 0 -/
theorem first_ne {xs : List Int} (h : xs.any (· != 0) = true) : ∃ i, i < xs.length ∧ xs.getD i 0 ≠ 0 ∧ ∀ j, j < i → xs.getD j 0 = 0 := by
  obtain ⟨i, hi, hn⟩ := any_iff.mp h
  induction i using Nat.strongRecOn with
  | ind i ih =>
    cases Classical.em (∃ j, j < i ∧ xs.getD j 0 ≠ 0) with
    | inl z =>
      obtain ⟨j, hj, hj2⟩ := z
      exact ih j hj (by omega) hj2
    | inr z =>
      refine ⟨i, hi, hn, fun j hj => ?_⟩
      cases Classical.em (xs.getD j 0 = 0) with
      | inl z2 => exact z2
      | inr z2 => exact absurd ⟨j, hj, z2⟩ z
theorem sm_single {n p : Nat} {f : Nat → Int} (hp : p < n) (h : ∀ i, i < n → i ≠ p → f i = 0) : sm n f = f p := by
  have e : sm n f = sm n fun i => if i = p then f p else 0 := sm_congr fun i hi => by
    by_cases e : i = p
    · rw [if_pos e, e]
    · rw [if_neg e, h i hi e]
  rw [e, sm_one, if_pos hp]
/-- a product with a list whose first entry is not 0 -/
theorem prod_any {xs ys : List Int} (hx : xs.any (· != 0) = true) (hy : 1 ≤ ys.length) (h0 : ys.getD 0 0 ≠ 0) : (prodL xs ys).any (· != 0) = true := by
  obtain ⟨i, hi, hn, hz⟩ := first_ne hx
  rw [any_iff]
  refine ⟨i, by rw [prodL_len]; omega, ?_⟩
  have e : (prodL xs ys).getD i 0 = coef xs ys i := by
    unfold prodL
    rw [List.getD_eq_getElem?_getD, tab_get _ (by omega)]
    rfl
  rw [e]
  unfold coef
  rw [sm_single hi]
  · rw [sm_single (p := 0) (by omega)]
    · rw [if_pos (by omega)]
      exact Int.mul_ne_zero hn h0
    · intro j _ hj
      rw [if_neg (by omega)]
  · intro a _ ha
    apply sm_const0
    intro j _
    by_cases h : a + j = i
    · rw [if_pos h, hz a (by omega), Int.zero_mul]
    · rw [if_neg h]
theorem getD_set_self {xs : List Int} {d : Nat} (h : d < xs.length) (v : Int) : (xs.set d v).getD d 0 = v := by
  rw [List.getD_eq_getElem?_getD, List.getElem?_set_self h]
  rfl
/-! ### the greatest common divisor of a list, as the law reckons it -/
def gcdL : List Int → Nat := List.foldl (fun g x => Nat.gcd x.natAbs g) 0
end Mth

namespace Mth
/-! ### stretched windows: the mathematics -/
theorem bez : ∀ a b : Nat, ∃ x y : Int, (a : Int) * x + (b : Int) * y = (Nat.gcd a b : Int) := by
  intro a b
  induction a, b using Nat.gcd.induction with
  | H0 n => exact ⟨0, 1, by simp⟩
  | H1 m n hm ih =>
    obtain ⟨x, y, h⟩ := ih
    refine ⟨y - (n / m : Nat) * x, x, ?_⟩
    rw [Nat.gcd_rec m n, ← h]
    have e : (n : Int) = (m : Int) * ((n / m : Nat) : Int) + ((n % m : Nat) : Int) := by
      have := Nat.div_add_mod n m
      rw [← Int.natCast_mul, ← Int.natCast_add, this]
    rw [Int.mul_sub, ← Int.mul_assoc]
    conv => lhs; rw [e]
    rw [Int.add_mul]
    omega
/-- an inverse of k modulo L -/
theorem inv_of {L k : Nat} (h : Nat.gcd L k = 1) : ∃ c : Int, ∀ i : Int, (i * k * c) % (L : Int) = i % (L : Int) := by
  obtain ⟨x, y, e⟩ := bez L k
  rw [h] at e
  refine ⟨y, fun i => ?_⟩
  have e2 : i * k * y = i + (L : Int) * (-(i * x)) := by
    have : i * ((L : Int) * x + (k : Int) * y) = i * 1 := by rw [e]; rfl
    rw [Int.mul_add, Int.mul_one] at this
    rw [Int.mul_neg, Int.mul_assoc, Int.mul_left_comm (L : Int) i x]
    omega
  rw [e2, Int.add_mul_emod_self_left]
theorem mul_mod_iff {L k i r : Nat} (hL : 0 < L) (h : Nat.gcd L k = 1) (hr : r < L) : (i * k) % L = (r * k) % L ↔ i % L = r := by
  constructor
  · intro e
    obtain ⟨c, hc⟩ := inv_of h
    have e1 : ((i * k : Nat) : Int) % (L : Int) = ((r * k : Nat) : Int) % (L : Int) := by
      rw [← Int.natCast_emod, ← Int.natCast_emod, e]
    have e2 := hc i
    have e3 := hc r
    rw [Int.mul_emod] at e2 e3
    rw [← Int.natCast_mul] at e2 e3
    rw [e1, e3] at e2
    have e4 : ((i % L : Nat) : Int) = ((r % L : Nat) : Int) := by
      rw [Int.natCast_emod, Int.natCast_emod]
      exact e2.symm
    rw [Nat.mod_eq_of_lt hr] at e4
    omega
  · intro e
    rw [Nat.mul_mod i k L, Nat.mul_mod r k L, e, Nat.mod_eq_of_lt hr]
theorem mul_mod_onto {L k r : Nat} (hL : 0 < L) (h : Nat.gcd L k = 1) (hr : r < L) : ∃ s, s < L ∧ (s * k) % L = r := by
  obtain ⟨c, hc⟩ := inv_of h
  have hL' : (0 : Int) < (L : Int) := by omega
  have n0 := Int.emod_nonneg ((r : Int) * c) (show (L : Int) ≠ 0 by omega)
  have n1 := Int.emod_lt_of_pos ((r : Int) * c) hL'
  refine ⟨(((r : Int) * c) % (L : Int)).toNat, by omega, ?_⟩
  have e : ((((((r : Int) * c) % (L : Int)).toNat * k % L : Nat)) : Int) = (r : Int) := by
    rw [Int.natCast_emod, Int.natCast_mul, Int.toNat_of_nonneg n0, Int.mul_emod, Int.emod_emod, ← Int.mul_emod, Int.mul_assoc, Int.mul_comm c, ← Int.mul_assoc, hc r]
    exact Int.emod_eq_of_lt (by omega) (by omega)
  omega
/-- a sum over the stretched window is one over the window -/
theorem sm_stretch (w : List Int) (k m : Nat) (hk : 0 < k) (hm : w.length ≤ 0 ∨ (w.length - 1) * k < m) (G : Nat → Int → Int) (hG : ∀ j, G j 0 = 0) : sm m (fun j => G j (stF w k w.length j)) = sm w.length fun i => G (i * k) (w.getD i 0) := by
  have e1 : sm m (fun j => G j (stF w k w.length j)) = sm m fun j => sm w.length fun i => if i * k = j then G j (w.getD i 0) else 0 := sm_congr fun j _ => by
    unfold stF
    by_cases h : j % k = 0 ∧ j / k < w.length
    · rw [if_pos h, sm_single h.2]
      · rw [if_pos (Nat.div_mul_cancel (Nat.dvd_of_mod_eq_zero h.1))]
      · intro i _ hi
        rw [if_neg]
        intro z
        subst z
        exact hi (Nat.mul_div_cancel i hk).symm
    · rw [if_neg h, hG]
      refine (sm_const0 _ fun i hi => ?_).symm
      rw [if_neg]
      intro z
      subst z
      exact h ⟨Nat.mul_mod_left .., by rw [Nat.mul_div_cancel i hk]; exact hi⟩
  rw [e1, sm_comm]
  apply sm_congr
  intro i hi
  have hlt : i * k < m := by
    rcases hm with h | h
    · omega
    · exact Nat.lt_of_le_of_lt (Nat.mul_le_mul_right k (by omega)) h
  rw [sm_single hlt]
  · rw [if_pos rfl]
  · intro j _ hj
    rw [if_neg (fun z => hj z.symm)]
theorem stretchL_len (w : List Int) (k : Nat) : (stretchL w k).length = (w.length - 1) * k + 1 := tab_len _ _
theorem restS_stretch (w : List Int) (k L r : Nat) (hk : 0 < k) : restS (stretchL w k) L r = sm w.length fun i => if (i * k) % L = r then w.getD i 0 else 0 := by
  unfold restS
  rw [stretchL_len]
  have e : sm ((w.length - 1) * k + 1) (fun i => if i % L = r then (stretchL w k).getD i 0 else 0) = sm ((w.length - 1) * k + 1) (fun j => (fun j x => if j % L = r then x else 0) j (stF w k w.length j)) := sm_congr fun j hj => by
    unfold stretchL
    rw [List.getD_eq_getElem?_getD, tab_get _ hj]
    rfl
  rw [e, sm_stretch w k _ hk (.inr (by omega)) (fun j x => if j % L = r then x else 0) (fun j => by simp)]
/-- a stretched window is even at L exactly if L and k have no common divisor and the window is even at L -/
theorem stretch_even (w : List Int) (k L : Nat) (hk : 0 < k) (hL : 0 < L) (hs : w.sum ≠ 0) : evenB (stretchL w k) L = (decide (Nat.gcd L k = 1) && evenB w L) := by
  have tot : sm L (restS (stretchL w k) L) = w.sum := by
    have e : sm L (restS (stretchL w k) L) = sm L fun r => sm w.length fun i => if (i * k) % L = r then w.getD i 0 else 0 := sm_congr fun r _ => restS_stretch w k L r hk
    rw [e, sm_comm, sm_sum]
    apply sm_congr
    intro i _
    rw [sm_single (p := (i * k) % L) (Nat.mod_lt _ hL)]
    · rw [if_pos rfl]
    · intro r _ h
      rw [if_neg (fun z => h z.symm)]
  rw [Bool.eq_iff_iff, Bool.and_eq_true, decide_eq_true_iff, evenB_iff, evenB_iff]
  constructor
  · intro h
    have g1 : Nat.gcd L k = 1 := by
      cases Classical.em (Nat.gcd L k = 1) with
      | inl z => exact z
      | inr z =>
        have gp : 0 < Nat.gcd L k := Nat.gcd_pos_of_pos_left _ hL
        have g2 : 2 ≤ Nat.gcd L k := by omega
        have gL : Nat.gcd L k ≤ L := Nat.le_of_dvd hL (Nat.gcd_dvd_left ..)
        refine absurd ?_ hs
        rw [← tot]
        apply sm_const0
        intro r hr
        rw [h r hr, ← h 1 (by omega), restS_stretch w k L 1 hk]
        apply sm_const0
        intro i _
        rw [if_neg]
        intro e
        have d1 : Nat.gcd L k ∣ (i * k) % L := (Nat.dvd_mod_iff (Nat.gcd_dvd_left L k)).mpr (Nat.dvd_mul_left_of_dvd (Nat.gcd_dvd_right L k) i)
        rw [e] at d1
        have := Nat.le_of_dvd (by decide) d1
        omega
    refine ⟨g1, fun r hr => ?_⟩
    have e : ∀ r, r < L → restS w L r = restS (stretchL w k) L ((r * k) % L) := fun r hr => by
      rw [restS_stretch w k L _ hk]
      unfold restS
      apply sm_congr
      intro i _
      by_cases z : i % L = r
      · rw [if_pos z, if_pos ((mul_mod_iff hL g1 hr).mpr z)]
      · rw [if_neg z, if_neg (fun y => z ((mul_mod_iff hL g1 hr).mp y))]
    rw [e r hr, e 0 hL, h _ (Nat.mod_lt _ hL), h _ (Nat.mod_lt _ hL)]
  · rintro ⟨g1, h⟩ r hr
    have e : ∀ r, r < L → ∃ s, s < L ∧ restS (stretchL w k) L r = restS w L s := fun r hr => by
      obtain ⟨s, hs, es⟩ := mul_mod_onto hL g1 hr
      refine ⟨s, hs, ?_⟩
      rw [restS_stretch w k L _ hk, ← es]
      unfold restS
      apply sm_congr
      intro i _
      by_cases z : i % L = s
      · rw [if_pos z, if_pos ((mul_mod_iff hL g1 hs).mpr z)]
      · rw [if_neg z, if_neg (fun y => z ((mul_mod_iff hL g1 hs).mp y))]
    obtain ⟨s, h1, e1⟩ := e r hr
    obtain ⟨t, h2, e2⟩ := e 0 hL
    rw [e1, e2, h s h1, h t h2]
/-- its rest sums at k * l are those of the window at l, spread out -/
theorem stretch_rests (w : List Int) (k l j : Nat) (hk : 0 < k) (hl : 0 < l) (hj : j < k * l) : restS (stretchL w k) (k * l) j = stF (tab l (restS w l)) k l j := by
  rw [restS_stretch w k _ _ hk]
  unfold stF
  by_cases h : j % k = 0
  · have e2 : j / k * k = j := Nat.div_mul_cancel (Nat.dvd_of_mod_eq_zero h)
    have e3 : j / k < l := by
      rw [Nat.div_lt_iff_lt_mul hk, Nat.mul_comm]
      exact hj
    rw [if_pos ⟨h, e3⟩, List.getD_eq_getElem?_getD, tab_get _ e3]
    show _ = restS w l (j / k)
    unfold restS
    apply sm_congr
    intro i _
    rw [Nat.mul_comm i k, Nat.mul_mod_mul_left]
    by_cases z : i % l = j / k
    · rw [if_pos z, if_pos (by rw [z, Nat.mul_comm, e2])]
    · rw [if_neg z, if_neg]
      intro y
      apply z
      rw [← y, Nat.mul_div_cancel_left _ hk]
  · rw [if_neg (fun z => h z.1)]
    apply sm_const0
    intro i _
    rw [if_neg]
    intro z
    apply h
    rw [← z, Nat.mul_comm i k, Nat.mul_mod_mul_left, Nat.mul_mod_right]
theorem gcdL_two (L k : Nat) : gcdL [(L : Int), (k : Int)] = Nat.gcd L k := by
  show Nat.gcd (k : Int).natAbs (Nat.gcd (L : Int).natAbs 0) = Nat.gcd L k
  rw [Int.natAbs_natCast, Int.natAbs_natCast, Nat.gcd_zero_right, Nat.gcd_comm]
/-- all rest sums alike, as the law asks it -/
theorem even_rep (w : List Int) {L : Nat} (hL : 0 < L) : decide (tab L (restS w L) = List.replicate L (restS w L 0)) = evenB w L := by
  rw [Bool.eq_iff_iff, decide_eq_true_iff, evenB_iff, rep_tab]
  constructor
  · intro h r hr
    exact tab_inj h r hr
  · intro h
    exact tab_congr h
end Mth

/-! Defs that ask what is being written as a text further out (nothing: no object's text is under way), and repr of data. -/
namespace GL
open PySem PySem.Spec PyProof.Rows L2 XR
/-- a promise that is kept wherever no text is under way -/
structure FnG (P : Program) (w : World) (K : PySem.W.Frag) (mg : Str → Option Value) (base : Heap) (k : Nat) (f : Addr) (fd : FuncData) (ps : List Str) (sp : Sp) : Prop where
  many : ∀ {vs H Q E}, sp vs H Q E → vs.length = ps.length
  go : ∀ {A : Around} {outer : List Env} {s : Shared} {H : Hp} {args : Args} {us : List Value} {vs : List V} {Q : VK} {E : XK}, A.guards = some [] → Room k A → Env0 P w K mg base A outer s H →
    BindsTo s fd args (ps.zip us) → Vals vs us → sp vs H Q E → codeAny (model P w) A (.call (.ref f) args) (CR CX0 outer P w H s Q E) s
section
variable {P : Program} {w : World} {K : PySem.W.Frag} {mg : Str → Option Value} {base : Heap} {k : Nat} {f : Addr} {fd : FuncData} {ps : List Str} {sp : Sp}
theorem FnG.of (F : FnOk P w K mg base CX0 k f fd ps sp) : FnG P w K mg base k f fd ps sp := ⟨fun h => F.len _ _ _ _ h, fun _ r e b v h => F.run _ _ _ _ _ _ _ _ _ r e b v h⟩
theorem FnG.up {j : Nat} (F : FnG P w K mg base j f fd ps sp) (h : j ≤ k) : FnG P w K mg base k f fd ps sp := ⟨F.many, fun g r => F.go g (r.mono h)⟩
/-- what a body's end is to its caller -/
theorem end_of {N : List Str} {qual : Str} {scope : Scope} {cd : Value} {A : Around} {outer : List Env} {s s' : Shared} {H : Hp} {E : XK} {Q : VK} {fl : Flow}
    (h : SP (cxOf CX0 P w K mg base N qual scope f cd A outer s H E) [] { nx := fun _ H' => Q .non H', rt := Q } fl s') : ∃ u, (fl = .ret u ∨ (fl = .next ∧ u = .none)) ∧ CE outer P w H s Q u s' := by
  cases fl with
  | brk => obtain ⟨_, _, _, z⟩ := h; exact z.elim
  | cont => obtain ⟨_, _, _, z⟩ := h; exact z.elim
  | next => obtain ⟨_, H', J, q⟩ := h; exact ⟨.none, .inr ⟨rfl, rfl⟩, .non, H', J.os, J.bare, J.base, J.hok, rfl, q⟩
  | ret u => obtain ⟨v, _, H', J, r, q⟩ := h; exact ⟨u, .inl rfl, v, H', J.os, J.bare, J.base, J.hok, r, q⟩
/-- a def's promise from its body, no text under way -/
theorem fnG {x qual : Str} {st : Stmt} {N : List Str} (D : Fun K x qual st f fd) (S : FnScope N ps (defScope st)) (many : ∀ {vs H Q E}, sp vs H Q E → vs.length = ps.length)
    (body : ∀ {cd : Value} {A : Around} {outer : List Env} {s : Shared} {H : Hp} {vs : List V} {Q : VK} {E : XK}, A.guards = some [] → Room k (A.deeper (envOfC qual (defScope st) s.heap.objs.size f cd)) → sp vs H Q E →
      ∃ t, PSs (cxOf CX0 P w K mg base N qual (defScope st) f cd A outer s H E).nox (defBody st) t ∧ t { nx := fun _ H' => Q .non H', rt := Q } (start N vs) H) : FnG P w K mg base (k + 1) f fd ps sp := by
  refine ⟨many, fun {A outer s H args us vs Q E} hg hr env bind vals h => ?_⟩
  obtain ⟨oc, od, kV, doc, pm, an, cd, ct, osl, rfl, look, code⟩ := D.ex
  have inK : K.In s.heap := env.mod.kin.keeps fun _ _ e => (env.bs _ _ e).1
  have noLim : s.heap.NoLimit := env.mod.nolimit.keeps fun _ _ e => (env.bs _ _ e).1
  have kinds : ∀ y ∈ ps.zip us, (defScope st).names.lookup y.1 = some .local ∨ ((defScope st).names.lookup y.1 = some .cell ∧ ((cellsFrom (s.heap.objs.size + 1) (defScope st).names []).lookup y.1).isSome = true) := by
    rintro ⟨n, v⟩ hy
    cases S.par n (List.of_mem_zip hy).1 with
    | inl q => exact .inl q
    | inr q => exact .inr ⟨q, PySem.W.cellsFrom_some _ _ _ (.inl q)⟩
  refine codeAny_call_function hr.depth (inK _ _ look) rfl S.co S.gen rfl (PySem.W.codeRec_of inK code) (bind _ _ _ _ ?_)
  refine wpAny_newFunctionEnv_cells S.kind kinds fun env' same s1 calls => ?_
  subst same
  refine ⟨noLim.keeps calls.toInCall.keep, codeAny_func ?_⟩
  obtain ⟨t, dt, rt⟩ := body hg (hr.deeper _) h
  refine wpAny_mono (dt.nox.run [] s1 (start N vs) H _ (inv_start S hr.hd env (many h) vals calls) rt) (fun fl s' e => ?_) fun _ _ z => z
  obtain ⟨u, e1, e2⟩ := end_of e
  rcases e1 with rfl | ⟨rfl, rfl⟩
  · exact e2
  · exact e2
end
section
variable {X : Cx} {k : Nat} {f : Addr} {fd : FuncData} {ps : List Str} {sp : Sp} {x : Str} {p pos : Pos} {e : Expr} {es : List Expr} {t : TA}
/-- f(e, ..), every parameter given -/
theorem pe_callG (F : FnG X.prog X.w X.K X.mg X.base k f fd ps sp) (hgd : X.A.guards = some []) (hr : Room k X.A) (hg : Gl X x) (hm : X.mg x = some (.ref f)) (hk : PySem.W.keepIn X.K (.ref f) = true) (hb : Binds X.K fd ps []) (ha : PA X (e :: es) t)
    (hdb : (x == ("__debug__" : Str)) = false := by decide) (he : starEach (e :: es) X.env = (false, eval e X.env) :: starEach es X.env := by rfl) (hpl : (backTo pos (starEach es X.env)).any (·.1) = false := by rfl) : PE X (.Call (.Name x p) (e :: es) [] pos) (tCall sp [] E0 t) := by
  constructor
  intro pins s σ H Q I h
  refine wpAny_Call_Name_kw (ld_glob I hg hm (PySem.W.callWith_K (h₀ := X.base) I.ok.mod.kin hk (thn (ha.run pos pins s σ H _ I h) fun us s1 got => ?_) he hpl) hdb)
  obtain ⟨vs, H1, J, r, q⟩ := got
  rw [List.append_nil] at q
  refine ⟨J.kIn, wpAny_call (codeAny_mono (F.go hgd hr J.env0 ?_ r q) fun res s' z => ?_)⟩
  · have := hb s1 us J.kIn (by rw [List.append_nil, ← r.length]; exact F.many q)
    rw [List.append_nil] at this
    exact this
  · match res, z with
    | .ok (.ret u), z => exact J.after z
    | .ok .next, z => exact z.elim
    | .ok .brk, z => exact z.elim
    | .ok .cont, z => exact z.elim
    | .error _, z => exact z.elim
/-- repr of data that stand tracked, locked or written; no text under way -/
def rRepr (K : PySem.W.Frag) : List V → Hp → VK → Prop := fun xs H Q => ∃ (a : Addr) (d : PyData), xs = [.ref a] ∧ Dp K H (.ref a) d ∧ d.showable = true ∧ d.hasDict = false ∧ d.depth ≤ 20 ∧ d.shown.length ≤ sizeLine ∧ Q (.str d.shown) H
theorem call_reprD (hgd : X.A.guards = some []) (hr : Room k X.A) : CallR X (.builtin "repr") (rRepr X.K) := by
  intro pins s σ H xs us Q I r h
  obtain ⟨a, d, rfl, hd, h1, h2, h3, h4, q⟩ := h
  rw [Vals.ref1 r]
  obtain ⟨as, hR⟩ := Dp.reads I d _ _ hd (show RelV (.ref a) (.ref a) from rfl)
  have hu := hr.units
  exact repr_of_reads' hR h1 (PyData.noDict_hsm h2) hgd (by omega) (fun b o e => e) (fun h' u tk keep => ⟨.str d.shown, H, I.kept (t' := tk) keep, ⟨u, rfl⟩, q⟩) h4
end
section
variable {P : Program} {w : World} {K : PySem.W.Frag} {mg mb : Str → Option Value} {k : Nat} {fa a : Addr} {fd : FuncData} {x : Str} {sp : Sp} {s₁ : Shared} {vs : List Value} {ns : List Int}
/-- the answer that is wanted of a law's call -/
abbrev LawEnd (s₁ : Shared) (r : Result) (s' : Shared) : Prop := r = .ok (.ret (.bool true)) ∧ OldK s₁.heap s'.heap ∧ s'.os = s₁.os ∧ AllBare s'.gens
/-- from a heap in which the script alone may be tracked -/
theorem law_from (H : Hp) (alone : ∀ b, H b ≠ none → b = a ∧ K.lookup a = none) (only : Only H) (ok : HOk P w H s₁.heap) (seq : SqL K H a (ns.map V.int))
    (KX : K.In s₁.heap) (hns : s₁.heap.Ns mainGlobals mg) (hb : s₁.heap.Ns builtinsNs mb) (hbb : ∀ x : Str, x ≠ "__name__" → mb x = bootBuiltins x) (lim : s₁.heap.NoLimit) (gens : s₁.gens = #[])
    (ha : s₁.heap.get? a = some { cls := .type "list", data := .seq vs.toArray }) (room : Room k callerA)
    (F : ∀ base : Heap, K.In base → base.Ns mainGlobals mg → FnG P w K mg base k fa fd [x] sp) (bind : ∀ (s : Shared) (u : Value), BindsTo s fd ⟨[u], []⟩ [(x, u)])
    (hsp : ∀ H : Hp, Only H → SqL K H a (ns.map V.int) → sp [.ref a] H (fun v _ => v = .bl true) fun _ _ _ => False) :
    codeAny (model P w) callerA (.call (.ref fa) ⟨[.ref a], []⟩) (LawEnd s₁) s₁ := by
  have hid : ∀ {b : Addr} {o : Obj}, s₁.heap.get? b = some o → (b = a → K.lookup a = none → False) → (hidT s₁.heap H).get? b = some o := by
    intro b o e n
    refine hidT_get e ?_
    cases q : H b with
    | none => rfl
    | some u =>
      obtain ⟨z1, z2⟩ := alone b (by rw [q]; exact Option.some_ne_none u)
      exact (n z1 z2).elim
  have dicts : ∀ {b : Addr} {m : Str → Option Value}, s₁.heap.Ns b m → (hidT s₁.heap H).Ns b m := by
    rintro b m ⟨o, es, ep, e, d, r⟩
    refine ⟨o, es, ep, hid e (fun z _ => ?_), d, r⟩
    rw [z, ha] at e
    have e' := Option.some.inj e
    rw [← e'] at d
    cases (show Data.seq vs.toArray _ = Data.dict es ep from d)
  have inB : K.In (hidT s₁.heap H) := by
    intro b o e
    refine hid (KX b o e) fun z1 z2 => ?_
    rw [z1, z2] at e
    cases e
  have env : Env0 P w K mg (hidT s₁.heap H) callerA [] s₁ H :=
    { frames := rfl, mod := ⟨inB, dicts hns, ⟨mb, dicts hb, hbb⟩, by obtain ⟨mc, m1, m2⟩ := lim; exact ⟨mc, dicts m1, m2⟩⟩,
      bs := fun b o e => of_hidT e, bsz := Nat.le_of_eq (hidT_size _ _), funs := trivial, frf := fun b z => (by cases z), hok := ok, bare := .of_eq gens }
  refine codeAny_mono ((F _ inB (dicts hns)).go (us := [.ref a]) (vs := [.ref a]) (Q := fun v _ => v = .bl true) (E := fun _ _ _ => False) rfl room env (bind s₁ (.ref a)) (.cons rfl .nil) (hsp H only seq)) fun r s' got => ?_
  match r, got with
  | .error _, z => exact z.elim
  | .ok .next, z => exact z.elim
  | .ok .brk, z => exact z.elim
  | .ok .cont, z => exact z.elim
  | .ok (.ret u), ⟨v, H', os, bare, un, ok', rel, q⟩ =>
    have q' : v = .bl true := q
    subst q'
    have eu : u = .bool true := rel
    subst eu
    refine ⟨rfl, OldK.of_keep fun b o e => ?_, os, bare⟩
    rcases only b with z | ⟨ob, xs, z⟩
    · exact un.keep b o e z (by intro m; cases m) (by simp)
    · have e1 := (ok b _ z).1
      have e2 := (ok' b _ (un.frzs b ob _ z)).1
      rw [e] at e1
      rw [Option.some.inj e1]
      exact e2
/-- the law's call, from its promise -/
theorem law_callG (KX : K.In s₁.heap) (hns : s₁.heap.Ns mainGlobals mg) (hb : s₁.heap.Ns builtinsNs mb) (hbb : ∀ x : Str, x ≠ "__name__" → mb x = bootBuiltins x) (lim : s₁.heap.NoLimit) (gens : s₁.gens = #[])
    (ha : s₁.heap.get? a = some { cls := .type "list", data := .seq vs.toArray }) (hi : IntsAre vs ns) (len : ns.length ≤ sizeLine) (room : Room k callerA)
    (F : ∀ base : Heap, K.In base → base.Ns mainGlobals mg → FnG P w K mg base k fa fd [x] sp) (bind : ∀ (s : Shared) (u : Value), BindsTo s fd ⟨[u], []⟩ [(x, u)])
    (hsp : ∀ H : Hp, Only H → SqL K H a (ns.map V.int) → sp [.ref a] H (fun v _ => v = .bl true) fun _ _ _ => False) :
    codeAny (model P w) callerA (.call (.ref fa) ⟨[.ref a], []⟩) (LawEnd s₁) s₁ := by
  have rel := vals_ints hi
  cases look : K.lookup a with
  | some o =>
    have e := (KX a o look).symm.trans ha
    have e' := Option.some.inj e
    subst e'
    exact law_from (fun _ => none) (fun b z => absurd rfl z) (fun _ => .inl rfl) (fun b u z => by cases (show (none : Option HO) = some u from z))
      (.inr ⟨_, vs.toArray, _, look, rfl, rfl, rfl, by rw [List.size_toArray, hi.length]; exact len, by simpa using rel⟩) KX hns hb hbb lim gens ha room F bind hsp
  | none =>
    have at_ : ∀ b, b ≠ a → (fun b => if b = a then some (HO.frz { cls := .type "list", data := .seq vs.toArray } (.lst (ns.map V.int))) else none) b = none := fun b n => if_neg n
    refine law_from (fun b => if b = a then some (HO.frz { cls := .type "list", data := .seq vs.toArray } (.lst (ns.map V.int))) else none) (fun b z => ?_) (fun b => ?_) (fun b u z => ?_) (.inl (.inr ⟨_, if_pos rfl⟩)) KX hns hb hbb lim gens ha room F bind hsp
    · cases Classical.em (b = a) with
      | inl e => exact ⟨e, look⟩
      | inr n => exact absurd (at_ b n) z
    · cases Classical.em (b = a) with
      | inl e => exact .inr ⟨_, _, if_pos e⟩
      | inr n => exact .inl (at_ b n)
    · cases Classical.em (b = a) with
      | inl e =>
        subst e
        have z' := (if_pos rfl).symm.trans z
        rw [← Option.some.inj z']
        exact ⟨ha, by rw [List.length_map]; exact len, vs, _, rel, ha⟩
      | inr n =>
        have z' := (at_ b n).symm.trans z
        cases z'
end
/-- what k_head leaves, from the law's promise -/
theorem walkG {l : PySem.W.OpenLaw} {n k : Nat} {q : Program} {loose : List Str} {XP : (Str → Option Value) → Heap → Prop} {YP : World → Heap → Prop} {d : DefRec} {K : Params → PySem.W.Frag} {sp : World → Sp} {x : Str}
    (hn : l.most = some n) (hn2 : n ≤ sizeLine) (hdf : d.params.defaults = []) (room : Room k callerA) (hY : ∀ (w : World) (h : Heap), YP w h → (K w.params).In h)
    (F : ∀ (w : World) (mg : Str → Option Value) (fa : Addr) (h : Heap), (K w.params).In h → h.Ns mainGlobals mg → mg d.name = some (.ref fa) →
      ∃ fd : FuncData, (∀ (s : Shared) (u : Value), BindsTo s fd ⟨[u], []⟩ [(x, u)]) ∧ ∀ base : Heap, (K w.params).In base → base.Ns mainGlobals mg → FnG l.prog w (K w.params) mg base k fa fd [x] (sp w))
    (hsp : ∀ (w : World) (H : Hp) (a : Addr) (ns : List Int), ns.length ≤ n → Only H → SqL (K w.params) H a (ns.map V.int) → sp w [.ref a] H (fun v _ => v = .bl true) fun _ _ _ => False) :
    PySem.W.WalkO q loose XP YP l.row.toRowW d [] (fun f vs => PySem.call f vs) := by
  refine Att.attach_call hn hdf fun w s₀ s₁ mg mb fa o pm cd doc a vs ns G Y ho hd hcd hmg hobj hints hlen hg => ?_
  obtain ⟨fd, bind, FF⟩ := F w mg fa _ (hY w _ Y) G.T.g hmg
  exact law_callG (hY w _ Y) G.T.g G.T.b G.T.builtins G.T.nolimit hg hobj hints (Nat.le_trans hlen hn2) room FF bind fun H h1 h2 => hsp w H a ns hlen h1 h2
end GL

/-! How long a text of nested lists of ints is. -/
namespace GL
open PySem PySem.Spec PyProof.Rows L2 XR
/-- data whose text can be written: at most m signs, at most e deep -/
structure Sh (d : PyData) (m e : Nat) : Prop where
  yes : d.showable = true
  plain : d.hasDict = false
  deep : d.depth ≤ e
  len : d.shown.length ≤ m
theorem Sh.int {i : Int} {k : Nat} (h : i.natAbs < 2 ^ k) (h0 : 0 < k) (h1 : k ≤ 1900) : Sh (.int i) (k + 1) 0 := by
  have l : i.natAbs.log2 < k := PySem.Flt.log2_lt_of h0 h
  refine ⟨?_, ?_, ?_, ?_⟩
  · simp only [PyData.showable, decide_eq_true_eq]
    omega
  · simp only [PyData.hasDict]
  · simp only [PyData.depth, Nat.le_refl]
  · have e := int_text_length_le h0 l
    simp only [PyData.shown]
    rw [← PySem.ofString_length] at e
    exact e
theorem Sh.non : Sh .none 4 0 := ⟨by simp only [PyData.showable], by simp only [PyData.hasDict], by simp only [PyData.depth, Nat.le_refl], by decide⟩
theorem Sh.mono {d : PyData} {m e m' e' : Nat} (h : Sh d m e) (l : m ≤ m') (l2 : e ≤ e') : Sh d m' e' := ⟨h.yes, h.plain, Nat.le_trans h.deep l2, Nat.le_trans h.len l⟩
theorem sh_all {m e : Nat} : ∀ {ds : List PyData}, (∀ d ∈ ds, Sh d m e) → PyData.showableAll ds = true ∧ PyData.hasDictAll ds = false ∧ PyData.depthAll ds ≤ e ∧ ((PyData.shownAll ds).map (·.length)).sum ≤ ds.length * m ∧ (PyData.shownAll ds).length = ds.length
  | [], _ => by simp [PyData.showableAll, PyData.hasDictAll, PyData.depthAll, PyData.shownAll]
  | d :: ds, h => by
    obtain ⟨a1, a2, a3, a4, a5⟩ := sh_all fun x hx => h x (List.mem_cons_of_mem _ hx)
    have b := h d (List.mem_cons_self ..)
    refine ⟨?_, ?_, ?_, ?_, ?_⟩
    · simp only [PyData.showableAll, b.yes, a1, Bool.and_self]
    · simp only [PyData.hasDictAll, b.plain, a2, Bool.or_self]
    · simp only [PyData.depthAll]
      exact Nat.max_le.mpr ⟨b.deep, a3⟩
    · simp only [PyData.shownAll, List.map_cons, List.sum_cons, List.length_cons, Nat.add_mul, Nat.one_mul]
      have := b.len
      omega
    · simp only [PyData.shownAll, List.length_cons, a5]
theorem Sh.list {ds : List PyData} {m e : Nat} (h : ∀ d ∈ ds, Sh d m e) : Sh (.list ds) (ds.length * m + 2 * ds.length + 3) (e + 1) := by
  obtain ⟨a1, a2, a3, a4, a5⟩ := sh_all h
  refine ⟨?_, ?_, ?_, ?_⟩
  · simp only [PyData.showable, a1]
  · simp only [PyData.hasDict, a2]
  · simp only [PyData.depth]
    omega
  · simp only [PyData.shown]
    have := listText_len_le (PyData.shownAll ds)
    omega
/-- a list of ints as data -/
def dI (ns : List Int) : PyData := .list (ns.map PyData.int)
theorem dp_dI {K : PySem.W.Frag} {H : Hp} {a : Addr} {ns : List Int} (h : SqL K H a (ns.map V.int)) : Dp K H (.ref a) (dI ns) := .lst h (dpAll_ints K H ns)
theorem Sh.ints {ns : List Int} {k n : Nat} (h : ∀ x ∈ ns, x.natAbs < 2 ^ k) (h0 : 0 < k) (h1 : k ≤ 1900) (hn : ns.length ≤ n) : Sh (dI ns) (n * (k + 3) + 3) 1 := by
  have s := Sh.list (ds := ns.map PyData.int) (m := k + 1) (e := 0) fun d hd => by
    obtain ⟨x, hx, rfl⟩ := List.mem_map.mp hd
    exact Sh.int (h x hx) h0 h1
  refine s.mono ?_ (Nat.le_refl _)
  rw [List.length_map]
  have : ns.length * (k + 3) ≤ n * (k + 3) := Nat.mul_le_mul_right _ hn
  have e : ns.length * (k + 3) = ns.length * (k + 1) + 2 * ns.length := by
    rw [show k + 3 = (k + 1) + 2 by omega, Nat.mul_add]
    omega
  omega
theorem Sh.fit {d : PyData} {e : Nat} (s : Sh d 16000000 e) : d.shown.length ≤ sizeLine := by
  rw [sizeLine_eq]
  have := s.len
  omega
/-- what repr's rule asks -/
theorem Sh.rep {K : PySem.W.Frag} {H : Hp} {a : Addr} {d : PyData} {m e : Nat} {Q : VK} (s : Sh d m e) (hd : Dp K H (.ref a) d) (hm : m ≤ 16000000) (he : e ≤ 20) (q : Q (.str d.shown) H) : rRepr K [.ref a] H Q :=
  ⟨a, d, rfl, hd, s.yes, s.plain, Nat.le_trans s.deep he, by rw [sizeLine_eq]; have := s.len; omega, q⟩
end GL
namespace GL
open PySem PySem.Spec PyProof.Rows L2 XR
theorem Sh.bool (b : Bool) : Sh (.bool b) 5 0 := ⟨by simp only [PyData.showable], by simp only [PyData.hasDict], by simp only [PyData.depth, Nat.le_refl], by cases b <;> decide⟩
theorem Sh.tuple {ds : List PyData} {m e : Nat} (h : ∀ d ∈ ds, Sh d m e) : Sh (.tuple ds) (ds.length * m + 2 * ds.length + 3) (e + 1) := by
  obtain ⟨a1, a2, a3, a4, a5⟩ := sh_all h
  refine ⟨?_, ?_, ?_, ?_⟩
  · simp only [PyData.showable, a1]
  · simp only [PyData.hasDict, a2]
  · simp only [PyData.depth]
    omega
  · simp only [PyData.shown]
    have := tupleText_len_le (PyData.shownAll ds)
    omega
end GL

namespace Mth
theorem coef_comm (a b : List Int) (k : Nat) : coef a b k = coef b a k := by
  unfold coef
  rw [sm_comm]
  apply sm_congr
  intro j _
  apply sm_congr
  intro i _
  rw [Nat.add_comm i j, Int.mul_comm]
theorem prodL_comm (a b : List Int) : prodL a b = prodL b a := by
  unfold prodL
  rw [Nat.add_comm a.length]
  exact tab_congr fun k _ => coef_comm a b k
theorem mem_tab {α : Type} {m : Nat} {f : Nat → α} {x : α} (h : x ∈ tab m f) : ∃ i, i < m ∧ x = f i := by
  unfold tab at h
  obtain ⟨i, hi, rfl⟩ := List.mem_map.mp h
  exact ⟨i, List.mem_range.mp hi, rfl⟩
theorem sm_le {n M : Nat} {f : Nat → Int} (h : ∀ i, i < n → (f i).natAbs ≤ M) : (sm n f).natAbs ≤ n * M := by
  induction n with
  | zero => exact Nat.zero_le _
  | succ n ih =>
    have h1 := ih fun i hi => h i (by omega)
    have h2 := h n (by omega)
    rw [sm_succ, Nat.add_mul, Nat.one_mul]
    omega
theorem getD_le {xs : List Int} {M : Nat} (h : ∀ x ∈ xs, x.natAbs ≤ M) (i : Nat) : (xs.getD i 0).natAbs ≤ M := by
  rw [List.getD_eq_getElem?_getD]
  cases e : xs[i]? with
  | none => exact Nat.zero_le _
  | some x => exact h x (List.mem_of_getElem? e)
theorem prod_le {a b : List Int} {M N : Nat} (ha : ∀ x ∈ a, x.natAbs ≤ M) (hb : ∀ x ∈ b, x.natAbs ≤ N) : ∀ x ∈ prodL a b, x.natAbs ≤ a.length * (b.length * (M * N)) := by
  intro x hx
  obtain ⟨k, _, rfl⟩ := mem_tab hx
  unfold coef
  apply sm_le
  intro i _
  apply sm_le
  intro j _
  split
  · rw [Int.natAbs_mul]
    exact Nat.mul_le_mul (getD_le ha i) (getD_le hb j)
  · exact Nat.zero_le _
theorem stretch_le {a : List Int} {M k : Nat} (ha : ∀ x ∈ a, x.natAbs ≤ M) : ∀ x ∈ stretchL a k, x.natAbs ≤ M := by
  intro x hx
  obtain ⟨j, _, rfl⟩ := mem_tab hx
  unfold stF
  split
  · exact getD_le ha _
  · exact Nat.zero_le _
theorem sum_le {a : List Int} {M : Nat} (ha : ∀ x ∈ a, x.natAbs ≤ M) : a.sum.natAbs ≤ a.length * M := by
  rw [sm_sum]
  exact sm_le fun i _ => getD_le ha i
theorem stretch_one {a : List Int} (h : 1 ≤ a.length) : stretchL a 1 = a := by
  unfold stretchL
  have e : (a.length - 1) * 1 + 1 = a.length := by omega
  rw [e]
  conv => rhs; rw [tab_self a 0]
  apply tab_congr
  intro j hj
  unfold stF
  rw [Nat.mod_one, Nat.div_one, if_pos ⟨rfl, hj⟩]
theorem cut_last (l : List L2.V) (x : L2.V) : L2.cutV (l ++ [x]) none (some (-1)) = l := by
  unfold L2.cutV
  rw [HT.sIx_none]
  have e : HT.sIx (l ++ [x]).length (l ++ [x]).length (some (-1)) = l.length := by
    rw [List.length_append]
    show HT.sIx (l.length + 1) (l.length + 1) (some (-1)) = l.length
    unfold HT.sIx
    simp
    omega
  rw [e]
  simp
end Mth
namespace GL
open PySem PySem.Spec PyProof.Rows L2 XR
theorem canLay_dI (ns : List Int) : (dI ns).canLay0 = true := by
  unfold dI
  simp only [PyData.canLay0]
  exact PySem.W.canLayAll0_ints ns
theorem depth_dI (ns : List Int) : (dI ns).depth ≤ 2 := by
  have := PySem.W.depthAll_ints ns
  unfold dI
  simp only [PyData.depth]
  omega
/-- lists of lists of ints -/
theorem shaped_ll {ls : List (List Int)} : SeqAt.shaped (.list (ls.map dI)) = true := by
  have c : ∀ ls : List (List Int), PyData.canLayAll0 (ls.map dI) = true := by
    intro ls
    induction ls with
    | nil => simp [PyData.canLayAll0]
    | cons l ls ih => simp [PyData.canLayAll0, canLay_dI, ih]
  have d : ∀ ls : List (List Int), PyData.depthAll (ls.map dI) ≤ 2 := by
    intro ls
    induction ls with
    | nil => simp [PyData.depthAll]
    | cons l ls ih =>
      have := depth_dI l
      simp only [List.map_cons, PyData.depthAll]
      omega
  have d2 := d ls
  show (PyData.canLay0 (.list (ls.map dI)) && decide (PyData.depth (.list (ls.map dI)) ≤ 64)) = true
  rw [Bool.and_eq_true]
  refine ⟨by simp only [PyData.canLay0]; exact c ls, decide_eq_true ?_⟩
  simp only [PyData.depth]
  omega
theorem eqv_dI (a b : List Int) : PyData.eqv (dI a) (dI b) = decide (a = b) := by
  unfold dI
  simp only [PyData.eqv]
  exact eqv_ints a b
theorem eqv_ll : ∀ as bs : List (List Int), PyData.eqvAll (as.map dI) (bs.map dI) = decide (as = bs)
  | [], [] => by simp [PyData.eqvAll]
  | [], _ :: _ => by simp [PyData.eqvAll]
  | _ :: _, [] => by simp [PyData.eqvAll]
  | a :: as, b :: bs => by
    have ih := eqv_ll as bs
    simp only [List.map_cons, PyData.eqvAll, eqv_dI, ih]
    by_cases e : a = b
    · subst e
      simp
    · simp [e]
/-- the items of a list of references to lists of ints -/
inductive Refs (K : PySem.W.Frag) (H : Hp) : List V → List (List Int) → Prop
  | nil : Refs K H [] []
  | cons {p : Addr} {ns : List Int} {vs : List V} {ls : List (List Int)} : SqL K H p (ns.map V.int) → Refs K H vs ls → Refs K H (.ref p :: vs) (ns :: ls)
theorem Refs.dp {K : PySem.W.Frag} {H : Hp} : ∀ {vs : List V} {ls : List (List Int)}, Refs K H vs ls → DpAll K H vs (ls.map dI)
  | _, _, .nil => .nil
  | _, _, .cons h t => .cons (dp_dI h) t.dp
def dLL (ls : List (List Int)) : PyData := .list (ls.map dI)
theorem dp_ll {K : PySem.W.Frag} {H : Hp} {a : Addr} {vs : List V} {ls : List (List Int)} (h : SqL K H a vs) (r : Refs K H vs ls) : Dp K H (.ref a) (dLL ls) := .lst h r.dp
theorem Sh.lls {ls : List (List Int)} {k n : Nat} (h : ∀ l ∈ ls, l.length ≤ n ∧ ∀ x ∈ l, x.natAbs < 2 ^ k) (h0 : 0 < k) (h1 : k ≤ 1900) : Sh (dLL ls) (ls.length * (n * (k + 3) + 5) + 3) 2 := by
  have s := Sh.list (ds := ls.map dI) (m := n * (k + 3) + 3) (e := 1) fun d hd => by
    obtain ⟨l, hl, rfl⟩ := List.mem_map.mp hd
    exact Sh.ints (h l hl).2 h0 h1 (h l hl).1
  refine s.mono ?_ (Nat.le_refl _)
  rw [List.length_map]
  have e : ls.length * (n * (k + 3) + 5) = ls.length * (n * (k + 3) + 3) + 2 * ls.length := by
    rw [show n * (k + 3) + 5 = (n * (k + 3) + 3) + 2 by omega, Nat.mul_add]
    omega
  omega
/-- == and != of lists of lists of ints -/
def rEqLL (K : PySem.W.Frag) : R2 := fun x y H Q => ∃ (a b : Addr) (vs ws : List V) (as bs : List (List Int)), x = .ref a ∧ y = .ref b ∧ SqL K H a vs ∧ SqL K H b ws ∧ Refs K H vs as ∧ Refs K H ws bs ∧ Q (.bl (decide (as = bs))) H
def rNeLL (K : PySem.W.Frag) : R2 := fun x y H Q => ∃ (a b : Addr) (vs ws : List V) (as bs : List (List Int)), x = .ref a ∧ y = .ref b ∧ SqL K H a vs ∧ SqL K H b ws ∧ Refs K H vs as ∧ Refs K H ws bs ∧ Q (.bl (!decide (as = bs))) H
theorem op_eqLL {X : Cx} (hu : X.A.units + 64 < cLine) : OpR X (compareOp .Eq) (rEqLL X.K) := by
  intro pins s σ H x y v u Q I rx ry h
  obtain ⟨a, b, vs, ws, as, bs, rfl, rfl, h1, h2, r1, r2, q⟩ := h
  refine op_eqD hu pins s σ H _ _ v u Q I rx ry ⟨_, _, dp_ll h1 r1, dp_ll h2 r2, shaped_ll, shaped_ll, ?_⟩
  show Q (.bl (PyData.eqvAll (as.map dI) (bs.map dI))) H
  rw [eqv_ll]
  exact q
theorem op_neLL {X : Cx} (hu : X.A.units + 64 < cLine) : OpR X (compareOp .NotEq) (rNeLL X.K) := by
  intro pins s σ H x y v u Q I rx ry h
  obtain ⟨a, b, vs, ws, as, bs, rfl, rfl, h1, h2, r1, r2, q⟩ := h
  refine op_neD hu pins s σ H _ _ v u Q I rx ry ⟨_, _, dp_ll h1 r1, dp_ll h2 r2, shaped_ll, shaped_ll, ?_⟩
  show Q (.bl (!PyData.eqvAll (as.map dI) (bs.map dI))) H
  rw [eqv_ll]
  exact q
end GL
namespace Mth
/-- the least rest whose sum is another than that of 0 -/
def leastR (w : List Int) (L : Nat) : Option Nat := (List.range L).find? fun r => decide (restS w L r ≠ restS w L 0)
theorem leastR_none {w : List Int} {L : Nat} : leastR w L = none ↔ evenB w L = true := by
  unfold leastR
  rw [List.find?_eq_none, evenB_iff]
  constructor
  · intro h r hr
    have := h r (List.mem_range.mpr hr)
    simpa using this
  · intro h r hr
    simpa using h r (List.mem_range.mp hr)
theorem leastR_some {w : List Int} {L r : Nat} (hr : r < L) (h : restS w L r ≠ restS w L 0) (h2 : ∀ q, q < r → restS w L q = restS w L 0) : leastR w L = some r := by
  unfold leastR
  rw [List.find?_eq_some_iff_getElem]
  refine ⟨by simpa using h, r, by simpa using hr, by simp, fun q hq => ?_⟩
  simpa using h2 q hq
theorem leastR_lt {w : List Int} {L r : Nat} (h : leastR w L = some r) : r < L := by
  unfold leastR at h
  exact List.mem_range.mp (List.mem_of_find?_eq_some h)
theorem even_of {w : List Int} {L r : Nat} (h : leastR w L = some r) : evenB w L = false := by
  cases e : evenB w L with
  | false => rfl
  | true => rw [leastR_none.mpr e] at h; cases h
/-- slices without a begin -/
theorem pick_none {α : Type} (xs : List α) {L : Nat} (h : 0 < L) : XR.pickV xs none none (some (L : Int)) = XR.pickV xs (some ((0 : Nat) : Int)) none (some (L : Int)) := by
  have e : PySem.sliceBounds none none (some (L : Int)) xs.length = PySem.sliceBounds (some ((0 : Nat) : Int)) none (some (L : Int)) xs.length := by
    have hL : (L : Int) > 0 := by omega
    unfold PySem.sliceBounds
    simp only [Option.getD_some, if_pos hL]
    congr 1
  unfold XR.pickV
  rw [e]
end Mth

namespace Mth
/-! ### windows laid at places -/
def wl (ws : List (List Int)) (j : Nat) : List Int := ws.getD j []
theorem wl_get {ws : List (List Int)} {j : Nat} {w : List Int} (h : ws[j]? = some w) : wl ws j = w := by
  unfold wl
  rw [List.getD_eq_getElem?_getD, h]
  rfl
def accR (φ : Nat → Nat → Nat) (ws : List (List Int)) (j k : Nat) : Int := sm (wl ws j).length fun i => if φ j i = k then (wl ws j).getD i 0 else 0
def accF (φ : Nat → Nat → Nat) (ws : List (List Int)) (k : Nat) : Int := sm ws.length fun j => accR φ ws j k
def accP (φ : Nat → Nat → Nat) (ws : List (List Int)) (j i k : Nat) : Int := sm j (fun j' => accR φ ws j' k) + sm i fun i' => if φ j i' = k then (wl ws j).getD i' 0 else 0
theorem accP_zero (φ : Nat → Nat → Nat) (ws : List (List Int)) (k : Nat) : accP φ ws 0 0 k = 0 := rfl
theorem accP_row (φ : Nat → Nat → Nat) (ws : List (List Int)) (j k : Nat) : accP φ ws j (wl ws j).length k = accP φ ws (j + 1) 0 k := by
  unfold accP
  rw [sm_succ, sm_zero]
  unfold accR
  omega
theorem accP_all (φ : Nat → Nat → Nat) (ws : List (List Int)) (k : Nat) : accP φ ws ws.length 0 k = accF φ ws k := by
  unfold accP accF
  rw [sm_zero]
  omega
theorem accP_step (φ : Nat → Nat → Nat) (ws : List (List Int)) (j i k : Nat) : (if k = φ j i then accP φ ws j i (φ j i) + (wl ws j).getD i 0 else accP φ ws j i k) = accP φ ws j (i + 1) k := by
  unfold accP
  rw [sm_succ]
  by_cases e : k = φ j i
  · subst e
    rw [if_pos rfl, if_pos rfl]
    omega
  · rw [if_neg e, if_neg (fun z => e z.symm)]
    omega
/-- where the last of the windows, laid lap apart, ends -/
def IsEnd (ws : List (List Int)) (lap m : Nat) : Prop := (∃ j w, ws[j]? = some w ∧ m = j * lap + w.length) ∧ ∀ j w, ws[j]? = some w → j * lap + w.length ≤ m
theorem IsEnd.eq {ws : List (List Int)} {lap m n : Nat} (h : IsEnd ws lap m) (h2 : IsEnd ws lap n) : m = n := by
  obtain ⟨⟨j, w, e, rfl⟩, a⟩ := h
  obtain ⟨⟨j', w', e', rfl⟩, b⟩ := h2
  exact Nat.le_antisymm (b _ _ e) (a _ _ e')
theorem IsEnd.lt {ws : List (List Int)} {lap m j i : Nat} {w : List Int} (h : IsEnd ws lap m) (e : ws[j]? = some w) (hi : i < w.length) : j * lap + i < m := by
  have := h.2 j w e
  omega
def at_ (lap : Nat) (j i : Nat) : Nat := j * lap + i
def laidL (ws : List (List Int)) (lap m : Nat) : List Int := tab m (accF (at_ lap) ws)
theorem laidL_len (ws : List (List Int)) (lap m : Nat) : (laidL ws lap m).length = m := tab_len _ _
/-- the rest sums of laid windows -/
theorem laid_rest {ws : List (List Int)} {lap m L r : Nat} (h : IsEnd ws lap m) : restS (laidL ws lap m) L r = accF (fun j i => at_ lap j i % L) ws r := by
  unfold restS
  rw [laidL_len]
  have e1 : sm m (fun k => if k % L = r then (laidL ws lap m).getD k 0 else 0) = sm m fun k => sm ws.length fun j => sm (wl ws j).length fun i => if at_ lap j i = k then (if at_ lap j i % L = r then (wl ws j).getD i 0 else 0) else 0 := sm_congr fun k hk => by
    have g : (laidL ws lap m).getD k 0 = accF (at_ lap) ws k := by
      unfold laidL
      rw [List.getD_eq_getElem?_getD, tab_get _ hk]
      rfl
    rw [g]
    unfold accF accR
    by_cases e : k % L = r
    · rw [if_pos e]
      refine sm_congr fun j _ => sm_congr fun i _ => ?_
      by_cases z : at_ lap j i = k
      · rw [if_pos z, if_pos z, if_pos (by rw [z]; exact e)]
      · rw [if_neg z, if_neg z]
    · rw [if_neg e]
      refine (sm_const0 _ fun j _ => sm_const0 _ fun i _ => ?_).symm
      by_cases z : at_ lap j i = k
      · rw [if_pos z, if_neg (by rw [z]; exact e)]
      · rw [if_neg z]
  rw [e1, sm_comm]
  unfold accF accR
  refine sm_congr fun j hj => ?_
  rw [sm_comm]
  refine sm_congr fun i hi => ?_
  have hw : ws[j]? = some (wl ws j) := by
    rw [wl_get (List.getElem?_eq_getElem hj), List.getElem?_eq_getElem hj]
  have hlt : at_ lap j i < m := h.lt hw hi
  rw [sm_single hlt]
  · rw [if_pos rfl]
  · intro k _ hk
    rw [if_neg (fun z => hk z.symm)]
theorem wl_rep {n j : Nat} {w : List Int} (h : j < n) : wl (List.replicate n w) j = w := by
  refine wl_get ?_
  rw [List.getElem?_replicate, if_pos h]
theorem add_mod_inj {n j k q : Nat} (hj : j < n) (hk : k < n) (h : (j + q) % n = (k + q) % n) : j = k := by
  rw [← Nat.add_mod_mod j q, ← Nat.add_mod_mod k q] at h
  have hs := Nat.mod_lt q (Nat.lt_of_le_of_lt (Nat.zero_le _) hj)
  generalize q % n = s at *
  have f : ∀ x, x < n → (x + s) % n = if x + s < n then x + s else x + s - n := by
    intro x hx
    split
    · rename_i z; exact Nat.mod_eq_of_lt z
    · rename_i z
      rw [Nat.mod_eq_sub_mod (by omega), Nat.mod_eq_of_lt (by omega)]
  rw [f j hj, f k hk] at h
  split at h <;> split at h <;> omega
/-- one window again and again: its rest sums at lap, for each of them once -/
theorem rep_rest {w : List Int} {n lap r : Nat} (hl : 0 < lap) (hr : r < lap * n) : accF (fun j i => at_ lap j i % (lap * n)) (List.replicate n w) r = restS w lap (r % lap) := by
  have hn : 0 < n := by
    cases n with
    | zero => simp at hr
    | succ n => exact Nat.succ_pos n
  unfold accF accR
  rw [List.length_replicate]
  have e1 : sm n (fun j => sm (wl (List.replicate n w) j).length fun i => if at_ lap j i % (lap * n) = r then (wl (List.replicate n w) j).getD i 0 else 0) = sm n fun j => sm w.length fun i => if (j * lap + i) % (lap * n) = r then w.getD i 0 else 0 := sm_congr fun j hj => by
    rw [wl_rep hj]
    rfl
  rw [e1, sm_comm]
  unfold restS
  refine sm_congr fun i _ => ?_
  have key : ∀ j, j < n → ((j * lap + i) % (lap * n) = r ↔ i % lap = r % lap ∧ (j + i / lap) % n = r / lap) := by
    intro j _
    have e2 : (j * lap + i) % (lap * n) = i % lap + lap * ((j + i / lap) % n) := by
      rw [Nat.mod_mul]
      congr 1
      · rw [Nat.mul_comm j lap, Nat.mul_add_mod]
      · congr 2
        rw [Nat.mul_comm j lap, Nat.mul_add_div hl]
    rw [e2]
    have hm := Nat.mod_lt i hl
    constructor
    · intro e
      constructor
      · rw [← e, Nat.add_mul_mod_self_left, Nat.mod_mod]
      · rw [← e, Nat.add_mul_div_left _ _ hl, Nat.div_eq_of_lt hm, Nat.zero_add]
    · rintro ⟨a, b⟩
      rw [a, b]
      exact Nat.mod_add_div r lap
  by_cases c : i % lap = r % lap
  · rw [if_pos c]
    have rn : r / lap < n := by
      rw [Nat.div_lt_iff_lt_mul hl, Nat.mul_comm]
      exact hr
    have hi := Nat.mod_lt (i / lap) hn
    obtain ⟨j0, h0, e0⟩ : ∃ j0, j0 < n ∧ (j0 + i / lap) % n = r / lap := by
      refine ⟨(r / lap + (n - (i / lap) % n)) % n, Nat.mod_lt _ hn, ?_⟩
      rw [Nat.mod_add_mod]
      have e3 : r / lap + (n - i / lap % n) + i / lap = r / lap + n * (1 + i / lap / n) := by
        have := Nat.mod_add_div (i / lap) n
        rw [Nat.mul_add, Nat.mul_one]
        omega
      rw [e3, Nat.add_mul_mod_self_left, Nat.mod_eq_of_lt rn]
    rw [sm_single h0]
    · rw [if_pos ((key j0 h0).mpr ⟨c, e0⟩)]
    · intro j hj hne
      rw [if_neg]
      intro z
      have e4 := ((key j hj).mp z).2
      apply hne
      have e5 : (j + i / lap) % n = (j0 + i / lap) % n := by rw [e4, e0]
      exact add_mod_inj hj h0 e5
  · rw [if_neg c]
    apply sm_const0
    intro j hj
    rw [if_neg (fun z => c ((key j hj).mp z).1)]
/-- a product with a flat window is even at its hop -/
theorem flat_rest (p : List Int) {lap r : Nat} (hr : r < lap) : restS (prodL p (List.replicate lap 1)) lap r = p.sum := by
  have hl : 0 < lap := by omega
  unfold restS
  rw [prodL_len, List.length_replicate]
  have e1 : sm (p.length + lap - 1) (fun k => if k % lap = r then (prodL p (List.replicate lap 1)).getD k 0 else 0) = sm (p.length + lap - 1) fun k => sm p.length fun i => sm lap fun j => if i + j = k then (if (i + j) % lap = r then p.getD i 0 else 0) else 0 := sm_congr fun k hk => by
    have g : (prodL p (List.replicate lap 1)).getD k 0 = coef p (List.replicate lap 1) k := by
      unfold prodL
      rw [List.length_replicate, List.getD_eq_getElem?_getD, tab_get _ hk]
      rfl
    rw [g]
    unfold coef
    rw [List.length_replicate]
    by_cases e : k % lap = r
    · rw [if_pos e]
      refine sm_congr fun i _ => sm_congr fun j hj => ?_
      by_cases z : i + j = k
      · rw [if_pos z, if_pos z, if_pos (by rw [z]; exact e)]
        have e3 : (List.replicate lap (1 : Int)).getD j 0 = 1 := by
          rw [List.getD_eq_getElem?_getD, List.getElem?_replicate, if_pos hj]
          rfl
        rw [e3, Int.mul_one]
      · rw [if_neg z, if_neg z]
    · rw [if_neg e]
      refine (sm_const0 _ fun i _ => sm_const0 _ fun j _ => ?_).symm
      by_cases z : i + j = k
      · rw [if_pos z, if_neg (by rw [z]; exact e)]
      · rw [if_neg z]
  rw [e1, sm_comm, sm_sum p]
  refine sm_congr fun i hi => ?_
  rw [sm_comm]
  have e2 : sm lap (fun j => sm (p.length + lap - 1) fun k => if i + j = k then (if (i + j) % lap = r then p.getD i 0 else 0) else 0) = sm lap fun j => if (i + j) % lap = r then p.getD i 0 else 0 := sm_congr fun j hj => by
    rw [sm_single (p := i + j) (by omega)]
    · rw [if_pos rfl]
    · intro k _ hk
      rw [if_neg (fun z => hk z.symm)]
  rw [e2]
  obtain ⟨j0, h0, e0⟩ : ∃ j0, j0 < lap ∧ (i + j0) % lap = r := by
    refine ⟨(r + (lap - i % lap)) % lap, Nat.mod_lt _ hl, ?_⟩
    have hi := Nat.mod_lt i hl
    rw [Nat.add_mod_mod]
    have e3 : i + (r + (lap - i % lap)) = r + lap * (1 + i / lap) := by
      have := Nat.mod_add_div i lap
      rw [Nat.mul_add, Nat.mul_one]
      omega
    rw [e3, Nat.add_mul_mod_self_left, Nat.mod_eq_of_lt hr]
  rw [sm_single h0]
  · rw [if_pos e0]
  · intro j hj hne
    rw [if_neg]
    intro z
    apply hne
    apply add_mod_inj hj h0 (q := i)
    rw [Nat.add_comm j i, Nat.add_comm j0 i, z, e0]
theorem flat_even (p : List Int) {lap : Nat} (h : 0 < lap) : evenB (prodL p (List.replicate lap 1)) lap = true := by
  rw [evenB_iff]
  intro r hr
  rw [flat_rest p hr, flat_rest p h]
/-- one even window again and again is even at the hop times their number -/
theorem rep_even {w : List Int} {n lap m : Nat} (hl : 0 < lap) (hn : 0 < n) (h : evenB w lap = true) (he : IsEnd (List.replicate n w) lap m) : evenB (laidL (List.replicate n w) lap m) (lap * n) = true := by
  rw [evenB_iff]
  intro r hr
  have h0 : 0 < lap * n := Nat.mul_pos hl hn
  rw [laid_rest he, laid_rest he, rep_rest hl hr, rep_rest hl h0]
  have e := evenB_iff.mp h
  rw [e _ (Nat.mod_lt _ hl), e (0 % lap) (Nat.mod_lt _ hl)]
/-- its sum -/
theorem laid_sum {ws : List (List Int)} {lap m : Nat} (h : IsEnd ws lap m) : (laidL ws lap m).sum = sm ws.length fun j => (wl ws j).sum := by
  have e := restS_total (laidL ws lap m) (L := 1) (by decide)
  rw [sm_succ, sm_zero, laid_rest h] at e
  have e2 : accF (fun j i => at_ lap j i % 1) ws 0 = sm ws.length fun j => (wl ws j).sum := by
    unfold accF accR
    refine sm_congr fun j _ => ?_
    rw [sm_sum (wl ws j)]
    refine sm_congr fun i _ => ?_
    rw [if_pos (Nat.mod_one _)]
  rw [e2] at e
  omega
theorem rep_sum {w : List Int} {n lap m : Nat} (h : IsEnd (List.replicate n w) lap m) : (laidL (List.replicate n w) lap m).sum = n * w.sum := by
  rw [laid_sum h, List.length_replicate]
  have e : sm n (fun j => (wl (List.replicate n w) j).sum) = sm n fun _ => w.sum := sm_congr fun j hj => by rw [wl_rep hj]
  rw [e]
  clear e h
  induction n with
  | zero => rw [sm_zero]; simp
  | succ n ih =>
    rw [sm_succ, ih, Int.natCast_add, Int.add_mul]
    omega
end Mth

namespace Mth
/-! ### phases -/
theorem sm_app (a b : Nat) (f : Nat → Int) : sm (a + b) f = sm a f + sm b fun i => f (a + i) := by
  induction b with
  | zero => rw [sm_zero]; simp
  | succ b ih =>
    rw [sm_succ, ← Nat.add_assoc, sm_succ, ih]
    omega
theorem sm_split (m c : Nat) (f : Nat → Int) : sm (m * c) f = sm c fun k => sm m fun r => f (r + m * k) := by
  induction c with
  | zero => rfl
  | succ c ih =>
    rw [Nat.mul_succ, sm_app, sm_succ, ih]
    congr 1
    exact sm_congr fun r _ => by rw [Nat.add_comm]
theorem sm_ext {n N : Nat} {f : Nat → Int} (h : n ≤ N) (hz : ∀ i, n ≤ i → f i = 0) : sm N f = sm n f := by
  obtain ⟨d, rfl⟩ : ∃ d, N = n + d := ⟨N - n, by omega⟩
  rw [sm_app, sm_const0 d fun i _ => hz _ (by omega)]
  omega
theorem getD_out {w : List Int} {i : Nat} (h : w.length ≤ i) : w.getD i 0 = 0 := by
  rw [List.getD_eq_getElem?_getD, List.getElem?_eq_none h]
  rfl
/-- rest sums over any range that is long enough -/
theorem restS_far {w : List Int} {N : Nat} (h : w.length ≤ N) (L r : Nat) : restS w L r = sm N fun i => if i % L = r then w.getD i 0 else 0 := by
  unfold restS
  refine (sm_ext h fun i hi => ?_).symm
  split
  · exact getD_out hi
  · rfl
theorem restS_same {a b : List Int} (h : ∀ i, a.getD i 0 = b.getD i 0) (L r : Nat) : restS a L r = restS b L r := by
  rw [restS_far (Nat.le_max_left a.length b.length), restS_far (w := b) (Nat.le_max_right a.length b.length)]
  exact sm_congr fun i _ => by rw [h i]
theorem evenB_same {a b : List Int} (h : ∀ i, a.getD i 0 = b.getD i 0) (L : Nat) : evenB a L = evenB b L := by
  have e : ∀ r, restS a L r = restS b L r := restS_same h L
  cases x : evenB b L with
  | true =>
    have := evenB_iff.mp x
    exact evenB_iff.mpr fun r hr => by rw [e, e, this r hr]
  | false =>
    cases y : evenB a L with
    | false => rfl
    | true =>
      have := evenB_iff.mp y
      have z : evenB b L = true := evenB_iff.mpr fun r hr => by rw [← e, ← e, this r hr]
      rw [x] at z
      exact z.symm
def cnt (n m r : Nat) : Nat := (n + m - 1 - r) / m
def phase (w : List Int) (m r : Nat) : List Int := tab (cnt w.length m r) fun k => w.getD (r + m * k) 0
theorem phase_len (w : List Int) (m r : Nat) : (phase w m r).length = cnt w.length m r := tab_len _ _
theorem cnt_lt {n m r k : Nat} (hr : r < m) : k < cnt n m r ↔ r + m * k < n := by
  unfold cnt
  rw [Nat.lt_div_iff_mul_lt (by omega), Nat.mul_comm]
  omega
theorem phase_getD {w : List Int} {m r : Nat} (hr : r < m) (k : Nat) : (phase w m r).getD k 0 = w.getD (r + m * k) 0 := by
  by_cases h : k < cnt w.length m r
  · unfold phase
    rw [List.getD_eq_getElem?_getD, tab_get _ h]
    rfl
  · rw [getD_out (by rw [phase_len]; omega), getD_out]
    have : ¬ r + m * k < w.length := fun z => h ((cnt_lt (n := w.length) (k := k) hr).mpr z)
    omega
theorem cnt_le (n m r : Nat) (hr : r < m) : cnt n m r ≤ n := by
  apply Classical.byContradiction
  intro h
  have := (cnt_lt (n := n) (k := n) hr).mp (by omega)
  have : n ≤ m * n := Nat.le_mul_of_pos_left n (by omega)
  omega
theorem all_filterMap (w : List Int) : ∀ js : List Nat, (∀ j ∈ js, j < w.length) → js.filterMap (w[·]?) = js.map fun j => w.getD j 0
  | [], _ => rfl
  | j :: js, h => by
    have ih := all_filterMap w js fun k hk => h k (List.mem_cons_of_mem _ hk)
    have hj := h j (List.mem_cons_self ..)
    rw [List.map_cons, ← ih, List.filterMap_cons, List.getElem?_eq_getElem hj, List.getD_eq_getElem?_getD, List.getElem?_eq_getElem hj]
    rfl
theorem pick_phase (w : List Int) (r m : Nat) (hr : r < m) : XR.pickV w (some (r : Int)) none (some (m : Int)) = phase w m r := by
  unfold XR.pickV
  rw [slice_step _ _ _ hr, all_filterMap w _ fun j hj => List.mem_range.mp (List.mem_filter.mp hj).1, range_mod m r hr, List.map_map]
  rfl
theorem restS_phase {w : List Int} {m l r q : Nat} (hr : r < m) (hl : 0 < l) (hq : q < l) : restS (phase w m r) l q = restS w (m * l) (r + m * q) := by
  have h1 : w.length ≤ m * w.length := Nat.le_mul_of_pos_left _ (by omega)
  rw [restS_far h1, sm_split, restS_far (N := w.length) (by rw [phase_len]; exact cnt_le _ _ _ hr)]
  refine sm_congr fun k _ => ?_
  have key : ∀ r', r' < m → ((r' + m * k) % (m * l) = r + m * q ↔ r' = r ∧ k % l = q) := by
    intro r' hr'
    rw [Nat.mod_mul, Nat.add_mul_mod_self_left, Nat.add_mul_div_left _ _ (by omega : 0 < m), Nat.mod_eq_of_lt hr', Nat.div_eq_of_lt hr', Nat.zero_add]
    constructor
    · intro e
      have a : (r' + m * (k % l)) % m = (r + m * q) % m := by rw [e]
      rw [Nat.add_mul_mod_self_left, Nat.add_mul_mod_self_left, Nat.mod_eq_of_lt hr', Nat.mod_eq_of_lt hr] at a
      subst a
      refine ⟨rfl, ?_⟩
      have : m * (k % l) = m * q := by omega
      exact Nat.eq_of_mul_eq_mul_left (by omega) this
    · rintro ⟨rfl, rfl⟩
      rfl
  rw [sm_single hr, phase_getD hr]
  · by_cases c : k % l = q
    · rw [if_pos c, if_pos ((key r hr).mpr ⟨rfl, c⟩)]
    · rw [if_neg c, if_neg (fun z => c ((key r hr).mp z).2)]
  · intro r' hr' hne
    rw [if_neg (fun z => hne ((key r' hr').mp z).1)]
/-- even at a product: each phase is, all with one level -/
theorem even_phases {w : List Int} {m l : Nat} (hm : 0 < m) (hl : 0 < l) : evenB w (m * l) = true ↔ (∀ r, r < m → evenB (phase w m r) l = true) ∧ ∀ r, r < m → restS (phase w m r) l 0 = restS (phase w m 0) l 0 := by
  have hml : 0 < m * l := Nat.mul_pos hm hl
  rw [evenB_iff]
  have lt : ∀ {r q}, r < m → q < l → r + m * q < m * l := fun {r q} hr hq => by
    have : m * (q + 1) ≤ m * l := Nat.mul_le_mul_left m hq
    rw [Nat.mul_succ] at this
    omega
  constructor
  · intro h
    refine ⟨fun r hr => evenB_iff.mpr fun q hq => ?_, fun r hr => ?_⟩
    · rw [restS_phase hr hl hq, restS_phase hr hl hl, h _ (lt hr hq), h _ (lt hr hl)]
    · rw [restS_phase hr hl hl, restS_phase hm hl hl, h _ (lt hr hl), h _ (lt hm hl)]
  · rintro ⟨h1, h2⟩ s hs
    have e : ∀ s, s < m * l → restS w (m * l) s = restS (phase w m 0) l 0 := by
      intro s hs
      have hr := Nat.mod_lt s hm
      have hq : s / m < l := by
        rw [Nat.div_lt_iff_lt_mul hm, Nat.mul_comm]
        exact hs
      have es : s = s % m + m * (s / m) := (Nat.mod_add_div s m).symm
      rw [es, ← restS_phase hr hl hq, evenB_iff.mp (h1 _ hr) _ hq, h2 _ hr]
    rw [e s hs, e 0 hml]
/-- the level -/
theorem level_phases {w : List Int} {m l : Nat} (hm : 0 < m) (hl : 0 < l) : restS w (m * l) 0 = restS (phase w m 0) l 0 := by
  rw [restS_phase hm hl hl]
  rfl
/-! ### woven lists -/
def wovG (ws : List (List Int)) (t : Nat) : Int := (wl ws (t % ws.length)).getD (t / ws.length) 0
def wovL (ws : List (List Int)) (c : Nat) : List Int := tab (c * ws.length) (wovG ws)
theorem wovL_len (ws : List (List Int)) (c : Nat) : (wovL ws c).length = c * ws.length := tab_len _ _
theorem wl_mem {ws : List (List Int)} {j : Nat} (h : j < ws.length) : wl ws j ∈ ws := by
  rw [wl_get (List.getElem?_eq_getElem h)]
  exact List.getElem_mem h
theorem wov_getD {ws : List (List Int)} {c : Nat} (hn : 0 < ws.length) (hc : ∀ u ∈ ws, u.length ≤ c) {r : Nat} (hr : r < ws.length) (k : Nat) : (wovL ws c).getD (r + ws.length * k) 0 = (wl ws r).getD k 0 := by
  have e : wovG ws (r + ws.length * k) = (wl ws r).getD k 0 := by
    unfold wovG
    rw [Nat.add_mul_mod_self_left, Nat.mod_eq_of_lt hr, Nat.add_mul_div_left _ _ hn, Nat.div_eq_of_lt hr, Nat.zero_add]
  by_cases h : r + ws.length * k < c * ws.length
  · unfold wovL
    rw [List.getD_eq_getElem?_getD, tab_get _ h]
    exact e
  · rw [getD_out (by rw [wovL_len]; omega), getD_out]
    have hck : c ≤ k := by
      apply Classical.byContradiction
      intro z
      apply h
      have : ws.length * (k + 1) ≤ ws.length * c := Nat.mul_le_mul_left _ (by omega)
      rw [Nat.mul_succ, Nat.mul_comm ws.length c] at this
      omega
    exact Nat.le_trans (hc _ (wl_mem hr)) hck
theorem wov_phase {ws : List (List Int)} {c : Nat} (hc : ∀ u ∈ ws, u.length ≤ c) {r : Nat} (hr : r < ws.length) (i : Nat) : (phase (wovL ws c) ws.length r).getD i 0 = (wl ws r).getD i 0 := by
  rw [phase_getD hr, wov_getD (by omega) hc hr]
theorem tab_take {α : Type} {n N : Nat} (f : Nat → α) (h : n ≤ N) : (tab N f).take n = tab n f := by
  apply List.ext_getElem?
  intro i
  by_cases hi : i < n
  · rw [List.getElem?_take_of_lt hi, tab_get _ (by omega), tab_get _ hi]
  · rw [List.getElem?_eq_none (by rw [List.length_take, tab_len]; omega), List.getElem?_eq_none (by rw [tab_len]; omega)]
def phasesL (w : List Int) (m : Nat) : List (List Int) := tab m (phase w m)
/-- phases woven again are the list -/
theorem woven_back {w : List Int} {m c : Nat} (hm : 0 < m) (hc : ∀ u ∈ phasesL w m, u.length ≤ c) : w.length ≤ c * m ∧ (wovL (phasesL w m) c).take w.length = w := by
  have hl : (phasesL w m).length = m := tab_len _ _
  have h0 : w.length ≤ c * m := by
    apply Classical.byContradiction
    intro h
    have a : c < cnt w.length m 0 := (cnt_lt hm).mpr (by rw [Nat.zero_add, Nat.mul_comm]; omega)
    have b := hc (phase w m 0) (by unfold phasesL; exact List.mem_map.mpr ⟨0, List.mem_range.mpr hm, rfl⟩)
    rw [phase_len] at b
    omega
  refine ⟨h0, ?_⟩
  unfold wovL
  rw [hl, tab_take _ h0]
  conv => rhs; rw [tab_self w 0]
  refine tab_congr fun t _ => ?_
  unfold wovG
  rw [hl]
  have hr := Nat.mod_lt t hm
  have e : wl (phasesL w m) (t % m) = phase w m (t % m) := wl_get (by unfold phasesL; exact tab_get _ hr)
  rw [e, phase_getD hr, Nat.mod_add_div]
end Mth

namespace Mth
/-! ### phases of what is longer by one; lists backwards -/
theorem phase_filter (w : List Int) {m r : Nat} (hr : r < m) : phase w m r = ((List.range w.length).filter fun i => decide (i % m = r)).map fun i => w.getD i 0 := by
  rw [range_mod m r hr, List.map_map]
  rfl
theorem getD_app {w : List Int} {x : Int} {i : Nat} (h : i < w.length) : (w ++ [x]).getD i 0 = w.getD i 0 := by
  rw [List.getD_eq_getElem?_getD, List.getD_eq_getElem?_getD, List.getElem?_append_left h]
theorem phase_snoc (w : List Int) (x : Int) {m r : Nat} (hr : r < m) : phase (w ++ [x]) m r = if w.length % m = r then phase w m r ++ [x] else phase w m r := by
  rw [phase_filter _ hr, phase_filter _ hr, List.length_append]
  show ((List.range (w.length + 1)).filter fun i => decide (i % m = r)).map (fun i => (w ++ [x]).getD i 0) = _
  rw [List.range_succ, List.filter_append, List.map_append]
  have e : ((List.range w.length).filter fun i => decide (i % m = r)).map (fun i => (w ++ [x]).getD i 0) = ((List.range w.length).filter fun i => decide (i % m = r)).map fun i => w.getD i 0 := by
    apply List.map_congr_left
    intro i hi
    exact getD_app (List.mem_range.mp (List.mem_filter.mp hi).1)
  rw [e]
  by_cases c : w.length % m = r
  · rw [if_pos c]
    have : [w.length].filter (fun i => decide (i % m = r)) = [w.length] := by simp [c]
    rw [this]
    congr 1
    show [(w ++ [x]).getD w.length 0] = [x]
    rw [List.getD_eq_getElem?_getD, List.getElem?_append_right (Nat.le_refl _)]
    simp
  · rw [if_neg c]
    have : [w.length].filter (fun i => decide (i % m = r)) = [] := by simp [c]
    rw [this]
    simp
theorem phase_nil (m r : Nat) (hr : r < m) : phase [] m r = [] := by
  rw [phase_filter _ hr]
  rfl
theorem pick_back (w : List Int) : XR.pickV w none none (some (-1)) = w.reverse := by
  unfold XR.pickV
  have e : PySem.sliceBounds none none (some (-1)) w.length = ((w.length : Int) - 1, -1, -1) := rfl
  rw [e]
  have e2 : PySem.sliceRange ((w.length : Int) - 1) (-1) (-1) = (List.range w.length).map fun k => w.length - 1 - k := by
    unfold PySem.sliceRange
    rw [if_neg (by decide)]
    by_cases h : w.length = 0
    · rw [h]
      rfl
    · rw [if_pos (by omega)]
      have c : (((w.length : Int) - 1 - -1 - -1 - 1) / (- -1)).toNat = w.length := by
        have : ((w.length : Int) - 1 - -1 - -1 - 1) / (- -1) = (w.length : Int) := by
          show ((w.length : Int) - 1 - -1 - -1 - 1) / 1 = _
          rw [Int.ediv_one]
          omega
        rw [this, Int.toNat_natCast]
      show List.map (fun k : Nat => ((w.length : Int) - 1 + -1 * (k : Int)).toNat) (List.range (((w.length : Int) - 1 - -1 - -1 - 1) / (- -1)).toNat) = _
      rw [c]
      apply List.map_congr_left
      intro k _
      omega
  show List.filterMap (w[·]?) (PySem.sliceRange ((w.length : Int) - 1) (-1) (-1)) = w.reverse
  rw [e2, all_filterMap w _ fun j hj => by
    obtain ⟨k, hk, rfl⟩ := List.mem_map.mp hj
    have := List.mem_range.mp hk
    omega]
  apply List.ext_getElem?
  intro i
  by_cases hi : i < w.length
  · rw [List.getElem?_reverse hi, List.map_map, List.getElem?_map, List.getElem?_range hi, List.getElem?_eq_getElem (by omega)]
    show some (w.getD (w.length - 1 - i) 0) = _
    rw [List.getD_eq_getElem?_getD, List.getElem?_eq_getElem (by omega)]
    rfl
  · rw [List.getElem?_eq_none (by simp; omega), List.getElem?_eq_none (by simp; omega)]
theorem back_tab (w : List Int) : w.reverse = tab w.length fun i => w.getD (w.length - 1 - i) 0 := by
  apply List.ext_getElem?
  intro i
  by_cases hi : i < w.length
  · rw [List.getElem?_reverse hi, tab_get _ hi, List.getD_eq_getElem?_getD, List.getElem?_eq_getElem (by omega)]
    rfl
  · rw [List.getElem?_eq_none (by simp; omega), List.getElem?_eq_none (by rw [tab_len]; omega)]
end Mth

namespace XR
open PySem PySem.Spec PyProof.Rows L2
/-! ### loops and comprehensions over zip of two lists of one length -/
theorem for_zip {K : PySem.W.Frag} {a b : Addr} {xs ys : List V} {g : TG} {tb : TS} {D : Ends} {σ : L2.St} {H : Hp} (hn : xs.length = ys.length) (Pv : Nat → L2.St → Hp → Prop) (h0 : Pv 0 σ H) (hq : ∀ i σ H, i ≤ xs.length → Pv i σ H → SqL K H a xs ∧ SqL K H b ys)
    (hs : ∀ (i : Nat) (x y : V) (T : Addr) (σ : L2.St) (H : Hp), xs[i]? = some x → ys[i]? = some y → Pv i σ H → H T = none → g (.ref T) σ (upd H T (.tup [x, y])) fun σ2 H2 => tb { D with nx := Pv (i + 1), ct := Pv (i + 1), bk := D.nx } σ2 H2) (hd : ∀ σ H, Pv xs.length σ H → D.nx σ H) :
    ∃ W : Nat → Nat → L2.St → Hp → Prop, (∃ m, W 0 m σ H) ∧ ∀ i m σ H, W i m σ H →
      ((Itz K a b).stop i H ∧ D.nx σ H) ∨ ((Itz K a b).go i H ∧ ∃ N : L2.St → Hp → Prop, (∀ σ' H', N σ' H' → ∃ m', m' < m ∧ W (i + 1) m' σ' H') ∧ ∀ v H', (Itz K a b).yld i H v H' → g v σ H' fun σ2 H2 => tb { D with nx := N, ct := N, bk := D.nx } σ2 H2) := by
  refine ⟨fun i m σ H => m = xs.length - i ∧ i ≤ xs.length ∧ Pv i σ H, ⟨xs.length, rfl, Nat.zero_le _, h0⟩, ?_⟩
  rintro i m σ H ⟨rfl, hi, p⟩
  have q := hq i σ H hi p
  by_cases hlt : i < xs.length
  · refine .inr ⟨⟨xs, ys, xs[i], ys[i]'(hn ▸ hlt), q.1, q.2, List.getElem?_eq_getElem hlt, List.getElem?_eq_getElem (hn ▸ hlt)⟩, Pv (i + 1), fun σ' H' p' => ⟨xs.length - (i + 1), by omega, rfl, hlt, p'⟩, fun v H' y => ?_⟩
    obtain ⟨T, x', y', rfl, hT, rfl, f1, f2⟩ := y
    exact hs i x' y' T σ H (f1 xs q.1) (f2 ys q.2) p hT
  · have e : i = xs.length := by omega
    subst e
    exact .inl ⟨⟨xs, ys, q.1, q.2, .inl (Nat.le_refl _)⟩, hd σ H p⟩
theorem lc_zip {K : PySem.W.Frag} {a b : Addr} {xs ys : List V} {g : TG} {tt : TT} {te : TE} {vs : List Nat} {σ : L2.St} {H1 : Hp} {D : Addr} {Qd : Hp → Prop} (hn : xs.length = ys.length) (Pv : Nat → Hp → Prop) (h0 : Pv 0 (upd H1 D (.lst []))) (hl : ∀ i H, i ≤ xs.length → Pv i H → SqL K H a xs ∧ SqL K H b ys)
    (hs : ∀ (i : Nat) (x y : V) (T : Addr) (H : Hp), xs[i]? = some x → ys[i]? = some y → Pv i H → H T = none → g (.ref T) (wipe σ vs) (upd H T (.tup [x, y])) fun σ2 H2 => wipe σ2 vs = wipe σ vs ∧ tt σ2 H2 fun b H3 =>
      if b = true then te σ2 H3 fun y H4 => ∃ acc, H4 D = some (.lst acc) ∧ acc.length < sizeLine ∧ Pv (i + 1) (upd H4 D (.lst (acc ++ [y]))) else Pv (i + 1) H3) (hd : ∀ H, Pv xs.length H → Qd H) :
    ∃ W : Nat → Nat → Hp → Prop, (∃ m, W 0 m (upd H1 D (.lst []))) ∧ ∀ i m H, W i m H →
      ((Itz K a b).stop i H ∧ Qd H) ∨ ((Itz K a b).go i H ∧ ∃ Nx : Hp → Prop, (∀ H', Nx H' → ∃ m', m' < m ∧ W (i + 1) m' H') ∧ ∀ x H', (Itz K a b).yld i H x H' → g x (wipe σ vs) H' fun σ2 H2 => wipe σ2 vs = wipe σ vs ∧ tt σ2 H2 fun b H3 =>
        if b = true then te σ2 H3 fun y H4 => ∃ acc, H4 D = some (.lst acc) ∧ acc.length < sizeLine ∧ Nx (upd H4 D (.lst (acc ++ [y]))) else Nx H3) := by
  refine ⟨fun i m H => m = xs.length - i ∧ i ≤ xs.length ∧ Pv i H, ⟨xs.length, rfl, Nat.zero_le _, h0⟩, ?_⟩
  rintro i m H ⟨rfl, hi, p⟩
  have q := hl i H hi p
  by_cases hlt : i < xs.length
  · refine .inr ⟨⟨xs, ys, xs[i], ys[i]'(hn ▸ hlt), q.1, q.2, List.getElem?_eq_getElem hlt, List.getElem?_eq_getElem (hn ▸ hlt)⟩, Pv (i + 1), fun H' p' => ⟨xs.length - (i + 1), by omega, rfl, hlt, p'⟩, fun x H' y => ?_⟩
    obtain ⟨T, x', y', rfl, hT, rfl, f1, f2⟩ := y
    exact hs i x' y' T H (f1 xs q.1) (f2 ys q.2) p hT
  · have e : i = xs.length := by omega
    subst e
    exact .inl ⟨⟨xs, ys, q.1, q.2, .inl (Nat.le_refl _)⟩, hd H p⟩
/-! ### three keywords, the last parameter first -/
def rev3 {α : Type} : List α → List α
  | [a, b, c] => [c, b, a]
  | l => l
theorem rev3_rel : ∀ {zs : List V} {ws : List Value}, Vals zs ws → Vals (rev3 zs) (rev3 ws)
  | _, _, .nil => .nil
  | _, _, .cons r .nil => .cons r .nil
  | _, _, .cons r (.cons r' .nil) => .cons r (.cons r' .nil)
  | _, _, .cons r (.cons r' (.cons r'' .nil)) => .cons r'' (.cons r' (.cons r .nil))
  | _, _, .cons r (.cons r' (.cons r'' (.cons r3 t))) => .cons r (.cons r' (.cons r'' (.cons r3 t)))
theorem kbn3r {K : PySem.W.Frag} {fd : FuncData} {a b c : Str} (h : ∀ u v w, bindArgs fd ⟨[], [(c, u), (b, v), (a, w)]⟩ = pure [(a, w), (b, v), (c, u)]) : KBn K fd [a, b, c] 0 [c, b, a] (fun _ ws => rev3 ws) (fun _ zs => rev3 zs) where
  to := fun s us ws _ l1 l2 => match us, ws, l1, l2 with | [], [u, v, w], _, _ => .of_eq (h u v w)
  rel := fun _ r => rev3_rel r
end XR

namespace XR
open PySem PySem.Spec PyProof.Rows L2
/-! ### len(set(xs)), xs a list of ints, equal ones too -/
def metN (ns : List Int) : Nat := (firstMet (fun i => ns.getD i 0) ns.length).length
def tLenSetD (K : PySem.W.Frag) (ta : TE) : TE := fun σ H Q => ta σ H fun x H1 => ∃ (l : Addr) (ns : List Int), x = V.ref l ∧ SqL K H1 l (ns.map V.int) ∧ ns.length < 64 ∧ Q (.int (metN ns : Nat)) H1
theorem pe_lenSetD {X : Cx} {a : Expr} {ta : TE} {p p2 q pos : Pos} (hc : X.calm = true) (hg : Gl X "len") (hm : X.mg "len" = none) (hg2 : Gl X "set") (hm2 : X.mg "set" = none) (ha : PE X a ta)
    (na : starEach [a] X.env = (false, eval a X.env) :: starEach [] X.env := by rfl) : PE X (.Call (.Name "len" p) [.Call (.Name "set" p2) [a] [] q] [] pos) (tLenSetD X.K ta) := by
  refine ⟨fun pins s σ H Q I h => ?_⟩
  refine Call_ (ld_blt I hg hm PySem.boot_len ?_)
  refine PyProof.Rows.callWith_builtin1 (PyProof.Rows.args_cons ?_ rfl) rfl rfl
  refine Call_ (ld_blt I hg2 hm2 PyProof.Rows.boot_set ?_)
  refine PyProof.Rows.callWith_type1 (PyProof.Rows.args_cons (thn (ha.run pins s σ H _ I h) fun v s1 ⟨x, H1, I1, r1, q1⟩ => PyProof.Rows.args_nil ?_) na) na rfl
  obtain ⟨l, ns, rfl, hq, h1, q1⟩ := q1
  cases r1
  obtain ⟨its, r, pl, hz⟩ := I1.list hq
  have hl : its.toArray.size = ns.length := by rw [List.size_toArray, ← r.length, List.length_map]
  refine call_set_list (I1.ok.hd hc) pl.isList (ns := ns) (by simpa using r.ints) (by unfold scanBound; omega) fun h' tk hS hk => ?_
  rw [hl] at hS
  refine PyProof.Rows.args_nil ?_
  obtain ⟨o, es, ep, t, ho, hex, hd, _, _, _, hf, hn⟩ := hS
  have I2 : Inv X pins σ H1 { s1 with heap := h', toks := tk } := I1.kept fun b o e => hk b o (Heap.lt_size e) e
  have le : metN ns ≤ ns.length := firstMet_length_le _ _
  have hn' : es.size = metN ns := hn
  refine call_len_set ho hex hd hf (by rw [hn'] <;> omega) ⟨.int (metN ns : Nat), H1, I2.tok _, ⟨_, by rw [hn']⟩, q1⟩
theorem step_one {c : Int} : step_dedup [c] c = [c] := by simp [step_dedup]
theorem met_same (val : Nat → Int) (c : Int) : ∀ n, (∀ i, i < n + 1 → val i = c) → firstMet val (n + 1) = [c]
  | 0, h => by
    rw [firstMet_succ, firstMet_zero, h 0 (by omega)]
    rfl
  | n + 1, h => by
    rw [firstMet_succ, met_same val c n (fun i hi => h i (by omega)), h (n + 1) (by omega)]
    exact step_one
/-- one value alone -/
theorem metN_one {n : Nat} (f : Nat → Int) (hn : 1 ≤ n) : decide (metN (Mth.tab n f) = 1) = decide (∀ i, i < n → f i = f 0) := by
  have gd : ∀ i, i < n → (Mth.tab n f).getD i 0 = f i := fun i hi => by
    rw [List.getD_eq_getElem?_getD, Mth.tab_get _ hi]
    rfl
  unfold metN
  rw [Mth.tab_len]
  by_cases h : ∀ i, i < n → f i = f 0
  · rw [decide_eq_true h]
    obtain ⟨m, rfl⟩ : ∃ m, n = m + 1 := ⟨n - 1, by omega⟩
    rw [met_same _ (f 0) m (fun i hi => by rw [gd i hi, h i hi])]
    rfl
  · rw [decide_eq_false h]
    apply decide_eq_false
    intro e
    apply h
    intro i hi
    obtain ⟨c, ec⟩ := List.length_eq_one_iff.mp e
    have key : ∀ j, j < n → f j = c := fun j hj => by
      have z := firstMet_any (fun i => (Mth.tab n f).getD i 0) n (f j)
      have t : ((List.range n).map fun i => (Mth.tab n f).getD i 0).any (· == f j) = true := by
        rw [List.any_eq_true]
        exact ⟨f j, List.mem_map.mpr ⟨j, List.mem_range.mpr hj, gd j hj⟩, by simp⟩
      rw [t, ec] at z
      simp at z
      exact z.symm
    rw [key i hi, key 0 (by omega)]
end XR

/-! math.lcm of wide numbers. -/
namespace XR
open PySem PySem.Spec PyProof.Rows L2
theorem log450 {n : Nat} (h : n < 2 ^ 13500) : ¬ n.log2 / 30 + 1 > 450 := by
  have : n.log2 ≤ 13499 := PySem.W.mg_log h
  omega
def rLcm : List V → Hp → VK → Prop := fun vs H Q => ∃ a b : Int, vs = [.int a, .int b] ∧ a.natAbs < 2 ^ 13500 ∧ b.natAbs < 2 ^ 13500 ∧ Q (.int ((Nat.lcm a.natAbs b.natAbs : Nat) : Int)) H
theorem max_lt {a b c : Nat} (h1 : a < c) (h2 : b < c) : max a b < c := by omega
theorem cr_lcm {X : Cx} : CallR X (.builtin "math.lcm") rLcm := by
  intro pins s σ H vs us Q I r h
  obtain ⟨a, b, rfl, ha, hb, q⟩ := h
  obtain ⟨t, u, rfl⟩ := Vals.int2 r
  have e1 : (Nat.lcm 1 a.natAbs) = a.natAbs := PySem.W.mc_lcm_one _
  have hsz : ((((Nat.lcm 1 a.natAbs).lcm b.natAbs : Nat) : Int)).natAbs.log2 < bitsLine := by
    rw [e1, Int.natAbs_natCast]
    have hp : 0 < 2 ^ 13500 := Nat.two_pow_pos _
    have h1 : a.natAbs.lcm b.natAbs < 2 ^ 27000 := by
      refine Nat.lt_of_le_of_lt (PySem.W.mc_lcm_le _ _) ?_
      have e : (2 : Nat) ^ 27000 = 2 ^ 13500 * 2 ^ 13500 := by rw [← Nat.pow_add]
      rw [e]
      exact Nat.mul_lt_mul'' ha hb
    have := PySem.W.mg_log (k := 26999) h1
    exact Nat.lt_of_le_of_lt this (by decide)
  have hone : (1 : Nat) < 2 ^ 13500 := Nat.one_lt_two_pow (by decide)
  refine call_function_meets PySem.W.MGF.kind_lcm PySem.W.MGF.plain_lcm PySem.W.MGF.entry_lcm (PySem.W.MGF.args_lcm _ _) (PySem.W.mg_run_lcm a t b u (log450 (max_lt hone ha)) (log450 (max_lt ha hb)) hsz).meets ?_
  rw [e1]
  exact ⟨.int _, H, I.tok _, ⟨_, rfl⟩, q⟩
end XR

/-! xs[r::h] = ys, xs and ys two lists; floor division by any number that is not 0. -/
namespace XR
open PySem PySem.Spec PyProof.Rows L2 Mth
def layV {α : Type} : List α → List Nat → List α → List α
  | xs, k :: ks, y :: ys => layV (xs.set k y) ks ys
  | xs, _, _ => xs
theorem layV_len {α : Type} : ∀ (ps : List Nat) (xs ys : List α), (layV xs ps ys).length = xs.length
  | [], _, _ => by simp [layV]
  | _ :: _, _, [] => by simp [layV]
  | k :: ks, xs, y :: ys => by rw [layV, layV_len ks]; exact List.length_set
theorem layV_fold {α : Type} : ∀ (ps : List Nat) (xs ys : List α), (ps.zip ys).foldl (fun xs (q : Nat × α) => xs.set q.1 q.2) xs = layV xs ps ys
  | [], _, _ => by simp [layV]
  | _ :: _, _, [] => by simp [layV]
  | k :: ks, xs, y :: ys => by
    rw [List.zip_cons_cons, List.foldl_cons, layV]
    exact layV_fold ks _ ys
theorem layV_rel : ∀ (ps : List Nat) {xs ys : List V} {us ws : List Value}, Vals xs us → Vals ys ws → Vals (layV xs ps ys) (layV us ps ws)
  | [], _, _, _, _, r, _ => by simpa [layV] using r
  | _ :: _, _, [], _, _, r, q => by cases q; simpa [layV] using r
  | k :: ks, _, _ :: _, _, _, r, .cons q t => by
    simp only [layV]
    exact layV_rel ks (r.set q k) t
theorem layV_arr : ∀ (qs : List (Nat × Value)) (its : List Value), qs.foldl (fun (xs : Array Value) (q : Nat × Value) => xs.setIfInBounds q.1 q.2) its.toArray = (qs.foldl (fun (xs : List Value) (q : Nat × Value) => xs.set q.1 q.2) its).toArray
  | [], _ => rfl
  | q :: qs, its => by
    rw [List.foldl_cons, List.foldl_cons]
    have e : its.toArray.setIfInBounds q.1 q.2 = (its.set q.1 q.2).toArray := by simp
    rw [e]
    exact layV_arr qs _
theorem layV_map {α β : Type} (f : α → β) : ∀ (ps : List Nat) (xs ys : List α), layV (xs.map f) ps (ys.map f) = (layV xs ps ys).map f
  | [], _, _ => by simp [layV]
  | _ :: _, _, [] => by simp [layV]
  | k :: ks, xs, y :: ys => by
    simp only [List.map_cons, layV]
    rw [← List.map_set]
    exact layV_map f ks _ ys
theorem layV_get {α : Type} (φ : Nat → Nat) (hφ : ∀ a b, φ a = φ b → a = b) : ∀ (c s : Nat) (xs ys : List α), ys.length = c → (∀ t, t < c → φ (s + t) < xs.length) →
    (∀ t, t < c → (layV xs ((List.range' s c).map φ) ys)[φ (s + t)]? = ys[t]?) ∧ ∀ j, (∀ t, t < c → φ (s + t) ≠ j) → (layV xs ((List.range' s c).map φ) ys)[j]? = xs[j]?
  | 0, s, xs, ys, _, _ => by
    refine ⟨fun t ht => absurd ht (by omega), fun j _ => ?_⟩
    simp [layV]
  | c + 1, s, xs, [], hl, _ => by cases hl
  | c + 1, s, xs, y :: ys, hl, hb => by
    have hl' : ys.length = c := by simpa using hl
    have e : (List.range' s (c + 1)).map φ = φ s :: (List.range' (s + 1) c).map φ := by simp [List.range'_succ]
    rw [e, layV]
    obtain ⟨h1, h2⟩ := layV_get φ hφ c (s + 1) (xs.set (φ s) y) ys hl' (fun t ht => by
      rw [List.length_set]
      have := hb (t + 1) (by omega)
      rw [show s + 1 + t = s + (t + 1) by omega]
      exact this)
    refine ⟨fun t ht => ?_, fun j hj => ?_⟩
    · cases t with
      | zero =>
        show (layV (xs.set (φ s) y) ((List.range' (s + 1) c).map φ) ys)[φ s]? = some y
        rw [h2 (φ s) (fun t _ z => by have := hφ _ _ z; omega)]
        have hb0 := hb 0 (by omega)
        rw [Nat.add_zero] at hb0
        rw [List.getElem?_set_self hb0]
      | succ t =>
        have := h1 t (by omega)
        rw [show s + (t + 1) = s + 1 + t by omega, this]
        rfl
    · rw [h2 j (fun t ht => by
        have := hj (t + 1) (by omega)
        rw [show s + 1 + t = s + (t + 1) by omega]
        exact this)]
      have := hj 0 (by omega)
      rw [Nat.add_zero] at this
      rw [List.getElem?_set_ne this]
theorem layV_whole {α : Type} (xs ys : List α) (h : ys.length = xs.length) : layV xs (List.range xs.length) ys = ys := by
  have g := layV_get (fun t => t) (fun _ _ z => z) xs.length 0 xs ys h (fun t ht => by omega)
  have e : (List.range' 0 xs.length).map (fun t => t) = List.range xs.length := by simp [List.range_eq_range']
  rw [e] at g
  apply List.ext_getElem?
  intro j
  by_cases hj : j < xs.length
  · have := g.1 j hj
    rw [Nat.zero_add] at this
    exact this
  · rw [List.getElem?_eq_none (by rw [layV_len]; omega), List.getElem?_eq_none (by omega)]
/-- the ints of it -/
def layI (xs ys : List Int) (h r : Nat) : List Int := tab xs.length fun k => if k % h = r then ys.getD (k / h) 0 else xs.getD k 0
theorem layV_int (xs ys : List Int) (h r : Nat) (hr : r < h) (hl : ys.length = (xs.length + h - 1 - r) / h) : layV xs ((List.range xs.length).filter fun i => decide (i % h = r)) ys = layI xs ys h r := by
  rw [range_mod h r hr]
  have hh : 0 < h := by omega
  have bnd : ∀ t, t < (xs.length + h - 1 - r) / h → r + h * t < xs.length := by
    intro t ht
    have h1 : (t + 1) * h ≤ xs.length + h - 1 - r := (Nat.le_div_iff_mul_le hh).mp ht
    have h2 : (t + 1) * h = h * t + h := by rw [Nat.add_mul, Nat.one_mul, Nat.mul_comm]
    omega
  have g := layV_get (fun t => r + h * t) (fun a b z => by
    have z' : h * a = h * b := by simpa using z
    exact Nat.eq_of_mul_eq_mul_left hh z') ((xs.length + h - 1 - r) / h) 0 xs ys hl (fun t ht => by rw [Nat.zero_add]; exact bnd t ht)
  have e : (List.range' 0 ((xs.length + h - 1 - r) / h)).map (fun t => r + h * t) = (List.range ((xs.length + h - 1 - r) / h)).map fun t => r + h * t := by rw [← List.range_eq_range']
  rw [e] at g
  apply List.ext_getElem?
  intro j
  by_cases hj : j < xs.length
  · unfold layI
    rw [tab_get _ hj]
    by_cases ej : j % h = r
    · rw [if_pos ej]
      have ejd : r + h * (j / h) = j := by rw [← ej]; exact Nat.mod_add_div j h
      have ht : j / h < (xs.length + h - 1 - r) / h := by
        rw [Nat.lt_iff_add_one_le, Nat.le_div_iff_mul_le hh]
        have h2 : (j / h + 1) * h = h * (j / h) + h := by rw [Nat.add_mul, Nat.one_mul, Nat.mul_comm]
        omega
      have := g.1 (j / h) ht
      rw [Nat.zero_add, ejd] at this
      rw [this, List.getD_eq_getElem?_getD, List.getElem?_eq_getElem (by omega)]
      rfl
    · rw [if_neg ej, g.2 j (fun t ht z => ej (by
        rw [Nat.zero_add] at z
        rw [← z, Nat.add_mul_mod_self_left, Nat.mod_eq_of_lt hr])), List.getD_eq_getElem?_getD, List.getElem?_eq_getElem hj]
      rfl
  · rw [List.getElem?_eq_none (by rw [layV_len]; omega)]
    unfold layI
    rw [List.getElem?_eq_none (by rw [tab_len]; omega)]
section
variable {prog : Program} {w : World} {A : Around} {E : Value → Shared → Prop} {s : Shared}
set_option maxRecDepth 100000 in
theorem setItem_step {l b sl : Addr} {its its2 : List Value} {n n2 : Nat} {vl vs : Value} {r h : Nat} {Q : Unit → Shared → Prop}
    (e : s.heap.get? l = some { cls := .type "list", data := .seq its.toArray n }) (e2 : s.heap.get? b = some { cls := .type "list", data := .seq its2.toArray n2 }) (hne : l ≠ b)
    (hs : s.heap.IsSliceOf sl vl .none vs) (pl : IsPart vl (some (r : Int))) (pst : IsPart vs (some (h : Int))) (hh : r < h)
    (hlen : its2.length = ((List.range its.length).filter fun i => decide (i % h = r)).length) (hsz : its.length + its2.length ≤ sizeLine)
    (hq : ∀ f : Array Value → Array Value, f its.toArray = (layV its ((List.range its.length).filter fun i => decide (i % h = r)) its2).toArray → Q () { s with heap := s.heap.update l (Obj.mapSeq f) }) :
    wpAny (model prog w) A (setItem (.ref l) (.ref sl) (.ref b)) Q E s := by
  have hl : s.heap.IsList l its.toArray := PySem.IsL.isList e
  have hb : s.heap.IsList b its2.toArray := PySem.IsL.isList e2
  obtain ⟨os, hos, hcs, hds⟩ := id hs
  have hTs : s.TypeIs (.ref sl) "slice" := ⟨os, hos, hcs⟩
  have hstep : ¬ ((rawPart (some (h : Int)) == rawInt 0) = true) := by
    intro z
    have z2 : rawInt (h : Int) = rawInt 0 := by simpa [rawPart] using z
    have : (h : Int) = 0 := by
      unfold rawInt at z2
      exact (Value.int.inj z2).1
    omega
  have hsame : Builtin.List.listSameRef (.ref l) (.ref b) = false := by
    unfold Builtin.List.listSameRef
    exact beq_eq_false_iff_ne.mpr hne
  unfold setItem
  try with_reducible refine wpAny_holding ?_
  first | refine wpAny_bind (wpAny_pure ?_) | skip
  refine wpAny_bind (wpAny_sequenceKey hl.typeIs (by decide) ?_)
  refine wpAny_bind (wpAny_callSpecial?_slot (name := Str.ofString "__setitem__") hl.typeIs slot_list_setitem
    (wpAny_call_entry slot_list_setitem hl.typeIs entry_list_setitem ?_ (args_list_setitem _ _ _)))
  show wpAny _ _ (Builtin.List.listSubscript? (.ref sl) >>= _) _ _ s
  refine wpAny_bind ?_
  unfold Builtin.List.listSubscript?
  refine wpAny_bind (wpAny_specialOf hTs slice_no_index ?_)
  simp only [Option.isNone_none, if_true]
  refine wpAny_pure ?_
  show wpAny _ _ (typeOf (.ref sl) >>= _) _ _ s
  refine wpAny_bind (wpAny_typeOf hTs ?_)
  first
    | rw [if_neg (by decide)]
    | refine PySem.W.KFB.if_not (by decide) ?_
  rw [listSliceParts_eq]
  refine wpAny_bind (wpAny_bind (wpAny_field hos hds (x := vs) rfl (wpAny_bind (wpAny_listPart pst ?_))))
  rw [if_neg hstep]
  refine wpAny_bind (wpAny_field hos hds (x := vl) rfl (wpAny_bind (wpAny_listPart pl ?_)))
  refine wpAny_bind (wpAny_field hos hds (x := .none) rfl (wpAny_bind (wpAny_listPart .none (wpAny_pure ?_))))
  first
    | simp only [hsame, Bool.false_eq_true, if_false]
    | refine PySem.W.KFB.if_not hsame ?_
    | (dsimp only
       rw [if_neg (by rw [hsame]; exact Bool.false_ne_true)])
  refine wpAny_bind (m := Builtin.List.listAllItems (.ref b) "must assign iterable to extended slice") ?_
  unfold Builtin.List.listAllItems
  refine wpAny_bind (wpAny_typeOf hb.typeIs ?_)
  first
    | refine PySem.W.KFB.if_so (by decide) ?_
    | rw [if_pos (by decide)]
    | simp only [beq_self_eq_true, Bool.true_or, if_true]
  unfold Builtin.List.listItems
  refine wpAny_bind (wpAny_seqItems e2 rfl (wpAny_pure ?_))
  refine wpAny_bind (wpAny_bind (wpAny_seqItems e rfl (wpAny_pure ?_)))
  have h0 : (some (h : Int) : Option Int) ≠ some 0 := by
    intro z
    have := Option.some.inj z
    omega
  refine wpAny_bind (wpAny_of_eq (sliceIndices_raw (some (r : Int)) none (some (h : Int)) its.toArray.size h0) ?_)
  rw [List.size_toArray]
  have hplaces := slice_step its.length r h hh
  by_cases e1 : h = 1
  · subst e1
    have r0 : r = 0 := by omega
    subst r0
    have eb : sliceBounds (some ((0 : Nat) : Int)) none (some ((1 : Nat) : Int)) its.length = ((0 : Int), (its.length : Int), (1 : Int)) := by
      simp [sliceBounds]
      omega
    rw [eb]
    have hall : (List.range its.length).filter (fun i => decide (i % 1 = 0)) = List.range its.length := List.filter_eq_self.mpr fun i _ => by simp [Nat.mod_one]
    rw [hall] at hlen hq
    rw [List.length_range] at hlen
    show wpAny _ _ (if ((1 : Int) == 1) = true then _ else _) _ _ s
    rw [if_pos (by decide)]
    refine wpAny_bind (wpAny_rule ?_)
    have hsz' : its.length + its2.toArray.size ≤ sizeLine := by rw [List.size_toArray]; exact hsz
    first
      | simp only [notLongL hsz', Bool.false_eq_true, if_false]
      | refine PySem.W.KFB.if_not (notLongL hsz') ?_
    first | refine wpAny_bind (wpAny_pure ?_) | skip
    show wpAny _ _ (updateSeq l (fun xs => xs.extract 0 ((0 : Int)).toNat ++ its2.toArray ++ xs.extract (max (0 : Int) (its.length : Int)).toNat xs.size) >>= _) _ _ s
    have hmax : (max (0 : Int) (its.length : Int)).toNat = its.length := by omega
    rw [hmax]
    have ef : (fun xs : Array Value => xs.extract 0 ((0 : Int)).toNat ++ its2.toArray ++ xs.extract its.length xs.size) its.toArray = (layV its (List.range its.length) its2).toArray := by
      rw [layV_whole its its2 hlen]
      simp
    refine wpAny_bind (wpAny_updateSeq (hz := by rw [List.size_toArray]; omega) (_hz' := Nat.le_trans (Nat.le_of_eq (congrArg Array.size ef)) (by rw [List.size_toArray, layV_len]; omega)) e rfl ?_)
    refine wpAny_bind (wpAny_letGo ?_)
    first
      | exact wpAny_bind (wpAny_pure (wpAny_pure ⟨.none, rfl, wpAny_pure (hq _ ef)⟩))
      | exact wpAny_pure ⟨.none, rfl, wpAny_pure (hq _ ef)⟩
  · obtain ⟨b1, b2, eb, hp⟩ : ∃ b1 b2, sliceBounds (some (r : Int)) none (some (h : Int)) its.length = (b1, b2, (h : Int)) ∧ sliceRange b1 b2 (h : Int) = (List.range its.length).filter fun i => decide (i % h = r) := ⟨_, _, rfl, hplaces⟩
    rw [eb]
    rw [← hp] at hlen
    have hne1 : ¬ (((h : Int) == 1) = true) := by
      intro z
      have := of_decide_eq_true z
      omega
    show wpAny _ _ (if ((h : Int) == 1) = true then _ else _) _ _ s
    rw [if_neg hne1]
    first | refine wpAny_bind (wpAny_pure ?_) | skip
    have hl2 : ¬ ((its2.toArray.size != (sliceRange b1 b2 (h : Int)).length) = true) := by
      rw [List.size_toArray, ← hlen]
      simp
    first
      | rw [if_neg hl2]
      | refine PySem.W.KFB.if_not (eq_false_of_ne_true hl2) ?_
    first | refine wpAny_bind (wpAny_pure ?_) | skip
    refine wpAny_bind (wpAny_rule ?_)
    rw [hp]
    have ef : (fun xs : Array Value => (((List.range its.length).filter fun i => decide (i % h = r)).zip its2).foldl (fun (xs : Array Value) (q : Nat × Value) => xs.setIfInBounds q.1 q.2) xs) its.toArray = (layV its ((List.range its.length).filter fun i => decide (i % h = r)) its2).toArray := by
      show List.foldl _ _ _ = _
      rw [layV_arr, layV_fold]
    refine wpAny_bind (m := updateSeq l _) (wpAny_updateSeq (f := fun xs : Array Value => (((List.range its.length).filter fun i => decide (i % h = r)).zip its2).foldl (fun (xs : Array Value) (q : Nat × Value) => xs.setIfInBounds q.1 q.2) xs) (hz := by rw [List.size_toArray]; omega) (_hz' := Nat.le_trans (Nat.le_of_eq (congrArg Array.size ef)) (by rw [List.size_toArray, layV_len]; omega)) e rfl ?_)
    refine wpAny_bind (wpAny_letGo ?_)
    first
      | exact wpAny_bind (wpAny_pure (wpAny_pure ⟨.none, rfl, wpAny_pure (hq _ ef)⟩))
      | exact wpAny_pure ⟨.none, rfl, wpAny_pure (hq _ ef)⟩
end
/-- the reading of xs[r::h] = ys -/
def gStep (K : PySem.W.Frag) (to : TE) (tl ts : TO) : TG := fun v σ H Q => to σ H fun x H1 => tl σ H1 fun l H2 => ts σ H2 fun st H3 =>
  ∃ (a b : Addr) (xs ys : List V) (r h : Nat), x = .ref a ∧ v = .ref b ∧ l = some (r : Int) ∧ st = some (h : Int) ∧ r < h ∧ H3 a = some (.lst xs) ∧ H3 b = some (.lst ys) ∧ a ≠ b ∧
    ys.length = ((List.range xs.length).filter fun i => decide (i % h = r)).length ∧ xs.length + ys.length ≤ sizeLine ∧ Q σ (upd H3 a (.lst (layV xs ((List.range xs.length).filter fun i => decide (i % h = r)) ys)))
theorem pg_step {X : Cx} {o lo s0 : Expr} {to : TE} {tl ts : TO} {p2 pos : Pos} (ho : PE X o to) (hl : PO X (some lo) tl) (hst : PO X (some s0) ts)
    (ha : ∀ v, assign (.Subscript o (.Slice (some lo) none (some s0) p2) pos) X.env v = (do
      let ov ← holding [v] (eval o X.env)
      let iv ← holding [v, ov] (eval (.Slice (some lo) none (some s0) p2) X.env)
      standAt pos
      holding [v, ov, iv] (setItem ov iv v)
      release [v, ov, iv] []) := by intro _; rfl) : PG X (.Subscript o (.Slice (some lo) none (some s0) p2) pos) (gStep X.K to tl ts) := by
  refine ⟨fun pins s σ H v u Q I r h => ?_⟩
  rw [ha]
  refine wpAny_bind (wpAny_holding (thn (ho.run pins s σ H _ I h) fun ov s1 ⟨x, H1, I1, r1, q1⟩ => ?_))
  refine wpAny_bind (wpAny_holding (wpAny_Slice (thn (hl.run pins s1 σ H1 _ I1 q1) fun vl s2 ⟨l, H2, I2, pl, q2⟩ => ?_)))
  refine thn (po_none.run pins s2 σ H2 (fun (o : Option Int) H' => o = none ∧ H' = H2) I2 ⟨rfl, rfl⟩) fun vu s3 ⟨l2, H2', I3, pu, q3⟩ => ?_
  obtain ⟨rfl, rfl⟩ := q3
  cases pu
  refine thn (hst.run pins s3 σ _ _ I3 q2) fun vs s4 ⟨st, H4, I4, ps, q4⟩ => ?_
  obtain ⟨a, b, xs, ys, rr, hh, rfl, rfl, rfl, rfl, hr, hA, hB, hne, hlen, hsz, q⟩ := q4
  cases r1
  cases r
  have I5 : Inv X pins σ H4 { s4 with heap := s4.heap.push { cls := .type "slice", data := .fields #[vl, .none, vs] } } := I4.kept (t' := s4.toks) fun b ob q => Heap.get?_push_of_some _ q
  refine wpAny_bind (wpAny_standAt (wpAny_bind (wpAny_holding ?_)))
  obtain ⟨z, its, n, rv, el, e⟩ := I5.lstM hA
  obtain ⟨z2, its2, n2, rv2, el2, e2⟩ := I5.lstM hB
  refine setItem_step (r := rr) (h := hh) e e2 hne (Heap.IsSliceOf.new _ vl .none vs) pl ps hr (by rw [← el, ← el2]; exact hlen) (by omega) fun f ef => ?_
  rw [← el] at ef
  refine wpAny_release ⟨σ, _, I5.lset (its' := layV its ((List.range xs.length).filter fun i => decide (i % hh = rr)) its2) (t' := s4.toks) hA e ef (layV_rel _ rv rv2) (by rw [layV_len]; omega), q⟩
/-! ### floor division by any number but 0 -/
def CDivZ (i j : Int) : Prop := j ≠ 0 ∧ j.natAbs.log2 < 9000
theorem op_fdivZ {X : Cx} : OpR X (binaryOp .FloorDiv) (rI CDivZ fun i j => .int (i.fdiv j)) := opI fun i j _ _ _ _ _ hc q => floordiv_int hc.1 q (.inl (PyProof.noPylong_of_log2 hc.2))
theorem cdivZ {i j : Int} {b : Nat} (h : j ≠ 0) (hb : j.natAbs < 2 ^ b) (h0 : 0 < b) (h9 : b ≤ 9000) : CDivZ i j := ⟨h, Nat.lt_of_lt_of_le (PySem.Flt.log2_lt_of h0 hb) h9⟩
end XR

/-! Partners of windows: greatest common divisors from the left, Bezout's numbers, sums of products. Core Lean. -/
namespace Mth
open XR
def gl (ns : List Int) (i : Nat) : Nat := gcdL (ns.take i)
theorem gl_zero (ns : List Int) : gl ns 0 = 0 := rfl
theorem gl_succ {ns : List Int} {i : Nat} {x : Int} (h : ns[i]? = some x) : gl ns (i + 1) = Nat.gcd (gl ns i) x.natAbs := by
  unfold gl gcdL
  rw [List.take_add_one, h, List.foldl_append, Nat.gcd_comm]
  rfl
theorem gl_all (ns : List Int) : gl ns ns.length = gcdL ns := by
  unfold gl
  rw [List.take_length]
theorem gcd_lt {a b c : Nat} (h1 : a < c) (h2 : b < c) : Nat.gcd a b < c := by
  by_cases e : a = 0
  · subst e; rw [Nat.gcd_zero_left]; exact h2
  · exact Nat.lt_of_le_of_lt (Nat.gcd_le_left _ (by omega)) h1
theorem gl_lt {ns : List Int} {b : Nat} (h : ∀ x ∈ ns, x.natAbs < 2 ^ b) : ∀ i, gl ns i < 2 ^ b
  | 0 => by rw [gl_zero]; exact Nat.two_pow_pos b
  | i + 1 => by
    cases e : ns[i]? with
    | none =>
      have : gl ns (i + 1) = gl ns i := by
        have hl := List.getElem?_eq_none_iff.mp e
        unfold gl
        rw [List.take_of_length_le (by omega), List.take_of_length_le hl]
      rw [this]
      exact gl_lt h i
    | some x =>
      rw [gl_succ e]
      exact gcd_lt (gl_lt h i) (h x (List.mem_of_getElem? e))
theorem gcdL_lt {ns : List Int} {b : Nat} (h : ∀ x ∈ ns, x.natAbs < 2 ^ b) : gcdL ns < 2 ^ b := by
  rw [← gl_all]
  exact gl_lt h _
theorem gl_dvd (ns : List Int) : ∀ i j x, j < i → ns[j]? = some x → gl ns i ∣ x.natAbs
  | 0, j, x, hj, _ => absurd hj (by omega)
  | i + 1, j, x, hj, hx => by
    cases e : ns[i]? with
    | none =>
      have hl := List.getElem?_eq_none_iff.mp e
      have hl2 := (List.getElem?_eq_some_iff.mp hx).1
      have : gl ns (i + 1) = gl ns i := by
        unfold gl
        rw [List.take_of_length_le (by omega), List.take_of_length_le hl]
      rw [this]
      exact gl_dvd ns i j x (by omega) hx
    | some y =>
      rw [gl_succ e]
      by_cases ej : j = i
      · subst ej
        rw [e] at hx
        cases hx
        exact Nat.gcd_dvd_right _ _
      · exact Nat.dvd_trans (Nat.gcd_dvd_left _ _) (gl_dvd ns i j x (by omega) hx)
theorem gcdL_dvd {ns : List Int} {x : Int} (h : x ∈ ns) : gcdL ns ∣ x.natAbs := by
  obtain ⟨j, hj, e⟩ := List.mem_iff_getElem.mp h
  rw [← gl_all]
  exact gl_dvd ns _ j x hj (by rw [List.getElem?_eq_getElem hj, e])
/-! ### least common multiples -/
def lcmL (ds : List Nat) : Nat := ds.foldl Nat.lcm 1
theorem lcm_dvd_iff {a b c : Nat} : Nat.lcm a b ∣ c ↔ a ∣ c ∧ b ∣ c := ⟨fun h => ⟨Nat.dvd_trans (Nat.dvd_lcm_left a b) h, Nat.dvd_trans (Nat.dvd_lcm_right a b) h⟩, fun h => Nat.lcm_dvd h.1 h.2⟩
theorem foldl_lcm_dvd (n : Nat) : ∀ (ds : List Nat) (a : Nat), ds.foldl Nat.lcm a ∣ n ↔ a ∣ n ∧ ∀ d ∈ ds, d ∣ n
  | [], a => by simp
  | d :: ds, a => by
    rw [List.foldl_cons, foldl_lcm_dvd n ds, lcm_dvd_iff]
    simp only [List.mem_cons, forall_eq_or_imp, and_assoc]
theorem lcmL_dvd {ds : List Nat} {n : Nat} : lcmL ds ∣ n ↔ ∀ d ∈ ds, d ∣ n := by
  unfold lcmL
  rw [foldl_lcm_dvd]
  simp
theorem lcm_lt {a b s t : Nat} (h1 : a < 2 ^ s) (h2 : b < 2 ^ t) : Nat.lcm a b < 2 ^ (s + t) := by
  have h : Nat.lcm a b ≤ a * b := by
    unfold Nat.lcm
    exact Nat.div_le_self _ _
  rw [Nat.pow_add]
  exact Nat.lt_of_le_of_lt h (Nat.mul_lt_mul'' h1 h2)
theorem lcmL_take {ds : List Nat} {i d : Nat} (h : ds[i]? = some d) : lcmL (ds.take (i + 1)) = Nat.lcm (lcmL (ds.take i)) d := by
  unfold lcmL
  rw [List.take_add_one, h, List.foldl_append]
  rfl
theorem lcmL_lt {ds : List Nat} {b : Nat} (h : ∀ d ∈ ds, d < 2 ^ b) : ∀ i, lcmL (ds.take i) < 2 ^ (1 + i * b)
  | 0 => by
    show (1 : Nat) < 2 ^ (1 + 0 * b)
    rw [Nat.zero_mul]
    decide
  | i + 1 => by
    cases e : ds[i]? with
    | none =>
      have hl := List.getElem?_eq_none_iff.mp e
      have : ds.take (i + 1) = ds.take i := by rw [List.take_of_length_le (by omega), List.take_of_length_le hl]
      rw [this]
      refine Nat.lt_of_lt_of_le (lcmL_lt h i) (Nat.pow_le_pow_right (by decide) ?_)
      rw [Nat.add_mul]
      omega
    | some d =>
      rw [lcmL_take e]
      have := lcm_lt (lcmL_lt h i) (h d (List.mem_of_getElem? e))
      rw [show 1 + i * b + b = 1 + (i + 1) * b by rw [Nat.add_mul]; omega] at this
      exact this
/-! ### floor division -/
theorem fdiv_rem {d o : Int} (h : o ≠ 0) : d - d.fdiv o * o = d.fmod o := by
  have := Int.mul_fdiv_add_fmod d o
  rw [Int.mul_comm] at this
  omega
theorem fmod_lt {d o : Int} (h : o ≠ 0) : (d.fmod o).natAbs < o.natAbs := by
  by_cases ho : 0 < o
  · have h1 := Int.fmod_lt_of_pos d ho
    have h2 := Int.fmod_nonneg_of_pos d ho
    omega
  · have e : d.fmod o = -((-d).fmod (-o)) := by rw [Int.neg_fmod_neg]; omega
    have h1 := Int.fmod_lt_of_pos (-d) (show 0 < -o by omega)
    have h2 := Int.fmod_nonneg_of_pos (-d) (show 0 < -o by omega)
    omega
theorem fmod_sign {d o : Int} (h : o ≠ 0) : 0 ≤ o * d.fmod o := by
  by_cases ho : 0 < o
  · exact Int.mul_nonneg (by omega) (Int.fmod_nonneg_of_pos d ho)
  · have e : d.fmod o = -((-d).fmod (-o)) := by rw [Int.neg_fmod_neg]; omega
    have h2 := Int.fmod_nonneg_of_pos (-d) (show 0 < -o by omega)
    have h3 : 0 ≤ (-o) * ((-d).fmod (-o)) := Int.mul_nonneg (by omega) h2
    rw [e]
    have e2 : o * -((-d).fmod (-o)) = (-o) * ((-d).fmod (-o)) := by rw [Int.mul_neg, Int.neg_mul]
    rw [e2]
    exact h3
theorem gcd_step {d o : Int} : Int.gcd o (d - d.fdiv o * o) = Int.gcd d o := by
  rw [Int.gcd_comm d o]
  have : d - d.fdiv o * o = d + o * (-(d.fdiv o)) := by rw [Int.mul_neg, Int.mul_comm o]; omega
  rw [this, Int.gcd_add_mul_left_right]
/-- same signs, the first one not less: the rest is at most half of it -/
theorem half_rem {d o : Int} (h : o ≠ 0) (hle : o.natAbs ≤ d.natAbs) (hs : 0 ≤ d * o) : 2 * (d.fmod o).natAbs ≤ d.natAbs := by
  have key : ∀ a b : Int, 0 < b → b ≤ a → 2 * (a.fmod b) ≤ a := by
    intro a b hb hab
    have h1 := Int.fmod_lt_of_pos a hb
    have h2 := Int.fmod_nonneg_of_pos a hb
    have h3 := Int.mul_fdiv_add_fmod a b
    have h4 : 1 ≤ a.fdiv b := by
      rw [Int.fdiv_eq_ediv_of_nonneg a (by omega)]
      exact (Int.le_ediv_iff_mul_le hb).mpr (by omega)
    have h5 : b * 1 ≤ b * a.fdiv b := Int.mul_le_mul_of_nonneg_left h4 (by omega)
    omega
  by_cases ho : 0 < o
  · have hd : 0 ≤ d := by
      rcases Int.lt_or_le d 0 with z | z
      · have := Int.mul_neg_of_neg_of_pos z ho
        omega
      · exact z
    have := key d o ho (by omega)
    have h2 := Int.fmod_nonneg_of_pos d ho
    omega
  · have hd : d ≤ 0 := by
      rcases Int.lt_or_le 0 d with z | z
      · have := Int.mul_neg_of_pos_of_neg z (show o < 0 by omega)
        omega
      · exact z
    have := key (-d) (-o) (by omega) (by omega)
    have h2 := Int.fmod_nonneg_of_pos (-d) (show 0 < -o by omega)
    have e : d.fmod o = -((-d).fmod (-o)) := by rw [Int.neg_fmod_neg]; omega
    omega
theorem quo_lt {d o : Int} (h : o ≠ 0) : (d.fdiv o).natAbs ≤ d.natAbs := by
  have h1 := fmod_lt (d := d) h
  have h2 := fdiv_rem (d := d) h
  have e : (d.fdiv o * o).natAbs = (d.fdiv o).natAbs * o.natAbs := Int.natAbs_mul _ _
  have h3 : (d.fdiv o).natAbs * o.natAbs ≤ d.natAbs + (d.fmod o).natAbs := by omega
  by_cases z : (d.fdiv o).natAbs ≤ d.natAbs
  · exact z
  · have h4 : (d.natAbs + 1) * o.natAbs ≤ (d.fdiv o).natAbs * o.natAbs := Nat.mul_le_mul_right _ (by omega)
    have h5 : d.natAbs * 1 ≤ d.natAbs * o.natAbs := Nat.mul_le_mul_left _ (by omega)
    rw [Nat.add_mul, Nat.one_mul] at h4
    omega
/-! ### Bezout's loop -/
structure Bz (m e : Int) (b : Nat) (d o t u : Int) : Prop where
  ct : ∃ c, t * e = d + c * m
  cu : ∃ c, u * e = o + c * m
  g : Int.gcd d o = Int.gcd m e
  sz : ∃ k, k ≤ 2 * b + 2 ∧ t.natAbs < 2 ^ ((b + 2) * (k + 1)) ∧ u.natAbs < 2 ^ ((b + 2) * (k + 1)) ∧ d.natAbs < 2 ^ b ∧ o.natAbs < 2 ^ b ∧
    (k = 0 ∨ (d.natAbs * o.natAbs * 2 ^ k ≤ 2 ^ (2 * b + 1) ∧ o.natAbs ≤ d.natAbs ∧ 0 ≤ d * o))
theorem Bz.start {m e : Int} {b : Nat} (hm : m.natAbs < 2 ^ b) (he : e.natAbs < 2 ^ b) : Bz m e b m e 0 1 where
  ct := ⟨-1, by omega⟩
  cu := ⟨0, by omega⟩
  g := rfl
  sz := ⟨0, by omega, Nat.two_pow_pos _, Nat.one_lt_two_pow (by omega), hm, he, .inl rfl⟩
theorem Bz.step {m e : Int} {b : Nat} {d o t u : Int} (h : Bz m e b d o t u) (ho : o ≠ 0) : Bz m e b o (d - d.fdiv o * o) u (t - d.fdiv o * u) where
  ct := h.cu
  cu := by
    obtain ⟨c, hc⟩ := h.ct
    obtain ⟨c', hc'⟩ := h.cu
    refine ⟨c - d.fdiv o * c', ?_⟩
    rw [Int.sub_mul, Int.mul_assoc, hc, hc', Int.mul_add, Int.sub_mul, Int.mul_assoc]
    omega
  g := by rw [gcd_step]; exact h.g
  sz := by
    obtain ⟨k, k1, ht, hu, hd, ho2, hk⟩ := h.sz
    rw [fdiv_rem ho]
    have r1 := fmod_lt (d := d) ho
    have rs := fmod_sign (d := d) ho
    have q1 := quo_lt (d := d) ho
    have hk2 : k ≤ 2 * b + 1 := by
      rcases hk with z | ⟨z, z2, _⟩
      · omega
      · have p1 : 1 ≤ d.natAbs * o.natAbs := Nat.mul_le_mul (show 1 ≤ d.natAbs by omega) (show 1 ≤ o.natAbs by omega)
        have p2 : 2 ^ k ≤ 2 ^ (2 * b + 1) := Nat.le_trans (Nat.le_trans (Nat.le_of_eq (Nat.one_mul _).symm) (Nat.mul_le_mul_right _ p1)) z
        exact (Nat.pow_le_pow_iff_right (by decide)).mp p2
    refine ⟨k + 1, by omega, Nat.lt_of_lt_of_le hu (Nat.pow_le_pow_right (by decide) (Nat.mul_le_mul_left _ (by omega))), ?_, ho2, by omega, .inr ⟨?_, by omega, rs⟩⟩
    · have a1 : (t - d.fdiv o * u).natAbs ≤ t.natAbs + (d.fdiv o).natAbs * u.natAbs := by
        have := Int.natAbs_mul (d.fdiv o) u
        omega
      have a2 : (d.fdiv o).natAbs * u.natAbs ≤ 2 ^ b * 2 ^ ((b + 2) * (k + 1)) := Nat.mul_le_mul (by omega) (by omega)
      rw [← Nat.pow_add] at a2
      have a3 : 2 ^ ((b + 2) * (k + 1)) ≤ 2 ^ (b + (b + 2) * (k + 1)) := Nat.pow_le_pow_right (by decide) (by omega)
      have a4 : 2 ^ (b + (b + 2) * (k + 1) + 1) ≤ 2 ^ ((b + 2) * (k + 1 + 1)) := Nat.pow_le_pow_right (by decide) (by rw [Nat.mul_add (b + 2) (k + 1) 1]; omega)
      rw [Nat.pow_succ] at a4
      omega
    · rcases hk with z | ⟨z, z2, z3⟩
      · subst z
        have b1 : o.natAbs * (d.fmod o).natAbs ≤ 2 ^ b * 2 ^ b := Nat.mul_le_mul (by omega) (by omega)
        rw [← Nat.pow_add] at b1
        rw [show 2 * b + 1 = b + b + 1 by omega, Nat.pow_succ 2 (b + b)]
        omega
      · have b1 := half_rem ho z2 z3
        refine Nat.le_trans ?_ z
        rw [Nat.pow_succ]
        have b2 : o.natAbs * (d.fmod o).natAbs * 2 ≤ d.natAbs * o.natAbs := by
          rw [Nat.mul_comm d.natAbs, Nat.mul_assoc]
          exact Nat.mul_le_mul_left _ (by omega)
        have b3 := Nat.mul_le_mul_right (2 ^ k) b2
        have b4 : o.natAbs * (d.fmod o).natAbs * (2 ^ k * 2) = o.natAbs * (d.fmod o).natAbs * 2 * 2 ^ k := by
          rw [Nat.mul_comm (2 ^ k) 2, ← Nat.mul_assoc]
        rw [b4]
        exact b3
theorem Bz.tlt {m e : Int} {b : Nat} {d o t u : Int} (h : Bz m e b d o t u) : t.natAbs < 2 ^ ((b + 2) * (2 * b + 3)) := by
  obtain ⟨k, k1, ht, _⟩ := h.sz
  exact Nat.lt_of_lt_of_le ht (Nat.pow_le_pow_right (by decide) (Nat.mul_le_mul_left _ (by omega)))
theorem Bz.ult {m e : Int} {b : Nat} {d o t u : Int} (h : Bz m e b d o t u) : u.natAbs < 2 ^ ((b + 2) * (2 * b + 3)) := by
  obtain ⟨k, k1, _, ht, _⟩ := h.sz
  exact Nat.lt_of_lt_of_le ht (Nat.pow_le_pow_right (by decide) (Nat.mul_le_mul_left _ (by omega)))
theorem Bz.dlt {m e : Int} {b : Nat} {d o t u : Int} (h : Bz m e b d o t u) : d.natAbs < 2 ^ b ∧ o.natAbs < 2 ^ b := by
  obtain ⟨k, k1, _, _, h1, h2, _⟩ := h.sz
  exact ⟨h1, h2⟩
theorem Bz.stop {m e : Int} {b : Nat} {d t u : Int} (h : Bz m e b d 0 t u) : d.natAbs = Int.gcd m e := by
  have := h.g
  rw [Int.gcd_zero_right] at this
  exact this
/-- the number of an entry: times it leaves the level's rest -/
theorem num_ok {m e L t : Int} {g : Nat} (hg : g = Int.gcd m e) (g0 : g ≠ 0) (hL : (g : Int) ∣ L) (ht : ∃ c, t * e = (g : Int) + c * m) : ∃ c, t * (L / (g : Int)) * e = L + c * m := by
  obtain ⟨c, hc⟩ := ht
  obtain ⟨l, rfl⟩ := hL
  rw [Int.mul_ediv_cancel_left _ (by omega)]
  refine ⟨l * c, ?_⟩
  rw [Int.mul_assoc, Int.mul_comm l e, ← Int.mul_assoc, hc, Int.add_mul, Int.mul_assoc, Int.mul_comm m l, Int.mul_assoc, ← Int.mul_assoc c l m, Int.mul_comm c l, Int.mul_assoc]
theorem num_mod {m e L n : Int} {g : Nat} (hg : g = Int.gcd m e) (g0 : g ≠ 0) (hn : ∃ c, n * e = L + c * m) : ∃ c, (n % (m / (g : Int))) * e = L + c * m := by
  obtain ⟨c, hc⟩ := hn
  have h1 : (g : Int) ∣ m := by rw [hg]; exact Int.gcd_dvd_left m e
  have h2 : (g : Int) ∣ e := by rw [hg]; exact Int.gcd_dvd_right m e
  obtain ⟨m', hm'⟩ := h1
  obtain ⟨e', he'⟩ := h2
  have ed : m / (g : Int) = m' := by rw [hm', Int.mul_ediv_cancel_left _ (by omega)]
  rw [ed]
  have := Int.emod_add_mul_ediv n m'
  refine ⟨c - n / m' * e', ?_⟩
  have e1 : n % m' = n - m' * (n / m') := by omega
  have e2 : m' * (n / m') * e = n / m' * e' * m := by
    rw [he', hm', Int.mul_comm m', Int.mul_assoc, ← Int.mul_assoc m' (g : Int) e', Int.mul_comm m' (g : Int), Int.mul_assoc, Int.mul_assoc (n / m') e', ← Int.mul_assoc e' (g : Int) m', Int.mul_comm e' (g : Int), Int.mul_assoc (g : Int) e' m', Int.mul_comm e' m']
  rw [e1, Int.sub_mul, hc, e2, Int.sub_mul]
  omega
end Mth
namespace Mth
open XR
/-! ### sums of products -/
def dot (xs ys : List Int) : Int := sm xs.length fun i => xs.getD i 0 * ys.getD i 0
def mulL (xs ys : List Int) : List Int := tab xs.length fun i => xs.getD i 0 * ys.getD i 0
theorem mulL_len (xs ys : List Int) : (mulL xs ys).length = xs.length := tab_len _ _
theorem tab_getD (n : Nat) (f : Nat → Int) (i : Nat) : (tab n f).getD i 0 = if i < n then f i else 0 := by
  by_cases h : i < n
  · rw [if_pos h, List.getD_eq_getElem?_getD, tab_get _ h]
    rfl
  · rw [if_neg h, List.getD_eq_getElem?_getD, List.getElem?_eq_none (by rw [tab_len]; omega)]
    rfl
theorem mulL_getD (xs ys : List Int) (i : Nat) : (mulL xs ys).getD i 0 = xs.getD i 0 * ys.getD i 0 := by
  unfold mulL
  rw [tab_getD]
  split
  · rfl
  · rw [getD_out (w := xs) (by omega), Int.zero_mul]
theorem dot_sum (xs ys : List Int) : dot xs ys = (mulL xs ys).sum := by
  rw [sm_sum, mulL_len]
  unfold dot
  exact sm_congr fun i _ => (mulL_getD xs ys i).symm
theorem restS_phase1 (x : List Int) {h r : Nat} (hr : r < h) : restS x h r = (phase x h r).sum := by
  have := restS_phase (w := x) (m := h) (l := 1) (r := r) (q := 0) hr (by decide) (by decide)
  rw [Nat.mul_one, Nat.mul_zero, Nat.add_zero] at this
  rw [← this, sm_sum]
  unfold restS
  exact sm_congr fun i _ => by rw [if_pos (Nat.mod_one i)]
theorem phase_mul (xs ys : List Int) {h r : Nat} (hr : r < h) (hl : xs.length = ys.length) : phase (mulL xs ys) h r = mulL (phase xs h r) (phase ys h r) := by
  unfold phase mulL
  rw [tab_len, tab_len]
  refine tab_congr fun k hk => ?_
  have h1 := (cnt_lt hr).mp hk
  rw [tab_getD, if_pos h1, tab_getD, if_pos hk, tab_getD, if_pos (by rw [← hl]; exact hk)]
theorem restS_mul (xs ys : List Int) {h r : Nat} (hr : r < h) (hl : xs.length = ys.length) : restS (mulL xs ys) h r = dot (phase xs h r) (phase ys h r) := by
  rw [restS_phase1 _ hr, phase_mul xs ys hr hl, dot_sum]
theorem layI_len (xs ys : List Int) (h r : Nat) : (layI xs ys h r).length = xs.length := tab_len _ _
theorem phase_lay (xs ys : List Int) {h r q : Nat} (hr : r < h) (hq : q < h) (hl : ys.length = cnt xs.length h r) : phase (layI xs ys h r) h q = if q = r then ys else phase xs h q := by
  have hh : 0 < h := by omega
  unfold phase
  rw [layI_len]
  by_cases e : q = r
  · subst e
    rw [if_pos rfl, ← hl]
    conv => rhs; rw [tab_self ys 0]
    refine tab_congr fun k hk => ?_
    have h1 := (cnt_lt hq).mp (by rw [← hl]; exact hk)
    unfold layI
    rw [tab_getD, if_pos h1, if_pos (by rw [Nat.add_mul_mod_self_left, Nat.mod_eq_of_lt hq]), Nat.add_mul_div_left _ _ hh, Nat.div_eq_of_lt hq, Nat.zero_add]
  · rw [if_neg e]
    refine tab_congr fun k hk => ?_
    have h1 := (cnt_lt hq).mp hk
    unfold layI
    rw [tab_getD, if_pos h1, if_neg (by rw [Nat.add_mul_mod_self_left, Nat.mod_eq_of_lt hq]; exact e)]
theorem layI_mem {xs ys : List Int} {h r : Nat} {x : Int} (hx : x ∈ layI xs ys h r) : x ∈ xs ∨ x ∈ ys ∨ x = 0 := by
  obtain ⟨i, hi, rfl⟩ := mem_tab hx
  split
  · rw [List.getD_eq_getElem?_getD]
    cases e : ys[i / h]? with
    | none => exact .inr (.inr rfl)
    | some y => exact .inr (.inl (List.mem_of_getElem? e))
  · rw [List.getD_eq_getElem?_getD, List.getElem?_eq_getElem hi]
    exact .inl (List.getElem_mem hi)
/-- all greatest common divisors by rests -/
def rdL (w : List Int) (h : Nat) : List Nat := tab h fun r => gcdL (phase w h r)
theorem rdL_len (w : List Int) (h : Nat) : (rdL w h).length = h := tab_len _ _
theorem phase_mem {w : List Int} {h r : Nat} (hr : r < h) {x : Int} (hx : x ∈ phase w h r) : x ∈ w := by
  obtain ⟨k, hk, rfl⟩ := mem_tab hx
  have h1 := (cnt_lt hr).mp hk
  rw [List.getD_eq_getElem?_getD, List.getElem?_eq_getElem h1]
  exact List.getElem_mem h1
def okLevel (w : List Int) (h : Nat) (L : Int) : Bool := decide (∀ r, r < h → gcdL (phase w h r) ∣ L.natAbs)
theorem okLevel_iff {w : List Int} {h : Nat} {L : Int} : okLevel w h L = true ↔ ∀ r, r < h → gcdL (phase w h r) ∣ L.natAbs := by
  unfold okLevel
  rw [decide_eq_true_iff]
theorem gcd_eq_right {a b : Nat} : Nat.gcd a b = b ↔ b ∣ a := ⟨fun h => h ▸ Nat.gcd_dvd_left a b, fun h => Nat.gcd_eq_right h⟩
theorem okLevel_lcm {w : List Int} {h : Nat} {L : Int} : okLevel w h L = true ↔ lcmL (rdL w h) ∣ L.natAbs := by
  rw [okLevel_iff, lcmL_dvd]
  constructor
  · intro a d hd
    obtain ⟨r, hr, rfl⟩ := mem_tab hd
    exact a r hr
  · intro a r hr
    exact a _ (List.mem_of_getElem? (tab_get _ hr))
end Mth
namespace Mth
theorem sm_from {n k : Nat} (es nu : List Int) (v : Int) (hk : k < n) (hl : nu.length = n) :
    (sm n fun j => if k ≤ j then es.getD j 0 * (nu.set k v).getD j 0 else 0) = (sm n fun j => if k + 1 ≤ j then es.getD j 0 * nu.getD j 0 else 0) + es.getD k 0 * v := by
  have e1 : sm n (fun j => if j = k then es.getD k 0 * v else 0) = es.getD k 0 * v := by rw [sm_one, if_pos hk]
  rw [← e1, ← sm_add]
  refine sm_congr fun j hj => ?_
  by_cases e : j = k
  · subst e
    rw [if_pos (Nat.le_refl _), if_neg (by omega), if_pos rfl, getD_set_self (by omega)]
    omega
  · rw [if_neg e]
    have : (nu.set k v).getD j 0 = nu.getD j 0 := by
      rw [List.getD_eq_getElem?_getD, List.getD_eq_getElem?_getD, List.getElem?_set_ne (fun z => e z.symm)]
    rw [this]
    by_cases h : k + 1 ≤ j
    · rw [if_pos (by omega), if_pos h]
      omega
    · rw [if_neg (by omega), if_neg h]
      rfl
theorem sm_none {n : Nat} (f : Nat → Int) : (sm n fun j => if n ≤ j then f j else 0) = 0 := sm_const0 n fun j hj => if_neg (by omega)
theorem dot_from (es nu : List Int) : (sm es.length fun j => if 0 ≤ j then es.getD j 0 * nu.getD j 0 else 0) = dot es nu := sm_congr fun j _ => if_pos (Nat.zero_le _)
end Mth
namespace Mth
theorem filter_len {n h r : Nat} (hr : r < h) : ((List.range n).filter fun i => decide (i % h = r)).length = cnt n h r := by
  rw [range_mod h r hr, List.length_map, List.length_range]
  rfl
theorem take_mul (xs ys : List Int) (i : Nat) (hi : i < xs.length) : (tab (i + 1) fun j => xs.getD j 0 * ys.getD j 0) = (tab i fun j => xs.getD j 0 * ys.getD j 0) ++ [xs.getD i 0 * ys.getD i 0] := tab_succ _ _
theorem rep_any {n : Nat} : (List.replicate n true).all id = true := by
  rw [List.all_eq_true]
  intro x hx
  exact (List.mem_replicate.mp hx).2
def sameB (ns : List Int) : Bool := decide (∀ i, i < ns.length → ns.getD i 0 = ns.getD 0 0)
theorem sameB_rest (w : List Int) (h : Nat) (h1 : 0 < h) : sameB (tab h (restS w h)) = evenB w h := by
  unfold sameB evenB
  congr 1
  rw [tab_len]
  apply propext
  constructor
  · intro a r hr
    have := a r hr
    rw [tab_getD, if_pos hr, tab_getD, if_pos h1] at this
    exact this
  · intro a i hi
    rw [tab_getD, if_pos hi, tab_getD, if_pos h1]
    exact a i hi
theorem all_same (ns : List Int) : ((tab ns.length fun i => decide (ns.getD i 0 = ns.getD 0 0)).all id) = sameB ns := by
  unfold sameB
  rw [Bool.eq_iff_iff, List.all_eq_true, decide_eq_true_iff]
  constructor
  · intro a i hi
    have := a _ (List.mem_of_getElem? (tab_get _ hi))
    simpa using this
  · intro a x hx
    obtain ⟨i, hi, rfl⟩ := mem_tab hx
    simpa using a i hi
end Mth
namespace Mth
theorem lcmL_lt2 {ds : List Nat} {b : Nat} (h : ∀ d ∈ ds, d < 2 ^ b) (i : Nat) : lcmL (ds.take i) < 2 ^ (1 + ds.length * b) := by
  by_cases hi : i ≤ ds.length
  · exact Nat.lt_of_lt_of_le (lcmL_lt h i) (Nat.pow_le_pow_right (by decide) (Nat.add_le_add_left (Nat.mul_le_mul_right _ hi) _))
  · rw [List.take_of_length_le (by omega)]
    have := lcmL_lt h ds.length
    rw [List.take_length] at this
    exact this
theorem lcmL_rd {w : List Int} {h b : Nat} (hx : ∀ x ∈ w, x.natAbs < 2 ^ b) (i : Nat) : lcmL ((rdL w h).take i) < 2 ^ (1 + h * b) := by
  have := lcmL_lt2 (ds := rdL w h) (b := b) (fun d hd => by
    obtain ⟨r, hr, rfl⟩ := mem_tab hd
    exact gcdL_lt fun x hx' => hx x (phase_mem hr hx')) i
  rw [rdL_len] at this
  exact this
theorem mulL_comm {xs ys : List Int} (h : xs.length = ys.length) : mulL xs ys = mulL ys xs := by
  unfold mulL
  rw [h]
  exact tab_congr fun i _ => Int.mul_comm _ _
theorem mulL_ones (xs : List Int) : mulL xs (List.replicate xs.length 1) = xs := by
  conv => rhs; rw [tab_self xs 0]
  unfold mulL
  refine tab_congr fun i hi => ?_
  rw [rep_tab, tab_getD, if_pos hi, Int.mul_one]
theorem evenB_of {w : List Int} {h : Nat} {L : Int} (h0 : 0 < h) (e : ∀ r, r < h → restS w h r = L) : evenB w h = true := evenB_iff.mpr fun r hr => by rw [e r hr, e 0 h0]
theorem any_of_rest {w : List Int} {h r : Nat} (e : restS w h r ≠ 0) : w.any (· != 0) = true := by
  rw [any_iff]
  refine Classical.byContradiction fun z => e ?_
  unfold restS
  refine sm_const0 _ fun i hi => ?_
  split
  · exact Classical.byContradiction fun ne => z ⟨i, hi, ne⟩
  · rfl
theorem any_mul {xs ys : List Int} (h : (mulL xs ys).any (· != 0) = true) : xs.any (· != 0) = true := by
  rw [any_iff] at h ⊢
  obtain ⟨i, hi, hz⟩ := h
  rw [mulL_len] at hi
  rw [mulL_getD] at hz
  exact ⟨i, hi, fun z => hz (by rw [z, Int.zero_mul])⟩
def addL (xs ys : List Int) : List Int := tab xs.length fun i => xs.getD i 0 + ys.getD i 0
def scaL (c : Int) (xs : List Int) : List Int := tab xs.length fun i => c * xs.getD i 0
theorem sm_scale (n : Nat) (c : Int) (f : Nat → Int) : sm n (fun i => c * f i) = c * sm n f := by
  induction n with
  | zero => rw [sm_zero, sm_zero, Int.mul_zero]
  | succ n ih => rw [sm_succ, sm_succ, ih, Int.mul_add]
theorem restS_add {w xs ys : List Int} {h r : Nat} (h1 : xs.length = w.length) (h2 : ys.length = w.length) : restS (mulL w (addL xs ys)) h r = restS (mulL w xs) h r + restS (mulL w ys) h r := by
  unfold restS
  rw [mulL_len, mulL_len, mulL_len, ← sm_add]
  refine sm_congr fun i hi => ?_
  rw [mulL_getD, mulL_getD, mulL_getD]
  split
  · unfold addL
    rw [tab_getD, if_pos (by omega), Int.mul_add]
  · rfl
theorem restS_sca {c : Int} {w xs : List Int} {h r : Nat} : restS (mulL (scaL c w) xs) h r = c * restS (mulL w xs) h r := by
  unfold restS
  rw [mulL_len, mulL_len, ← sm_scale]
  have el : (scaL c w).length = w.length := tab_len _ _
  rw [el]
  refine sm_congr fun i hi => ?_
  rw [mulL_getD, mulL_getD]
  split
  · unfold scaL
    rw [tab_getD, if_pos hi, Int.mul_assoc]
  · rw [Int.mul_zero]
theorem sca_any {c : Int} {w : List Int} (hc : c ≠ 0) (h : w.any (· != 0) = true) : (scaL c w).any (· != 0) = true := by
  rw [any_iff] at h ⊢
  obtain ⟨i, hi, hz⟩ := h
  refine ⟨i, by unfold scaL; rw [tab_len]; exact hi, ?_⟩
  unfold scaL
  rw [tab_getD, if_pos hi]
  exact Int.mul_ne_zero hc hz
/-- what the law asks of a level -/
theorem due_ok {w : List Int} {h : Nat} {L : Int} : okLevel w h L = (if lcmL (rdL w h) = 0 then decide (L = 0) else decide (L % ((lcmL (rdL w h) : Nat) : Int) = 0)) := by
  rw [Bool.eq_iff_iff, okLevel_lcm]
  split
  · rename_i e
    rw [e, decide_eq_true_iff]
    constructor
    · intro z
      have := Nat.eq_zero_of_zero_dvd z
      omega
    · intro z
      rw [z]
      exact Nat.dvd_refl 0
  · rw [decide_eq_true_iff, ← Int.ofNat_dvd_left]
    exact ⟨fun z => Int.emod_eq_zero_of_dvd z, fun z => Int.dvd_of_emod_eq_zero z⟩
end Mth

/-! Moments and orders. Core Lean. -/
namespace Mth
def byN (w : List Int) : List Int := tab w.length fun i => (i : Int) * w.getD i 0
theorem byN_len (w : List Int) : (byN w).length = w.length := tab_len _ _
def powN (w : List Int) : Nat → List Int
  | 0 => w
  | p + 1 => byN (powN w p)
theorem powN_len (w : List Int) : ∀ p, (powN w p).length = w.length
  | 0 => rfl
  | p + 1 => by rw [powN, byN_len, powN_len w p]
theorem powN_getD (w : List Int) : ∀ (p i : Nat), (powN w p).getD i 0 = (i : Int) ^ p * w.getD i 0
  | 0, i => by rw [Int.pow_zero, Int.one_mul]; rfl
  | p + 1, i => by
    rw [powN]
    unfold byN
    rw [tab_getD, powN_len]
    by_cases h : i < w.length
    · rw [if_pos h, powN_getD w p i, Int.pow_succ, Int.mul_comm ((i : Int) ^ p) i, Int.mul_assoc]
    · rw [if_neg h, getD_out (w := w) (by omega), Int.mul_zero]
def mom (n h : Nat) (v : Nat → Int) (p r : Nat) : Int := sm n fun i => if i % h = r then (i : Int) ^ p * v i else 0
theorem mom_rest (w : List Int) (h p r : Nat) : restS (powN w p) h r = mom w.length h (fun i => w.getD i 0) p r := by
  unfold restS mom
  rw [powN_len]
  exact sm_congr fun i _ => by rw [powN_getD]
def EV (n h m : Nat) (v : Nat → Int) : Prop := ∀ p, p < m → ∀ r, r < h → mom n h v p r = mom n h v p 0
theorem mom_shift (n h : Nat) (v : Nat → Int) (k : Int) (p r : Nat) : mom n h (fun i => ((i : Int) - k) * v i) p r = mom n h v (p + 1) r - k * mom n h v p r := by
  unfold mom
  rw [← sm_scale]
  have : ∀ a b c : Int, a + -b = c → a - b = c := fun a b c h => by omega
  have e : sm n (fun i => k * if i % h = r then (i : Int) ^ p * v i else 0) = -(sm n fun i => -(k * if i % h = r then (i : Int) ^ p * v i else 0)) := by
    have := sm_scale n (-1) fun i => k * if i % h = r then (i : Int) ^ p * v i else 0
    have e2 : (sm n fun i => -(k * if i % h = r then (i : Int) ^ p * v i else 0)) = sm n (fun i => (-1) * (k * if i % h = r then (i : Int) ^ p * v i else 0)) := sm_congr fun i _ => by omega
    rw [e2, this]
    omega
  rw [e, Int.sub_neg, ← sm_add]
  refine sm_congr fun i _ => ?_
  split
  · have e3 : (i : Int) ^ (p + 1) = (i : Int) ^ p * i := Int.pow_succ _ _
    show (i : Int) ^ p * (((i : Int) - k) * v i) = _
    rw [e3, Int.sub_mul, Int.mul_sub, Int.mul_assoc, ← Int.mul_assoc ((i : Int) ^ p) k, Int.mul_comm ((i : Int) ^ p) k, Int.mul_assoc k]
    omega
  · omega
theorem EV.shift {n h m : Nat} {v : Nat → Int} (e : EV n h (m + 1) v) (k : Int) : EV n h m fun i => ((i : Int) - k) * v i := fun p hp r hr => by
  rw [mom_shift, mom_shift, e (p + 1) (by omega) r hr, e p (by omega) r hr]
theorem EV.less {n h m m' : Nat} {v : Nat → Int} (e : EV n h m v) (l : m' ≤ m) : EV n h m' v := fun p hp => e p (by omega)
/-- times all i - k, k below t but one -/
def cutAt (v : Nat → Int) (i0 : Nat) : Nat → Nat → Int
  | 0 => v
  | t + 1 => if t = i0 then cutAt v i0 t else fun i => ((i : Int) - t) * cutAt v i0 t i
theorem cut_EV {n h i0 : Nat} {v : Nat → Int} (e : EV n h n v) (hi : i0 < n) : ∀ t, t ≤ n → EV n h (n - t + if i0 < t then 1 else 0) (cutAt v i0 t)
  | 0, _ => by rw [if_neg (by omega)]; exact e
  | t + 1, ht => by
    have ih := cut_EV e hi t (by omega)
    rw [cutAt]
    by_cases h0 : t = i0
    · rw [if_pos h0, if_pos (by omega)]
      rw [if_neg (by omega)] at ih
      exact ih.less (by omega)
    · rw [if_neg h0]
      by_cases h1 : i0 < t
      · rw [if_pos h1] at ih
        rw [if_pos (by omega)]
        have : EV n h (n - (t + 1) + 1 + 1) (cutAt v i0 t) := ih.less (by omega)
        exact this.shift t
      · rw [if_neg h1] at ih
        rw [if_neg (by omega)]
        have : EV n h (n - (t + 1) + 0 + 1) (cutAt v i0 t) := ih.less (by omega)
        exact this.shift t
theorem cut_zero {v : Nat → Int} {i0 i : Nat} (hi : i ≠ i0) : ∀ t, i < t → cutAt v i0 t i = 0
  | 0, h => by omega
  | t + 1, h => by
    rw [cutAt]
    by_cases h0 : t = i0
    · rw [if_pos h0]
      exact cut_zero hi t (by omega)
    · rw [if_neg h0]
      by_cases h1 : i = t
      · subst h1
        show ((i : Int) - (i : Int)) * _ = 0
        rw [Int.sub_self, Int.zero_mul]
      · show ((i : Int) - (t : Int)) * cutAt v i0 t i = 0
        rw [cut_zero hi t (by omega), Int.mul_zero]
theorem cut_ne {v : Nat → Int} {i0 : Nat} (hv : v i0 ≠ 0) : ∀ t, cutAt v i0 t i0 ≠ 0
  | 0 => hv
  | t + 1 => by
    rw [cutAt]
    by_cases h0 : t = i0
    · rw [if_pos h0]
      exact cut_ne hv t
    · rw [if_neg h0]
      exact Int.mul_ne_zero (by omega) (cut_ne hv t)
theorem not_all_even {w : List Int} {h : Nat} (hw : w.any (· != 0) = true) (h2 : 2 ≤ h) : ¬ ∀ p, p < w.length → evenB (powN w p) h = true := by
  intro a
  obtain ⟨i0, hi, hz⟩ := any_iff.mp hw
  have e : EV w.length h w.length fun i => w.getD i 0 := fun p hp r hr => by
    have := evenB_iff.mp (a p hp) r hr
    rw [mom_rest, mom_rest] at this
    exact this
  have c := cut_EV e hi w.length (Nat.le_refl _)
  rw [if_pos hi] at c
  have c0 := c 0 (by omega)
  have sum : ∀ r, r < h → mom w.length h (cutAt (fun i => w.getD i 0) i0 w.length) 0 r = if i0 % h = r then cutAt (fun i => w.getD i 0) i0 w.length i0 else 0 := by
    intro r hr
    unfold mom
    rw [sm_single (p := i0) hi fun i hi2 ne => by rw [cut_zero ne _ hi2, Int.mul_zero]; split <;> rfl]
    split
    · rw [Int.pow_zero, Int.one_mul]
    · rfl
  have hne := cut_ne (v := fun i => w.getD i 0) hz w.length
  have m0 := Nat.mod_lt i0 (show 0 < h by omega)
  by_cases hr0 : i0 % h = 0
  · have := c0 1 (by omega)
    rw [sum 1 (by omega), sum 0 (by omega), if_pos hr0, if_neg (by omega)] at this
    exact hne this.symm
  · have := c0 (i0 % h) m0
    rw [sum _ m0, sum 0 (by omega), if_pos rfl, if_neg hr0] at this
    exact hne this
theorem least_of (P : Nat → Bool) : ∀ n, (∃ p, p < n ∧ P p = true) → ∃ D, D < n ∧ P D = true ∧ ∀ q, q < D → P q = false
  | 0, h => by
    obtain ⟨p, hp, _⟩ := h
    omega
  | n + 1, h => by
    by_cases e : ∃ p, p < n ∧ P p = true
    · obtain ⟨D, d1, d2, d3⟩ := least_of P n e
      exact ⟨D, by omega, d2, d3⟩
    · obtain ⟨p, hp, hP⟩ := h
      have : p = n := by
        refine Classical.byContradiction fun z => e ⟨p, by omega, hP⟩
      subst this
      refine ⟨p, by omega, hP, fun q hq => ?_⟩
      cases z : P q with
      | false => rfl
      | true => exact absurd ⟨q, hq, z⟩ e
/-- D is the order of w at h -/
def IsOrd (w : List Int) (h D : Nat) : Prop := evenB (powN w D) h = false ∧ ∀ q, q < D → evenB (powN w q) h = true
theorem ord_ex {w : List Int} {h : Nat} (hw : w.any (· != 0) = true) (h2 : 2 ≤ h) : ∃ D, D < w.length ∧ IsOrd w h D := by
  have : ∃ p, p < w.length ∧ (!evenB (powN w p) h) = true := by
    refine Classical.byContradiction fun z => not_all_even hw h2 fun p hp => ?_
    cases e : evenB (powN w p) h with
    | true => rfl
    | false => exact absurd ⟨p, hp, by rw [e]; rfl⟩ z
  obtain ⟨D, d1, d2, d3⟩ := least_of (fun p => !evenB (powN w p) h) _ this
  exact ⟨D, d1, by simpa using d2, fun q hq => by simpa using d3 q hq⟩
theorem IsOrd.eq {w : List Int} {h D E : Nat} (a : IsOrd w h D) (b : IsOrd w h E) : D = E := by
  rcases Nat.lt_trichotomy D E with z | z | z
  · have := b.2 D z
    rw [a.1] at this
    cases this
  · exact z
  · have := a.2 E z
    rw [b.1] at this
    cases this
theorem pow_le_nat {i p n q : Nat} (hi : i ≤ n) (hp : p ≤ q) (hn : 1 ≤ n) : i ^ p ≤ n ^ q := Nat.le_trans (Nat.pow_le_pow_left hi p) (Nat.pow_le_pow_right hn hp)
theorem powN_le {w : List Int} {M p : Nat} (hl : w.length ≤ 256) (hM : ∀ x ∈ w, x.natAbs ≤ M) : ∀ x ∈ powN w p, x.natAbs ≤ 256 ^ p * M := by
  intro x hx
  obtain ⟨i, hi, e⟩ := List.mem_iff_getElem.mp hx
  have e2 := powN_getD w p i
  rw [List.getD_eq_getElem?_getD, List.getElem?_eq_getElem hi] at e2
  have e3 : x = (i : Int) ^ p * w.getD i 0 := by rw [← e]; exact e2
  rw [powN_len] at hi
  rw [e3, Int.natAbs_mul, Int.natAbs_pow, Int.natAbs_natCast]
  exact Nat.mul_le_mul (Nat.pow_le_pow_left (by omega) p) (getD_le hM i)
theorem restS_le {w : List Int} {M : Nat} (hM : ∀ x ∈ w, x.natAbs ≤ M) (h r : Nat) : (restS w h r).natAbs ≤ w.length * M := by
  unfold restS
  refine sm_le fun i hi => ?_
  split
  · exact getD_le hM i
  · exact Nat.zero_le _
end Mth
namespace Mth
def ordB (w : List Int) (h D : Nat) : Bool := !evenB (powN w D) h && (List.range D).all fun q => evenB (powN w q) h
theorem ordB_ok {w : List Int} {h D : Nat} (e : ordB w h D = true) : IsOrd w h D := by
  unfold ordB at e
  rw [Bool.and_eq_true, List.all_eq_true] at e
  exact ⟨by simpa using e.1, fun q hq => e.2 q (List.mem_range.mpr hq)⟩
def binoms : Nat → List Int
  | 0 => [1]
  | n + 1 => prodL (binoms n) [1, 1]
theorem binoms_len : ∀ n, (binoms n).length = n + 1
  | 0 => rfl
  | n + 1 => by
    rw [binoms, prodL_len, binoms_len n]
    rfl
theorem binoms_le : ∀ n, n ≤ 30 → ∀ x ∈ binoms n, x.natAbs ≤ 2 ^ (7 * n)
  | 0, _ => fun x hx => by rw [List.mem_singleton.mp hx]; decide
  | n + 1, hn => fun x hx => by
    rw [binoms] at hx
    have := prod_le (M := 2 ^ (7 * n)) (N := 1) (binoms_le n (by omega)) (fun y hy => by
      rcases List.mem_cons.mp hy with z | hy
      · rw [z]; decide
      · rw [List.mem_singleton.mp hy]; decide) x hx
    rw [binoms_len] at this
    refine Nat.le_trans this ?_
    rw [show 7 * (n + 1) = 7 * n + 7 by omega, Nat.pow_add, Nat.mul_one]
    have h2 : (n + 1) * (2 * 2 ^ (7 * n)) ≤ 64 * (2 * 2 ^ (7 * n)) := Nat.mul_le_mul_right _ (by omega)
    refine Nat.le_trans h2 ?_
    generalize 2 ^ (7 * n) = z
    omega
theorem oA : IsOrd [1, 2, 1] 2 2 := ordB_ok (by decide +kernel)
theorem oB : IsOrd [1, 2, 2, 1] 2 1 := ordB_ok (by decide +kernel)
theorem oC : IsOrd [1, 2, 2, 1] 6 0 := ordB_ok (by decide +kernel)
theorem oE : IsOrd [5] 9 0 := ordB_ok (by decide +kernel)
theorem mA : tab 2 (restS (powN [1, 2, 2, 1] 1) 2) = [4, 5] := by decide +kernel
theorem mB : tab 1 (restS (powN [7, 7] 0) 1) = [14] := by decide +kernel
theorem mC : restS (powN (List.replicate 120 1) 2) 1000 119 = 14161 := by decide +kernel
theorem oD : IsOrd (binoms 20) 2 20 := ordB_ok (by decide +kernel)
end Mth

/-! Differences of number sequences; sums of windows weighted by powers of their places. Core Lean. -/
namespace Mth
open XR
def dif (f : Nat → Int) : Nat → Int := fun n => f (n + 1) - f n
def difs : Nat → (Nat → Int) → Nat → Int
  | 0, f => f
  | k + 1, f => difs k (dif f)
theorem difs_add : ∀ (k : Nat) (f g : Nat → Int) (n : Nat), difs k (fun n => f n + g n) n = difs k f n + difs k g n
  | 0, _, _, _ => rfl
  | k + 1, f, g, n => by
    show difs k (dif fun n => f n + g n) n = difs k (dif f) n + difs k (dif g) n
    rw [← difs_add k]
    congr 1
    funext m
    show f (m + 1) + g (m + 1) - (f m + g m) = (f (m + 1) - f m) + (g (m + 1) - g m)
    omega
theorem difs_neg : ∀ (k : Nat) (f : Nat → Int) (n : Nat), difs k (fun n => -f n) n = -difs k f n
  | 0, _, _ => rfl
  | k + 1, f, n => by
    show difs k (dif fun n => -f n) n = -difs k (dif f) n
    rw [← difs_neg k]
    congr 1
    funext m
    show -f (m + 1) - -f m = -(f (m + 1) - f m)
    omega
theorem difs_shift : ∀ (k : Nat) (f : Nat → Int) (n : Nat), difs k (fun n => f (n + 1)) n = difs k f (n + 1)
  | 0, _, _ => rfl
  | k + 1, f, n => by
    show difs k (dif fun n => f (n + 1)) n = difs k (dif f) (n + 1)
    rw [← difs_shift k]
    rfl
theorem difs_nil : ∀ (k : Nat) (n : Nat), difs k (fun _ => 0) n = 0
  | 0, _ => rfl
  | k + 1, n => by
    show difs k (dif fun _ => 0) n = 0
    have : (dif fun _ => (0 : Int)) = fun _ => 0 := by
      funext m
      rfl
    rw [this]
    exact difs_nil k n
theorem difs_more : ∀ (k : Nat) (f : Nat → Int), (∀ n, difs k f n = 0) → ∀ n, difs (k + 1) f n = 0
  | 0, f, h, n => by
    show f (n + 1) - f n = 0
    have h1 : f (n + 1) = 0 := h (n + 1)
    have h2 : f n = 0 := h n
    omega
  | k + 1, f, h, n => difs_more k (dif f) h n
/-- n times a sequence has one degree more -/
theorem difs_mul : ∀ (k : Nat) (f : Nat → Int), (∀ n, difs k f n = 0) → ∀ n, difs (k + 1) (fun n => (n : Int) * f n) n = 0
  | 0, f, h, n => by
    show ((n + 1 : Nat) : Int) * f (n + 1) - (n : Int) * f n = 0
    have h1 : f (n + 1) = 0 := h (n + 1)
    have h2 : f n = 0 := h n
    rw [h1, h2, Int.mul_zero, Int.mul_zero]
    rfl
  | k + 1, f, h, n => by
    show difs (k + 1) (dif fun n => (n : Int) * f n) n = 0
    have e : (dif fun n => (n : Int) * f n) = fun n : Nat => (n : Int) * dif f n + f (n + 1) := by
      funext m
      show ((m + 1 : Nat) : Int) * f (m + 1) - (m : Int) * f m = (m : Int) * (f (m + 1) - f m) + f (m + 1)
      rw [Int.natCast_add, Int.add_mul, Int.mul_sub]
      omega
    rw [e, difs_add, difs_shift, difs_mul k (dif f) h n]
    have := h (n + 1)
    omega
/-! ### weighted sums -/
def Tpq (w : List Int) (lap p q : Nat) (n : Nat) : Int := sm w.length fun s => if s % lap = n % lap then ((n : Int) - (s : Int)) ^ p * ((s : Int) ^ q * w.getD s 0) else 0
theorem T_step (w : List Int) (lap p q n : Nat) : Tpq w lap (p + 1) q n = (n : Int) * Tpq w lap p q n + -Tpq w lap p (q + 1) n := by
  unfold Tpq
  rw [← sm_scale]
  have e : (-sm w.length fun s => if s % lap = n % lap then ((n : Int) - (s : Int)) ^ p * ((s : Int) ^ (q + 1) * w.getD s 0) else 0) = sm w.length fun s => -1 * (if s % lap = n % lap then ((n : Int) - (s : Int)) ^ p * ((s : Int) ^ (q + 1) * w.getD s 0) else 0) := by
    rw [sm_scale]
    omega
  rw [e, ← sm_add]
  apply sm_congr
  intro s _
  by_cases h : s % lap = n % lap
  · rw [if_pos h, if_pos h, if_pos h, Int.pow_succ, Int.pow_succ]
    generalize ((n : Int) - (s : Int)) ^ p = a
    generalize (s : Int) ^ q = b
    generalize w.getD s 0 = c
    rw [Int.mul_sub, Int.sub_mul]
    have e1 : a * (n : Int) * (b * c) = (n : Int) * (a * (b * c)) := by rw [Int.mul_comm a, Int.mul_assoc]
    have e2 : a * (s : Int) * (b * c) = a * (b * (s : Int) * c) := by rw [Int.mul_assoc, Int.mul_comm b (s : Int), Int.mul_assoc]
    rw [e1, e2]
    omega
  · rw [if_neg h, if_neg h, if_neg h]
    simp
/-- where the moments up to a power are alike at all rests, the weighted sums are polynomials -/
theorem T_poly {w : List Int} {lap D : Nat} (h : ∀ q, q < D → ∀ n, Tpq w lap 0 q n = Tpq w lap 0 q 0) : ∀ p q, p + q < D → ∀ n, difs (p + 1) (Tpq w lap p q) n = 0
  | 0, q, hq, n => by
    show Tpq w lap 0 q (n + 1) - Tpq w lap 0 q n = 0
    rw [h q (by omega) (n + 1), h q (by omega) n]
    omega
  | p + 1, q, hq, n => by
    have e : Tpq w lap (p + 1) q = fun n : Nat => (n : Int) * Tpq w lap p q n + -Tpq w lap p (q + 1) n := by
      funext m
      exact T_step w lap p q m
    rw [e, difs_add, difs_neg, difs_mul (p + 1) _ (T_poly h p q (by omega)) n, difs_more (p + 1) _ (T_poly h p (q + 1) (by omega)) n]
    rfl
theorem T_rest (w : List Int) (lap q n : Nat) : Tpq w lap 0 q n = restS (powN w q) lap (n % lap) := by
  unfold Tpq restS
  rw [powN_len]
  apply sm_congr
  intro s _
  by_cases h : s % lap = n % lap
  · rw [if_pos h, if_pos h, powN_getD, Int.pow_zero, Int.one_mul]
  · rw [if_neg h, if_neg h]
theorem T_ord {w : List Int} {lap D : Nat} (h0 : 0 < lap) (o : IsOrd w lap D) {p : Nat} (hp : p < D) (n : Nat) : difs (p + 1) (Tpq w lap p 0) n = 0 := by
  refine T_poly (D := D) (fun q hq n => ?_) p 0 (by omega) n
  have e := evenB_iff.mp (o.2 q hq)
  rw [T_rest, T_rest, e _ (Nat.mod_lt _ h0), e _ (Nat.mod_lt _ h0)]
end Mth

/-! Orders of powers of flat windows, reckoned by the kernel. -/
namespace Mth
open XR
def fp (lap : Nat) : Nat → List Int
  | 0 => List.replicate lap 1
  | m + 1 => prodL (fp lap m) (List.replicate lap 1)
def chkF (lap : Nat) : Nat → Bool
  | 0 => true
  | m + 1 => chkF lap m && ordB (fp lap m) lap (m + 1)
theorem chkF_at {lap : Nat} : ∀ {m j : Nat}, chkF lap m = true → j < m → ordB (fp lap j) lap (j + 1) = true
  | 0, j, _, hj => absurd hj (by omega)
  | m + 1, j, h, hj => by
    unfold chkF at h
    rw [Bool.and_eq_true] at h
    by_cases e : j = m
    · rw [e]; exact h.2
    · exact chkF_at h.1 (by omega)
theorem chk_small : ((List.range 7).all fun i => chkF (i + 2) 4) = true := by decide +kernel
end Mth

/-! Moves of partners: two numbers change, the sums by rests stay. Core Lean. -/
namespace Mth
open XR
def wg (x y : Int) : Nat := Nat.gcd x.natAbs y.natAbs
def mvP (x y : Int) : Int := y / (wg x y : Int)
def mvQ (x y : Int) : Int := (-x) / (wg x y : Int)
def mvN (x y : Int) : Bool := decide (mvP x y < 0) || (decide (mvP x y = 0) && decide (mvQ x y < 0))
def mvA (x y : Int) : Int := if mvN x y = true then -mvP x y else mvP x y
def mvB (x y : Int) : Int := if mvN x y = true then -mvQ x y else mvQ x y
theorem wg_ne {x y : Int} (h : x ≠ 0 ∨ y ≠ 0) : wg x y ≠ 0 := by
  intro z
  unfold wg at z
  have h1 := Nat.gcd_dvd_left x.natAbs y.natAbs
  have h2 := Nat.gcd_dvd_right x.natAbs y.natAbs
  rw [z] at h1 h2
  have h3 := Nat.eq_zero_of_zero_dvd h1
  have h4 := Nat.eq_zero_of_zero_dvd h2
  omega
theorem mv_parts {x y : Int} (h : wg x y ≠ 0) : ∃ a b : Int, x = (wg x y : Int) * a ∧ y = (wg x y : Int) * b ∧ mvP x y = b ∧ mvQ x y = -a ∧ x / (wg x y : Int) = a := by
  have hp : (wg x y : Int) ≠ 0 := by omega
  obtain ⟨a, ha⟩ : ((wg x y : Nat) : Int) ∣ x := Int.ofNat_dvd_left.mpr (Nat.gcd_dvd_left _ _)
  obtain ⟨b, hb⟩ : ((wg x y : Nat) : Int) ∣ y := Int.ofNat_dvd_left.mpr (Nat.gcd_dvd_right _ _)
  have e1 : mvP x y = b := by
    show y / (wg x y : Int) = b
    conv => lhs; arg 1; rw [hb]
    exact Int.mul_ediv_cancel_left _ hp
  have e2 : mvQ x y = -a := by
    show (-x) / (wg x y : Int) = -a
    conv => lhs; arg 1; rw [ha, ← Int.mul_neg]
    exact Int.mul_ediv_cancel_left _ hp
  have e3 : x / (wg x y : Int) = a := by
    conv => lhs; arg 1; rw [ha]
    exact Int.mul_ediv_cancel_left _ hp
  exact ⟨a, b, ha, hb, e1, e2, e3⟩
theorem mv_zero (x y : Int) : x * mvA x y + y * mvB x y = 0 := by
  have k : x * mvP x y + y * mvQ x y = 0 := by
    by_cases h : wg x y = 0
    · have hx : x = 0 := by
        apply Classical.byContradiction
        intro z
        exact wg_ne (.inl z) h
      have hy : y = 0 := by
        apply Classical.byContradiction
        intro z
        exact wg_ne (.inr z) h
      rw [hx, hy]
      simp
    · obtain ⟨a, b, h1, h2, h3, h4, _⟩ := mv_parts h
      rw [h3, h4]
      generalize (wg x y : Int) = g at *
      rw [h1, h2, Int.mul_neg, Int.mul_assoc, Int.mul_assoc, Int.mul_comm b a]
      omega
  unfold mvA mvB
  split
  · rw [Int.mul_neg, Int.mul_neg]
    omega
  · exact k
theorem mvP_le {x y : Int} (h : x ≠ 0 ∨ y ≠ 0) : (mvP x y).natAbs ≤ y.natAbs ∧ (mvQ x y).natAbs ≤ x.natAbs := by
  have g0 := wg_ne h
  obtain ⟨a, b, h1, h2, h3, h4, _⟩ := mv_parts g0
  rw [h3, h4, Int.natAbs_neg]
  generalize hg : wg x y = g at *
  constructor
  · rw [h2, Int.natAbs_mul, Int.natAbs_natCast]
    exact Nat.le_mul_of_pos_left _ (by omega)
  · rw [h1, Int.natAbs_mul, Int.natAbs_natCast]
    exact Nat.le_mul_of_pos_left _ (by omega)
theorem mvA_le {x y : Int} (h : x ≠ 0 ∨ y ≠ 0) : (mvA x y).natAbs ≤ y.natAbs ∧ (mvB x y).natAbs ≤ x.natAbs := by
  have k := mvP_le h
  unfold mvA mvB
  split
  · rw [Int.natAbs_neg, Int.natAbs_neg]; exact k
  · exact k
/-! ### the list of moves -/
def mvT (w : List Int) (h i t : Nat) : List (List Int) :=
  if w.getD i 0 ≠ 0 ∨ w.getD (i + h + t * h) 0 ≠ 0 then [[(i : Int), ((i + h + t * h : Nat) : Int), mvA (w.getD i 0) (w.getD (i + h + t * h) 0), mvB (w.getD i 0) (w.getD (i + h + t * h) 0)]] else []
def mvRow (w : List Int) (h i c : Nat) : List (List Int) := (List.range c).flatMap (mvT w h i)
def kc (n h i : Nat) : Nat := if i + h < n then (n - (i + h) - 1) / h + 1 else 0
def mvAll (w : List Int) (h m : Nat) : List (List Int) := (List.range m).flatMap fun i => mvRow w h i (kc w.length h i)
theorem mvRow_succ (w : List Int) (h i c : Nat) : mvRow w h i (c + 1) = mvRow w h i c ++ mvT w h i c := by
  unfold mvRow
  rw [List.range_succ, List.flatMap_append]
  simp
theorem mvAll_succ (w : List Int) (h m : Nat) : mvAll w h (m + 1) = mvAll w h m ++ mvRow w h m (kc w.length h m) := by
  unfold mvAll
  rw [List.range_succ, List.flatMap_append]
  simp
theorem kc_lt {n h i t : Nat} (h0 : 0 < h) (ht : t < kc n h i) : i + h + t * h < n := by
  unfold kc at ht
  split at ht
  · next hn =>
    have h1 : t ≤ (n - (i + h) - 1) / h := by omega
    have h2 : t * h ≤ (n - (i + h) - 1) := Nat.le_trans (Nat.mul_le_mul_right _ h1) (Nat.div_mul_le_self _ _)
    omega
  · omega
theorem kc_le (n h i : Nat) : kc n h i ≤ n / h + 1 := by
  unfold kc
  split
  · exact Nat.succ_le_succ (Nat.div_le_div_right (by omega))
  · exact Nat.zero_le _
theorem mvT_len (w : List Int) (h i t : Nat) : (mvT w h i t).length ≤ 1 := by
  unfold mvT
  split
  · exact Nat.le_refl _
  · exact Nat.zero_le _
theorem mvRow_len (w : List Int) (h i : Nat) : ∀ c, (mvRow w h i c).length ≤ c
  | 0 => by simp [mvRow]
  | c + 1 => by
    rw [mvRow_succ, List.length_append]
    have := mvRow_len w h i c
    have := mvT_len w h i c
    omega
theorem mvAll_len (w : List Int) (h : Nat) : ∀ m, (mvAll w h m).length ≤ m * (w.length / h + 1)
  | 0 => by simp [mvAll]
  | m + 1 => by
    rw [mvAll_succ, List.length_append, Nat.succ_mul]
    have h1 := mvAll_len w h m
    have h2 := mvRow_len w h m (kc w.length h m)
    have h3 := kc_le w.length h m
    omega
theorem mvAll_mem {w : List Int} {h m : Nat} (h0 : 0 < h) {r : List Int} (hr : r ∈ mvAll w h m) :
    ∃ i k : Nat, i < k ∧ k < w.length ∧ k % h = i % h ∧ (w.getD i 0 ≠ 0 ∨ w.getD k 0 ≠ 0) ∧ r = [(i : Int), (k : Int), mvA (w.getD i 0) (w.getD k 0), mvB (w.getD i 0) (w.getD k 0)] := by
  unfold mvAll mvRow at hr
  obtain ⟨i, hi, h2⟩ := List.mem_flatMap.mp hr
  obtain ⟨t, ht, h3⟩ := List.mem_flatMap.mp h2
  have h4 := kc_lt h0 (List.mem_range.mp ht)
  unfold mvT at h3
  split at h3
  · next hc =>
    refine ⟨i, i + h + t * h, by omega, h4, ?_, hc, List.mem_singleton.mp h3⟩
    rw [Nat.add_mul_mod_self_right, Nat.add_mod_right]
  · cases h3
/-! ### what moves leave -/
theorem set_getD {xs : List Int} {i : Nat} (hi : i < xs.length) (v : Int) (j : Nat) : (xs.set i v).getD j 0 = if j = i then v else xs.getD j 0 := by
  by_cases e : j = i
  · rw [if_pos e, e, getD_set_self hi]
  · rw [if_neg e, List.getD_eq_getElem?_getD, List.getElem?_set_ne (fun z => e z.symm), List.getD_eq_getElem?_getD]
theorem restS_set {w P : List Int} {i : Nat} (hi : i < P.length) (hl : P.length = w.length) (d : Int) (h r : Nat) :
    restS (mulL w (P.set i (P.getD i 0 + d))) h r = restS (mulL w P) h r + if i % h = r then w.getD i 0 * d else 0 := by
  unfold restS
  rw [mulL_len, mulL_len]
  have e : (if i % h = r then w.getD i 0 * d else 0) = sm w.length fun j => if j = i then (if i % h = r then w.getD i 0 * d else 0) else 0 := by
    rw [sm_one, if_pos (show i < w.length by omega)]
  rw [e, ← sm_add]
  apply sm_congr
  intro j _
  rw [mulL_getD, mulL_getD, set_getD hi]
  by_cases e : j = i
  · rw [if_pos e, if_pos e, e]
    by_cases e2 : i % h = r
    · rw [if_pos e2, if_pos e2, if_pos e2, Int.mul_add]
    · rw [if_neg e2, if_neg e2, if_neg e2]
      rfl
  · rw [if_neg e, if_neg e]
    omega
theorem move_keeps {w P : List Int} {i k h : Nat} (hl : P.length = w.length) (hi : i < w.length) (hk : k < w.length) (ne : i ≠ k) (hm : k % h = i % h) (c : Int) (r : Nat) :
    restS (mulL w ((P.set i (P.getD i 0 + c * mvA (w.getD i 0) (w.getD k 0))).set k ((P.set i (P.getD i 0 + c * mvA (w.getD i 0) (w.getD k 0))).getD k 0 + c * mvB (w.getD i 0) (w.getD k 0)))) h r = restS (mulL w P) h r := by
  rw [restS_set (by rw [List.length_set]; omega) (by rw [List.length_set]; exact hl), restS_set (by omega) hl, hm]
  by_cases e : i % h = r
  · rw [if_pos e, if_pos e]
    have z := mv_zero (w.getD i 0) (w.getD k 0)
    generalize mvA (w.getD i 0) (w.getD k 0) = a at *
    generalize mvB (w.getD i 0) (w.getD k 0) = b at *
    have z2 : c * (w.getD i 0 * a + w.getD k 0 * b) = 0 := by rw [z, Int.mul_zero]
    rw [Int.mul_add, Int.mul_left_comm, Int.mul_left_comm c] at z2
    omega
  · rw [if_neg e, if_neg e]
    omega
def freeL (w : List Int) (h : Nat) : List Nat := (List.range w.length).filter fun i => decide (gcdL (phase w h (i % h)) = 0)
theorem free_entry {w : List Int} {h i : Nat} (h0 : 0 < h) (hi : i < w.length) (hg : gcdL (phase w h (i % h)) = 0) : w.getD i 0 = 0 := by
  have hm : i % h < h := Nat.mod_lt _ h0
  have e : i % h + h * (i / h) = i := Nat.mod_add_div i h
  have hk : i / h < cnt w.length h (i % h) := (cnt_lt hm).mpr (by rw [e]; exact hi)
  have hg2 : (phase w h (i % h)).getD (i / h) 0 = w.getD i 0 := by rw [phase_getD hm, e]
  have hl : i / h < (phase w h (i % h)).length := by rw [phase_len]; exact hk
  have hmem : w.getD i 0 ∈ phase w h (i % h) := by
    rw [← hg2, List.getD_eq_getElem?_getD, List.getElem?_eq_getElem hl]
    exact List.getElem_mem hl
  have := gcdL_dvd hmem
  rw [hg] at this
  have := Nat.eq_zero_of_zero_dvd this
  omega
theorem free_keeps {w P : List Int} {i h : Nat} (h0 : 0 < h) (hl : P.length = w.length) (hi : i < w.length) (hg : gcdL (phase w h (i % h)) = 0) (d : Int) (r : Nat) :
    restS (mulL w (P.set i (P.getD i 0 + d))) h r = restS (mulL w P) h r := by
  rw [restS_set (by omega) hl, free_entry h0 hi hg]
  split <;> omega
theorem free_mem {w : List Int} {h i : Nat} (hi : i ∈ freeL w h) : i < w.length ∧ gcdL (phase w h (i % h)) = 0 := by
  unfold freeL at hi
  obtain ⟨h1, h2⟩ := List.mem_filter.mp hi
  exact ⟨List.mem_range.mp h1, of_decide_eq_true h2⟩
theorem filter_succ (f : Nat → Bool) (n : Nat) : (List.range (n + 1)).filter f = (List.range n).filter f ++ if f n = true then [n] else [] := by
  rw [List.range_succ, List.filter_append]
  congr 1
  cases hf : f n <;> simp [hf]
theorem filter_len_le (f : Nat → Bool) (n : Nat) : ((List.range n).filter f).length ≤ n := by
  have := List.length_filter_le f (List.range n)
  rwa [List.length_range] at this
/-- the least level's size -/
theorem lcm_zero {ds : List Nat} : ∀ (a : Nat), 0 ∈ ds → ds.foldl Nat.lcm a = 0 := by
  induction ds with
  | nil => intro a h; cases h
  | cons d ds ih =>
    intro a h
    show ds.foldl Nat.lcm (Nat.lcm a d) = 0
    rcases List.mem_cons.mp h with e | e
    · have hz : ∀ (ds : List Nat), ds.foldl Nat.lcm 0 = 0 := by
        intro ds
        induction ds with
        | nil => rfl
        | cons d ds ih => show ds.foldl Nat.lcm (Nat.lcm 0 d) = 0; rw [Nat.lcm_zero_left]; exact ih
      rw [← e, Nat.lcm_zero_right]
      exact hz ds
    · exact ih _ e
theorem lcm_small {w : List Int} {h b n : Nat} (hx : ∀ x ∈ w, x.natAbs < 2 ^ b) (hn : w.length ≤ n) (i : Nat) : lcmL ((rdL w h).take i) < 2 ^ (1 + (min h n) * b) := by
  by_cases e : h ≤ n
  · rw [Nat.min_eq_left e]
    exact lcmL_rd hx i
  · rw [Nat.min_eq_right (by omega)]
    by_cases e2 : i ≤ n
    · refine Nat.lt_of_lt_of_le (lcmL_lt (b := b) (fun d hd => ?_) i) (Nat.pow_le_pow_right (by decide) (Nat.add_le_add_left (Nat.mul_le_mul_right _ e2) _))
      obtain ⟨r, hr, rfl⟩ := mem_tab hd
      exact gcdL_lt fun x hx' => hx x (phase_mem hr hx')
    · have hz : lcmL ((rdL w h).take i) = 0 := by
        apply lcm_zero
        have g : ((rdL w h).take i)[n]? = some 0 := by
          rw [List.getElem?_take, if_pos (by omega)]
          unfold rdL
          rw [tab_get _ (by omega)]
          have : phase w h n = [] := by
            apply List.eq_nil_of_length_eq_zero
            rw [phase_len]
            have := (cnt_lt (n := w.length) (k := 0) (show n < h by omega)).mp
            apply Classical.byContradiction
            intro z
            have := this (by omega)
            omega
          rw [this]
          rfl
        exact List.mem_of_getElem? g
      rw [hz]
      exact Nat.two_pow_pos _
theorem mvRow_full {w : List Int} {h i : Nat} (hi : w.getD i 0 ≠ 0) : ∀ c, (mvRow w h i c).length = c
  | 0 => rfl
  | c + 1 => by
    rw [mvRow_succ, List.length_append, mvRow_full hi c]
    unfold mvT
    rw [if_pos (.inl hi)]
    rfl
theorem mvAll_full {w : List Int} {h : Nat} : ∀ m, (∀ i, i < m → w.getD i 0 ≠ 0) → (mvAll w h m).length = ((List.range m).map (kc w.length h)).sum
  | 0, _ => rfl
  | m + 1, hw => by
    rw [mvAll_succ, List.length_append, mvAll_full m (fun i hi => hw i (by omega)), mvRow_full (hw m (by omega)), List.range_succ, List.map_append, List.sum_append]
    simp
theorem move_count : (mvAll (List.replicate 200 1) 1 (List.replicate 200 (1 : Int)).length).length = 19900 := by
  rw [mvAll_full]
  · rw [List.length_replicate]
    decide +kernel
  · intro i hi
    rw [List.length_replicate] at hi
    rw [List.getD_eq_getElem?_getD, List.getElem?_replicate, if_pos hi]
    decide
theorem litM1 : mvAll [2, 3, 4, 1] 2 4 = [[0, 2, 2, -1], [1, 3, 1, -3]] := by decide +kernel
theorem litM2 : mvAll [0, 0, -4] 1 3 = [[0, 2, 1, 0], [1, 2, 1, 0]] := by decide +kernel
theorem litF1 : freeL [0, 5] 2 = [0] := by decide +kernel
theorem litF2 : freeL [1, 0, 1, 0] 2 = [1, 3] := by decide +kernel
theorem litF3 : freeL (List.replicate 199 0 ++ [1]) 200 = List.range 199 := by decide +kernel
end Mth
namespace Mth
open XR
theorem getD_lt {xs : List Int} {b : Nat} (hx : ∀ x ∈ xs, x.natAbs < 2 ^ b) (i : Nat) : (xs.getD i 0).natAbs < 2 ^ b := by
  by_cases h : i < xs.length
  · rw [List.getD_eq_getElem?_getD, List.getElem?_eq_getElem h]
    exact hx _ (List.getElem_mem h)
  · rw [getD_out (by omega)]
    exact Nat.two_pow_pos _
end Mth
namespace Mth
open XR
theorem tab_rep {α : Type} {m : Nat} {f : Nat → α} {v : α} (h : ∀ i, i < m → f i = v) : tab m f = List.replicate m v := by
  rw [tab_congr h]
  unfold tab
  exact List.map_const' .. |>.trans (by rw [List.length_range])
theorem freeL_succ (w : List Int) (h n : Nat) : ((List.range (n + 1)).filter fun i => decide (gcdL (phase w h (i % h)) = 0)) = ((List.range n).filter fun i => decide (gcdL (phase w h (i % h)) = 0)) ++ if gcdL (phase w h (n % h)) = 0 then [n] else [] := by
  rw [filter_succ]
  congr 1
  by_cases e : gcdL (phase w h (n % h)) = 0
  · rw [if_pos e, if_pos (decide_eq_true e)]
  · rw [if_neg e, if_neg (by simpa using e)]
theorem gcdL_wg (x y : Int) : gcdL [x, y] = wg x y := by
  unfold gcdL wg
  show Nat.gcd y.natAbs (Nat.gcd x.natAbs 0) = _
  rw [Nat.gcd_zero_right, Nat.gcd_comm]
end Mth
namespace Mth
open XR
theorem moves_ok {w : List Int} {h : Nat} (h0 : 0 < h) (hx : ∀ x ∈ w, x.natAbs < 2 ^ 100) (hl : w.length ≤ 1000) : ∀ m ∈ mvAll w h w.length, m.length = 4 ∧ ∀ x ∈ m, x.natAbs < 2 ^ 100 := by
  intro m hm
  obtain ⟨i, k, h1, h2, _, hc, rfl⟩ := mvAll_mem h0 hm
  refine ⟨rfl, fun x hx' => ?_⟩
  have b1 := getD_lt hx i
  have b2 := getD_lt hx k
  have b3 := mvA_le hc
  simp only [List.mem_cons, List.not_mem_nil, or_false] at hx'
  rcases hx' with e | e | e | e <;> rw [e] <;> omega
theorem free_ok {w : List Int} {h : Nat} (hl : w.length ≤ 1000) : ∀ x ∈ (freeL w h).map (fun i : Nat => (i : Int)), x.natAbs < 2 ^ 100 := by
  intro x hx
  obtain ⟨i, hi, rfl⟩ := List.mem_map.mp hx
  have := (free_mem hi).1
  rw [Int.natAbs_natCast]
  exact Nat.lt_of_lt_of_le (show i < 2 ^ 10 by omega) (Nat.pow_le_pow_right (by decide) (by decide))
theorem moves_few {w : List Int} {h : Nat} (hs : w.length ≤ 64 ∨ (40 ≤ h ∧ w.length ≤ 200)) : (mvAll w h w.length).length ≤ 4300 := by
  have l := mvAll_len w h w.length
  rcases hs with e | ⟨e, e2⟩
  · have l5 : w.length / h ≤ w.length := Nat.div_le_self _ _
    have l6 : w.length * (w.length / h + 1) ≤ 64 * 65 := Nat.mul_le_mul (by omega) (by omega)
    omega
  · have l5 : w.length / h ≤ 200 / 40 := Nat.le_trans (Nat.div_le_div_right e2) (Nat.div_le_div_left e (by decide))
    have l6 : w.length * (w.length / h + 1) ≤ 200 * 6 := Nat.mul_le_mul e2 (by omega)
    omega
theorem set_bound {xs : List Int} {i N : Nat} {v : Int} (h : ∀ x ∈ xs, x.natAbs < N) (hv : v.natAbs < N) : ∀ x ∈ xs.set i v, x.natAbs < N := by
  intro x hx
  rcases List.mem_or_eq_of_mem_set hx with e | e
  · exact h x e
  · rw [e]; exact hv
theorem getD_bound {xs : List Int} {N : Nat} (h0 : 0 < N) (h : ∀ x ∈ xs, x.natAbs < N) (i : Nat) : (xs.getD i 0).natAbs < N := by
  by_cases e : i < xs.length
  · rw [List.getD_eq_getElem?_getD, List.getElem?_eq_getElem e]
    exact h _ (List.getElem_mem e)
  · rw [getD_out (by omega)]
    exact h0
end Mth

/-! Orders of flat windows and of products of two; weighted windows laid at all multiples of a hop. Core Lean. -/
namespace Mth
open XR
theorem difs_out : ∀ (k : Nat) (f : Nat → Int) (n : Nat), difs k f (n + 1) - difs k f n = difs (k + 1) f n
  | 0, _, _ => rfl
  | k + 1, f, n => difs_out k (dif f) n
/-! ### sums over a product -/
theorem sum_prodG {a b : List Int} (ha : 1 ≤ a.length) (hb : 1 ≤ b.length) (G : Nat → Int) : sm (prodL a b).length (fun k => G k * (prodL a b).getD k 0) = sm a.length fun i => sm b.length fun j => G (i + j) * (a.getD i 0 * b.getD j 0) := by
  rw [prodL_len]
  have e1 : sm (a.length + b.length - 1) (fun k => G k * (prodL a b).getD k 0) = sm (a.length + b.length - 1) fun k => sm a.length fun i => sm b.length fun j => if k = i + j then G (i + j) * (a.getD i 0 * b.getD j 0) else 0 := sm_congr fun k hk => by
    have g : (prodL a b).getD k 0 = coef a b k := by
      unfold prodL
      rw [List.getD_eq_getElem?_getD, tab_get _ hk]
      rfl
    rw [g]
    unfold coef
    rw [← sm_scale]
    refine sm_congr fun i _ => ?_
    rw [← sm_scale]
    refine sm_congr fun j _ => ?_
    by_cases z : i + j = k
    · rw [if_pos z, if_pos z.symm, z]
    · rw [if_neg z, if_neg (fun y => z y.symm), Int.mul_zero]
  rw [e1, sm_comm]
  refine sm_congr fun i hi => ?_
  rw [sm_comm]
  refine sm_congr fun j hj => ?_
  rw [sm_one, if_pos (by omega)]
theorem sm_cst (n : Nat) (c : Int) : sm n (fun _ => c) = (n : Int) * c := by
  induction n with
  | zero => rw [sm_zero]; simp
  | succ n ih => rw [sm_succ, ih, Int.natCast_add, Int.add_mul]; simp
theorem rep_getD {lap i : Nat} (h : i < lap) : (List.replicate lap (1 : Int)).getD i 0 = 1 := by
  rw [List.getD_eq_getElem?_getD, List.getElem?_replicate, if_pos h]
  rfl
theorem flat_mom {lap q r : Nat} (hr : r < lap) : restS (powN (List.replicate lap 1) q) lap r = (r : Int) ^ q := by
  rw [mom_rest]
  unfold mom
  rw [List.length_replicate, sm_single hr]
  · dsimp only
    rw [if_pos (Nat.mod_eq_of_lt hr), rep_getD hr, Int.mul_one]
  · intro i hi ne
    rw [Nat.mod_eq_of_lt hi, if_neg ne]
theorem tri_mom {lap q r : Nat} (hr : r < lap) : restS (powN (prodL (List.replicate lap 1) (List.replicate lap 1)) q) lap r = ((r : Int) + 1) * (r : Int) ^ q + ((lap : Int) - 1 - (r : Int)) * ((r : Int) + (lap : Int)) ^ q := by
  rw [mom_rest]
  unfold mom
  have e0 : sm (prodL (List.replicate lap 1) (List.replicate lap 1)).length (fun i => if i % lap = r then (i : Int) ^ q * (prodL (List.replicate lap 1) (List.replicate lap 1)).getD i 0 else 0) = sm (prodL (List.replicate lap 1) (List.replicate lap 1)).length fun i => (if i % lap = r then (i : Int) ^ q else 0) * (prodL (List.replicate lap 1) (List.replicate lap 1)).getD i 0 := sm_congr fun i _ => by
    by_cases c : i % lap = r
    · rw [if_pos c, if_pos c]
    · rw [if_neg c, if_neg c, Int.zero_mul]
  rw [e0, sum_prodG (by rw [List.length_replicate]; omega) (by rw [List.length_replicate]; omega) (fun i => if i % lap = r then (i : Int) ^ q else 0), List.length_replicate]
  have e1 : sm lap (fun i => sm lap fun j => (if (i + j) % lap = r then ((i + j : Nat) : Int) ^ q else 0) * ((List.replicate lap (1 : Int)).getD i 0 * (List.replicate lap (1 : Int)).getD j 0)) = sm lap fun i => if i ≤ r then (r : Int) ^ q else ((r : Int) + (lap : Int)) ^ q := sm_congr fun i hi => by
    by_cases c : i ≤ r
    · rw [if_pos c, sm_single (p := r - i) (by omega)]
      · rw [if_pos (by rw [show i + (r - i) = r by omega]; exact Nat.mod_eq_of_lt hr), rep_getD hi, rep_getD (by omega), show i + (r - i) = r by omega]
        simp
      · intro j hj ne
        have : (i + j) % lap ≠ r := by
          intro z
          by_cases d : i + j < lap
          · rw [Nat.mod_eq_of_lt d] at z; omega
          · rw [Nat.mod_eq_sub_mod (by omega), Nat.mod_eq_of_lt (by omega)] at z; omega
        rw [if_neg this, Int.zero_mul]
    · rw [if_neg c, sm_single (p := r + lap - i) (by omega)]
      · rw [if_pos (by rw [show i + (r + lap - i) = r + lap by omega, Nat.add_mod_right]; exact Nat.mod_eq_of_lt hr), rep_getD hi, rep_getD (by omega), show i + (r + lap - i) = r + lap by omega, Int.natCast_add]
        simp
      · intro j hj ne
        have : (i + j) % lap ≠ r := by
          intro z
          by_cases d : i + j < lap
          · rw [Nat.mod_eq_of_lt d] at z; omega
          · rw [Nat.mod_eq_sub_mod (by omega), Nat.mod_eq_of_lt (by omega)] at z; omega
        rw [if_neg this, Int.zero_mul]
  rw [e1]
  have e2 : lap = (r + 1) + (lap - 1 - r) := by omega
  have e3 : sm lap (fun i => if i ≤ r then (r : Int) ^ q else ((r : Int) + (lap : Int)) ^ q) = sm ((r + 1) + (lap - 1 - r)) (fun i => if i ≤ r then (r : Int) ^ q else ((r : Int) + (lap : Int)) ^ q) := by rw [← e2]
  rw [e3, sm_app]
  have e4 : sm (r + 1) (fun i => if i ≤ r then (r : Int) ^ q else ((r : Int) + (lap : Int)) ^ q) = sm (r + 1) fun _ => (r : Int) ^ q := sm_congr fun i hi => if_pos (by omega)
  have e5 : sm (lap - 1 - r) (fun i => if r + 1 + i ≤ r then (r : Int) ^ q else ((r : Int) + (lap : Int)) ^ q) = sm (lap - 1 - r) fun _ => ((r : Int) + (lap : Int)) ^ q := sm_congr fun i hi => if_neg (by omega)
  rw [e4, e5, sm_cst, sm_cst]
  have e6 : ((lap - 1 - r : Nat) : Int) = (lap : Int) - 1 - (r : Int) := by omega
  rw [e6, Int.natCast_add]
  rfl
theorem evenB_not {w : List Int} {lap : Nat} (h : 1 < lap) (e : restS w lap 1 ≠ restS w lap 0) : evenB w lap = false := by
  cases c : evenB w lap with
  | false => rfl
  | true => exact absurd (evenB_iff.mp c 1 h) e
theorem ord_flat {lap : Nat} (h : 2 ≤ lap) : IsOrd (List.replicate lap 1) lap 1 := by
  refine ⟨evenB_not (by omega) ?_, fun q hq => ?_⟩
  · rw [flat_mom (by omega), flat_mom (by omega)]
    decide
  · have : q = 0 := by omega
    subst this
    refine evenB_of (L := 1) (by omega) fun r hr => ?_
    rw [flat_mom hr, Int.pow_zero]
theorem ord_tri {lap : Nat} (h : 4 ≤ lap) : IsOrd (prodL (List.replicate lap 1) (List.replicate lap 1)) lap 2 := by
  refine ⟨evenB_not (by omega) ?_, fun q hq => ?_⟩
  · rw [tri_mom (by omega), tri_mom (by omega)]
    obtain ⟨x, rfl⟩ : ∃ x, lap = x + 4 := ⟨lap - 4, by omega⟩
    intro z
    have e : ((x + 4 : Nat) : Int) = (x : Int) + 4 := by omega
    rw [e] at z
    have hx : (0 : Int) ≤ (x : Int) := by omega
    generalize (x : Int) = y at *
    simp only [Int.pow_succ, Int.pow_zero, Int.one_mul, Int.mul_add, Int.add_mul, Int.sub_mul, Int.mul_sub, Int.natCast_one, Int.natCast_zero, Int.mul_one, Int.zero_mul, Int.mul_zero] at z
    have a1 : y * (y * 4) = 4 * (y * y) := by rw [← Int.mul_assoc, Int.mul_comm]
    have a2 : y * (4 * y) = 4 * (y * y) := by rw [← Int.mul_assoc, Int.mul_comm y 4, Int.mul_assoc]
    rw [a1, a2] at z
    have y2 : 0 ≤ y * y := Int.mul_nonneg hx hx
    omega
  · have : q = 0 ∨ q = 1 := by omega
    rcases this with rfl | rfl
    · refine evenB_of (L := (lap : Int)) (by omega) fun r hr => ?_
      rw [tri_mom hr, Int.pow_zero, Int.pow_zero]
      omega
    · refine evenB_of (L := (lap : Int) * lap - lap) (by omega) fun r hr => ?_
      rw [tri_mom hr]
      simp only [Int.pow_succ, Int.pow_zero, Int.one_mul, Int.mul_add, Int.add_mul, Int.sub_mul, Int.mul_sub]
      rw [Int.mul_comm (r : Int) (lap : Int)]
      generalize (lap : Int) * lap = a
      generalize (lap : Int) * r = b
      generalize (r : Int) * r = c
      omega
/-! ### powers of flat windows -/
theorem fp_len {lap : Nat} (h : 1 ≤ lap) : ∀ m, (fp lap m).length = (m + 1) * (lap - 1) + 1
  | 0 => by
    show (List.replicate lap (1 : Int)).length = _
    rw [List.length_replicate]
    omega
  | m + 1 => by
    show (prodL (fp lap m) (List.replicate lap 1)).length = _
    rw [prodL_len, fp_len h m, List.length_replicate, Nat.add_mul (m + 1) 1, Nat.one_mul]
    omega
theorem fp_any {lap : Nat} (h : 1 ≤ lap) : ∀ m, (fp lap m).any (· != 0) = true
  | 0 => by
    show (List.replicate lap (1 : Int)).any (· != 0) = true
    rw [List.any_eq_true]
    exact ⟨1, List.mem_replicate.mpr ⟨by omega, rfl⟩, rfl⟩
  | m + 1 => prod_any (fp_any h m) (by rw [List.length_replicate]; exact h) (by rw [rep_getD (by omega)]; decide)
theorem fp_le {lap : Nat} (h : 1 ≤ lap) (h2 : lap ≤ 60) : ∀ m, m ≤ 3 → ∀ x ∈ fp lap m, x.natAbs ≤ 20000 ^ m
  | 0, _, x, hx => by
    have := (List.mem_replicate.mp hx).2
    rw [this]
    decide
  | m + 1, hm, x, hx => by
    have := prod_le (N := 1) (fp_le h h2 m (by omega)) (fun y hy => by rw [(List.mem_replicate.mp hy).2]; decide) x hx
    rw [List.length_replicate, Nat.mul_one] at this
    have l : (fp lap m).length ≤ 240 := by
      rw [fp_len h]
      have : (m + 1) * (lap - 1) ≤ 3 * 59 := Nat.mul_le_mul (by omega) (by omega)
      omega
    have l2 : (fp lap m).length * (lap * 20000 ^ m) ≤ 240 * (60 * 20000 ^ m) := Nat.mul_le_mul l (Nat.mul_le_mul_right _ h2)
    rw [Nat.pow_succ]
    generalize 20000 ^ m = z at *
    omega
theorem fp_ord {lap m : Nat} (h : 2 ≤ lap) (h2 : (lap < 9 ∧ m < 4) ∨ m < 2) : IsOrd (fp lap m) lap (m + 1) := by
  by_cases c : lap < 9
  · have k := chk_small
    rw [List.all_eq_true] at k
    have k2 := k (lap - 2) (List.mem_range.mpr (by omega))
    rw [show lap - 2 + 2 = lap by omega] at k2
    exact ordB_ok (chkF_at k2 (by omega))
  · have : m = 0 ∨ m = 1 := by omega
    rcases this with rfl | rfl
    · exact ord_flat h
    · exact ord_tri (by omega)
/-! ### weighted windows laid at all multiples of a hop -/
/-- where entry i of turn j lies among 0 .. m - 1; m if outside; turn j begins at (j - c) * lap -/
def zlay (lap c m j i : Nat) : Nat := if 0 ≤ ((j : Int) - (c : Int)) * (lap : Int) + (i : Int) then (((j : Int) - (c : Int)) * (lap : Int) + (i : Int)).toNat else m
def wlay (w : List Int) (lap p c N : Nat) : List (List Int) := tab N fun j => w.map fun e => (((j : Int) - (c : Int)) * (lap : Int)) ^ p * e
theorem wlay_get {w : List Int} {lap p c N j : Nat} (h : j < N) : wl (wlay w lap p c N) j = w.map fun e => (((j : Int) - (c : Int)) * (lap : Int)) ^ p * e := wl_get (tab_get _ h)
theorem map_getD0 (w : List Int) (a : Int) (i : Nat) : (w.map fun e => a * e).getD i 0 = a * w.getD i 0 := by
  rw [List.getD_eq_getElem?_getD, List.getD_eq_getElem?_getD, List.getElem?_map]
  cases w[i]? with
  | none => simp
  | some v => rfl
theorem lay_T {w : List Int} {lap p m k : Nat} (hl : 0 < lap) (hk : k < m) : accF (zlay lap (w.length / lap + 1) m) (wlay w lap p (w.length / lap + 1) (m / lap + 1 + (w.length / lap + 1))) k = Tpq w lap p 0 k := by
  generalize hc : w.length / lap + 1 = c
  generalize hN : m / lap + 1 + c = N
  have e0 : accF (zlay lap c m) (wlay w lap p c N) k = sm N fun j => sm w.length fun i => if zlay lap c m j i = k then (((j : Int) - (c : Int)) * (lap : Int)) ^ p * w.getD i 0 else 0 := by
    unfold accF accR
    rw [show (wlay w lap p c N).length = N from tab_len _ _]
    refine sm_congr fun j hj => ?_
    rw [wlay_get hj, List.length_map]
    refine sm_congr fun i _ => ?_
    rw [map_getD0]
  rw [e0, sm_comm]
  unfold Tpq
  refine sm_congr fun i hi => ?_
  have hL : (0 : Int) < (lap : Int) := by omega
  by_cases e : i % lap = k % lap
  · rw [if_pos e]
    have d1 := Nat.div_add_mod i lap
    have d2 := Nat.div_add_mod k lap
    have q1 : i / lap ≤ w.length / lap := Nat.div_le_div_right (by omega)
    have q2 : k / lap ≤ m / lap := Nat.div_le_div_right (by omega)
    generalize m / lap = M at *
    generalize w.length / lap = W at *
    generalize k / lap = b at *
    generalize i / lap = a at *
    have ek : (((c + b - a : Nat) : Int) - (c : Int)) * (lap : Int) = (k : Int) - (i : Int) := by
      have t : ((c + b - a : Nat) : Int) - (c : Int) = (b : Int) - (a : Int) := by omega
      rw [t, Int.sub_mul, ← Int.natCast_mul, ← Int.natCast_mul, Nat.mul_comm b, Nat.mul_comm a]
      omega
    have hb : c + b - a < N := by omega
    rw [sm_single (p := c + b - a) hb]
    · rw [ek, if_pos, Int.pow_zero, Int.one_mul]
      unfold zlay
      rw [ek, if_pos (by omega)]
      omega
    · intro j hj ne
      rw [if_neg]
      unfold zlay
      intro z
      by_cases s : 0 ≤ ((j : Int) - (c : Int)) * (lap : Int) + (i : Int)
      · rw [if_pos s] at z
        have z2 : ((j : Int) - (c : Int)) * (lap : Int) = (k : Int) - (i : Int) := by omega
        rw [← ek] at z2
        have := Int.eq_of_mul_eq_mul_right (by omega) z2
        omega
      · rw [if_neg s] at z
        omega
  · rw [if_neg e]
    apply sm_const0
    intro j hj
    rw [if_neg]
    unfold zlay
    intro z
    by_cases s : 0 ≤ ((j : Int) - (c : Int)) * (lap : Int) + (i : Int)
    · rw [if_pos s] at z
      apply e
      have z2 : ((k : Nat) : Int) = (i : Int) + (lap : Int) * ((j : Int) - (c : Int)) := by rw [Int.mul_comm (lap : Int)]; omega
      have z3 : ((k : Nat) : Int) % (lap : Int) = (i : Int) % (lap : Int) := by rw [z2, Int.add_mul_emod_self_left]
      omega
    · rw [if_neg s] at z
      omega
/-- one list is flat -/
theorem tab_flat {f : Nat → Int} {n : Nat} (h : ∀ i, i < n → f i = f 0) : tab n f = List.replicate n (f 0) := tab_rep h
theorem tab_not_flat {w : List Int} {n : Nat} (e : evenB w n = false) : tab n (restS w n) ≠ List.replicate n (restS w n 0) := by
  intro z
  have : evenB w n = true := evenB_iff.mpr fun r hr => by
    have g : (tab n (restS w n))[r]? = some (restS w n r) := tab_get _ hr
    rw [z, List.getElem?_replicate, if_pos hr] at g
    exact (Option.some.inj g).symm
  rw [e] at this
  cases this
end Mth

namespace XR
open PySem PySem.Spec PyProof.Rows L2
/-! n //= k -/
def rIpDiv : V → V → Hp → VK → Prop := fun x y H Q => ∃ i j : Int, x = .int i ∧ y = .int j ∧ CDivW i j ∧ Q (.int (i / j)) H
theorem ip_fdiv {X : Cx} : PIp X .FloorDiv rIpDiv := by
  intro pins s σ H x y v u Q I r1 r2 h
  obtain ⟨i, j, e1, e2, hc, q⟩ := h
  subst e1; subst e2
  obtain ⟨t, rfl⟩ := r1
  obtain ⟨t', rfl⟩ := r2
  have h1 : (0 : Int) < j := hc.1
  refine ifloordiv_int (by omega) ?_ (.inl (PyProof.noPylong_of_log2 hc.2))
  rw [Int.fdiv_eq_ediv_of_nonneg i (by omega)]
  exact ⟨.int _, H, I.tok _, ⟨_, rfl⟩, q⟩
/-- what the top says of an own error class that is made with one text -/
structure Own (K : PySem.W.Frag) (mg : Str → Option Value) (x : Str) (C : Addr) : Prop where
  g : mg x = some (.ref C)
  ex : PySem.W.excIn K C [.type "ValueError", .type "Exception", .type "BaseException", .type "object"] "ValueError.__new__" = true
  kp : PySem.W.keepIn K (.ref C) = true
  sb : PySem.W.subIn K (.ref C) (.type "BaseException") = some true
  ty : PySem.W.typeIn K (.ref C) = some (.type "type")
theorem Own.made {X : Cx} {x : Str} {C : Addr} {e : Expr} {ta : TE} {p pos : Pos} (T : Own X.K X.mg x C) (hg : Gl X x) (he : PE X e ta) (hs : starEach [e] X.env = (false, eval e X.env) :: starEach [] X.env := by rfl) (hdb : (x == ("__debug__" : Str)) = false := by decide) :
    PMk X (.Call (.Name x p) [e] [] pos) (fun σ H Q => ta σ H fun _ H1 => Q (.ref C) none H1) := SkE.pmk_own1 PySem.F.excBase_ValueError T.ex T.g T.kp (raises_own T.sb T.ty) hg he hs hdb
/-- an error of the class at S, and a clause that names the class at D -/
theorem exm_sub {K : PySem.W.Frag} {S D : Addr} {b : Bool} (h1 : PySem.W.subIn K (.ref D) (.type "BaseException") = some true) (h2 : PySem.W.isClsIn K D = true) (h3 : PySem.W.typeIn K (.ref D) = some (.type "type")) (h4 : PySem.W.subIn K (.ref S) (.ref D) = some b) :
    PySem.W.exmOne K (.ref S) (.ref D) = some b := by
  have e1 : (PySem.W.subIn K (.ref D) (.type "BaseException") == some true) = true := by rw [h1] <;> rfl
  have e2 : ((PySem.W.clsIn K D).isSome && PySem.W.typeIn K (.ref D) == some (.type "type")) = true := by
    have h2' : (PySem.W.clsIn K D).isSome = true := h2
    rw [h2', h3] <;> rfl
  unfold PySem.W.exmOne PySem.W.kitCls
  rw [if_pos e1]
  show (if ((PySem.W.clsIn K D).isSome && PySem.W.typeIn K (.ref D) == some (.type "type")) = true then PySem.W.subIn K (.ref S) (.ref D) else none) = some b
  rw [if_pos e2]
  exact h4
end XR

namespace XR
open PySem PySem.Spec PyProof.Rows L2
/-! ### loops and comprehensions over zip of two lists, the shorter one tells the end -/
theorem for_zipM {K : PySem.W.Frag} {a b : Addr} {xs ys : List V} {n : Nat} {g : TG} {tb : TS} {D : Ends} {σ : L2.St} {H : Hp} (hn : n = min xs.length ys.length) (Pv : Nat → L2.St → Hp → Prop) (h0 : Pv 0 σ H) (hq : ∀ i σ H, i ≤ n → Pv i σ H → SqL K H a xs ∧ SqL K H b ys)
    (hs : ∀ (i : Nat) (x y : V) (T : Addr) (σ : L2.St) (H : Hp), i < n → xs[i]? = some x → ys[i]? = some y → Pv i σ H → H T = none → g (.ref T) σ (upd H T (.tup [x, y])) fun σ2 H2 => tb { D with nx := Pv (i + 1), ct := Pv (i + 1), bk := D.nx } σ2 H2) (hd : ∀ σ H, Pv n σ H → D.nx σ H) :
    ∃ W : Nat → Nat → L2.St → Hp → Prop, (∃ m, W 0 m σ H) ∧ ∀ i m σ H, W i m σ H →
      ((Itz K a b).stop i H ∧ D.nx σ H) ∨ ((Itz K a b).go i H ∧ ∃ N : L2.St → Hp → Prop, (∀ σ' H', N σ' H' → ∃ m', m' < m ∧ W (i + 1) m' σ' H') ∧ ∀ v H', (Itz K a b).yld i H v H' → g v σ H' fun σ2 H2 => tb { D with nx := N, ct := N, bk := D.nx } σ2 H2) := by
  refine ⟨fun i m σ H => m = n - i ∧ i ≤ n ∧ Pv i σ H, ⟨n, rfl, Nat.zero_le _, h0⟩, ?_⟩
  rintro i m σ H ⟨rfl, hi, p⟩
  have q := hq i σ H hi p
  by_cases hlt : i < n
  · have l1 : i < xs.length := by omega
    have l2 : i < ys.length := by omega
    refine .inr ⟨⟨xs, ys, xs[i], ys[i], q.1, q.2, List.getElem?_eq_getElem l1, List.getElem?_eq_getElem l2⟩, Pv (i + 1), fun σ' H' p' => ⟨n - (i + 1), by omega, rfl, hlt, p'⟩, fun v H' y => ?_⟩
    obtain ⟨T, x', y', rfl, hT, rfl, f1, f2⟩ := y
    exact hs i x' y' T σ H hlt (f1 xs q.1) (f2 ys q.2) p hT
  · have e : i = n := by omega
    subst e
    refine .inl ⟨⟨xs, ys, q.1, q.2, ?_⟩, hd σ H p⟩
    by_cases hx : xs.length ≤ i
    · exact .inl hx
    · exact .inr (by omega)
theorem lc_zipM {K : PySem.W.Frag} {a b : Addr} {xs ys : List V} {n : Nat} {g : TG} {tt : TT} {te : TE} {vs : List Nat} {σ : L2.St} {H1 : Hp} {D : Addr} {Qd : Hp → Prop} (hn : n = min xs.length ys.length) (Pv : Nat → Hp → Prop) (h0 : Pv 0 (upd H1 D (.lst []))) (hl : ∀ i H, i ≤ n → Pv i H → SqL K H a xs ∧ SqL K H b ys)
    (hs : ∀ (i : Nat) (x y : V) (T : Addr) (H : Hp), i < n → xs[i]? = some x → ys[i]? = some y → Pv i H → H T = none → g (.ref T) (wipe σ vs) (upd H T (.tup [x, y])) fun σ2 H2 => wipe σ2 vs = wipe σ vs ∧ tt σ2 H2 fun b H3 =>
      if b = true then te σ2 H3 fun y H4 => ∃ acc, H4 D = some (.lst acc) ∧ acc.length < sizeLine ∧ Pv (i + 1) (upd H4 D (.lst (acc ++ [y]))) else Pv (i + 1) H3) (hd : ∀ H, Pv n H → Qd H) :
    ∃ W : Nat → Nat → Hp → Prop, (∃ m, W 0 m (upd H1 D (.lst []))) ∧ ∀ i m H, W i m H →
      ((Itz K a b).stop i H ∧ Qd H) ∨ ((Itz K a b).go i H ∧ ∃ Nx : Hp → Prop, (∀ H', Nx H' → ∃ m', m' < m ∧ W (i + 1) m' H') ∧ ∀ x H', (Itz K a b).yld i H x H' → g x (wipe σ vs) H' fun σ2 H2 => wipe σ2 vs = wipe σ vs ∧ tt σ2 H2 fun b H3 =>
        if b = true then te σ2 H3 fun y H4 => ∃ acc, H4 D = some (.lst acc) ∧ acc.length < sizeLine ∧ Nx (upd H4 D (.lst (acc ++ [y]))) else Nx H3) := by
  refine ⟨fun i m H => m = n - i ∧ i ≤ n ∧ Pv i H, ⟨n, rfl, Nat.zero_le _, h0⟩, ?_⟩
  rintro i m H ⟨rfl, hi, p⟩
  have q := hl i H hi p
  by_cases hlt : i < n
  · have l1 : i < xs.length := by omega
    have l2 : i < ys.length := by omega
    refine .inr ⟨⟨xs, ys, xs[i], ys[i], q.1, q.2, List.getElem?_eq_getElem l1, List.getElem?_eq_getElem l2⟩, Pv (i + 1), fun H' p' => ⟨n - (i + 1), by omega, rfl, hlt, p'⟩, fun x H' y => ?_⟩
    obtain ⟨T, x', y', rfl, hT, rfl, f1, f2⟩ := y
    exact hs i x' y' T H hlt (f1 xs q.1) (f2 ys q.2) p hT
  · have e : i = n := by omega
    subst e
    refine .inl ⟨⟨xs, ys, q.1, q.2, ?_⟩, hd H p⟩
    by_cases hx : xs.length ≤ i
    · exact .inl hx
    · exact .inr (by omega)
end XR

namespace Wd
open PySem PySem.Spec PyProof.Rows L2 XR Mth GL
def top (i : Nat) : Stmt := PySem.Challenge.pw_frameseams_k31_whole_orders_let_polynomi.main.body.getD i (.Pass ⟨0, 0, 0, 0⟩)
def nI (n : Nat) : V := .int (n : Int)
/-! ### heaps -/
theorem same_upd {H : Hp} {p : Addr} {o : HO} (h : H p = none) : Same H (upd H p o) := fun b x e => by
  rw [upd_ne (ne_of_none e h)]
  exact e
/-- all but the object at j stands as it stood -/
def SameBut (j : Addr) (H H' : Hp) : Prop := ∀ b o, b ≠ j → H b = some o → H' b = some o
theorem SameBut.of {j : Addr} {H H' : Hp} (h : Same H H') : SameBut j H H' := fun b o _ e => h b o e
theorem SameBut.refl (j : Addr) (H : Hp) : SameBut j H H := fun _ _ _ e => e
theorem SameBut.trans {j : Addr} {H H1 H2 : Hp} (a : SameBut j H H1) (b : SameBut j H1 H2) : SameBut j H H2 := fun c o n e => b c o n (a c o n e)
theorem sb_upd {j : Addr} {H : Hp} {o : HO} : SameBut j H (upd H j o) := fun b x n e => by
  rw [upd_ne n]
  exact e
theorem SameBut.seq {K : PySem.W.Frag} {j : Addr} {H H' : Hp} {a : Addr} {xs : List V} {o : HO} (e : SameBut j H H') (hj : H j = some o) (ho : ∀ zs, o ≠ .lst zs) (ho2 : ∀ q zs, o ≠ .frz q zs) (h : SqL K H a xs) : SqL K H' a xs := by
  rcases h with (h | ⟨q, h⟩) | h
  · exact .inl (.inl (e _ _ (ne_of h hj (fun z => ho _ z.symm)) h))
  · exact .inl (.inr ⟨q, e _ _ (ne_of h hj (fun z => ho2 _ _ z.symm)) h⟩)
  · exact .inr h
theorem SameBut.seq' {K : PySem.W.Frag} {j : Addr} {H H' : Hp} {a : Addr} {xs : List V} (e : SameBut j H H') (n : a ≠ j) (h : SqL K H a xs) : SqL K H' a xs := by
  rcases h with (h | ⟨q, h⟩) | h
  · exact .inl (.inl (e _ _ n h))
  · exact .inl (.inr ⟨q, e _ _ n h⟩)
  · exact .inr h
/-- all that stood before H0 was left stands in H: H0's free places aside -/
theorem same_set {H0 H : Hp} {p : Addr} {o : HO} (s : Same H0 H) (h : H0 p = none) : Same H0 (upd H p o) := fun b x e => by
  rw [upd_ne (ne_of_none e h)]
  exact s _ _ e
theorem get_map {α β : Type} {f : α → β} {xs : List α} {i : Nat} {x : β} (h : (xs.map f)[i]? = some x) : ∃ y, xs[i]? = some y ∧ x = f y := by
  rw [List.getElem?_map] at h
  cases e : xs[i]? with
  | none => rw [e] at h; cases h
  | some y =>
    rw [e] at h
    exact ⟨y, rfl, (Option.some.inj h).symm⟩
theorem small_len {n : Nat} (h : n ≤ 1000) : n ≤ sizeLine := Nat.le_of_lt (small1000 h)
theorem iteD {c A B : Prop} [Decidable c] (hc : c) (h : A) : if decide c = true then A else B := by
  rw [if_pos (decide_eq_true hc)]
  exact h
theorem iteDF {c A B : Prop} [Decidable c] (hc : ¬ c) (h : B) : if decide c = true then A else B := by
  rw [if_neg (by rw [decide_eq_true_iff]; exact hc)]
  exact h
theorem ixN_nat {n j : Nat} (h : j < n) : ixN n (j : Int) = some j := by
  unfold ixN
  rw [if_pos (Int.natCast_nonneg j), if_pos (by omega), Int.toNat_natCast]
theorem ixN_of {n j : Nat} {z : Int} (e : z = (j : Int)) (h : j < n) : ixN n z = some j := by
  rw [e]
  exact ixN_nat h
theorem map_set' {α β : Type} (f : α → β) (l : List α) (j : Nat) (v : α) : (l.map f).set j (f v) = (l.set j v).map f := by
  rw [List.map_set]
theorem free_upd {H : Hp} {l p : Addr} {o : HO} (hl : H l = none) (hp : upd H l o p = none) : H p = none := (same_upd hl).free hp
abbrev sIsInt : Stmt := top 8
abbrev sWithin : Stmt := top 9
abbrev sIsList : Stmt := top 10
abbrev sNeedHop : Stmt := top 11
abbrev sNeedNum : Stmt := top 12
abbrev sSumsAt : Stmt := top 14
abbrev sAreEqual : Stmt := top 15
abbrev sMultiplied : Stmt := top 16
abbrev sIsWin : Stmt := top 18
abbrev sNeedWin : Stmt := top 19
abbrev sProduct : Stmt := top 20
abbrev sOrderAt : Stmt := top 23
abbrev sMoments : Stmt := top 24
abbrev sByN : Stmt := top 25
abbrev sJar : Stmt := top 27
abbrev sDip : Stmt := top 28
abbrev sRests : Stmt := top 29
abbrev sTimes : Stmt := top 30
abbrev sList : Stmt := top 31
abbrev sMade : Stmt := top 32
abbrev sLaid : Stmt := top 33
abbrev sLawDifferences : Stmt := top 34
abbrev sRight : Stmt := top 35
abbrev sLaw : Stmt := top 36
structure Txt (K : PySem.W.Frag) (mg : Str → Option Value) : Prop where
  isinstance : mg "isinstance" = none
  int : mg "int" = none
  bool : mg "bool" = none
  list : mg "list" = none
  len : mg "len" = none
  all : mg "all" = none
  any : mg "any" = none
  sum : mg "sum" = none
  range : mg "range" = none
  enumerate : mg "enumerate" = none
  abs : mg "abs" = none
  max : mg "max" = none
  min : mg "min" = none
  zip : mg "zip" = none
  most : ∃ t, mg "MOST_ENTRIES" = some (.int 200 t)
  gHop : ∃ t, mg "GREATEST_HOP" = some (.int 1000 t)
  gPow : ∃ t, mg "GREATEST_POWER" = some (.int 20 t)
end Wd

namespace Wd
open PySem PySem.Spec PyProof.Rows L2 XR Mth GL
section
variable {P : Program} {w : World} {K : PySem.W.Frag} {mg : Str → Option Value} {base : Heap}
def spIsInt : Sp := fun vs H Q _ => ∃ i : Int, vs = [.int i] ∧ Q (.bl true) H
theorem scIsInt : FnScope ["thing"] ["thing"] (defScope sIsInt) := ⟨rfl, rfl, rfl, by decide +kernel, rfl, by decide +kernel, by decide +kernel⟩
theorem ok_isInt {f : Addr} {fd : FuncData} {k : Nat} (F : Fun K "is_integer" "is_integer" sIsInt f fd) (T : Txt K mg) : FnOk P w K mg base CX0 (k + 1) f fd ["thing"] spIsInt := by
  refine F.ok scIsInt (fun vs H Q E h => ?_) (fun cdv A outer s H vs Q E hr h => ?_)
  · obtain ⟨i, rfl, _⟩ := h
    rfl
  · obtain ⟨i, rfl, q⟩ := h
    refine ⟨_, pss_one (ps_ret (pe_and (pe_callB call_isi (by rfl) T.isinstance (by decide +kernel) (pa_cons (pv 0) (pa_cons (pe_bltn (v := .ty "int") (by rfl) T.int (by decide +kernel) rfl) pa_nil)))
      (pe_one (pe_not (pe_callB call_isi (by rfl) T.isinstance (by decide +kernel) (pa_cons (pv 0) (pa_cons (pe_bltn (v := .ty "bool") (by rfl) T.bool (by decide +kernel) rfl) pa_nil))))))), ?_⟩
    refine ⟨_, rfl, _, _, _, _, true, rfl, .ty _, .base (.int _), kit_ty (by decide +kernel), true, rfl, iteT ?_⟩
    exact ⟨_, rfl, _, _, _, _, false, rfl, .ty _, .base (.int _), kit_ty (by decide +kernel), false, rfl, q⟩
end
section
variable {P : Program} {w : World} {K : PySem.W.Frag} {mg : Str → Option Value} {base : Heap}
def spWithin : Sp := fun vs H Q _ => ∃ i a b : Int, vs = [.int i, .int a, .int b] ∧ a ≤ i ∧ i ≤ b ∧ Q (.bl true) H
theorem scWithin : FnScope ["thing", "least", "most"] ["thing", "least", "most"] (defScope sWithin) := ⟨rfl, rfl, rfl, by decide +kernel, rfl, by decide +kernel, by decide +kernel⟩
theorem ok_within {f fI : Addr} {fd fdI : FuncData} {k : Nat} (F : Fun K "is_within" "is_within" sWithin f fd) (GI : FnOk P w K mg base CX0 k fI fdI ["thing"] spIsInt) (gI : mg "is_integer" = some (.ref fI)) (kI : PySem.W.keepIn K (.ref fI) = true) (bI : Binds K fdI ["thing"] []) :
    FnOk P w K mg base CX0 (k + 1) f fd ["thing", "least", "most"] spWithin := by
  refine F.ok scWithin (fun vs H Q E h => ?_) (fun cdv A outer s H vs Q E hr h => ?_)
  · obtain ⟨i, a, b, rfl, _⟩ := h
    rfl
  · obtain ⟨i, a, b, rfl, h1, h2, q⟩ := h
    refine ⟨_, pss_one (ps_ret (pe_and (pe_call GI hr (by rfl) gI kI bI .nil pass0 (pa_cons (pv 0) pa_nil)) (pe_one (pe_chain op_le op_le (pv 1) (pv 0) (pv 2))))), ?_⟩
    refine ⟨_, rfl, i, rfl, true, rfl, iteT ?_⟩
    refine ⟨_, rfl, _, rfl, _, _, rfl, rfl, _, rfl, iteD h1 ?_⟩
    refine ⟨_, rfl, _, _, rfl, rfl, ?_⟩
    show Q (.bl (decide (i ≤ b))) H
    rw [decide_eq_true h2]
    exact q
end
section
variable {P : Program} {w : World} {K : PySem.W.Frag} {mg : Str → Option Value} {base : Heap}
def spIsList : Sp := fun vs H Q _ => ∃ (a : Addr) (ns : List Int) (m l : Int), vs = [.ref a, .int m, .int l] ∧ H a = some (.lst (ns.map V.int)) ∧ l ≤ (ns.length : Int) ∧ (ns.length : Int) ≤ m ∧ ns.length ≤ 1000 ∧ ∀ H', Same H H' → Q (.bl true) H'
theorem scIsList : FnScope ["thing", "most", "least", "entry"] ["thing", "most", "least"] (defScope sIsList) := ⟨rfl, rfl, rfl, by decide +kernel, rfl, by decide +kernel, by decide +kernel⟩
theorem ok_isList {f fI : Addr} {fd fdI : FuncData} {k : Nat} {dvs : List V} (F : FunD K "is_integer_list" "is_integer_list" (defArgs sIsList) (defBody sIsList) (defScope sIsList) dvs [] f fd) (T : Txt K mg)
    (GI : FnOk P w K mg base CX0 k fI fdI ["thing"] spIsInt) (gI : mg "is_integer" = some (.ref fI)) (kI : PySem.W.keepIn K (.ref fI) = true) (bI : Binds K fdI ["thing"] []) :
    FnOk P w K mg base CX0 (k + 1) f fd ["thing", "most", "least"] spIsList := by
  refine F.ok scIsList (fun vs H Q E h => ?_) (fun cdv A outer s H vs Q E hr h => ?_)
  · first | (obtain ⟨_, rfl, _⟩ := h; rfl) | (obtain ⟨_, _, rfl, _⟩ := h; rfl) | (obtain ⟨_, _, _, rfl, _⟩ := h; rfl) | (obtain ⟨_, _, _, _, rfl, _⟩ := h; rfl) | (obtain ⟨_, _, _, _, _, rfl, _⟩ := h; rfl) | (obtain ⟨_, _, _, _, _, _, rfl, _⟩ := h; rfl) | (obtain ⟨_, _, _, _, _, _, _, rfl, _⟩ := h; rfl) | (obtain ⟨_, _, _, _, _, _, _, _, rfl, _⟩ := h; rfl) | (obtain ⟨_, _, _, _, _, _, _, _, _, rfl, _⟩ := h; rfl) | (obtain ⟨_, _, _, _, _, _, _, _, _, _, rfl, _⟩ := h; rfl) | (obtain ⟨_, _, _, _, _, _, _, _, _, _, _, rfl, _⟩ := h; rfl)
  · have nd := scIsList.nd
    obtain ⟨a, ns, m, l, rfl, hL, h1, h2, h3, q⟩ := h
    refine ⟨_, pss_cons (ps_if (pt_not (pt_val (pe_callB call_isi (by rfl) T.isinstance (by decide +kernel) (pa_cons (pv 0) (pa_cons (pe_bltn (v := .ty "list") (by rfl) T.list (by decide +kernel) rfl) pa_nil))))) (pss_one (ps_ret pe_bl)) pss_nil)
      (pss_one (ps_ret (pe_and (pe_chain op_le op_le (pv 2) (pe_callB call_len_seq (by rfl) T.len PySem.boot_len (pa_cons (pv 0) pa_nil)) (pv 1)) (pe_one (pe_callB (cr_all rfl) (by rfl) T.all (by decide +kernel) (pa_cons (pe_lc (own := [("entry", 3)]) (g := (gName 3)) (tt := tYes) rfl nd (pi_list (pv 0)) (blkOk_by (N := ["thing", "most", "least", "entry"]) (sc := defScope sIsList) (by decide +kernel)) (fun _ _ _ _ _ => pg_name (i := 3) nd rfl (Or.inl rfl)) (fun _ _ _ _ _ => pts_nil) (fun _ _ _ _ _ => pe_call GI hr (by rfl) gI kI bI .nil pass0 (pa_cons (pv 3) pa_nil))) pa_nil)))))), ?_⟩
    refine ⟨_, rfl, _, _, _, _, true, rfl, .ty _, .base (.lst hL), kit_ty (by decide +kernel), true, rfl, iteF ?_⟩
    refine ⟨_, rfl, _, rfl, a, ns.map V.int, rfl, .inl (SqL.of hL), _, _, rfl, rfl, _, rfl, iteD (by rw [List.length_map]; exact h1) ?_⟩
    refine ⟨_, rfl, _, _, rfl, rfl, _, rfl, iteD (by rw [List.length_map]; exact h2) ?_⟩
    refine ⟨_, rfl, a, rfl, ⟨_, SqL.of hL⟩, fun D hD => ?_⟩
    refine lc_list (K := K) (a := a) (xs := ns.map V.int) (fun i H' => Same H H' ∧ H' D = some (.lst ((List.replicate i true).map V.bl))) ⟨same_upd hD, upd_same⟩ (fun i H' _ ⟨s1, _⟩ => SqL.of (s1 _ _ hL)) ?_ ?_
    · rintro i x H' hi ⟨s1, hD'⟩
      obtain ⟨n, hn, rfl⟩ := get_map hi
      have hlt := (List.getElem?_eq_some_iff.mp hn).1
      refine ⟨rfl, _, rfl, n, rfl, _, hD', ?_, same_set s1 hD, ?_⟩
      · rw [List.length_map, List.length_replicate]
        exact small1000 (by omega)
      · rw [upd_same, List.replicate_succ', List.map_append]
        rfl
    · rintro H' ⟨s1, hD'⟩
      refine ⟨_, _, rfl, SqL.of hD', ?_⟩
      have e : (List.replicate (ns.map V.int).length true).all id = true := by
        rw [List.all_eq_true]
        intro x hx
        exact (List.mem_replicate.mp hx).2
      rw [e]
      exact q _ s1
end
section
variable {P : Program} {w : World} {K : PySem.W.Frag} {mg : Str → Option Value} {base : Heap}
/-! ### is_window, need_window -/
/-- a window: 1 to 200 ints, not all 0 -/
def Win (ns : List Int) : Prop := 1 ≤ ns.length ∧ ns.length ≤ 200 ∧ ns.any (· != 0) = true
def spIsWin : Sp := fun vs H Q _ => ∃ (a : Addr) (ns : List Int), vs = [.ref a] ∧ H a = some (.lst (ns.map V.int)) ∧ Win ns ∧ ∀ H', Same H H' → Q (.bl true) H'
theorem scIsWin : FnScope ["thing"] ["thing"] (defScope sIsWin) := ⟨rfl, rfl, rfl, by decide +kernel, rfl, by decide +kernel, by decide +kernel⟩
theorem ok_isWin {f fI : Addr} {fd fdI : FuncData} {dsI : List Value} {k : Nat} (F : Fun K "is_window" "is_window" sIsWin f fd) (T : Txt K mg) (GI : FnOk P w K mg base CX0 k fI fdI ["thing", "most", "least"] spIsList) (gI : mg "is_integer_list" = some (.ref fI)) (kI : PySem.W.keepIn K (.ref fI) = true) (bI : Binds K fdI ["thing", "most", "least"] dsI) (rI : Vals [.int 1] dsI) :
    FnOk P w K mg base CX0 (k + 1) f fd ["thing"] spIsWin := by
  obtain ⟨tm, hm⟩ := T.most
  refine F.ok scIsWin (fun vs H Q E h => ?_) (fun cdv A outer s H vs Q E hr h => ?_)
  · obtain ⟨i, a, rfl, _⟩ := h
    rfl
  · obtain ⟨a, ns, rfl, hL, ⟨w1, w2, w3⟩, q⟩ := h
    refine ⟨_, pss_one (ps_ret (pe_and (pe_call GI hr (by rfl) gI kI bI rI pass0 (pa_cons (pv 0) (pa_cons (pe_glob (v := .int 200) rfl hm ⟨_, rfl⟩) pa_nil)))
      (pe_one (pe_callB (cr_anyI rfl) (by rfl) T.any (by decide +kernel) (pa_cons (pv 0) pa_nil))))), ?_⟩
    refine ⟨_, rfl, a, ns, 200, 1, rfl, hL, by omega, by omega, by omega, fun H1 s1 => ⟨true, rfl, iteT ?_⟩⟩
    refine ⟨_, rfl, a, ns, rfl, SqL.of (s1 _ _ hL), ?_⟩
    rw [w3]
    exact q _ s1
def spNeedWin : Sp := fun vs H Q _ => ∃ (a : Addr) (ns : List Int), vs = [.ref a] ∧ H a = some (.lst (ns.map V.int)) ∧ Win ns ∧ ∀ H', Same H H' → Q .non H'
theorem scNeedWin : FnScope ["window"] ["window"] (defScope sNeedWin) := ⟨rfl, rfl, rfl, by decide +kernel, rfl, by decide +kernel, by decide +kernel⟩
theorem ok_needWin {f fI : Addr} {fd fdI : FuncData} {k : Nat} (F : Fun K "need_window" "need_window" sNeedWin f fd) (GI : FnOk P w K mg base CX0 k fI fdI ["thing"] spIsWin) (gI : mg "is_window" = some (.ref fI)) (kI : PySem.W.keepIn K (.ref fI) = true) (bI : Binds K fdI ["thing"] []) :
    FnOk P w K mg base CX0 (k + 1) f fd ["window"] spNeedWin := by
  refine F.ok scNeedWin (fun vs H Q E h => ?_) (fun cdv A outer s H vs Q E hr h => ?_)
  · obtain ⟨i, a, rfl, _⟩ := h
    rfl
  · obtain ⟨a, ns, rfl, hL, hw, q⟩ := h
    refine ⟨_, pss_one (ps_if (pt_not (pt_val (pe_call GI hr (by rfl) gI kI bI .nil pass0 (pa_cons (pv 0) pa_nil)))) pss_never pss_nil), ?_⟩
    exact ⟨_, rfl, a, ns, rfl, hL, hw, fun H1 s1 => ⟨true, rfl, iteF (q _ s1)⟩⟩
end
section
variable {P : Program} {w : World} {K : PySem.W.Frag} {mg : Str → Option Value} {base : Heap}
def spNeedHop : Sp := fun vs H Q _ => ∃ i l m : Int, vs = [.int i, .int l, .int m] ∧ l ≤ i ∧ i ≤ m ∧ Q .non H
theorem scNeedHop : FnScope ["hop", "least", "most"] ["hop", "least", "most"] (defScope sNeedHop) := ⟨rfl, rfl, rfl, by decide +kernel, rfl, by decide +kernel, by decide +kernel⟩
theorem ok_needHop {f fI : Addr} {fd fdI : FuncData} {k : Nat} {dvs : List V} (F : FunD K "need_hop" "need_hop" (defArgs sNeedHop) (defBody sNeedHop) (defScope sNeedHop) dvs [] f fd)
    (GI : FnOk P w K mg base CX0 k fI fdI ["thing", "least", "most"] spWithin) (gI : mg "is_within" = some (.ref fI)) (kI : PySem.W.keepIn K (.ref fI) = true) (bI : Binds K fdI ["thing", "least", "most"] []) :
    FnOk P w K mg base CX0 (k + 1) f fd ["hop", "least", "most"] spNeedHop := by
  refine F.ok scNeedHop (fun vs H Q E h => ?_) (fun cdv A outer s H vs Q E hr h => ?_)
  · first | (obtain ⟨_, rfl, _⟩ := h; rfl) | (obtain ⟨_, _, rfl, _⟩ := h; rfl) | (obtain ⟨_, _, _, rfl, _⟩ := h; rfl) | (obtain ⟨_, _, _, _, rfl, _⟩ := h; rfl) | (obtain ⟨_, _, _, _, _, rfl, _⟩ := h; rfl) | (obtain ⟨_, _, _, _, _, _, rfl, _⟩ := h; rfl) | (obtain ⟨_, _, _, _, _, _, _, rfl, _⟩ := h; rfl) | (obtain ⟨_, _, _, _, _, _, _, _, rfl, _⟩ := h; rfl) | (obtain ⟨_, _, _, _, _, _, _, _, _, rfl, _⟩ := h; rfl) | (obtain ⟨_, _, _, _, _, _, _, _, _, _, rfl, _⟩ := h; rfl) | (obtain ⟨_, _, _, _, _, _, _, _, _, _, _, rfl, _⟩ := h; rfl)
  · have nd := scNeedHop.nd
    obtain ⟨i, l, m, rfl, h1, h2, q⟩ := h
    refine ⟨_, pss_one (ps_if (pt_not (pt_val (pe_call GI hr (by rfl) gI kI bI .nil pass0 (pa_cons (pv 0) (pa_cons (pv 1) (pa_cons (pv 2) pa_nil)))))) pss_never pss_nil), ?_⟩
    exact ⟨_, rfl, _, rfl, _, rfl, i, l, m, rfl, h1, h2, true, rfl, iteF q⟩
end
section
variable {P : Program} {w : World} {K : PySem.W.Frag} {mg : Str → Option Value} {base : Heap}
def spNeedNumber : Sp := fun vs H Q _ => ∃ i l m : Int, vs = [.int i, .int l, .int m] ∧ l ≤ i ∧ i ≤ m ∧ Q .non H
theorem scNeedNumber : FnScope ["number", "least", "most"] ["number", "least", "most"] (defScope sNeedNum) := ⟨rfl, rfl, rfl, by decide +kernel, rfl, by decide +kernel, by decide +kernel⟩
theorem ok_needNumber {f fI : Addr} {fd fdI : FuncData} {k : Nat} (F : Fun K "need_number" "need_number" sNeedNum f fd)
    (GI : FnOk P w K mg base CX0 k fI fdI ["thing", "least", "most"] spWithin) (gI : mg "is_within" = some (.ref fI)) (kI : PySem.W.keepIn K (.ref fI) = true) (bI : Binds K fdI ["thing", "least", "most"] []) :
    FnOk P w K mg base CX0 (k + 1) f fd ["number", "least", "most"] spNeedNumber := by
  refine F.ok scNeedNumber (fun vs H Q E h => ?_) (fun cdv A outer s H vs Q E hr h => ?_)
  · first | (obtain ⟨_, rfl, _⟩ := h; rfl) | (obtain ⟨_, _, rfl, _⟩ := h; rfl) | (obtain ⟨_, _, _, rfl, _⟩ := h; rfl) | (obtain ⟨_, _, _, _, rfl, _⟩ := h; rfl) | (obtain ⟨_, _, _, _, _, rfl, _⟩ := h; rfl) | (obtain ⟨_, _, _, _, _, _, rfl, _⟩ := h; rfl) | (obtain ⟨_, _, _, _, _, _, _, rfl, _⟩ := h; rfl) | (obtain ⟨_, _, _, _, _, _, _, _, rfl, _⟩ := h; rfl) | (obtain ⟨_, _, _, _, _, _, _, _, _, rfl, _⟩ := h; rfl) | (obtain ⟨_, _, _, _, _, _, _, _, _, _, rfl, _⟩ := h; rfl) | (obtain ⟨_, _, _, _, _, _, _, _, _, _, _, rfl, _⟩ := h; rfl)
  · have nd := scNeedNumber.nd
    obtain ⟨i, l, m, rfl, h1, h2, q⟩ := h
    refine ⟨_, pss_one (ps_if (pt_not (pt_val (pe_call GI hr (by rfl) gI kI bI .nil pass0 (pa_cons (pv 0) (pa_cons (pv 1) (pa_cons (pv 2) pa_nil)))))) pss_never pss_nil), ?_⟩
    exact ⟨_, rfl, _, rfl, _, rfl, i, l, m, rfl, h1, h2, true, rfl, iteF q⟩
end
section
variable {P : Program} {w : World} {K : PySem.W.Frag} {mg : Str → Option Value} {base : Heap}
def spSumsAt : Sp := fun vs H Q _ => ∃ (a : Addr) (ns : List Int) (h : Nat), vs = [.ref a, .int (h : Int)] ∧ H a = some (.lst (ns.map V.int)) ∧ 1 ≤ h ∧ h ≤ 1000 ∧
  ∀ H' p, Same H H' → H p = none → H' p = some (.lst ((tab h (restS ns h)).map V.int)) → Q (.ref p) H'
theorem scSumsAt : FnScope ["entries", "hop", "rest"] ["entries", "hop"] (defScope sSumsAt) := ⟨rfl, rfl, rfl, by decide +kernel, rfl, by decide +kernel, by decide +kernel⟩
theorem ok_sumsAt {f : Addr} {fd : FuncData} {k : Nat} (F : Fun K "sums_at" "sums_at" sSumsAt f fd) (T : Txt K mg) :
    FnOk P w K mg base CX0 (k + 1) f fd ["entries", "hop"] spSumsAt := by
  refine F.ok scSumsAt (fun vs H Q E h => ?_) (fun cdv A outer s H vs Q E hr h => ?_)
  · first | (obtain ⟨_, rfl, _⟩ := h; rfl) | (obtain ⟨_, _, rfl, _⟩ := h; rfl) | (obtain ⟨_, _, _, rfl, _⟩ := h; rfl) | (obtain ⟨_, _, _, _, rfl, _⟩ := h; rfl) | (obtain ⟨_, _, _, _, _, rfl, _⟩ := h; rfl) | (obtain ⟨_, _, _, _, _, _, rfl, _⟩ := h; rfl) | (obtain ⟨_, _, _, _, _, _, _, rfl, _⟩ := h; rfl) | (obtain ⟨_, _, _, _, _, _, _, _, rfl, _⟩ := h; rfl) | (obtain ⟨_, _, _, _, _, _, _, _, _, rfl, _⟩ := h; rfl) | (obtain ⟨_, _, _, _, _, _, _, _, _, _, rfl, _⟩ := h; rfl) | (obtain ⟨_, _, _, _, _, _, _, _, _, _, _, rfl, _⟩ := h; rfl)
  · have nd := scSumsAt.nd
    obtain ⟨a, ns, b, rfl, hL, b1, b2, q⟩ := h
    refine ⟨_, pss_one (ps_ret (pe_lc (own := [("rest", 2)]) (g := (gName 2)) (tt := tYes) (te := (tCB (rSum K) (tCons (tSl3 K (tVar 0) (tPart (tVar 2)) tNoPart (tPart (tVar 1))) tNil))) rfl nd (pi_range1 rfl T.range (pa_cons (pv 1) pa_nil)) (blkOk_by (N := ["entries", "hop", "rest"]) (sc := defScope sSumsAt) (by decide +kernel)) (fun _ _ _ _ _ => pg_name (i := 2) nd rfl (Or.inl rfl)) (fun _ _ _ _ _ => pts_nil) (fun _ _ _ _ _ => pe_callB (cr_sum rfl) (by rfl) T.sum (by decide +kernel) (pa_cons (pe_slice3 (pv 0) (po_some (pv 2)) po_none (po_some (pv 1))) pa_nil)))), ?_⟩
    refine ⟨_, rfl, _, rfl, by omega, by omega, fun D hD => ?_⟩
    rw [Int.toNat_natCast]
    refine lc_range (lo := 0) (n := b) (fun i H' => Same H H' ∧ H' D = some (.lst ((tab i (restS ns b)).map V.int))) ⟨same_upd hD, upd_same⟩ ?_ ?_
    · rintro i H' hi ⟨s2, hD'⟩
      rw [Int.zero_add]
      refine ⟨rfl, _, rfl, _, rfl, _, rfl, _, rfl, _, rfl, a, ns.map V.int, rfl, SqL.of (s2 _ _ hL), ?_, fun p hp => ?_⟩
      · intro z
        have := Option.some.inj z
        omega
      refine ⟨p, pickV ns (some (i : Int)) none (some (b : Int)), rfl, ?_, ?_⟩
      · rw [← pickV_map]
        exact SqL.of upd_same
      · have hDp : D ≠ p := ne_of_none hD' hp
        refine ⟨(tab i (restS ns b)).map V.int, ?_, ?_, ?_, ?_⟩
        · rw [upd_ne hDp]
          exact hD'
        · rw [List.length_map, tab_len]
          exact small1000 (by omega)
        · exact same_set (s2.trans (same_upd hp)) hD
        · rw [upd_same, tab_succ, List.map_append, pick_sum ns i b hi]
          rfl
    · rintro H' ⟨s2, hD'⟩
      exact q H' D s2 hD hD'
end
section
variable {P : Program} {w : World} {K : PySem.W.Frag} {mg : Str → Option Value} {base : Heap}
def spAreEqual : Sp := fun vs H Q _ => ∃ (a : Addr) (ns : List Int), vs = [.ref a] ∧ H a = some (.lst (ns.map V.int)) ∧ 1 ≤ ns.length ∧ ns.length ≤ 1000 ∧
  ∀ H', Same H H' → Q (.bl (sameB ns)) H'
theorem scAreEqual : FnScope ["numbers", "number"] ["numbers"] (defScope sAreEqual) := ⟨rfl, rfl, rfl, by decide +kernel, rfl, by decide +kernel, by decide +kernel⟩
theorem ok_areEqual {f : Addr} {fd : FuncData} {k : Nat} (F : Fun K "are_equal" "are_equal" sAreEqual f fd) (T : Txt K mg) :
    FnOk P w K mg base CX0 (k + 1) f fd ["numbers"] spAreEqual := by
  refine F.ok scAreEqual (fun vs H Q E h => ?_) (fun cdv A outer s H vs Q E hr h => ?_)
  · first | (obtain ⟨_, rfl, _⟩ := h; rfl) | (obtain ⟨_, _, rfl, _⟩ := h; rfl) | (obtain ⟨_, _, _, rfl, _⟩ := h; rfl) | (obtain ⟨_, _, _, _, rfl, _⟩ := h; rfl) | (obtain ⟨_, _, _, _, _, rfl, _⟩ := h; rfl) | (obtain ⟨_, _, _, _, _, _, rfl, _⟩ := h; rfl) | (obtain ⟨_, _, _, _, _, _, _, rfl, _⟩ := h; rfl) | (obtain ⟨_, _, _, _, _, _, _, _, rfl, _⟩ := h; rfl) | (obtain ⟨_, _, _, _, _, _, _, _, _, rfl, _⟩ := h; rfl) | (obtain ⟨_, _, _, _, _, _, _, _, _, _, rfl, _⟩ := h; rfl) | (obtain ⟨_, _, _, _, _, _, _, _, _, _, _, rfl, _⟩ := h; rfl)
  · have nd := scAreEqual.nd
    obtain ⟨a, ns, rfl, hL, h1, h2, q⟩ := h
    refine ⟨_, pss_one (ps_ret (pe_callB (cr_all rfl) (by rfl) T.all (by decide +kernel) (pa_cons (pe_lc (own := [("number", 1)]) (g := (gName 1)) (tt := tYes) (te := (tOp rEq (tVar 1) (tOp (rIxL K) (tVar 0) (tC (.int 0))))) rfl nd (pi_list (pv 0)) (blkOk_by (N := ["numbers", "number"]) (sc := defScope sAreEqual) (by decide +kernel)) (fun _ _ _ _ _ => pg_name (i := 1) nd rfl (Or.inl rfl)) (fun _ _ _ _ _ => pts_nil) (fun _ _ _ _ _ => pe_cmpR op_eq (pv 1) (pe_ix ix_list (pv 0) pe_int (fun _ _ => rfl)) (nomark _))) pa_nil))), ?_⟩
    refine ⟨_, rfl, a, rfl, ⟨_, SqL.of hL⟩, fun D hD => ?_⟩
    refine lc_list (K := K) (a := a) (xs := ns.map V.int) (fun i H' => Same H H' ∧ H' D = some (.lst ((tab i fun i => decide (ns.getD i 0 = ns.getD 0 0)).map V.bl))) ⟨same_upd hD, upd_same⟩ (fun i H' _ ⟨s1, _⟩ => SqL.of (s1 _ _ hL)) ?_ ?_
    · rintro i x H' hi ⟨s1, hD'⟩
      obtain ⟨n, hn, rfl⟩ := get_map hi
      have hlt := (List.getElem?_eq_some_iff.mp hn).1
      have g0 : (ns.map V.int)[0]? = some (.int (ns.getD 0 0)) := by
        rw [List.getElem?_map, List.getD_eq_getElem?_getD, List.getElem?_eq_getElem h1]
        rfl
      have e0 : n = ns.getD i 0 := by rw [List.getD_eq_getElem?_getD, hn]; rfl
      refine ⟨rfl, _, rfl, _, rfl, a, _, 0, _, rfl, rfl, SqL.of (s1 _ _ hL), atI_nat (j := 0) g0, rfl, _, hD', ?_, same_set s1 hD, ?_⟩
      · rw [List.length_map, tab_len]
        exact small1000 (by omega)
      · rw [upd_same, tab_succ, List.map_append, e0]
        congr 3
        show [V.bl (decide (V.int (ns.getD i 0) = V.int (ns.getD 0 0)))] = [V.bl (decide (ns.getD i 0 = ns.getD 0 0))]
        congr 2
        exact decide_eq_decide.mpr ⟨fun z => V.int.inj z, fun z => by rw [z]⟩
    · rintro H' ⟨s1, hD'⟩
      rw [List.length_map] at hD'
      refine ⟨_, _, rfl, SqL.of hD', ?_⟩
      rw [all_same]
      exact q _ s1
end
section
variable {P : Program} {w : World} {K : PySem.W.Frag} {mg : Str → Option Value} {base : Heap}
def spByN : Sp := fun vs H Q _ => ∃ (a : Addr) (ns : List Int), vs = [.ref a] ∧ H a = some (.lst (ns.map V.int)) ∧ ns.length ≤ 1000 ∧ ∀ H' p, Same H H' → H p = none → H' p = some (.lst ((byN ns).map V.int)) → Q (.ref p) H'
theorem scByN : FnScope ["entries", "number", "entry"] ["entries"] (defScope sByN) := ⟨rfl, rfl, rfl, by decide +kernel, rfl, by decide +kernel, by decide +kernel⟩
theorem ok_byN {f : Addr} {fd : FuncData} {k : Nat} (F : Fun K "_by_their_numbers" "_by_their_numbers" sByN f fd) (T : Txt K mg) :
    FnOk P w K mg base CX0 (k + 1) f fd ["entries"] spByN := by
  refine F.ok scByN (fun vs H Q E h => ?_) (fun cdv A outer s H vs Q E hr h => ?_)
  · first | (obtain ⟨_, rfl, _⟩ := h; rfl) | (obtain ⟨_, _, rfl, _⟩ := h; rfl) | (obtain ⟨_, _, _, rfl, _⟩ := h; rfl) | (obtain ⟨_, _, _, _, rfl, _⟩ := h; rfl) | (obtain ⟨_, _, _, _, _, rfl, _⟩ := h; rfl) | (obtain ⟨_, _, _, _, _, _, rfl, _⟩ := h; rfl) | (obtain ⟨_, _, _, _, _, _, _, rfl, _⟩ := h; rfl) | (obtain ⟨_, _, _, _, _, _, _, _, rfl, _⟩ := h; rfl) | (obtain ⟨_, _, _, _, _, _, _, _, _, rfl, _⟩ := h; rfl) | (obtain ⟨_, _, _, _, _, _, _, _, _, _, rfl, _⟩ := h; rfl) | (obtain ⟨_, _, _, _, _, _, _, _, _, _, _, rfl, _⟩ := h; rfl)
  · have nd := scByN.nd
    obtain ⟨a, ns, rfl, hL, hl, q⟩ := h
    refine ⟨_, pss_one (ps_ret (pe_lc (own := [("number", 1), ("entry", 2)]) (g := (gTup K 2 (gCons (gName 1) (gCons (gName 2) gNil)))) (tt := tYes) (te := (tOp (rI CMul fun i j => .int (i * j)) (tVar 1) (tVar 2))) rfl nd (pi_enum (by rfl) T.enumerate (pa_cons (pv 0) pa_nil)) (blkOk_by (N := ["entries", "number", "entry"]) (sc := defScope sByN) (by decide +kernel)) (fun _ _ _ _ _ => pg_tup rfl (pgs_cons (pg_name (i := 1) nd rfl (Or.inl rfl)) (pgs_cons (pg_name (i := 2) nd rfl (Or.inl rfl)) pgs_nil))) (fun _ _ _ _ _ => pts_nil) (fun _ _ _ _ _ => pe_op op_mul (pv 1) (pv 2)))), ?_⟩
    refine ⟨_, rfl, a, _, rfl, SqL.of hL, fun D hD => ?_⟩
    refine lc_enum (K := K) (a := a) (xs := ns.map V.int) (fun i H' => Same H H' ∧ H' D = some (.lst ((tab i fun i => (i : Int) * ns.getD i 0).map V.int))) ⟨same_upd hD, upd_same⟩ (fun i H' _ ⟨s, _⟩ => SqL.of (s _ _ hL)) ?_ ?_
    · rintro i x Tp H' hi ⟨s, hD'⟩ hT
      obtain ⟨u, hu, rfl⟩ := get_map hi
      have hlt := (List.getElem?_eq_some_iff.mp hu).1
      have nDT : D ≠ Tp := ne_of_none hD' hT
      have eu : u = ns.getD i 0 := by rw [List.getD_eq_getElem?_getD, hu]; rfl
      refine ⟨Tp, _, rfl, .inl (.inl upd_same), rfl, _, _, rfl, _, _, rfl, rfl, rfl, _, rfl, _, rfl, _, _, rfl, rfl, .inl ⟨by omega, by omega⟩, ?_⟩
      refine ⟨_, by rw [upd_ne nDT]; exact hD', ?_, same_set (s.trans (same_upd hT)) hD, ?_⟩
      · rw [List.length_map, tab_len]
        exact small1000 (by omega)
      · rw [upd_same, tab_succ, List.map_append, eu]
        rfl
    · rintro H' ⟨s, hD'⟩
      rw [List.length_map] at hD'
      exact q H' D s hD hD'
end
section
variable {P : Program} {w : World} {K : PySem.W.Frag} {mg : Str → Option Value} {base : Heap}
def spMoments : Sp := fun vs H Q _ => ∃ (a : Addr) (ns : List Int) (h p : Nat), vs = [.ref a, .int (h : Int), .int (p : Int)] ∧ H a = some (.lst (ns.map V.int)) ∧ Win ns ∧ 1 ≤ h ∧ h ≤ 1000 ∧ p ≤ 20 ∧
  ∀ H' x, Same H H' → H x = none → H' x = some (.lst ((tab h (restS (powN ns p) h)).map V.int)) → Q (.ref x) H'
theorem scMoments : FnScope ["window", "hop", "power", "entries", "_"] ["window", "hop", "power"] (defScope sMoments) := ⟨rfl, rfl, rfl, by decide +kernel, rfl, by decide +kernel, by decide +kernel⟩
theorem ok_moments {f fW fH fN fB fS : Addr} {fd fdW fdH fdN fdB fdS : FuncData} {dsH : List Value} {k : Nat} (F : Fun K "moments" "moments" sMoments f fd) (T : Txt K mg)
    (GW : FnOk P w K mg base CX0 k fW fdW ["window"] spNeedWin) (gW : mg "need_window" = some (.ref fW)) (kW : PySem.W.keepIn K (.ref fW) = true) (bW : Binds K fdW ["window"] [])
    (GH : FnOk P w K mg base CX0 k fH fdH ["hop", "least", "most"] spNeedHop) (gH : mg "need_hop" = some (.ref fH)) (kH : PySem.W.keepIn K (.ref fH) = true) (bH : Binds K fdH ["hop", "least", "most"] dsH) (rH : Vals [.int 1, .int 1000] dsH)
    (GN : FnOk P w K mg base CX0 k fN fdN ["number", "least", "most"] spNeedNumber) (gN : mg "need_number" = some (.ref fN)) (kN : PySem.W.keepIn K (.ref fN) = true) (bN : Binds K fdN ["number", "least", "most"] [])
    (GB : FnOk P w K mg base CX0 k fB fdB ["entries"] spByN) (gB : mg "_by_their_numbers" = some (.ref fB)) (kB : PySem.W.keepIn K (.ref fB) = true) (bB : Binds K fdB ["entries"] [])
    (GS : FnOk P w K mg base CX0 k fS fdS ["entries", "hop"] spSumsAt) (gS : mg "sums_at" = some (.ref fS)) (kS : PySem.W.keepIn K (.ref fS) = true) (bS : Binds K fdS ["entries", "hop"] []) :
    FnOk P w K mg base CX0 (k + 1) f fd ["window", "hop", "power"] spMoments := by
  refine F.ok scMoments (fun vs H Q E h => ?_) (fun cdv A outer s H vs Q E hr h => ?_)
  · first | (obtain ⟨_, rfl, _⟩ := h; rfl) | (obtain ⟨_, _, rfl, _⟩ := h; rfl) | (obtain ⟨_, _, _, rfl, _⟩ := h; rfl) | (obtain ⟨_, _, _, _, rfl, _⟩ := h; rfl) | (obtain ⟨_, _, _, _, _, rfl, _⟩ := h; rfl) | (obtain ⟨_, _, _, _, _, _, rfl, _⟩ := h; rfl) | (obtain ⟨_, _, _, _, _, _, _, rfl, _⟩ := h; rfl) | (obtain ⟨_, _, _, _, _, _, _, _, rfl, _⟩ := h; rfl) | (obtain ⟨_, _, _, _, _, _, _, _, _, rfl, _⟩ := h; rfl) | (obtain ⟨_, _, _, _, _, _, _, _, _, _, rfl, _⟩ := h; rfl) | (obtain ⟨_, _, _, _, _, _, _, _, _, _, _, rfl, _⟩ := h; rfl)
  · have nd := scMoments.nd
    obtain ⟨a, ns, b, pw, rfl, hL, hw, b1, b2, hp, q⟩ := h
    refine ⟨_, pss_cons (ps_expr (pe_call GW hr (by rfl) gW kW bW .nil pass0 (pa_cons (pv 0) pa_nil)))
      (pss_cons (ps_expr (pe_call GH hr (by rfl) gH kH bH rH pass0 (pa_cons (pv 1) pa_nil)))
      (pss_cons (ps_expr (pe_call GN hr (by rfl) gN kN bN .nil pass0 (pa_cons (pv 2) (pa_cons pe_int (pa_cons (pe_glob (v := .int 20) rfl T.gPow.choose_spec ⟨_, rfl⟩) pa_nil)))))
      (pss_cons (ps_set (i := 3) nd rfl (.inl rfl) (pv 0))
      (pss_cons (ps_for PassesOwn.never rfl (pi_range1 rfl T.range (pa_cons (pv 2) pa_nil)) (pg_name (i := 4) nd rfl (.inl rfl))
        (pss_one (ps_set (i := 3) nd rfl (.inl rfl) (pe_call GB hr (by rfl) gB kB bB .nil pass0 (pa_cons (pv 3) pa_nil)))))
      (pss_one (ps_ret (pe_call GS hr (by rfl) gS kS bS .nil pass0 (pa_cons (pv 3) (pa_cons (pv 1) pa_nil))))))))), ?_⟩
    have w2 := hw.2.1
    refine ⟨_, rfl, a, ns, rfl, hL, hw, fun H1 s1 => ?_⟩
    refine ⟨_, rfl, b, 1, 1000, rfl, by omega, by omega, ?_⟩
    refine ⟨_, rfl, (pw : Int), 0, 20, rfl, by omega, by omega, ?_⟩
    refine ⟨_, rfl, ?_⟩
    refine ⟨_, rfl, _, rfl, by omega, by omega, ?_⟩
    rw [Int.toNat_natCast]
    refine for_range (lo := 0) (n := pw) (fun i σ H' => ∃ u y4, σ = [some (.ref a), some (.int (b : Int)), some (.int (pw : Int)), some (.ref u), y4] ∧ Same H H' ∧ H' u = some (.lst ((powN ns i).map V.int))) ⟨a, none, rfl, s1, s1 _ _ hL⟩ ?_ ?_
    · rintro i σ H' hi ⟨u, y4, rfl, s, hu⟩
      refine ⟨_, rfl, u, powN ns i, rfl, hu, by rw [powN_len]; omega, fun H2 v s2 v0 hv => ?_⟩
      exact ⟨v, _, rfl, s.trans s2, hv⟩
    · rintro σ H' ⟨u, y4, rfl, s, hu⟩
      exact ⟨_, rfl, _, rfl, u, powN ns pw, b, rfl, hu, b1, b2, fun H2 x s2 x0 hx => q H2 x (s.trans s2) (s.free x0) hx⟩
end
section
variable {P : Program} {w : World} {K : PySem.W.Frag} {mg : Str → Option Value} {base : Heap}
def spOrderAt : Sp := fun vs H Q _ => ∃ (a : Addr) (ns : List Int) (h D : Nat), vs = [.ref a, .int (h : Int)] ∧ H a = some (.lst (ns.map V.int)) ∧ Win ns ∧ 2 ≤ h ∧ h ≤ 1000 ∧ IsOrd ns h D ∧
  ∀ H', Same H H' → Q (nI D) H'
theorem scOrderAt : FnScope ["window", "hop", "order", "entries"] ["window", "hop"] (defScope sOrderAt) := ⟨rfl, rfl, rfl, by decide +kernel, rfl, by decide +kernel, by decide +kernel⟩
theorem ok_orderAt {f fW fH fS fE fB : Addr} {fd fdW fdH fdS fdE fdB : FuncData} {dsH : List Value} {k : Nat} (F : Fun K "order_at" "order_at" sOrderAt f fd)
    (GW : FnOk P w K mg base CX0 k fW fdW ["window"] spNeedWin) (gW : mg "need_window" = some (.ref fW)) (kW : PySem.W.keepIn K (.ref fW) = true) (bW : Binds K fdW ["window"] [])
    (GH : FnOk P w K mg base CX0 k fH fdH ["hop", "least", "most"] spNeedHop) (gH : mg "need_hop" = some (.ref fH)) (kH : PySem.W.keepIn K (.ref fH) = true) (bH : Binds K fdH ["hop", "least", "most"] dsH) (rH : Vals [.int 1000] dsH)
    (GS : FnOk P w K mg base CX0 k fS fdS ["entries", "hop"] spSumsAt) (gS : mg "sums_at" = some (.ref fS)) (kS : PySem.W.keepIn K (.ref fS) = true) (bS : Binds K fdS ["entries", "hop"] [])
    (GE : FnOk P w K mg base CX0 k fE fdE ["numbers"] spAreEqual) (gE : mg "are_equal" = some (.ref fE)) (kE : PySem.W.keepIn K (.ref fE) = true) (bE : Binds K fdE ["numbers"] [])
    (GB : FnOk P w K mg base CX0 k fB fdB ["entries"] spByN) (gB : mg "_by_their_numbers" = some (.ref fB)) (kB : PySem.W.keepIn K (.ref fB) = true) (bB : Binds K fdB ["entries"] []) :
    FnOk P w K mg base CX0 (k + 1) f fd ["window", "hop"] spOrderAt := by
  refine F.ok scOrderAt (fun vs H Q E h => ?_) (fun cdv A outer s H vs Q E hr h => ?_)
  · first | (obtain ⟨_, rfl, _⟩ := h; rfl) | (obtain ⟨_, _, rfl, _⟩ := h; rfl) | (obtain ⟨_, _, _, rfl, _⟩ := h; rfl) | (obtain ⟨_, _, _, _, rfl, _⟩ := h; rfl) | (obtain ⟨_, _, _, _, _, rfl, _⟩ := h; rfl) | (obtain ⟨_, _, _, _, _, _, rfl, _⟩ := h; rfl) | (obtain ⟨_, _, _, _, _, _, _, rfl, _⟩ := h; rfl) | (obtain ⟨_, _, _, _, _, _, _, _, rfl, _⟩ := h; rfl) | (obtain ⟨_, _, _, _, _, _, _, _, _, rfl, _⟩ := h; rfl) | (obtain ⟨_, _, _, _, _, _, _, _, _, _, rfl, _⟩ := h; rfl) | (obtain ⟨_, _, _, _, _, _, _, _, _, _, _, rfl, _⟩ := h; rfl)
  · have nd := scOrderAt.nd
    obtain ⟨a, ns, b, D, rfl, hL, hw, b1, b2, hD, q⟩ := h
    refine ⟨_, pss_cons (ps_expr (pe_call GW hr (by rfl) gW kW bW .nil pass0 (pa_cons (pv 0) pa_nil)))
      (pss_cons (ps_expr (pe_call GH hr (by rfl) gH kH bH rH pass0 (pa_cons (pv 1) (pa_cons pe_int pa_nil))))
      (pss_cons (ps_set (i := 2) nd rfl (.inl rfl) pe_int)
      (pss_cons (ps_set (i := 3) nd rfl (.inl rfl) (pv 0))
      (pss_cons (ps_while PassesOwn.never (pt_val (pe_call GE hr (by rfl) gE kE bE .nil pass0 (pa_cons (pe_call GS hr (by rfl) gS kS bS .nil pass0 (pa_cons (pv 3) (pa_cons (pv 1) pa_nil))) pa_nil)))
        (pss_cons (ps_aug (i := 2) nd rfl (.inl rfl) pe_int ip_add)
        (pss_one (ps_set (i := 3) nd rfl (.inl rfl) (pe_call GB hr (by rfl) gB kB bB .nil pass0 (pa_cons (pv 3) pa_nil))))))
      (pss_one (ps_ret (pv 2))))))), ?_⟩
    have w2 := hw.2.1
    refine ⟨_, rfl, a, ns, rfl, hL, hw, fun H1 s1 => ?_⟩
    refine ⟨_, rfl, b, 2, 1000, rfl, by omega, by omega, ?_⟩
    refine ⟨_, rfl, ?_⟩
    refine ⟨fun m σ H2 => ∃ i u, m = D - i ∧ i ≤ D ∧ σ = [some (.ref a), some (.int (b : Int)), some (nI i), some (.ref u)] ∧ Same H H2 ∧ H2 u = some (.lst ((powN ns i).map V.int)), ⟨_, 0, a, rfl, Nat.zero_le _, rfl, s1, s1 _ _ hL⟩, ?_⟩
    rintro m σ H2 ⟨i, u, rfl, hi, rfl, s, hu⟩
    refine ⟨_, rfl, _, rfl, u, powN ns i, b, rfl, hu, by omega, b2, fun H3 p s3 p0 hp => ?_⟩
    refine ⟨p, _, rfl, hp, by rw [tab_len]; omega, by rw [tab_len]; exact b2, fun H4 s4 => ⟨_, rfl, ?_⟩⟩
    rw [sameB_rest _ _ (by omega)]
    have s24 := s.trans (s3.trans s4)
    by_cases e : i < D
    · rw [hD.2 i e]
      refine iteT ⟨fun σ' H' => ∃ m', m' < D - i ∧ ∃ i u, m' = D - i ∧ i ≤ D ∧ σ' = [some (.ref a), some (.int (b : Int)), some (nI i), some (.ref u)] ∧ Same H H' ∧ H' u = some (.lst ((powN ns i).map V.int)), fun σ' H' z => z, ?_⟩
      refine ⟨_, rfl, _, _, rfl, rfl, ?_⟩
      refine ⟨_, rfl, u, powN ns i, rfl, (s3.trans s4) _ _ hu, by rw [powN_len]; omega, fun H5 v s5 v0 hv => ?_⟩
      exact ⟨_, by omega, i + 1, v, rfl, by omega, rfl, s24.trans s5, hv⟩
    · have ei : i = D := by omega
      subst ei
      rw [hD.1]
      exact iteF ⟨_, rfl, q _ s24⟩
end
section
variable {P : Program} {w : World} {K : PySem.W.Frag} {mg : Str → Option Value} {base : Heap}
def spMultiplied : Sp := fun vs H Q _ => ∃ (a b : Addr) (xs ys : List Int), vs = [.ref a, .ref b] ∧ H a = some (.lst (xs.map V.int)) ∧ H b = some (.lst (ys.map V.int)) ∧ 1 ≤ xs.length ∧ 1 ≤ ys.length ∧ xs.length + ys.length ≤ 1001 ∧ (∀ x ∈ xs, ∀ y ∈ ys, IntMulOk x y) ∧
  ∀ H' p, Same H H' → H p = none → H' p = some (.lst ((prodL xs ys).map V.int)) → Q (.ref p) H'
theorem scMultiplied : FnScope ["entries", "others", "longer", "i", "entry", "j", "other"] ["entries", "others"] (defScope sMultiplied) := ⟨rfl, rfl, rfl, by decide +kernel, rfl, by decide +kernel, by decide +kernel⟩
theorem ok_multiplied {f : Addr} {fd : FuncData} {k : Nat} (F : Fun K "multiplied" "multiplied" sMultiplied f fd) (T : Txt K mg) :
    FnOk P w K mg base CX0 (k + 1) f fd ["entries", "others"] spMultiplied := by
  refine F.ok scMultiplied (fun vs H Q E h => ?_) (fun cdv A outer s H vs Q E hr h => ?_)
  · first | (obtain ⟨_, rfl, _⟩ := h; rfl) | (obtain ⟨_, _, rfl, _⟩ := h; rfl) | (obtain ⟨_, _, _, rfl, _⟩ := h; rfl) | (obtain ⟨_, _, _, _, rfl, _⟩ := h; rfl) | (obtain ⟨_, _, _, _, _, rfl, _⟩ := h; rfl) | (obtain ⟨_, _, _, _, _, _, rfl, _⟩ := h; rfl) | (obtain ⟨_, _, _, _, _, _, _, rfl, _⟩ := h; rfl) | (obtain ⟨_, _, _, _, _, _, _, _, rfl, _⟩ := h; rfl) | (obtain ⟨_, _, _, _, _, _, _, _, _, rfl, _⟩ := h; rfl) | (obtain ⟨_, _, _, _, _, _, _, _, _, _, rfl, _⟩ := h; rfl) | (obtain ⟨_, _, _, _, _, _, _, _, _, _, _, rfl, _⟩ := h; rfl)
  · have nd := scMultiplied.nd
    obtain ⟨a, b, xs, ys, rfl, hA0, hB0, l1, l2, l3, hM, q⟩ := h
    refine ⟨_, pss_cons (ps_set (i := 2) nd rfl (.inl rfl) (pe_op op_rep (pe_lst (pa_cons pe_int pa_nil)) (pe_op op_sub (pe_op op_add (pe_callB call_len_seq (by rfl) T.len PySem.boot_len (pa_cons (pv 0) pa_nil)) (pe_callB call_len_seq (by rfl) T.len PySem.boot_len (pa_cons (pv 1) pa_nil))) pe_int)))
      (pss_cons (ps_for PassesOwn.never rfl (pi_enum (by rfl) T.enumerate (pa_cons (pv 0) pa_nil)) (pg_tup rfl (pgs_cons (pg_name (i := 3) nd rfl (.inl rfl)) (pgs_cons (pg_name (i := 4) nd rfl (.inl rfl)) pgs_nil)))
        (pss_one (ps_for PassesOwn.never rfl (pi_enum (by rfl) T.enumerate (pa_cons (pv 1) pa_nil)) (pg_tup rfl (pgs_cons (pg_name (i := 5) nd rfl (.inl rfl)) (pgs_cons (pg_name (i := 6) nd rfl (.inl rfl)) pgs_nil)))
          (pss_one (ps_augS (pv 2) (pe_op op_add (pv 3) (pv 5)) get_listN (pe_op op_mulOk (pv 4) (pv 6)) ip_add set_list)))))
      (pss_one (ps_ret (pv 2)))), ?_⟩
    refine ⟨small_len (by show 1 ≤ 1000; decide), fun l hl => ?_⟩
    have hA1 := same_upd (o := .lst [.int 0]) hl _ _ hA0
    have hB1 := same_upd (o := .lst [.int 0]) hl _ _ hB0
    refine ⟨_, rfl, a, _, rfl, .inl (SqL.of hA1), _, rfl, b, _, rfl, .inl (SqL.of hB1), _, _, rfl, rfl, _, _, rfl, rfl, ?_⟩
    dsimp only
    
    have em : (((xs.map V.int).length : Int) + ((ys.map V.int).length : Int) - 1) = ((xs.length + ys.length - 1 : Nat) : Int) := by
      rw [List.length_map, List.length_map]
      omega
    rw [em]
    generalize hm : xs.length + ys.length - 1 = m
    refine ⟨l, _, [.int 0], rfl, rfl, upd_same, by omega, by omega, ?_, fun p hp => ?_⟩
    · rw [Int.toNat_natCast]
      show 1 * m ≤ sizeLine
      rw [Nat.one_mul]
      exact small_len (by omega)
    have hp0 : H p = none := free_upd hl hp
    refine ⟨_, rfl, a, xs.map V.int, rfl, SqL.of (same_upd hp _ _ hA1), ?_⟩
    refine for_enum (K := K) (a := a) (xs := xs.map V.int) (fun i σ H' => ∃ y3 y4 y5 y6, σ = [some (.ref a), some (.ref b), some (.ref p), y3, y4, y5, y6] ∧ Same H H' ∧ H' p = some (.lst ((tab m (coefP xs ys i 0)).map V.int)))
      ⟨none, none, none, none, rfl, (same_upd hl).trans (same_upd hp), ?_⟩ (fun i σ H' _ hP => ?_) ?_ ?_
    · rw [upd_same, flat_one, rep_tab, Int.toNat_natCast, tab_map]
      rfl
    · obtain ⟨_, _, _, _, _, s2, _⟩ := hP
      exact SqL.of (s2 _ _ hA0)
    · rintro i x Tp σ H' hi ⟨y3, y4, y5, y6, rfl, s2, hp'⟩ hT
      obtain ⟨n, hn, rfl⟩ := get_map hi
      have hil := (List.getElem?_eq_some_iff.mp hn).1
      have hpT : p ≠ Tp := ne_of_none hp' hT
      refine ⟨Tp, _, rfl, .inl (.inl upd_same), rfl, _, _, rfl, _, _, rfl, rfl, ?_⟩
      have s3 := s2.trans (same_upd (o := .tup [.int (i : Nat), .int n]) hT)
      refine ⟨_, rfl, b, ys.map V.int, rfl, SqL.of (s3 _ _ hB0), ?_⟩
      refine for_enum (K := K) (a := b) (xs := ys.map V.int) (fun j σ H' => ∃ y5 y6, σ = [some (.ref a), some (.ref b), some (.ref p), some (.int (i : Nat)), some (.int n), y5, y6] ∧ Same H H' ∧ H' p = some (.lst ((tab m (coefP xs ys i j)).map V.int)))
        ⟨y5, y6, rfl, s3, ?_⟩ (fun j σ H' _ hP => ?_) ?_ ?_
      · rw [upd_ne hpT]
        exact hp'
      · obtain ⟨_, _, _, s2, _⟩ := hP
        exact SqL.of (s2 _ _ hB0)
      · rintro j x Tq σ H' hj ⟨y5, y6, rfl, s2, hp'⟩ hT
        obtain ⟨u, hu, rfl⟩ := get_map hj
        have hjl := (List.getElem?_eq_some_iff.mp hu).1
        have hpT : p ≠ Tq := ne_of_none hp' hT
        have hpt : upd H' Tq (.tup [.int (j : Nat), .int u]) p = some (.lst ((tab m (coefP xs ys i j)).map V.int)) := by
          rw [upd_ne hpT]
          exact hp'
        have ml : i + j < m := by omega
        have g : ((tab m (coefP xs ys i j)).map V.int)[i + j]? = some (.int (coefP xs ys i j (i + j))) := by
          rw [tab_map, tab_get _ ml]
        have ea : ((i : Nat) : Int) + ((j : Nat) : Int) = ((i + j : Nat) : Int) := (Int.natCast_add i j).symm
        refine ⟨Tq, _, rfl, .inl (.inl upd_same), rfl, _, _, rfl, _, _, rfl, rfl, ?_⟩
        refine ⟨_, rfl, _, rfl, _, rfl, _, _, rfl, rfl, p, _, _, i + j, _, rfl, rfl, hpt, ea, g, ?_⟩
        refine ⟨_, rfl, _, rfl, _, _, rfl, rfl, hM n (List.mem_of_getElem? hn) u (List.mem_of_getElem? hu), _, _, rfl, rfl, ?_⟩
        refine ⟨p, _, _, i + j, rfl, rfl, hpt, ixN_of ea ?_, ?_⟩
        · rw [List.length_map, tab_len]
          exact ml
        · refine ⟨_, _, rfl, same_set (s2.trans (same_upd hT)) hp0, ?_⟩
          rw [upd_same, map_set', tab_set]
          congr 2
          congr 1
          refine tab_congr fun k _ => ?_
          have e0 : n = xs.getD i 0 := by rw [List.getD_eq_getElem?_getD, hn]; rfl
          have e1 : u = ys.getD j 0 := by rw [List.getD_eq_getElem?_getD, hu]; rfl
          rw [e0, e1]
          exact coefP_step xs ys i j k
      · rintro σ H' ⟨y5, y6, rfl, s2, hp'⟩
        refine ⟨_, _, _, _, rfl, s2, ?_⟩
        rw [hp', List.length_map]
        congr 2
        congr 1
        exact tab_congr fun k _ => coefP_row xs ys i k
    · rintro σ H' ⟨y3, y4, y5, y6, rfl, s2, hp'⟩
      refine ⟨_, rfl, q H' p s2 hp0 ?_⟩
      rw [hp', List.length_map]
      unfold prodL
      rw [hm]
      congr 2
      congr 1
      exact tab_congr fun k _ => coefP_all xs ys k
end
section
variable {P : Program} {w : World} {K : PySem.W.Frag} {mg : Str → Option Value} {base : Heap}
def spProduct : Sp := fun vs H Q _ => ∃ (a b : Addr) (xs ys : List Int), vs = [.ref a, .ref b] ∧ H a = some (.lst (xs.map V.int)) ∧ H b = some (.lst (ys.map V.int)) ∧ Win xs ∧ Win ys ∧ xs.length + ys.length ≤ 201 ∧ (∀ x ∈ xs, ∀ y ∈ ys, IntMulOk x y) ∧
  ∀ H' p, Same H H' → H p = none → H' p = some (.lst ((prodL xs ys).map V.int)) → Q (.ref p) H'
theorem scProduct : FnScope ["window", "other"] ["window", "other"] (defScope sProduct) := ⟨rfl, rfl, rfl, by decide +kernel, rfl, by decide +kernel, by decide +kernel⟩
theorem ok_product {f fW fM : Addr} {fd fdW fdM : FuncData} {k : Nat} (F : Fun K "product_of" "product_of" sProduct f fd) (T : Txt K mg)
    (GW : FnOk P w K mg base CX0 k fW fdW ["window"] spNeedWin) (gW : mg "need_window" = some (.ref fW)) (kW : PySem.W.keepIn K (.ref fW) = true) (bW : Binds K fdW ["window"] [])
    (GM : FnOk P w K mg base CX0 k fM fdM ["entries", "others"] spMultiplied) (gM : mg "multiplied" = some (.ref fM)) (kM : PySem.W.keepIn K (.ref fM) = true) (bM : Binds K fdM ["entries", "others"] []) :
    FnOk P w K mg base CX0 (k + 1) f fd ["window", "other"] spProduct := by
  obtain ⟨tm, hm0⟩ := T.most
  refine F.ok scProduct (fun vs H Q E h => ?_) (fun cdv A outer s H vs Q E hr h => ?_)
  · first | (obtain ⟨_, rfl, _⟩ := h; rfl) | (obtain ⟨_, _, rfl, _⟩ := h; rfl) | (obtain ⟨_, _, _, rfl, _⟩ := h; rfl) | (obtain ⟨_, _, _, _, rfl, _⟩ := h; rfl) | (obtain ⟨_, _, _, _, _, rfl, _⟩ := h; rfl) | (obtain ⟨_, _, _, _, _, _, rfl, _⟩ := h; rfl) | (obtain ⟨_, _, _, _, _, _, _, rfl, _⟩ := h; rfl) | (obtain ⟨_, _, _, _, _, _, _, _, rfl, _⟩ := h; rfl) | (obtain ⟨_, _, _, _, _, _, _, _, _, rfl, _⟩ := h; rfl) | (obtain ⟨_, _, _, _, _, _, _, _, _, _, rfl, _⟩ := h; rfl) | (obtain ⟨_, _, _, _, _, _, _, _, _, _, _, rfl, _⟩ := h; rfl)
  · have nd := scProduct.nd
    obtain ⟨a, b, xs, ys, rfl, hA0, hB0, wx, wy, l3, hM, q⟩ := h
    refine ⟨_, pss_cons (ps_expr (pe_call GW hr (by rfl) gW kW bW .nil pass0 (pa_cons (pv 0) pa_nil)))
      (pss_cons (ps_expr (pe_call GW hr (by rfl) gW kW bW .nil pass0 (pa_cons (pv 1) pa_nil)))
      (pss_cons (ps_if (pt_cmpR op_gt (pe_op op_sub (pe_op op_add (pe_callB call_len_seq (by rfl) T.len PySem.boot_len (pa_cons (pv 0) pa_nil)) (pe_callB call_len_seq (by rfl) T.len PySem.boot_len (pa_cons (pv 1) pa_nil))) pe_int) (pe_glob (v := .int 200) rfl hm0 ⟨_, rfl⟩) (nomark _)) pss_never pss_nil)
      (pss_one (ps_ret (pe_call GM hr (by rfl) gM kM bM .nil pass0 (pa_cons (pv 0) (pa_cons (pv 1) pa_nil))))))), ?_⟩
    have l1 : 1 ≤ xs.length := wx.1
    have l2 : 1 ≤ ys.length := wy.1
    refine ⟨_, rfl, a, xs, rfl, hA0, wx, fun H1 s1 => ?_⟩
    refine ⟨_, rfl, b, ys, rfl, s1 _ _ hB0, wy, fun H2 s2 => ?_⟩
    have s02 := s1.trans s2
    have hA := s02 _ _ hA0
    have hB := s02 _ _ hB0
    refine ⟨_, rfl, a, _, rfl, .inl (SqL.of hA), _, rfl, b, _, rfl, .inl (SqL.of hB), _, _, rfl, rfl, _, _, rfl, rfl, ?_⟩
    dsimp only
    
    have em : (((xs.map V.int).length : Int) + ((ys.map V.int).length : Int) - 1) = ((xs.length + ys.length - 1 : Nat) : Int) := by
      rw [List.length_map, List.length_map]
      omega
    rw [em]
    refine ⟨_, _, rfl, rfl, _, rfl, iteDF (by omega) ?_⟩
    exact ⟨_, rfl, _, rfl, a, b, xs, ys, rfl, hA, hB, l1, l2, by omega, hM, fun H3 p s3 p0 hp => q H3 p (s02.trans s3) (s02.free p0) hp⟩
end
end Wd

namespace Wd
open PySem PySem.Spec PyProof.Rows L2 XR Mth GL
/-- the law's source of draws: a list of three ints at j, at most n draws behind it -/
def Jar (H : Hp) (j : Addr) (n : Nat) : Prop := ∃ (a b : Int) (c : Nat), H j = some (.lst [.int a, .int b, .int (c : Int)]) ∧ b.natAbs < 2 ^ 200 ∧ c ≤ n
theorem Jar.mono {H : Hp} {j : Addr} {n m : Nat} (h : Jar H j n) (l : n ≤ m) : Jar H j m := by
  obtain ⟨a, b, c, e, h1, h2⟩ := h
  exact ⟨a, b, c, e, h1, by omega⟩
theorem Jar.same {H H' : Hp} {j : Addr} {n : Nat} (h : Jar H j n) (s : Same H H') : Jar H' j n := by
  obtain ⟨a, b, c, e, h1, h2⟩ := h
  exact ⟨a, b, c, s _ _ e, h1, h2⟩
theorem Jar.but {H H' : Hp} {j p : Addr} {n : Nat} (h : Jar H j n) (ne : j ≠ p) (s : SameBut p H H') : Jar H' j n := by
  obtain ⟨a, b, c, e, h1, h2⟩ := h
  exact ⟨a, b, c, s _ _ ne e, h1, h2⟩
theorem Jar.ne {H : Hp} {j p : Addr} {n : Nat} (h : Jar H j n) (e : H p = none) : j ≠ p := by
  obtain ⟨a, b, c, h0, _⟩ := h
  exact ne_of_none h0 e
theorem Jar.upd {H : Hp} {j p : Addr} {n : Nat} {o : HO} (h : Jar H j n) (ne : j ≠ p) : Jar (upd H p o) j n := h.but ne sb_upd
theorem emod_lt_nat {x m : Int} (h : 0 < m) : ∃ d : Nat, x % m = (d : Int) ∧ (d : Int) < m := by
  refine ⟨(x % m).toNat, ?_, ?_⟩
  · rw [Int.toNat_of_nonneg (Int.emod_nonneg _ (by omega))]
  · rw [Int.toNat_of_nonneg (Int.emod_nonneg _ (by omega))]
    exact Int.emod_lt_of_pos _ h
section
variable {P : Program} {w : World} {K : PySem.W.Frag} {mg : Str → Option Value} {base : Heap}
/-! ### _law_jar -/
def spJar (K : PySem.W.Frag) : Sp := fun vs H Q _ => ∃ (a : Addr) (ns : List Int) (k : Nat), vs = [.ref a, .int (k : Int)] ∧ SqL K H a (ns.map V.int) ∧ k ≤ 100 ∧ ∀ H' p, Same H H' → H p = none → Jar H' p 0 → Q (.ref p) H'
theorem scJar : FnScope ["script", "k", "cell_here"] ["script", "k"] (defScope sJar) := ⟨rfl, rfl, rfl, by decide +kernel, rfl, by decide +kernel, by decide +kernel⟩
theorem ok_jar {f : Addr} {fd : FuncData} {k : Nat} (F : Fun K "_law_jar" "_law_jar" sJar f fd) (T : Txt K mg) : FnOk P w K mg base CX0 (k + 1) f fd ["script", "k"] (spJar K) := by
  refine F.ok scJar (fun vs H Q E h => ?_) (fun cdv A outer s H vs Q E hr h => ?_)
  · obtain ⟨i, a, b, rfl, _⟩ := h
    rfl
  · obtain ⟨a, ns, k, rfl, hL, hk, q⟩ := h
    have nd := scJar.nd
    refine ⟨_, pss_cons (ps_set (i := 2) nd rfl (.inl rfl) (pe_ifExp (pt_cmpR op_lt (pv 1) (pe_callB call_len_seq (by rfl) T.len PySem.boot_len (pa_cons (pv 0) pa_nil)) (nomark _))
        (pe_callB call_abs (by rfl) T.abs (by decide +kernel) (pa_cons (pe_ix ix_list (pv 0) (pv 1) (fun _ _ => rfl)) pa_nil)) pe_int))
      (pss_one (ps_ret (pe_lst (pa_cons (pe_callB (call_max2 rfl) (by rfl) T.max (by decide +kernel) (pa_cons pe_int (pa_cons (pe_op op_sub (pv 2) (pe_op op_pow pe_int pe_int)) pa_nil)))
        (pa_cons (pe_op op_add (pe_op op_mul (pe_op op_mod (pe_callTy call_int1 (by rfl) T.int (by decide +kernel) (pa_cons (pv 2) pa_nil)) (pe_op op_add (pe_op op_pow pe_int pe_int) pe_int)) pe_int) (pe_op op_mul pe_int (pv 1)))
        (pa_cons pe_int pa_nil)))))), ?_⟩
    refine ⟨_, rfl, _, rfl, a, ns.map V.int, rfl, .inl hL, _, _, rfl, rfl, _, rfl, ?_⟩
    have fin : ∀ cell : Int, tRet (tLst (tCons (tCB (fun xs H Q => ∃ i j, xs = [.int i, .int j] ∧ Q (.int (if j > i then j else i)) H) (tCons (tC (.int 0)) (tCons (tOp (rI0 fun i j => .int (i - j)) (tVar 2) (tOp (rI CPow fun i j => .int (i ^ j.toNat)) (tC (.int 10)) (tC (.int 18)))) tNil)))
        (tCons (tOp (rI0 fun i j => .int (i + j)) (tOp (rI CMul fun i j => .int (i * j)) (tOp (rI (fun _ j => 0 < j) fun i j => .int (i % j)) (tCB (fun xs H Q => (∃ i, xs = [.int i] ∧ Q (.int i) H) ∨ ∃ k, xs = [.bl k] ∧ Q (.int (if k then 1 else 0)) H) (tCons (tVar 2) tNil)) (tOp (rI0 fun i j => .int (i + j)) (tOp (rI CPow fun i j => .int (i ^ j.toNat)) (tC (.int 10)) (tC (.int 43))) (tC (.int 57)))) (tC (.int 101))) (tOp (rI CMul fun i j => .int (i * j)) (tC (.int 70001)) (tVar 1)))
        (tCons (tC (.int 0)) tNil)))) { nx := fun _ H' => Q .non H', rt := Q } [some (.ref a), some (.int (k : Int)), some (.int cell)] H := by
      intro cell
      refine ⟨_, rfl, _, _, rfl, rfl, ⟨by decide, by decide, by decide⟩, _, _, rfl, rfl, _, _, rfl, ?_⟩
      refine ⟨_, rfl, .inl ⟨_, rfl, _, _, rfl, rfl, ⟨by decide, by decide, by decide⟩, _, _, rfl, rfl, _, _, rfl, rfl, (by show (0 : Int) < 10 ^ (43 : Int).toNat + 57; decide), _, _, rfl, rfl, .inr ⟨by decide, by decide⟩, _, rfl, _, _, rfl, rfl, .inl ⟨by decide, by decide⟩, _, _, rfl, rfl, ?_⟩⟩
      refine ⟨small_len (by show 3 ≤ 1000; decide), fun p hp => q _ p (same_upd hp) hp ⟨_, _, 0, upd_same, ?_, Nat.le_refl _⟩⟩
      have hpos : (0 : Int) < 10 ^ (43 : Int).toNat + 57 := by decide
      have hlt : (10 : Int) ^ (43 : Int).toNat + 57 < 2 ^ 150 := by decide
      have h1 := Int.emod_nonneg cell (show (10 : Int) ^ (43 : Int).toNat + 57 ≠ 0 by omega)
      have h2 := Int.emod_lt_of_pos cell hpos
      generalize cell % (10 ^ (43 : Int).toNat + 57) = z at *
      generalize (10 : Int) ^ (43 : Int).toNat + 57 = y at *
      omega
    refine ite2 (fun e => ?_) (fun e => ?_)
    · have hk' : k < ns.length := by
        have := of_decide_eq_true e
        rw [List.length_map] at this
        omega
      have g : (ns.map V.int)[k]? = some (.int ns[k]) := by
        rw [List.getElem?_map, List.getElem?_eq_getElem hk']
        rfl
      exact ⟨_, rfl, _, rfl, a, _, _, _, rfl, rfl, hL, atI_nat g, _, rfl, fin _⟩
    · exact fin _
end
theorem sb_set {j p : Addr} {H H' : Hp} {o : HO} (s : SameBut j H H') (h : H p = none) : SameBut j H (upd H' p o) := fun b x n e => by
  rw [upd_ne (ne_of_none e h)]
  exact s _ _ n e
theorem sb_same {j : Addr} {H H1 H2 : Hp} (s : SameBut j H H1) (t : Same H1 H2) : SameBut j H H2 := s.trans (SameBut.of t)
/-- what was free behind changes at j alone was free before, j aside -/
theorem SameBut.free {j p : Addr} {H H' : Hp} (s : SameBut j H H') (n : p ≠ j) (h : H' p = none) : H p = none := by
  cases q : H p with
  | none => rfl
  | some o =>
    rw [s p o n q] at h
    cases h
theorem Jar.free_ne {H : Hp} {j p : Addr} {n : Nat} (h : Jar H j n) (e : H p = none) : p ≠ j := (h.ne e).symm
section
variable {P : Program} {w : World} {K : PySem.W.Frag} {mg : Str → Option Value} {base : Heap}

theorem seq_new {H H' : Hp} {a j : Addr} {xs : List V} (h : SqL K H a xs) (n : H j = none) (s : SameBut j H H') : SqL K H' a xs := by
  rcases h with (h | ⟨o, h⟩) | h
  · exact .inl (.inl (s _ _ (ne_of_none h n) h))
  · exact .inl (.inr ⟨o, s _ _ (ne_of_none h n) h⟩)
  · exact .inr h
theorem b300 {m : Nat} (h : m ≤ 1000000) : m < 2 ^ 300 := Nat.lt_of_le_of_lt h (by decide)
theorem b290 {m : Nat} (h : m ≤ 1000000) : m < 2 ^ 290 := Nat.lt_of_le_of_lt h (by decide)
/-- one of two written numbers -/
theorem pick2 (x y : Nat) {e : Nat} (he : e < 2) : ∃ m : Nat, ([V.int (x : Int), V.int (y : Int)] : List V)[e]? = some (V.int (m : Int)) ∧ (m = x ∨ m = y) := by
  have : e = 0 ∨ e = 1 := by omega
  rcases this with e | e <;> subst e
  · exact ⟨x, rfl, .inl rfl⟩
  · exact ⟨y, rfl, .inr rfl⟩
theorem pick3 (x y z : Nat) {e : Nat} (he : e < 3) : ∃ m : Nat, ([V.int (x : Int), V.int (y : Int), V.int (z : Int)] : List V)[e]? = some (V.int (m : Int)) ∧ (m = x ∨ m = y ∨ m = z) := by
  have : e = 0 ∨ e = 1 ∨ e = 2 := by omega
  rcases this with e | e | e <;> subst e
  · exact ⟨x, rfl, .inl rfl⟩
  · exact ⟨y, rfl, .inr (.inl rfl)⟩
  · exact ⟨z, rfl, .inr (.inr rfl)⟩
end
theorem lt_pow_of {x y : Int} {k : Nat} (h0 : 0 ≤ x) (h : x < y) (hy : y ≤ 2 ^ k) : x.natAbs < 2 ^ k := by
  have e : ((2 ^ k : Nat) : Int) = (2 : Int) ^ k := by simp
  omega
section
variable {P : Program} {w : World} {K : PySem.W.Frag} {mg : Str → Option Value} {base : Heap}
/-! ### _law_dip -/
def spDip : Sp := fun vs H Q _ => ∃ (j : Addr) (n m : Nat), vs = [.ref j, .int (m : Int)] ∧ Jar H j n ∧ n ≤ 1000000 ∧ 1 ≤ m ∧ m < 2 ^ 300 ∧ ∀ H' (d : Nat), SameBut j H H' → Jar H' j (n + 1) → d < m → Q (.int (d : Int)) H'
theorem scDip : FnScope ["jar", "many", "digit", "mixed"] ["jar", "many"] (defScope sDip) := ⟨rfl, rfl, rfl, by decide +kernel, rfl, by decide +kernel, by decide +kernel⟩
theorem ok_dip {f : Addr} {fd : FuncData} {k : Nat} (F : Fun K "_law_dip" "_law_dip" sDip f fd) (T : Txt K mg) : FnOk P w K mg base CX0 (k + 1) f fd ["jar", "many"] spDip := by
  refine F.ok scDip (fun vs H Q E h => ?_) (fun cdv A outer s H vs Q E hr h => ?_)
  · obtain ⟨i, a, b, rfl, _⟩ := h
    rfl
  · obtain ⟨j, n, m, rfl, ⟨a, b, c, hj, hb, hc⟩, hn, m1, m2, q⟩ := h
    have nd := scDip.nd
    refine ⟨_, pss_cons (ps_if (pt_cmpR op_gt (pe_ix ix_list (pv 0) pe_int (fun _ _ => rfl)) pe_int (nomark _))
        (pss_cons (ps_set (i := 2) nd rfl (.inl rfl) (pe_op op_mod (pe_callTy call_int1 (by rfl) T.int (by decide +kernel) (pa_cons (pe_ix ix_list (pv 0) pe_int (fun _ _ => rfl)) pa_nil)) (pv 1)))
        (pss_cons (ps_asg (pe_op op_fdivW (pe_ix ix_list (pv 0) pe_int (fun _ _ => rfl)) (pv 1)) (pg_sub (pv 0) pe_int set_list))
        (pss_one (ps_ret (pv 2))))) pss_nil)
      (pss_cons (ps_asg (pe_op op_add (pe_ix ix_list (pv 0) pe_int (fun _ _ => rfl)) pe_int) (pg_sub (pv 0) pe_int set_list))
      (pss_cons (ps_set (i := 3) nd rfl (.inl rfl) (pe_op op_mod (pe_callTy call_int1 (by rfl) T.int (by decide +kernel) (pa_cons (pe_op op_powW (pe_op op_add (pe_ix ix_list (pv 0) pe_int (fun _ _ => rfl)) (pe_op op_mul pe_int (pe_ix ix_list (pv 0) pe_int (fun _ _ => rfl)))) pe_int) pa_nil)) (pe_op op_add (pe_op op_pow pe_int pe_int) pe_int)))
      (pss_cons (ps_set (i := 3) nd rfl (.inl rfl) (pe_op op_mod (pe_callTy call_int1 (by rfl) T.int (by decide +kernel) (pa_cons (pe_op op_powW (pe_op op_add (pv 3) (pe_op op_mul pe_int (pe_ix ix_list (pv 0) pe_int (fun _ _ => rfl)))) pe_int) pa_nil)) (pe_op op_add (pe_op op_pow pe_int pe_int) pe_int)))
      (pss_one (ps_ret (pe_op op_mod (pe_callTy call_int1 (by rfl) T.int (by decide +kernel) (pa_cons (pe_op op_fdivW (pv 3) pe_int) pa_nil)) (pv 1))))))), ?_⟩
    have mI : (0 : Int) < (m : Int) := by omega
    refine ⟨_, rfl, j, _, 0, _, rfl, rfl, SqL.of hj, atI_nat (j := 0) rfl, _, _, rfl, rfl, _, rfl, ?_⟩
    refine ite2 (fun ha => ?_) (fun ha => ?_)
    · -- a digit of jar[0]
      obtain ⟨d, ed, hd⟩ := emod_lt_nat (x := a) mI
      refine ⟨_, rfl, j, _, 0, _, rfl, rfl, SqL.of hj, atI_nat (j := 0) rfl, .inl ⟨_, rfl, _, rfl, _, _, rfl, rfl, mI, ?_⟩⟩
      refine ⟨_, rfl, j, _, 0, _, rfl, rfl, SqL.of hj, atI_nat (j := 0) rfl, _, rfl, _, _, rfl, rfl, wide_div mI (show (m : Int).natAbs < 2 ^ 300 by omega) (by decide) (by decide), ?_⟩
      refine ⟨_, rfl, j, _, 0, 0, rfl, rfl, hj, rfl, ?_⟩
      refine ⟨_, rfl, ?_⟩
      dsimp only
      rw [ed]
      exact q _ d sb_upd ⟨_, b, c, upd_same, hb, by omega⟩ (by omega)
    · -- a mixed number
      refine ⟨_, rfl, j, _, 2, _, rfl, rfl, SqL.of hj, atI_nat (j := 2) rfl, _, _, rfl, rfl, _, rfl, j, _, 2, 2, rfl, rfl, hj, rfl, ?_⟩
      have hj2 : upd H j (.lst ([V.int a, .int b, .int (c : Int)].set 2 (.int ((c : Int) + 1)))) j = some (.lst [V.int a, .int b, .int ((c : Int) + 1)]) := upd_same
      refine ⟨_, rfl, j, _, 1, _, rfl, rfl, SqL.of hj2, atI_nat (j := 1) rfl, _, rfl, j, _, 2, _, rfl, rfl, SqL.of hj2, atI_nat (j := 2) rfl, _, _, rfl, rfl, .inl ⟨by decide, by decide⟩, _, _, rfl, rfl,
        _, _, rfl, rfl, cpow3 (k := 210) (by have hb' := hb; omega) (by decide) (by decide), .inl ⟨_, rfl, _, _, rfl, rfl, ⟨by decide, by decide, by decide⟩, _, _, rfl, rfl, _, _, rfl, rfl, (by show (0 : Int) < 10 ^ (47 : Int).toNat + 91; decide), ?_⟩⟩
      have z1 := Int.emod_nonneg ((b + 60000049 * ((c : Int) + 1)) ^ (3 : Int).toNat) (show (10 : Int) ^ (47 : Int).toNat + 91 ≠ 0 by decide)
      have z2 := Int.emod_lt_of_pos ((b + 60000049 * ((c : Int) + 1)) ^ (3 : Int).toNat) (show (0 : Int) < (10 : Int) ^ (47 : Int).toNat + 91 by decide)
      have z3 : (10 : Int) ^ (47 : Int).toNat + 91 < 2 ^ 160 := by decide
      dsimp only
      generalize (b + 60000049 * ((c : Int) + 1)) ^ (3 : Int).toNat % (10 ^ (47 : Int).toNat + 91) = x at *
      have z4 : x < 2 ^ 160 := Int.lt_trans z2 z3
      refine ⟨_, rfl, _, rfl, j, _, 2, _, rfl, rfl, SqL.of hj2, atI_nat (j := 2) rfl, _, _, rfl, rfl, .inl ⟨by decide, by decide⟩, _, _, rfl, rfl,
        _, _, rfl, rfl, cpow3 (k := 210) (by omega) (by decide) (by decide), .inl ⟨_, rfl, _, _, rfl, rfl, ⟨by decide, by decide, by decide⟩, _, _, rfl, rfl, _, _, rfl, rfl, (by show (0 : Int) < 10 ^ (46 : Int).toNat + 79; decide), ?_⟩⟩
      refine ⟨_, rfl, _, _, rfl, rfl, wide_div (b := 40) (by decide) (by decide) (by decide) (by decide), .inl ⟨_, rfl, _, rfl, _, _, rfl, rfl, mI, ?_⟩⟩
      obtain ⟨d, ed, hd⟩ := emod_lt_nat (x := (x + 35000021 * ((c : Int) + 1)) ^ (3 : Int).toNat % (10 ^ (46 : Int).toNat + 79) / 1073741827) mI
      dsimp only
      rw [ed]
      exact q _ d sb_upd ⟨a, b, c + 1, upd_same, hb, by omega⟩ (by omega)
end
section
variable {P : Program} {w : World} {K : PySem.W.Frag} {mg : Str → Option Value} {base : Heap}
/-! ### _law_times -/
def spTimes : Sp := fun vs H Q _ => ∃ (a b : Addr) (xs ys : List Int), vs = [.ref a, .ref b] ∧ H a = some (.lst (xs.map V.int)) ∧ H b = some (.lst (ys.map V.int)) ∧ 1 ≤ xs.length ∧ 1 ≤ ys.length ∧ xs.length + ys.length ≤ 1000 ∧ (∀ x ∈ xs, ∀ y ∈ ys, IntMulOk x y) ∧
  ∀ H' p, Same H H' → H p = none → H' p = some (.lst ((prodL xs ys).map V.int)) → Q (.ref p) H'
theorem scTimes : FnScope ["one", "two", "found", "spot", "here", "place_here", "there"] ["one", "two"] (defScope sTimes) := ⟨rfl, rfl, rfl, by decide +kernel, rfl, by decide +kernel, by decide +kernel⟩
theorem ok_times {f : Addr} {fd : FuncData} {k : Nat} (F : Fun K "_law_times" "_law_times" sTimes f fd) (T : Txt K mg) : FnOk P w K mg base CX0 (k + 1) f fd ["one", "two"] spTimes := by
  refine F.ok scTimes (fun vs H Q E h => ?_) (fun cdv A outer s H vs Q E hr h => ?_)
  · obtain ⟨i, a, b, c, rfl, _⟩ := h
    rfl
  · obtain ⟨a, b, xs, ys, rfl, hA, hB, l1, l2, l3, hM, q⟩ := h
    have nd := scTimes.nd
    refine ⟨_, pss_cons (ps_set (i := 2) nd rfl (.inl rfl) (pe_op op_rep (pe_lst (pa_cons pe_int pa_nil)) (pe_op op_sub (pe_op op_add (pe_callB call_len_seq (by rfl) T.len PySem.boot_len (pa_cons (pv 0) pa_nil)) (pe_callB call_len_seq (by rfl) T.len PySem.boot_len (pa_cons (pv 1) pa_nil))) pe_int)))
      (pss_cons (ps_for PassesOwn.never rfl (pi_enum (by rfl) T.enumerate (pa_cons (pv 0) pa_nil)) (pg_tup rfl (pgs_cons (pg_name (i := 3) nd rfl (.inl rfl)) (pgs_cons (pg_name (i := 4) nd rfl (.inl rfl)) pgs_nil)))
        (pss_one (ps_for PassesOwn.never rfl (pi_enum (by rfl) T.enumerate (pa_cons (pv 1) pa_nil)) (pg_tup rfl (pgs_cons (pg_name (i := 5) nd rfl (.inl rfl)) (pgs_cons (pg_name (i := 6) nd rfl (.inl rfl)) pgs_nil)))
          (pss_one (ps_asg (pe_op op_add (pe_ix ix_list (pv 2) (pe_op op_add (pv 3) (pv 5)) (fun _ _ => rfl)) (pe_op op_mulOk (pv 4) (pv 6))) (pg_sub (pv 2) (pe_op op_add (pv 3) (pv 5)) set_list))))))
      (pss_one (ps_ret (pv 2)))), ?_⟩
    refine ⟨small_len (by decide), fun l hl => ?_⟩
    have hA1 := same_upd (o := .lst [.int 0]) hl _ _ hA
    have hB1 := same_upd (o := .lst [.int 0]) hl _ _ hB
    refine ⟨_, rfl, a, _, rfl, .inl (SqL.of hA1), _, rfl, b, _, rfl, .inl (SqL.of hB1), _, _, rfl, rfl, _, _, rfl, rfl, ?_⟩
    dsimp only
    have em : (((xs.map V.int).length : Int) + ((ys.map V.int).length : Int) - 1) = ((xs.length + ys.length - 1 : Nat) : Int) := by
      rw [List.length_map, List.length_map]
      omega
    rw [em]
    generalize hm : xs.length + ys.length - 1 = m
    refine ⟨l, _, [.int 0], rfl, rfl, upd_same, by omega, by omega, ?_, fun p hp => ?_⟩
    · rw [Int.toNat_natCast]
      show 1 * m ≤ sizeLine
      rw [Nat.one_mul]
      exact small_len (by omega)
    have hp0 : H p = none := free_upd hl hp
    refine ⟨_, rfl, a, xs.map V.int, rfl, SqL.of (same_upd hp _ _ hA1), ?_⟩
    refine for_enum (K := K) (a := a) (xs := xs.map V.int) (fun i σ H' => ∃ y3 y4 y5 y6, σ = [some (.ref a), some (.ref b), some (.ref p), y3, y4, y5, y6] ∧ Same H H' ∧ H' p = some (.lst ((tab m (coefP xs ys i 0)).map V.int)))
      ⟨none, none, none, none, rfl, (same_upd hl).trans (same_upd hp), ?_⟩ (fun i σ H' _ hP => ?_) ?_ ?_
    · rw [upd_same, flat_one, rep_tab, Int.toNat_natCast, tab_map]
      rfl
    · obtain ⟨_, _, _, _, _, s2, _⟩ := hP
      exact SqL.of (s2 _ _ hA)
    · rintro i x Tp σ H' hi ⟨y3, y4, y5, y6, rfl, s2, hp'⟩ hT
      obtain ⟨n, hn, rfl⟩ := get_map hi
      have hil := (List.getElem?_eq_some_iff.mp hn).1
      have hpT : p ≠ Tp := ne_of_none hp' hT
      refine ⟨Tp, _, rfl, .inl (.inl upd_same), rfl, _, _, rfl, _, _, rfl, rfl, ?_⟩
      have s3 := s2.trans (same_upd (o := .tup [.int (i : Nat), .int n]) hT)
      refine ⟨_, rfl, b, ys.map V.int, rfl, SqL.of (s3 _ _ hB), ?_⟩
      refine for_enum (K := K) (a := b) (xs := ys.map V.int) (fun j σ H' => ∃ y5 y6, σ = [some (.ref a), some (.ref b), some (.ref p), some (.int (i : Nat)), some (.int n), y5, y6] ∧ Same H H' ∧ H' p = some (.lst ((tab m (coefP xs ys i j)).map V.int)))
        ⟨y5, y6, rfl, s3, ?_⟩ (fun j σ H' _ hP => ?_) ?_ ?_
      · rw [upd_ne hpT]
        exact hp'
      · obtain ⟨_, _, _, s2, _⟩ := hP
        exact SqL.of (s2 _ _ hB)
      · rintro j x Tq σ H' hj ⟨y5, y6, rfl, s2, hp'⟩ hT
        obtain ⟨u, hu, rfl⟩ := get_map hj
        have hjl := (List.getElem?_eq_some_iff.mp hu).1
        have hpT : p ≠ Tq := ne_of_none hp' hT
        have hpt : upd H' Tq (.tup [.int (j : Nat), .int u]) p = some (.lst ((tab m (coefP xs ys i j)).map V.int)) := by
          rw [upd_ne hpT]
          exact hp'
        have ml : i + j < m := by omega
        have g : ((tab m (coefP xs ys i j)).map V.int)[i + j]? = some (.int (coefP xs ys i j (i + j))) := by
          rw [tab_map, tab_get _ ml]
        have ea : ((i : Nat) : Int) + ((j : Nat) : Int) = ((i + j : Nat) : Int) := (Int.natCast_add i j).symm
        refine ⟨Tq, _, rfl, .inl (.inl upd_same), rfl, _, _, rfl, _, _, rfl, rfl, ?_⟩
        refine ⟨_, rfl, _, rfl, _, rfl, _, _, rfl, rfl, p, _, _, _, rfl, rfl, SqL.of hpt, at_of ea g, _, rfl, _, rfl, _, _, rfl, rfl, hM n (List.mem_of_getElem? hn) u (List.mem_of_getElem? hu), _, _, rfl, rfl, ?_⟩
        refine ⟨_, rfl, _, rfl, _, rfl, _, _, rfl, rfl, p, _, _, i + j, rfl, rfl, hpt, ixN_of ea ?_, ?_⟩
        · rw [List.length_map, tab_len]
          exact ml
        · refine ⟨_, _, rfl, same_set (s2.trans (same_upd hT)) hp0, ?_⟩
          rw [upd_same, map_set', tab_set]
          congr 2
          congr 1
          refine tab_congr fun k _ => ?_
          have e0 : n = xs.getD i 0 := by rw [List.getD_eq_getElem?_getD, hn]; rfl
          have e1 : u = ys.getD j 0 := by rw [List.getD_eq_getElem?_getD, hu]; rfl
          rw [e0, e1]
          exact coefP_step xs ys i j k
      · rintro σ H' ⟨y5, y6, rfl, s2, hp'⟩
        refine ⟨_, _, _, _, rfl, s2, ?_⟩
        rw [hp', List.length_map]
        congr 2
        congr 1
        exact tab_congr fun k _ => coefP_row xs ys i k
    · rintro σ H' ⟨y3, y4, y5, y6, rfl, s2, hp'⟩
      refine ⟨_, rfl, q H' p s2 hp0 ?_⟩
      rw [hp', List.length_map]
      unfold prodL
      rw [hm]
      congr 2
      congr 1
      exact tab_congr fun k _ => coefP_all xs ys k
end
section
variable {P : Program} {w : World} {K : PySem.W.Frag} {mg : Str → Option Value} {base : Heap}
/-! ### _law_list -/
def spList : Sp := fun vs H Q _ => ∃ (j : Addr) (n lg sz : Nat), vs = [.ref j, .int (lg : Int), .int (sz : Int)] ∧ Jar H j n ∧ n + lg + 2 ≤ 1000000 ∧ 1 ≤ lg ∧ lg ≤ 300 ∧ 1 ≤ sz ∧ sz < 2 ^ 290 ∧
  ∀ (H' : Hp) (p : Addr) (ns : List Int), SameBut j H H' → H p = none → H' p = some (.lst (ns.map V.int)) → Jar H' j (n + lg + 2) → 1 ≤ ns.length → ns.length ≤ lg → ns.any (· != 0) = true → (∀ x ∈ ns, x.natAbs ≤ sz) → Q (.ref p) H'
theorem scList : FnScope ["jar", "longest", "size", "found", "turn"] ["jar", "longest", "size"] (defScope sList) := ⟨rfl, rfl, rfl, by decide +kernel, rfl, by decide +kernel, by decide +kernel⟩
theorem ok_list {f fD : Addr} {fd fdD : FuncData} {k : Nat} (F : Fun K "_law_list" "_law_list" sList f fd) (T : Txt K mg)
    (GD : FnOk P w K mg base CX0 k fD fdD ["jar", "many"] spDip) (gD : mg "_law_dip" = some (.ref fD)) (kD : PySem.W.keepIn K (.ref fD) = true) (bD : Binds K fdD ["jar", "many"] []) :
    FnOk P w K mg base CX0 (k + 1) f fd ["jar", "longest", "size"] spList := by
  refine F.ok scList (fun vs H Q E h => ?_) (fun cdv A outer s H vs Q E hr h => ?_)
  · obtain ⟨i, a, b, c, rfl, _⟩ := h
    rfl
  · obtain ⟨j, n, lg, sz, rfl, J0, hn, l1, l2, z1, z2, q⟩ := h
    have nd := scList.nd
    refine ⟨_, pss_cons (ps_set (i := 3) nd rfl (.inl rfl) (pe_lst pa_nil))
      (pss_cons (ps_for PassesOwn.never rfl (pi_range1 rfl T.range (pa_cons (pe_op op_add pe_int (pe_call GD hr (by rfl) gD kD bD .nil pass0 (pa_cons (pv 0) (pa_cons (pv 1) pa_nil)))) pa_nil)) (pg_name (i := 4) nd rfl (.inl rfl))
        (pss_one (ps_expr (pe_bm PySem.F.plainAttrs_list PySem.F.slot_list_append PySem.F.type_list_append mt_append (pv 3) (pa_cons (pe_op op_sub (pe_call GD hr (by rfl) gD kD bD .nil pass0 (pa_cons (pv 0) (pa_cons (pe_op op_add (pe_op op_mul pe_int (pv 2)) pe_int) pa_nil))) (pv 2)) pa_nil)))))
      (pss_cons (ps_if (pt_cmpR (op_eqLI hr.units) (pv 3) (pe_op op_rep (pe_lst (pa_cons pe_int pa_nil)) (pe_callB call_len_seq (by rfl) T.len PySem.boot_len (pa_cons (pv 3) pa_nil))) (nomark _))
        (pss_one (ps_asg pe_int (pg_sub (pv 3) (pe_call GD hr (by rfl) gD kD bD .nil pass0 (pa_cons (pv 0) (pa_cons (pe_callB call_len_seq (by rfl) T.len PySem.boot_len (pa_cons (pv 3) pa_nil)) pa_nil))) set_list))) pss_nil)
      (pss_one (ps_ret (pv 3))))), ?_⟩
    refine ⟨Nat.zero_le _, fun p hp => ?_⟩
    have npj : p ≠ j := J0.free_ne hp
    have J1 : Jar (upd H p (.lst [])) j n := J0.upd npj.symm
    refine ⟨_, rfl, _, rfl, j, n, lg, rfl, J1, by omega, l1, Nat.lt_of_le_of_lt l2 (by decide), fun H1 d s1 J2 hd => ?_⟩
    refine ⟨_, _, rfl, rfl, _, rfl, by omega, by omega, ?_⟩
    have ec : ((1 : Int) + (d : Int)).toNat = 1 + d := by omega
    rw [ec]
    have sb1 : SameBut j H H1 := (SameBut.of (same_upd hp)).trans s1
    have hp1 : H1 p = some (.lst []) := s1 _ _ npj upd_same
    refine for_range (lo := 0) (n := 1 + d) (fun i σ H' => ∃ y4 xs, σ = [some (.ref j), some (.int lg), some (.int sz), some (.ref p), y4] ∧ SameBut j H H' ∧ H' p = some (.lst (xs.map V.int)) ∧ xs.length = i ∧ Jar H' j (n + 1 + i) ∧ ∀ x ∈ xs, x.natAbs ≤ sz)
      ⟨none, [], rfl, sb1, hp1, rfl, J2, fun x hx => absurd hx List.not_mem_nil⟩ ?_ ?_
    · rintro i σ H' hi ⟨y4, xs, rfl, s2, hp', lx, J3, bx⟩
      refine ⟨_, rfl, .inl ⟨rfl, _, SqL.of hp'⟩, _, rfl, _, rfl, _, _, rfl, rfl, .inl ⟨by decide, by decide⟩, _, _, rfl, rfl, j, n + 1 + i, 2 * sz + 1, rfl, J3, by omega, by omega, by omega, fun H2 d2 s3 J4 hd2 => ?_⟩
      refine ⟨_, rfl, _, _, rfl, rfl, p, _, _, rfl, rfl, s3 _ _ npj hp', ?_, ?_⟩
      · rw [List.length_map, lx]
        exact small1000 (by omega)
      · refine ⟨_, xs ++ [(d2 : Int) - (sz : Int)], rfl, sb_set (s2.trans s3) hp, ?_, ?_, (J4.upd npj.symm).mono (by omega), ?_⟩
        · rw [upd_same, List.map_append]
          rfl
        · rw [List.length_append, lx]
          rfl
        · intro x hx
          rcases List.mem_append.mp hx with h | h
          · exact bx x h
          · have e := List.mem_singleton.mp h
            subst e
            omega
    · rintro σ H' ⟨y4, xs, rfl, s2, hp', lx, J3, bx⟩
      have ll : xs.length ≤ lg := by omega
      refine ⟨_, rfl, small_len (by decide), fun l hl => ?_⟩
      have npl : p ≠ l := ne_of_none hp' hl
      have hp2 : upd H' l (.lst [.int 0]) p = some (.lst (xs.map V.int)) := by rw [upd_ne npl]; exact hp'
      refine ⟨_, rfl, p, _, rfl, .inl (SqL.of hp2), l, _, [.int 0], rfl, rfl, upd_same, by omega, by rw [List.length_map]; omega, ?_, fun z hz => ?_⟩
      · rw [Int.toNat_natCast, List.length_map]
        show 1 * xs.length ≤ sizeLine
        rw [Nat.one_mul]
        exact small_len (by omega)
      have npz : p ≠ z := ne_of_none hp2 hz
      generalize hH3 : upd (upd H' l (.lst [.int 0])) z (.lst (List.replicate ((((xs.map V.int).length : Nat) : Int)).toNat [V.int 0]).flatten) = H3
      have t3 : Same H' H3 := by
        rw [← hH3]
        exact (same_upd hl).trans (same_upd hz)
      have hz3 : H3 z = some (.lst ((List.replicate xs.length (0 : Int)).map V.int)) := by
        rw [← hH3, upd_same, flat_one, Int.toNat_natCast, List.length_map, List.map_replicate]
      have hp3 := t3 _ _ hp'
      refine ⟨p, z, xs, _, rfl, rfl, SqL.of hp3, SqL.of hz3, _, rfl, ite2 (fun e => ?_) (fun e => ?_)⟩
      · -- found[_law_dip(jar, len(found))] = 1
        refine ⟨_, rfl, _, rfl, _, rfl, p, _, rfl, .inl (SqL.of hp3), j, n + 1 + (1 + d), (xs.map V.int).length, rfl, J3.same t3, by omega, by rw [List.length_map]; omega, by rw [List.length_map]; exact Nat.lt_of_le_of_lt (show xs.length ≤ 300 by omega) (by decide), fun H4 d4 s4 J4 hd4 => ?_⟩
        have hd5 : d4 < xs.length := by
          rw [List.length_map] at hd4
          exact hd4
        refine ⟨p, xs.map V.int, _, d4, rfl, rfl, s4 _ _ npj hp3, ixN_nat hd4, ?_⟩
        refine ⟨_, rfl, q _ p (xs.set d4 1) ?_ hp ?_ ((J4.upd npj.symm).mono (by omega)) ?_ ?_ ?_ ?_⟩
        · exact sb_set ((s2.trans (SameBut.of t3)).trans s4) hp
        · rw [upd_same, map_set']
        · rw [List.length_set]
          omega
        · rw [List.length_set]
          exact ll
        · rw [any_iff]
          exact ⟨d4, by rw [List.length_set]; exact hd5, by rw [getD_set_self hd5]; decide⟩
        · intro x hx
          rcases List.mem_or_eq_of_mem_set hx with h | h
          · exact bx x h
          · rw [h]
            omega
      · have ne : xs ≠ List.replicate xs.length 0 := fun z => e (decide_eq_true z)
        exact ⟨_, rfl, q _ p xs (s2.trans (SameBut.of t3)) hp hp3 ((J3.same t3).mono (by omega)) (by omega) ll (any_of_ne_rep ne) bx⟩
end
section
variable {P : Program} {w : World} {K : PySem.W.Frag} {mg : Str → Option Value} {base : Heap}
/-! ### _law_made -/
theorem grow {a b m i : Nat} (ha : a ≤ 300) (hb : b ≤ 310) : a * (b * (m * (2 ^ 20) ^ i * 1)) ≤ m * (2 ^ 20) ^ (i + 1) := by
  have h : a * b ≤ 300 * 310 := Nat.mul_le_mul ha hb
  have e : a * (b * (m * (2 ^ 20) ^ i * 1)) = (a * b) * (m * (2 ^ 20) ^ i) := by rw [Nat.mul_one, Nat.mul_assoc]
  have e2 : m * (2 ^ 20) ^ (i + 1) = 2 ^ 20 * (m * (2 ^ 20) ^ i) := by
    generalize (2 : Nat) ^ 20 = c
    rw [Nat.pow_succ, ← Nat.mul_assoc, Nat.mul_comm]
  rw [e, e2]
  exact Nat.mul_le_mul_right _ (Nat.le_trans h (by decide))
theorem getD_rep_one {n j : Nat} (h : j < n) : (List.replicate n (1 : Int)).getD j 0 = 1 := by
  rw [List.getD_eq_getElem?_getD, List.getElem?_replicate, if_pos h]
  rfl
def spMade : Sp := fun vs H Q _ => ∃ (j : Addr) (n lg sz : Nat), vs = [.ref j, .int (lg : Int), .int (sz : Int)] ∧ Jar H j n ∧ n + lg + 20 ≤ 1000000 ∧ 1 ≤ lg ∧ lg ≤ 300 ∧ 1 ≤ sz ∧ sz < 2 ^ 290 ∧
  ∀ (H' : Hp) (p : Addr) (ns : List Int), SameBut j H H' → H p = none → H' p = some (.lst (ns.map V.int)) → Jar H' j (n + lg + 20) → 1 ≤ ns.length → ns.length ≤ lg → ns.any (· != 0) = true → (∀ x ∈ ns, x.natAbs ≤ sz * 2 ^ 80) → Q (.ref p) H'
theorem scMade : FnScope ["jar", "longest", "size", "found", "turn", "lap"] ["jar", "longest", "size"] (defScope sMade) := ⟨rfl, rfl, rfl, by decide +kernel, rfl, by decide +kernel, by decide +kernel⟩
theorem ok_made {f fD fL fT : Addr} {fd fdD fdL fdT : FuncData} {k : Nat} (F : Fun K "_law_made" "_law_made" sMade f fd) (T : Txt K mg)
    (GD : FnOk P w K mg base CX0 k fD fdD ["jar", "many"] spDip) (gD : mg "_law_dip" = some (.ref fD)) (kD : PySem.W.keepIn K (.ref fD) = true) (bD : Binds K fdD ["jar", "many"] [])
    (GL : FnOk P w K mg base CX0 k fL fdL ["jar", "longest", "size"] spList) (gL : mg "_law_list" = some (.ref fL)) (kL : PySem.W.keepIn K (.ref fL) = true) (bL : Binds K fdL ["jar", "longest", "size"] [])
    (GT : FnOk P w K mg base CX0 k fT fdT ["one", "two"] spTimes) (gT : mg "_law_times" = some (.ref fT)) (kT : PySem.W.keepIn K (.ref fT) = true) (bT : Binds K fdT ["one", "two"] []) :
    FnOk P w K mg base CX0 (k + 1) f fd ["jar", "longest", "size"] spMade := by
  refine F.ok scMade (fun vs H Q E h => ?_) (fun cdv A outer s H vs Q E hr h => ?_)
  · obtain ⟨i, a, b, c, rfl, _⟩ := h
    rfl
  · obtain ⟨j, n, lg, sz, rfl, J0, hn, l1, l2, z1, z2, q⟩ := h
    have nd := scMade.nd
    refine ⟨_, pss_cons (ps_set (i := 3) nd rfl (.inl rfl) (pe_call GL hr (by rfl) gL kL bL .nil pass0 (pa_cons (pv 0) (pa_cons (pe_callB (call_max2 rfl) (by rfl) T.max (by decide +kernel) (pa_cons pe_int (pa_cons (pe_op op_fdiv (pv 1) pe_int) pa_nil))) (pa_cons (pv 2) pa_nil)))))
      (pss_cons (ps_for PassesOwn.never rfl (pi_range1 rfl T.range (pa_cons (pe_op op_add pe_int (pe_call GD hr (by rfl) gD kD bD .nil pass0 (pa_cons (pv 0) (pa_cons pe_int pa_nil)))) pa_nil)) (pg_name (i := 4) nd rfl (.inl rfl))
        (pss_cons (ps_set (i := 5) nd rfl (.inl rfl) (pe_op op_add pe_int (pe_call GD hr (by rfl) gD kD bD .nil pass0 (pa_cons (pv 0) (pa_cons (pe_ix ix_list (pe_lst (pa_cons pe_int (pa_cons pe_int (pa_cons (pe_callB (call_max2 rfl) (by rfl) T.max (by decide +kernel) (pa_cons pe_int (pa_cons (pe_op op_fdiv (pv 1) pe_int) pa_nil))) pa_nil))))
            (pe_call GD hr (by rfl) gD kD bD .nil pass0 (pa_cons (pv 0) (pa_cons pe_int pa_nil))) (fun _ _ => rfl)) pa_nil)))))
        (pss_one (ps_if (pt_cmpR op_le (pe_op op_sub (pe_op op_add (pe_callB call_len_seq (by rfl) T.len PySem.boot_len (pa_cons (pv 3) pa_nil)) (pv 5)) pe_int) (pv 1) (nomark _))
          (pss_one (ps_set (i := 3) nd rfl (.inl rfl) (pe_call GT hr (by rfl) gT kT bT .nil pass0 (pa_cons (pv 3) (pa_cons (pe_op op_rep (pe_lst (pa_cons pe_int pa_nil)) (pv 5)) pa_nil))))) pss_nil))))
      (pss_one (ps_ret (pv 3)))), ?_⟩
    refine ⟨_, rfl, _, rfl, _, _, rfl, rfl, ⟨by decide, by decide⟩, _, _, rfl, ?_⟩
    have em : (if (lg : Int) / 3 > 1 then (lg : Int) / 3 else 1) = ((max 1 (lg / 3) : Nat) : Int) := by
      split <;> omega
    refine ⟨_, rfl, ?_⟩
    dsimp only
    rw [em]
    refine ⟨j, n, max 1 (lg / 3), sz, rfl, J0, by omega, by omega, by omega, z1, z2, fun H1 p xs s1 hp0 hp J1 x1 x2 x3 bx => ?_⟩
    refine ⟨_, rfl, j, _, 4, rfl, J1, by omega, by decide, by decide, fun H2 d s2 J2 hd => ?_⟩
    refine ⟨_, _, rfl, rfl, _, rfl, by omega, by omega, ?_⟩
    have ec : ((1 : Int) + (d : Int)).toNat = 1 + d := by omega
    rw [ec]
    have npj : p ≠ j := J0.free_ne hp0
    refine for_range (lo := 0) (n := 1 + d) (fun i σ H' => ∃ y4 y5 p xs, σ = [some (.ref j), some (.int lg), some (.int sz), some (.ref p), y4, y5] ∧ SameBut j H H' ∧ H p = none ∧ H' p = some (.lst (xs.map V.int)) ∧ 1 ≤ xs.length ∧ xs.length ≤ lg ∧ xs.any (· != 0) = true ∧ (∀ x ∈ xs, x.natAbs ≤ sz * (2 ^ 20) ^ i) ∧ Jar H' j (n + lg + 4 + 2 * i))
      ⟨none, none, p, xs, rfl, s1.trans s2, hp0, s2 _ _ npj hp, x1, by omega, x3, by simpa using bx, J2.mono (by omega)⟩ ?_ ?_
    · rintro i σ H' hi ⟨y4, y5, p, xs, rfl, s3, hp0, hp, x1, x2, x3, bx, J3⟩
      have npj : p ≠ j := J0.free_ne hp0
      refine ⟨_, rfl, _, rfl, _, _, rfl, rfl, ⟨by decide, by decide⟩, _, _, rfl, ?_⟩
      have em : (if (lg : Int) / 2 > 2 then (lg : Int) / 2 else 2) = ((max 2 (lg / 2) : Nat) : Int) := by
        split <;> omega
      dsimp only
      rw [em]
      refine ⟨small_len (by show 3 ≤ 1000; decide), fun l hl => ?_⟩
      have nlj : l ≠ j := J3.free_ne hl
      refine ⟨_, rfl, j, _, 3, rfl, J3.upd nlj.symm, by omega, by decide, by decide, fun H4 d4 s4 J4 hd4 => ?_⟩
      have hl4 := s4 _ _ nlj upd_same
      have big : (300 : Nat) < 2 ^ 300 := by decide
      obtain ⟨m, hm, m1, m2⟩ : ∃ m : Nat, ([V.int 5, .int 12, .int ((max 2 (lg / 2) : Nat) : Int)] : List V)[d4]? = some (V.int (m : Int)) ∧ 1 ≤ m ∧ m ≤ 300 := by
        have : d4 = 0 ∨ d4 = 1 ∨ d4 = 2 := by omega
        rcases this with e | e | e
        · subst e
          exact ⟨5, rfl, by decide, by decide⟩
        · subst e
          exact ⟨12, rfl, by decide, by decide⟩
        · subst e
          exact ⟨max 2 (lg / 2), rfl, by omega, by omega⟩
      refine ⟨l, _, _, _, rfl, rfl, SqL.of hl4, atI_nat hm, ?_⟩
      refine ⟨j, _, m, rfl, J4, by omega, m1, Nat.lt_of_le_of_lt m2 big, fun H5 d5 s5 J5 hd5 => ?_⟩
      refine ⟨_, _, rfl, rfl, ?_⟩
      have hp5 : H5 p = some (.lst (xs.map V.int)) := s5 _ _ npj (s4 _ _ npj (same_upd hl _ _ hp))
      have sb5 : SameBut j H H5 := ((s3.trans (SameBut.of (same_upd hl))).trans s4).trans s5
      refine ⟨_, rfl, p, _, rfl, .inl (SqL.of hp5), _, rfl, _, _, rfl, rfl, _, _, rfl, rfl, _, rfl, _, _, rfl, rfl, _, rfl, ite2 (fun e => ?_) (fun e => ?_)⟩
      · have e' := of_decide_eq_true e
        rw [List.length_map] at e'
        refine ⟨_, rfl, small_len (by decide), fun u hu => ?_⟩
        refine ⟨_, rfl, u, _, [.int 1], rfl, rfl, upd_same, by omega, by omega, ?_, fun z hz => ?_⟩
        · show 1 * _ ≤ sizeLine
          rw [Nat.one_mul]
          exact small_len (by omega)
        have hp7 : ∀ o, upd (upd H5 u (.lst [.int 1])) z o p = some (.lst (xs.map V.int)) := fun o => same_upd hz _ _ (same_upd hu _ _ hp5)
        have en : ((2 : Int) + (d5 : Int)).toNat = 2 + d5 := by omega
        refine ⟨p, z, xs, List.replicate (2 + d5) 1, rfl, hp7 _, ?_, x1, ?_, ?_, ?_, fun H8 r s8 hr0 hr => ?_⟩
        · rw [upd_same, flat_one, List.map_replicate, en]
        · rw [List.length_replicate]
          omega
        · rw [List.length_replicate]
          omega
        · intro x _ y hy
          rw [(List.mem_replicate.mp hy).2]
          exact mulOk_small x (by decide) (by decide)
        · have hr5 : H5 r = none := free_upd hu (free_upd hz hr0)
          have J8 := J5.same (((same_upd (o := .lst [.int 1]) hu).trans (same_upd hz)).trans s8)
          have nrj : r ≠ j := J5.free_ne hr5
          refine ⟨_, _, r, prodL xs (List.replicate (2 + d5) 1), rfl, sb_same sb5 (((same_upd hu).trans (same_upd hz)).trans s8), sb5.free nrj hr5, hr, ?_, ?_, ?_, ?_, J8.mono (by omega)⟩
          · rw [prodL_len, List.length_replicate]
            omega
          · rw [prodL_len, List.length_replicate]
            omega
          · refine prod_any x3 (by rw [List.length_replicate]; omega) ?_
            rw [getD_rep_one (by omega)]
            decide
          · intro x hx
            refine Nat.le_trans (prod_le bx (fun y hy => ?_) x hx) (grow (Nat.le_trans x2 l2) (show (List.replicate (2 + d5) (1 : Int)).length ≤ 310 by rw [List.length_replicate]; omega))
            rw [(List.mem_replicate.mp hy).2]
            exact Nat.le_refl 1
      · exact ⟨_, _, p, xs, rfl, sb5, hp0, hp5, x1, x2, x3, fun x hx => Nat.le_trans (bx x hx) (Nat.mul_le_mul_left _ (Nat.pow_le_pow_right (by decide) (by omega))), J5.mono (by omega)⟩
    · rintro σ H' ⟨y4, y5, p, xs, rfl, s3, hp0, hp, x1, x2, x3, bx, J3⟩
      exact ⟨_, rfl, q H' p xs s3 hp0 hp (J3.mono (by omega)) x1 x2 x3 fun x hx => Nat.le_trans (bx x hx) (Nat.mul_le_mul_left _ (Nat.le_trans (Nat.pow_le_pow_right (by decide) (show 1 + d ≤ 4 by omega)) (by decide)))⟩
end
end Wd

namespace Wd
open PySem PySem.Spec PyProof.Rows L2 XR Mth GL
section
variable {P : Program} {w : World} {K : PySem.W.Frag} {mg : Str → Option Value} {base : Heap}
theorem cut_one (xs : List V) : cutV xs (some 1) none = xs.drop 1 := by
  unfold cutV
  rw [HT.sIx_none, show HT.sIx xs.length 0 (some 1) = min 1 xs.length from HT.sIx_nat _ _ 1]
  rw [List.take_of_length_le (by rw [List.length_drop]; omega)]
  by_cases h : 1 ≤ xs.length
  · rw [Nat.min_eq_left h]
  · have : xs.length = 0 := by omega
    rw [List.length_eq_zero_iff.mp this]
    rfl
theorem pow_lt {z : Int} {i : Nat} (h : z.natAbs ≤ 2 ^ 20) (hi : i ≤ 6) : (z ^ i).natAbs < 2 ^ 130 := by
  rw [Int.natAbs_pow]
  have h1 : z.natAbs ^ i ≤ (2 ^ 20) ^ i := Nat.pow_le_pow_left h i
  have h2 : (2 ^ 20 : Nat) ^ i ≤ (2 ^ 20) ^ 6 := Nat.pow_le_pow_right (by decide) hi
  exact Nat.lt_of_le_of_lt (Nat.le_trans h1 h2) (by decide)
def spLaid31 : Sp := fun vs H Q _ => ∃ (a : Addr) (ns : List Int) (lap p m : Nat), vs = [.ref a, .int (lap : Int), .int (p : Int), .int (m : Int)] ∧ H a = some (.lst (ns.map V.int)) ∧ ns.length ≤ 200 ∧ 1 ≤ lap ∧ lap ≤ 100 ∧ p ≤ 6 ∧ m ≤ 1000 ∧ (∀ x ∈ ns, x.natAbs < 2 ^ 1000) ∧
  ∀ H' q, Same H H' → H q = none → H' q = some (.lst ((tab m (Tpq ns lap p 0)).map V.int)) → Q (.ref q) H'
theorem scLaid31 : FnScope ["one", "lap", "power_here", "many", "found", "turn", "weight", "again", "spot", "entry", "at"] ["one", "lap", "power_here", "many"] (defScope sLaid) := ⟨rfl, rfl, rfl, by decide +kernel, rfl, by decide +kernel, by decide +kernel⟩
theorem ok_laid31 {f : Addr} {fd : FuncData} {k : Nat} (F : Fun K "_law_laid" "_law_laid" sLaid f fd) (T : Txt K mg) :
    FnOk P w K mg base CX0 (k + 1) f fd ["one", "lap", "power_here", "many"] spLaid31 := by
  refine F.ok scLaid31 (fun vs H Q E h => ?_) (fun cdv A outer s H vs Q E hr h => ?_)
  · first | (obtain ⟨_, rfl, _⟩ := h; rfl) | (obtain ⟨_, _, rfl, _⟩ := h; rfl) | (obtain ⟨_, _, _, rfl, _⟩ := h; rfl) | (obtain ⟨_, _, _, _, rfl, _⟩ := h; rfl) | (obtain ⟨_, _, _, _, _, rfl, _⟩ := h; rfl) | (obtain ⟨_, _, _, _, _, _, rfl, _⟩ := h; rfl) | (obtain ⟨_, _, _, _, _, _, _, rfl, _⟩ := h; rfl) | (obtain ⟨_, _, _, _, _, _, _, _, rfl, _⟩ := h; rfl) | (obtain ⟨_, _, _, _, _, _, _, _, _, rfl, _⟩ := h; rfl) | (obtain ⟨_, _, _, _, _, _, _, _, _, _, rfl, _⟩ := h; rfl) | (obtain ⟨_, _, _, _, _, _, _, _, _, _, _, rfl, _⟩ := h; rfl)
  · have nd := scLaid31.nd
    obtain ⟨a, ns, lap, p, m, rfl, hA, l1, b1, b2, hp6, m1, hx, q⟩ := h
    refine ⟨_, pss_cons (ps_set (i := 4) nd rfl (.inl rfl) (pe_op op_rep (pe_lst (pa_cons pe_int pa_nil)) (pv 3)))
      (pss_cons (ps_for PassesOwn.never rfl (pi_range2 (by rfl) T.range (pa_cons (pe_op op_sub (pe_op op_sub pe_int (pe_op op_fdivW (pe_callB call_len_seq (by rfl) T.len PySem.boot_len (pa_cons (pv 0) pa_nil)) (pv 1))) pe_int) (pa_cons (pe_op op_add (pe_op op_fdivW (pv 3) (pv 1)) pe_int) pa_nil))) (pg_name (i := 5) nd rfl (.inl rfl))
        (pss_cons (ps_set (i := 6) nd rfl (.inl rfl) pe_int)
        (pss_cons (ps_for PassesOwn.never rfl (pi_range1 rfl T.range (pa_cons (pv 2) pa_nil)) (pg_name (i := 7) nd rfl (.inl rfl))
          (pss_one (ps_set (i := 6) nd rfl (.inl rfl) (pe_op op_mulW (pe_op op_mulW (pv 6) (pv 5)) (pv 1)))))
        (pss_one (ps_for PassesOwn.never rfl (pi_enum (by rfl) T.enumerate (pa_cons (pv 0) pa_nil)) (pg_tup rfl (pgs_cons (pg_name (i := 8) nd rfl (.inl rfl)) (pgs_cons (pg_name (i := 9) nd rfl (.inl rfl)) pgs_nil)))
          (pss_cons (ps_set (i := 10) nd rfl (.inl rfl) (pe_op op_add (pe_op op_mulW (pv 5) (pv 1)) (pv 8)))
          (pss_one (ps_if (pt_chain op_le op_lt pe_int (pv 10) (pv 3)) (pss_one (ps_asg (pe_op op_add (pe_ix ix_list (pv 4) (pv 10) (fun _ _ => rfl)) (pe_op op_mulW (pv 6) (pv 9))) (pg_sub (pv 4) (pv 10) set_list))) pss_nil))))))))
      (pss_one (ps_ret (pv 4)))), ?_⟩
    have lI : (0 : Int) < (lap : Int) := by omega
    refine ⟨small_len (by decide), fun l hl => ?_⟩
    refine ⟨_, rfl, l, _, [.int 0], rfl, rfl, upd_same, by omega, by omega, ?_, fun fq hfq => ?_⟩
    · rw [Int.toNat_natCast]
      show 1 * m ≤ sizeLine
      rw [Nat.one_mul]
      exact small_len (by omega)
    have hq0 : H fq = none := free_upd hl hfq
    have s02 := (same_upd (H := H) (o := .lst [.int 0]) hl).trans (same_upd (o := .lst (List.replicate (m : Int).toNat [V.int 0]).flatten) hfq)
    refine ⟨_, rfl, a, _, rfl, .inl (SqL.of (s02 _ _ hA)), _, rfl, _, _, rfl, rfl, wide_div lI (show (lap : Int).natAbs < 2 ^ 300 by omega) (by decide) (by decide), _, _, rfl, rfl, _, _, rfl, rfl, _, rfl, _, rfl, _, _, rfl, rfl, wide_div lI (show (lap : Int).natAbs < 2 ^ 300 by omega) (by decide) (by decide), _, _, rfl, rfl, ?_⟩
    rw [List.length_map]
    obtain ⟨c, hc⟩ : ∃ c, c = ns.length / lap + 1 := ⟨_, rfl⟩
    obtain ⟨N, hN⟩ : ∃ N, N = m / lap + 1 + c := ⟨_, rfl⟩
    have d1 : ns.length / lap ≤ 200 := Nat.le_trans (Nat.div_le_self _ _) l1
    have d2 : m / lap ≤ 1000 := Nat.le_trans (Nat.div_le_self _ _) m1
    have elo : 0 - ((ns.length : Nat) : Int) / (lap : Int) - 1 = -(c : Int) := by omega
    have ehi : ((m : Nat) : Int) / (lap : Int) + 1 = ((m / lap + 1 : Nat) : Int) := by omega
    refine ⟨-(c : Int), ((m / lap + 1 : Nat) : Int), by dsimp only; rw [elo, ehi], ⟨by omega, by omega, by omega, by omega⟩, ?_⟩
    have en : (((m / lap + 1 : Nat) : Int) - -(c : Int)).toNat = N := by omega
    rw [en]
    refine for_range (lo := -(c : Int)) (n := N) (fun t σ H' => ∃ y5 y6 y7 y8 y9 y10, σ = [some (.ref a), some (.int (lap : Int)), some (.int (p : Int)), some (.int (m : Int)), some (.ref fq), y5, y6, y7, y8, y9, y10] ∧ Same H H' ∧ H' fq = some (.lst ((tab m (accP (zlay lap c m) (wlay ns lap p c N) t 0)).map V.int)))
      ⟨none, none, none, none, none, none, rfl, s02, ?_⟩ ?_ ?_
    · rw [upd_same, flat_one, rep_tab, Int.toNat_natCast, tab_map]
      rfl
    · rintro t σ H' ht ⟨y5, y6, y7, y8, y9, y10, rfl, s2, hf⟩
      have et : -(c : Int) + (t : Int) = (t : Int) - (c : Int) := by omega
      rw [et]
      have tb : ((t : Int) - (c : Int)).natAbs ≤ 2000 := by omega
      generalize hu : (t : Int) - (c : Int) = u at *
      have ub : (u * (lap : Int)).natAbs ≤ 2 ^ 20 := by
        rw [Int.natAbs_mul]
        have : u.natAbs * (lap : Int).natAbs ≤ 2000 * 100 := Nat.mul_le_mul tb (by omega)
        omega
      refine ⟨_, rfl, _, rfl, by omega, by omega, ?_⟩
      rw [Int.toNat_natCast]
      refine for_range (lo := 0) (n := p) (fun i σ H'' => ∃ y7, σ = [some (.ref a), some (.int (lap : Int)), some (.int (p : Int)), some (.int (m : Int)), some (.ref fq), some (.int u), some (.int ((u * (lap : Int)) ^ i)), y7, y8, y9, y10] ∧ H'' = H')
        ⟨y7, by rw [Int.pow_zero]; rfl, rfl⟩ ?_ ?_
      · rintro i σ H'' hi ⟨y7, rfl, rfl⟩
        have w1 := pow_lt ub (show i ≤ 6 by omega)
        have w2 : ((u * (lap : Int)) ^ i * u).natAbs < 2 ^ 160 := by
          rw [Int.natAbs_mul]
          have : ((u * (lap : Int)) ^ i).natAbs * u.natAbs ≤ 2 ^ 130 * 2000 := Nat.mul_le_mul (Nat.le_of_lt w1) tb
          omega
        refine ⟨_, rfl, _, rfl, _, _, rfl, rfl, wide_mul w1 (show u.natAbs < 2 ^ 20 by omega) (by decide) (by decide) (by decide), _, rfl, _, _, rfl, rfl, wide_mul w2 (show (lap : Int).natAbs < 2 ^ 20 by omega) (by decide) (by decide) (by decide), ?_⟩
        refine ⟨some (.int (0 + (i : Int))), ?_, rfl⟩
        rw [Int.pow_succ, ← Int.mul_assoc]
        rfl
      · rintro σ H'' ⟨y7, rfl, rfl⟩
        have w1 := pow_lt ub hp6
        refine ⟨_, rfl, a, ns.map V.int, rfl, SqL.of (s2 _ _ hA), ?_⟩
        refine for_enum (K := K) (a := a) (xs := ns.map V.int) (fun i σ H' => ∃ y8 y9 y10, σ = [some (.ref a), some (.int (lap : Int)), some (.int (p : Int)), some (.int (m : Int)), some (.ref fq), some (.int u), some (.int ((u * (lap : Int)) ^ p)), y7, y8, y9, y10] ∧ Same H H' ∧ H' fq = some (.lst ((tab m (accP (zlay lap c m) (wlay ns lap p c N) t i)).map V.int)))
          ⟨_, _, _, rfl, s2, hf⟩ (fun i σ H' _ hP => ?_) ?_ ?_
        · obtain ⟨_, _, _, _, s2, _⟩ := hP
          exact SqL.of (s2 _ _ hA)
        · rintro i x Tq σ H' hi ⟨y8, y9, y10, rfl, s2, hp'⟩ hT
          obtain ⟨e, he, rfl⟩ := get_map hi
          have hil := (List.getElem?_eq_some_iff.mp he).1
          have hpT : fq ≠ Tq := ne_of_none hp' hT
          have hpt : upd H' Tq (.tup [.int (i : Nat), .int e]) fq = some (.lst ((tab m (accP (zlay lap c m) (wlay ns lap p c N) t i)).map V.int)) := by
            rw [upd_ne hpT]
            exact hp'
          have e1 : (u * (lap : Int)) ^ p * e = (wl (wlay ns lap p c N) t).getD i 0 := by
            rw [wlay_get ht, map_getD0, List.getD_eq_getElem?_getD, he, hu]
            rfl
          have step := accP_step (zlay lap c m) (wlay ns lap p c N) t i
          refine ⟨Tq, _, rfl, .inl (.inl upd_same), rfl, _, _, rfl, _, _, rfl, rfl, ?_⟩
          refine ⟨_, rfl, _, rfl, _, _, rfl, rfl, wide_mul (show u.natAbs < 2 ^ 20 by omega) (show (lap : Int).natAbs < 2 ^ 20 by omega) (by decide) (by decide) (by decide), _, rfl, _, _, rfl, rfl, ?_⟩
          have ez0 : zlay lap c m t i = if 0 ≤ (u * (lap : Int) + (i : Int)) then (u * (lap : Int) + (i : Int)).toNat else m := by unfold zlay; rw [hu]
          have out : ¬ (0 ≤ (u * (lap : Int) + (i : Int)) ∧ (u * (lap : Int) + (i : Int)) < (m : Int)) → upd H' Tq (.tup [.int (i : Nat), .int e]) fq = some (.lst ((tab m (accP (zlay lap c m) (wlay ns lap p c N) t (i + 1))).map V.int)) := by
            intro ho
            rw [hpt]
            congr 3
            refine tab_congr fun k hk => ?_
            have st := step k
            rw [if_neg (by rw [ez0]; split <;> omega)] at st
            exact st
          refine ⟨_, rfl, _, _, rfl, rfl, _, rfl, ?_⟩
          by_cases c1 : 0 ≤ (u * (lap : Int) + (i : Int))
          · refine iteD c1 ?_
            refine ⟨_, rfl, _, _, rfl, rfl, _, rfl, ?_⟩
            by_cases c2 : (u * (lap : Int) + (i : Int)) < (m : Int)
            · refine iteD c2 ?_
              obtain ⟨z, hz2⟩ := Int.eq_ofNat_of_zero_le c1
              have hz3 : (u * (lap : Int) + (i : Int)) = (z : Int) := hz2
              have ml : z < m := by omega
              have ez : zlay lap c m t i = z := by rw [ez0, if_pos c1]; omega
              have g : ((tab m (accP (zlay lap c m) (wlay ns lap p c N) t i)).map V.int)[z]? = some (.int (accP (zlay lap c m) (wlay ns lap p c N) t i z)) := by
                rw [tab_map, tab_get _ ml]
              refine ⟨_, rfl, _, rfl, fq, _, _, _, rfl, rfl, SqL.of hpt, at_of hz3 g, _, rfl, _, rfl, _, _, rfl, rfl, wide_mul w1 (hx e (List.mem_of_getElem? he)) (by decide) (by decide) (by decide), _, _, rfl, rfl, ?_⟩
              refine ⟨_, rfl, _, rfl, fq, _, _, z, rfl, rfl, hpt, ixN_of hz3 ?_, ?_⟩
              · rw [List.length_map, tab_len]
                exact ml
              · refine ⟨_, _, _, rfl, same_set (s2.trans (same_upd hT)) hq0, ?_⟩
                rw [upd_same, map_set', tab_set]
                congr 3
                refine tab_congr fun k _ => ?_
                rw [e1]
                have st := step k
                rw [ez] at st
                exact st
            · exact iteDF c2 ⟨_, _, _, rfl, s2.trans (same_upd hT), out fun z => c2 z.2⟩
          · exact iteDF c1 ⟨_, rfl, iteF ⟨_, _, _, rfl, s2.trans (same_upd hT), out fun z => c1 z.1⟩⟩
        · rintro σ H' ⟨y8, y9, y10, rfl, s2, hp'⟩
          refine ⟨_, _, _, _, _, _, rfl, s2, ?_⟩
          rw [hp', List.length_map]
          congr 3
          refine tab_congr fun k _ => ?_
          have := accP_row (zlay lap c m) (wlay ns lap p c N) t k
          rw [show (wl (wlay ns lap p c N) t).length = ns.length by rw [wlay_get ht, List.length_map]] at this
          exact this
    · rintro σ H' ⟨y5, y6, y7, y8, y9, y10, rfl, s2, hp'⟩
      refine ⟨_, rfl, q H' fq s2 hq0 ?_⟩
      rw [hp']
      congr 3
      refine tab_congr fun k hk => ?_
      have ea := accP_all (zlay lap c m) (wlay ns lap p c N) k
      rw [show (wlay ns lap p c N).length = N from tab_len _ _] at ea
      rw [ea, hN, hc]
      exact lay_T b1 hk
end
section
variable {P : Program} {w : World} {K : PySem.W.Frag} {mg : Str → Option Value} {base : Heap}
def spDiffs31 : Sp := fun vs H Q _ => ∃ (a : Addr) (m n : Nat) (f : Nat → Int), vs = [.ref a, .int (n : Int)] ∧ H a = some (.lst ((tab m f).map V.int)) ∧ m ≤ 1000 ∧ n ≤ 100 ∧ n + 1 ≤ m ∧
  ∀ H' q, Same H H' → H' q = some (.lst ((tab (m - n) (difs n f)).map V.int)) → Q (.ref q) H'
theorem scDiffs31 : FnScope ["numbers_here", "many", "found", "turn", "one", "two"] ["numbers_here", "many"] (defScope sLawDifferences) := ⟨rfl, rfl, rfl, by decide +kernel, rfl, by decide +kernel, by decide +kernel⟩
theorem ok_diffs31 {f : Addr} {fd : FuncData} {k : Nat} (F : Fun K "_law_differences" "_law_differences" sLawDifferences f fd) (T : Txt K mg) :
    FnOk P w K mg base CX0 (k + 1) f fd ["numbers_here", "many"] spDiffs31 := by
  refine F.ok scDiffs31 (fun vs H Q E h => ?_) (fun cdv A outer s H vs Q E hr h => ?_)
  · first | (obtain ⟨_, rfl, _⟩ := h; rfl) | (obtain ⟨_, _, rfl, _⟩ := h; rfl) | (obtain ⟨_, _, _, rfl, _⟩ := h; rfl) | (obtain ⟨_, _, _, _, rfl, _⟩ := h; rfl) | (obtain ⟨_, _, _, _, _, rfl, _⟩ := h; rfl) | (obtain ⟨_, _, _, _, _, _, rfl, _⟩ := h; rfl) | (obtain ⟨_, _, _, _, _, _, _, rfl, _⟩ := h; rfl) | (obtain ⟨_, _, _, _, _, _, _, _, rfl, _⟩ := h; rfl) | (obtain ⟨_, _, _, _, _, _, _, _, _, rfl, _⟩ := h; rfl) | (obtain ⟨_, _, _, _, _, _, _, _, _, _, rfl, _⟩ := h; rfl) | (obtain ⟨_, _, _, _, _, _, _, _, _, _, _, rfl, _⟩ := h; rfl)
  · have nd := scDiffs31.nd
    obtain ⟨a, m, n, f, rfl, hA, m1, n1, nm, q⟩ := h
    refine ⟨_, pss_cons (ps_set (i := 2) nd rfl (.inl rfl) (pv 0))
      (pss_cons (ps_for PassesOwn.never rfl (pi_range1 rfl T.range (pa_cons (pv 1) pa_nil)) (pg_name (i := 3) nd rfl (.inl rfl))
        (pss_one (ps_setLc (i := 2) (own := [("one", 4), ("two", 5)]) (g := (gTup K 2 (gCons (gName 4) (gCons (gName 5) gNil)))) (tt := tYes) (te := (tOp (rI0 fun i j => .int (i - j)) (tVar 5) (tVar 4))) rfl nd rfl rfl (sw_true rfl rfl rfl (by decide +kernel)) (pi_zip (by rfl) T.zip (pa_cons (pv 2) (pa_cons (pe_slice sl_list (pv 2) (po_some pe_int) po_none) pa_nil))) (blkOk_by (N := ["numbers_here", "many", "found", "turn", "one", "two"]) (sc := defScope sLawDifferences) (by decide +kernel)) (fun _ _ _ _ _ => pg_tup rfl (pgs_cons (pg_name (i := 4) nd rfl (Or.inl rfl)) (pgs_cons (pg_name (i := 5) nd rfl (Or.inl rfl)) pgs_nil))) (fun _ _ _ _ _ => pts_nil) (fun _ _ _ _ _ => pe_op op_sub (pv 5) (pv 4)))))
      (pss_one (ps_ret (pv 2)))), ?_⟩
    refine ⟨_, rfl, ?_⟩
    refine ⟨_, rfl, _, rfl, by omega, by omega, ?_⟩
    rw [Int.toNat_natCast]
    refine for_range (lo := 0) (n := n) (fun t σ H' => ∃ y3 u, σ = [some (.ref a), some (.int (n : Int)), some (.ref u), y3, none, none] ∧ Same H H' ∧ H' u = some (.lst ((tab (m - t) (difs t f)).map V.int))) ⟨none, a, rfl, Same.refl H, hA⟩ ?_ ?_
    · rintro t σ H' ht ⟨y3, u, rfl, s, hu⟩
      refine ⟨_, rfl, _, rfl, 1, rfl, u, _, rfl, SqL.of hu, fun p hp => ⟨u, p, _, _, rfl, SqL.of (same_upd hp _ _ hu), SqL.of upd_same, fun D hD => ?_⟩⟩
      have nuD : u ≠ D := ne_of_none (same_upd hp _ _ hu) hD
      have npD : p ≠ D := fun e => by rw [← e, upd_same] at hD; cases hD
      have s1 := (s.trans (same_upd (o := .lst (cutV ((tab (m - t) (difs t f)).map V.int) (some 1) none)) hp)).trans (same_upd (o := .lst []) hD)
      refine lc_zipM (K := K) (a := u) (b := p) (xs := (tab (m - t) (difs t f)).map V.int) (ys := cutV ((tab (m - t) (difs t f)).map V.int) (some 1) none) (n := m - (t + 1)) ?_ (fun i H' => Same H H' ∧ H' u = some (.lst ((tab (m - t) (difs t f)).map V.int)) ∧ H' p = some (.lst (cutV ((tab (m - t) (difs t f)).map V.int) (some 1) none)) ∧ H' D = some (.lst ((tab i (difs (t + 1) f)).map V.int)))
        ⟨s1, by rw [upd_ne nuD]; exact same_upd hp _ _ hu, by rw [upd_ne npD]; exact upd_same, upd_same⟩ (fun i H' _ ⟨_, e1, e2, _⟩ => ⟨SqL.of e1, SqL.of e2⟩) ?_ ?_
      · rw [cut_one, List.length_drop, List.length_map, tab_len]
        omega
      · rintro i x y Tp H2 hi hx hy ⟨s2, e1, e2, e3⟩ hT
        rw [cut_one, List.getElem?_drop] at hy
        obtain ⟨v, hv, rfl⟩ := get_map hx
        obtain ⟨v2, hv2, rfl⟩ := get_map hy
        rw [tab_get _ (by omega)] at hv hv2
        cases hv
        cases hv2
        have nDT : D ≠ Tp := ne_of_none e3 hT
        refine ⟨Tp, _, rfl, .inl (.inl upd_same), rfl, _, _, rfl, _, _, rfl, rfl, rfl, _, rfl, _, rfl, _, _, rfl, rfl, ?_⟩
        refine ⟨_, by rw [upd_ne nDT]; exact e3, ?_, ?_, ?_, ?_, ?_⟩
        · rw [List.length_map, tab_len]
          exact small1000 (by omega)
        · exact same_set (s2.trans (same_upd hT)) (((s.trans (same_upd hp))).free hD)
        · rw [upd_ne nuD]
          exact same_upd hT _ _ e1
        · rw [upd_ne npD]
          exact same_upd hT _ _ e2
        · rw [upd_same, tab_succ, List.map_append, Nat.add_comm 1 i]
          have := difs_out t f i
          dsimp only
          rw [this]
          rfl
      · rintro H2 ⟨s2, _, _, e3⟩
        exact ⟨_, D, rfl, s2, e3⟩
    · rintro σ H' ⟨y3, u, rfl, s, hu⟩
      exact ⟨_, rfl, q H' u s hu⟩
end
section
variable {P : Program} {w : World} {K : PySem.W.Frag} {mg : Str → Option Value} {base : Heap}
theorem repN (n : Nat) (v : Int) : (List.replicate ((n : Nat) : Int).toNat [V.int v]).flatten = (List.replicate n v).map V.int := by
  rw [flat_one, Int.toNat_natCast, List.map_replicate]
theorem rep1_size {n : Nat} (h : n ≤ 1000) : ([V.int 1] : List V).length * ((n : Nat) : Int).toNat ≤ sizeLine := by
  rw [Int.toNat_natCast]
  show 1 * n ≤ sizeLine
  rw [Nat.one_mul]
  exact small_len h
theorem rep_size {n : Nat} (h : n ≤ 1000) : ([V.int 0] : List V).length * ((n : Nat) : Int).toNat ≤ sizeLine := by
  rw [Int.toNat_natCast]
  show 1 * n ≤ sizeLine
  rw [Nat.one_mul]
  exact small_len h
def spRight31 : Sp := fun vs H Q _ => ∃ (a : Addr) (ns : List Int) (lap D : Nat), vs = [.ref a, .int (lap : Int)] ∧ H a = some (.lst (ns.map V.int)) ∧ Win ns ∧ 2 ≤ lap ∧ lap ≤ 60 ∧ IsOrd ns lap D ∧ (∀ x ∈ ns, x.natAbs < 2 ^ 1000) ∧ ∀ H', Same H H' → Q (.bl true) H'
theorem scRight31 : FnScope ["one", "lap", "deep", "power_here", "sums_here", "rest", "told"] ["one", "lap"] (defScope sRight) := ⟨rfl, rfl, rfl, by decide +kernel, rfl, by decide +kernel, by decide +kernel⟩
theorem ok_right31 {f fO fL fD fM : Addr} {fd fdO fdL fdD fdM : FuncData} {k : Nat} (F : Fun K "_law_right" "_law_right" sRight f fd) (T : Txt K mg)
    (GO : FnOk P w K mg base CX0 k fO fdO ["window", "hop"] spOrderAt) (gO : mg "order_at" = some (.ref fO)) (kO : PySem.W.keepIn K (.ref fO) = true) (bO : Binds K fdO ["window", "hop"] [])
    (GL : FnOk P w K mg base CX0 k fL fdL ["one", "lap", "power_here", "many"] spLaid31) (gL : mg "_law_laid" = some (.ref fL)) (kL : PySem.W.keepIn K (.ref fL) = true) (bL : Binds K fdL ["one", "lap", "power_here", "many"] [])
    (GD : FnOk P w K mg base CX0 k fD fdD ["numbers_here", "many"] spDiffs31) (gD : mg "_law_differences" = some (.ref fD)) (kD : PySem.W.keepIn K (.ref fD) = true) (bD : Binds K fdD ["numbers_here", "many"] [])
    (GM : FnOk P w K mg base CX0 k fM fdM ["window", "hop", "power"] spMoments) (gM : mg "moments" = some (.ref fM)) (kM : PySem.W.keepIn K (.ref fM) = true) (bM : Binds K fdM ["window", "hop", "power"] []) :
    FnOk P w K mg base CX0 (k + 1) f fd ["one", "lap"] spRight31 := by
  refine F.ok scRight31 (fun vs H Q E h => ?_) (fun cdv A outer s H vs Q E hr h => ?_)
  · first | (obtain ⟨_, rfl, _⟩ := h; rfl) | (obtain ⟨_, _, rfl, _⟩ := h; rfl) | (obtain ⟨_, _, _, rfl, _⟩ := h; rfl) | (obtain ⟨_, _, _, _, rfl, _⟩ := h; rfl) | (obtain ⟨_, _, _, _, _, rfl, _⟩ := h; rfl) | (obtain ⟨_, _, _, _, _, _, rfl, _⟩ := h; rfl) | (obtain ⟨_, _, _, _, _, _, _, rfl, _⟩ := h; rfl) | (obtain ⟨_, _, _, _, _, _, _, _, rfl, _⟩ := h; rfl) | (obtain ⟨_, _, _, _, _, _, _, _, _, rfl, _⟩ := h; rfl) | (obtain ⟨_, _, _, _, _, _, _, _, _, _, rfl, _⟩ := h; rfl) | (obtain ⟨_, _, _, _, _, _, _, _, _, _, _, rfl, _⟩ := h; rfl)
  · have nd := scRight31.nd
    obtain ⟨a, ns, lap, D, rfl, hA, hw, b1, b2, hD, hx, q⟩ := h
    refine ⟨_, pss_cons (ps_set (i := 2) nd rfl (.inl rfl) (pe_call GO hr (by rfl) gO kO bO .nil pass0 (pa_cons (pv 0) (pa_cons (pv 1) pa_nil))))
      (pss_cons (ps_for PassesOwn.never rfl (pi_range1 rfl T.range (pa_cons (pe_callB (call_min2 rfl) (by rfl) T.min (by decide +kernel) (pa_cons (pv 2) (pa_cons pe_int pa_nil))) pa_nil)) (pg_name (i := 3) nd rfl (.inl rfl))
        (pss_cons (ps_set (i := 4) nd rfl (.inl rfl) (pe_call GL hr (by rfl) gL kL bL .nil pass0 (pa_cons (pv 0) (pa_cons (pv 1) (pa_cons (pv 3) (pa_cons (pe_op op_add (pe_op op_add (pe_op op_mul pe_int (pv 1)) (pv 3)) pe_int) pa_nil))))))
        (pss_cons (ps_set (i := 5) nd rfl (.inl rfl) (pe_call GD hr (by rfl) gD kD bD .nil pass0 (pa_cons (pv 4) (pa_cons (pe_op op_add (pv 3) pe_int) pa_nil))))
        (pss_cons (ps_if (pt_cmpR (op_neLI hr.units) (pv 5) (pe_op op_rep (pe_lst (pa_cons pe_int pa_nil)) (pe_callB call_len_seq (by rfl) T.len PySem.boot_len (pa_cons (pv 5) pa_nil))) (nomark _)) (pss_one (ps_ret pe_bl)) pss_nil)
        (pss_cons (ps_set (i := 6) nd rfl (.inl rfl) (pe_call GM hr (by rfl) gM kM bM .nil pass0 (pa_cons (pv 0) (pa_cons (pv 1) (pa_cons (pv 3) pa_nil)))))
        (pss_one (ps_if (pt_cmpR (op_neLI hr.units) (pv 6) (pe_op op_rep (pe_lst (pa_cons (pe_ix ix_list (pv 6) pe_int (fun _ _ => rfl)) pa_nil)) (pv 1)) (nomark _)) (pss_one (ps_ret pe_bl)) pss_nil)))))))
      (pss_cons (ps_set (i := 6) nd rfl (.inl rfl) (pe_call GM hr (by rfl) gM kM bM .nil pass0 (pa_cons (pv 0) (pa_cons (pv 1) (pa_cons (pe_callB (call_min2 rfl) (by rfl) T.min (by decide +kernel) (pa_cons (pv 2) (pa_cons pe_int pa_nil))) pa_nil)))))
      (pss_one (ps_ret (pe_or (pe_cmpR op_gt (pv 2) pe_int (nomark _)) (pe_one (pe_cmpR (op_neLI hr.units) (pv 6) (pe_op op_rep (pe_lst (pa_cons (pe_ix ix_list (pv 6) pe_int (fun _ _ => rfl)) pa_nil)) (pv 1)) (nomark _)))))))), ?_⟩
    have w2 := hw.2.1
    refine ⟨_, rfl, _, rfl, a, ns, lap, D, rfl, hA, hw, b1, by omega, hD, fun H1 s1 => ?_⟩
    have em : (if (6 : Int) < (D : Int) then (6 : Int) else (D : Int)) = ((min D 6 : Nat) : Int) := by
      split <;> omega
    have em2 : (if (20 : Int) < (D : Int) then (20 : Int) else (D : Int)) = ((min D 20 : Nat) : Int) := by
      split <;> omega
    refine ⟨_, rfl, _, _, rfl, ((min D 6 : Nat) : Int), congrArg (fun z => [V.int z]) em, by omega, by omega, ?_⟩
    rw [Int.toNat_natCast]
    refine for_range (lo := 0) (n := min D 6) (fun i σ H' => ∃ y3 y4 y5 y6, σ = [some (.ref a), some (.int (lap : Int)), some (nI D), y3, y4, y5, y6] ∧ Same H H') ⟨none, none, none, none, rfl, s1⟩ ?_ ?_
    · rintro i σ H2 hi ⟨y3, y4, y5, y6, rfl, s2⟩
      rw [Int.zero_add]
      have hev := hD.2 i (by omega)
      refine ⟨_, rfl, _, rfl, _, rfl, _, rfl, _, _, rfl, rfl, .inl ⟨by decide, by decide⟩, _, rfl, _, _, rfl, rfl, _, _, rfl, rfl, a, ns, lap, i, 3 * lap + i + 2, congrArg (fun z => [V.ref a, V.int (lap : Int), V.int (i : Int), V.int z]) (by omega), s2 _ _ hA, w2, by omega, by omega, by omega, by omega, hx, fun H3 q3 s3 q30 hq3 => ?_⟩
      refine ⟨_, rfl, _, rfl, _, _, rfl, rfl, q3, 3 * lap + i + 2, i + 1, Tpq ns lap i 0, rfl, hq3, by omega, by omega, by omega, fun H4 q4 s4 hq4 => ?_⟩
      have e4 : tab (3 * lap + i + 2 - (i + 1)) (difs (i + 1) (Tpq ns lap i 0)) = List.replicate (3 * lap + 1) 0 := by
        rw [show 3 * lap + i + 2 - (i + 1) = 3 * lap + 1 by omega]
        exact tab_rep fun k _ => T_ord (by omega) hD (by omega) k
      rw [e4] at hq4
      have s24 := (s2.trans s3).trans s4
      refine ⟨_, rfl, small_len (by show 1 ≤ 1000; decide), fun l hl => ?_⟩
      refine ⟨_, rfl, q4, _, rfl, .inl (SqL.of (same_upd hl _ _ hq4)), l, _, [.int 0], rfl, rfl, upd_same, ?_⟩
      rw [List.length_map, List.length_replicate]
      refine ⟨by omega, by omega, rep_size (by omega), fun p hp => ?_⟩
      rw [repN]
      have s25 := (s24.trans (same_upd hl)).trans (same_upd (o := .lst ((List.replicate (3 * lap + 1) (0 : Int)).map V.int)) hp)
      refine ⟨q4, p, _, _, rfl, rfl, SqL.of (same_upd hp _ _ (same_upd hl _ _ hq4)), SqL.of upd_same, _, rfl, iteNS rfl ?_⟩
      refine ⟨_, rfl, _, rfl, _, rfl, a, ns, lap, i, rfl, s25 _ _ hA, hw, by omega, by omega, by omega, fun H5 x s5 x0 hx5 => ?_⟩
      have e5 : tab lap (restS (powN ns i) lap) = List.replicate lap (restS (powN ns i) lap 0) := tab_flat fun r hr => evenB_iff.mp hev r hr
      rw [e5] at hx5
      have g0 : ((List.replicate lap (restS (powN ns i) lap 0)).map V.int)[0]? = some (.int (restS (powN ns i) lap 0)) := by
        rw [List.map_replicate, List.getElem?_replicate, if_pos (by omega)]
      generalize restS (powN ns i) lap 0 = v at *
      refine ⟨_, rfl, _, rfl, x, _, _, _, rfl, rfl, SqL.of hx5, atI_nat (j := 0) g0, small_len (by show 1 ≤ 1000; decide), fun l2 hl2 => ?_⟩
      refine ⟨_, rfl, l2, _, [.int v], rfl, rfl, upd_same, by omega, by omega, rep_size (by omega), fun p2 hp2 => ?_⟩
      rw [repN]
      have s6 := ((s25.trans s5).trans (same_upd (o := .lst [.int v]) hl2)).trans (same_upd (o := .lst ((List.replicate lap v).map V.int)) hp2)
      refine ⟨x, p2, _, _, rfl, rfl, SqL.of (same_upd hp2 _ _ (same_upd hl2 _ _ hx5)), SqL.of upd_same, _, rfl, iteNS rfl ?_⟩
      exact ⟨_, _, _, _, rfl, s6⟩
    · rintro σ H2 ⟨y3, y4, y5, y6, rfl, s2⟩
      refine ⟨_, rfl, _, rfl, _, rfl, _, _, rfl, a, ns, lap, min D 20, congrArg (fun z => [V.ref a, V.int (lap : Int), V.int z]) em2, s2 _ _ hA, hw, by omega, by omega, by omega, fun H3 x s3 x0 hx3 => ?_⟩
      refine ⟨_, rfl, _, _, rfl, rfl, ?_⟩
      by_cases c : (20 : Int) < (D : Int)
      · exact ⟨_, rfl, iteD c (q _ (s2.trans s3))⟩
      · rw [show min D 20 = D by omega] at hx3
        have g0 : ((tab lap (restS (powN ns D) lap)).map V.int)[0]? = some (.int (restS (powN ns D) lap 0)) := by
          rw [tab_map, tab_get _ (by omega)]
        have ne := tab_not_flat hD.1
        refine ⟨_, rfl, iteDF c ?_⟩
        refine ⟨_, rfl, _, rfl, x, _, _, _, rfl, rfl, SqL.of hx3, atI_nat (j := 0) g0, small_len (by show 1 ≤ 1000; decide), fun l2 hl2 => ?_⟩
        refine ⟨_, rfl, l2, _, [.int _], rfl, rfl, upd_same, by omega, by omega, rep_size (by omega), fun p2 hp2 => ?_⟩
        rw [repN]
        have s6 := ((s2.trans s3).trans (same_upd (o := .lst [.int (restS (powN ns D) lap 0)]) hl2)).trans (same_upd (o := .lst ((List.replicate lap (restS (powN ns D) lap 0)).map V.int)) hp2)
        refine ⟨x, p2, _, _, rfl, rfl, SqL.of (same_upd hp2 _ _ (same_upd hl2 _ _ hx3)), SqL.of upd_same, ?_⟩
        rw [decide_eq_false ne]
        exact q _ s6
end
end Wd

namespace Wd
open PySem PySem.Spec PyProof.Rows L2 XR Mth GL
section
variable {P : Program} {w : World} {K : PySem.W.Frag} {mg : Str → Option Value} {base : Heap}
def spLaw (K : PySem.W.Frag) : Sp := fun vs H Q _ => ∃ (a : Addr) (ns : List Int), vs = [.ref a] ∧ SqL K H a (ns.map V.int) ∧ ns.length ≤ 63 ∧ ∀ H', Q (.bl true) H'
theorem scLaw31 : FnScope ["script", "k", "jar", "turn", "one", "lap", "made", "again"] ["script"] (defScope sLaw) := ⟨rfl, rfl, rfl, by decide +kernel, rfl, by decide +kernel, by decide +kernel⟩
theorem ok_law {f fJ fD fM fR fP fO : Addr} {fd fdJ fdD fdM fdR fdP fdO : FuncData} {k : Nat} (F : Fun K "law" "law" sLaw f fd) (T : Txt K mg)
    (GJ : FnOk P w K mg base CX0 k fJ fdJ ["script", "k"] (spJar K)) (gJ : mg "_law_jar" = some (.ref fJ)) (kJ : PySem.W.keepIn K (.ref fJ) = true) (bJ : Binds K fdJ ["script", "k"] [])
    (GD : FnOk P w K mg base CX0 k fD fdD ["jar", "many"] spDip) (gD : mg "_law_dip" = some (.ref fD)) (kD : PySem.W.keepIn K (.ref fD) = true) (bD : Binds K fdD ["jar", "many"] [])
    (GM : FnOk P w K mg base CX0 k fM fdM ["jar", "longest", "size"] spMade) (gM : mg "_law_made" = some (.ref fM)) (kM : PySem.W.keepIn K (.ref fM) = true) (bM : Binds K fdM ["jar", "longest", "size"] [])
    (GR : FnOk P w K mg base CX0 k fR fdR ["one", "lap"] spRight31) (gR : mg "_law_right" = some (.ref fR)) (kR : PySem.W.keepIn K (.ref fR) = true) (bR : Binds K fdR ["one", "lap"] [])
    (GP : FnOk P w K mg base CX0 k fP fdP ["window", "other"] spProduct) (gP : mg "product_of" = some (.ref fP)) (kP : PySem.W.keepIn K (.ref fP) = true) (bP : Binds K fdP ["window", "other"] [])
    (GO : FnOk P w K mg base CX0 k fO fdO ["window", "hop"] spOrderAt) (gO : mg "order_at" = some (.ref fO)) (kO : PySem.W.keepIn K (.ref fO) = true) (bO : Binds K fdO ["window", "hop"] []) :
    FnOk P w K mg base CX0 (k + 1) f fd ["script"] (spLaw K) := by
  refine F.ok scLaw31 (fun vs H Q E h => ?_) (fun cdv A outer s H vs Q E hr h => ?_)
  · first | (obtain ⟨_, rfl, _⟩ := h; rfl) | (obtain ⟨_, _, rfl, _⟩ := h; rfl) | (obtain ⟨_, _, _, rfl, _⟩ := h; rfl) | (obtain ⟨_, _, _, _, rfl, _⟩ := h; rfl) | (obtain ⟨_, _, _, _, _, rfl, _⟩ := h; rfl) | (obtain ⟨_, _, _, _, _, _, rfl, _⟩ := h; rfl) | (obtain ⟨_, _, _, _, _, _, _, rfl, _⟩ := h; rfl) | (obtain ⟨_, _, _, _, _, _, _, _, rfl, _⟩ := h; rfl) | (obtain ⟨_, _, _, _, _, _, _, _, _, rfl, _⟩ := h; rfl) | (obtain ⟨_, _, _, _, _, _, _, _, _, _, rfl, _⟩ := h; rfl) | (obtain ⟨_, _, _, _, _, _, _, _, _, _, _, rfl, _⟩ := h; rfl)
  · have nd := scLaw31.nd
    obtain ⟨a, ns, rfl, hA, hlen, q⟩ := h
    refine ⟨_, pss_cons (ps_for PassesOwn.never rfl (pi_range1 rfl T.range (pa_cons (pe_callB (call_max2 rfl) (by rfl) T.max (by decide +kernel) (pa_cons pe_int (pa_cons (pe_callB (call_min2 rfl) (by rfl) T.min (by decide +kernel) (pa_cons pe_int (pa_cons (pe_callB call_len_seq (by rfl) T.len PySem.boot_len (pa_cons (pv 0) pa_nil)) pa_nil))) pa_nil))) pa_nil)) (pg_name (i := 1) nd rfl (.inl rfl))
        (pss_cons (ps_set (i := 2) nd rfl (.inl rfl) (pe_call GJ hr (by rfl) gJ kJ bJ .nil pass0 (pa_cons (pv 0) (pa_cons (pv 1) pa_nil))))
        (pss_one (ps_for PassesOwn.never rfl (pi_range1 rfl T.range (pa_cons pe_int pa_nil)) (pg_name (i := 3) nd rfl (.inl rfl))
          (pss_cons (ps_set (i := 4) nd rfl (.inl rfl) (pe_call GM hr (by rfl) gM kM bM .nil pass0 (pa_cons (pv 2) (pa_cons pe_int (pa_cons (pe_ix ix_list (pe_lst (pa_cons pe_int (pa_cons (pe_op op_pow pe_int pe_int) pa_nil))) (pe_call GD hr (by rfl) gD kD bD .nil pass0 (pa_cons (pv 2) (pa_cons pe_int pa_nil))) (fun _ _ => rfl)) pa_nil)))))
          (pss_cons (ps_for PassesOwn.never rfl (pi_tup (pe_tup (pa_cons pe_int (pa_cons pe_int (pa_cons pe_int (pa_cons pe_int (pa_cons (pe_op op_add pe_int (pe_call GD hr (by rfl) gD kD bD .nil pass0 (pa_cons (pv 2) (pa_cons pe_int pa_nil)))) pa_nil))))))) (pg_name (i := 5) nd rfl (.inl rfl))
            (pss_one (ps_if (pt_not (pt_val (pe_call GR hr (by rfl) gR kR bR .nil pass0 (pa_cons (pv 4) (pa_cons (pv 5) pa_nil))))) pss_never pss_nil)))
          (pss_cons (ps_set (i := 5) nd rfl (.inl rfl) (pe_ix ix_list (pe_lst (pa_cons (pe_op op_add pe_int (pe_call GD hr (by rfl) gD kD bD .nil pass0 (pa_cons (pv 2) (pa_cons pe_int pa_nil)))) (pa_cons (pe_op op_add pe_int (pe_call GD hr (by rfl) gD kD bD .nil pass0 (pa_cons (pv 2) (pa_cons pe_int pa_nil)))) pa_nil))) (pe_call GD hr (by rfl) gD kD bD .nil pass0 (pa_cons (pv 2) (pa_cons pe_int pa_nil))) (fun _ _ => rfl)))
          (pss_cons (ps_set (i := 6) nd rfl (.inl rfl) (pe_op op_rep (pe_lst (pa_cons pe_int pa_nil)) (pv 5)))
          (pss_cons (ps_for PassesOwn.never rfl (pi_range1 rfl T.range (pa_cons (pe_call GD hr (by rfl) gD kD bD .nil pass0 (pa_cons (pv 2) (pa_cons (pe_ifExp (pt_cmpR op_lt (pv 5) pe_int (nomark _)) pe_int pe_int) pa_nil))) pa_nil)) (pg_name (i := 7) nd rfl (.inl rfl))
            (pss_one (ps_set (i := 6) nd rfl (.inl rfl) (pe_call GP hr (by rfl) gP kP bP .nil pass0 (pa_cons (pv 6) (pa_cons (pe_op op_rep (pe_lst (pa_cons pe_int pa_nil)) (pv 5)) pa_nil))))))
          (pss_one (ps_if (PW.pt (pw_or (pt_not (pt_val (pe_call GR hr (by rfl) gR kR bR .nil pass0 (pa_cons (pv 6) (pa_cons (pv 5) pa_nil))))) (pw_or1 (pt_cmpR op_ne (pe_op op_mulOk (pe_call GO hr (by rfl) gO kO bO .nil pass0 (pa_cons (pv 6) (pa_cons (pv 5) pa_nil))) (pe_op op_sub (pv 5) pe_int)) (pe_op op_sub (pe_callB call_len_seq (by rfl) T.len PySem.boot_len (pa_cons (pv 6) pa_nil)) pe_int) (nomark _))))) pss_never pss_nil)))))))))))
      (pss_one (ps_ret pe_bl)), ?_⟩
    refine ⟨_, rfl, a, _, rfl, .inl hA, _, _, rfl, _, _, rfl, ?_⟩
    have em : (if (if (((ns.map V.int).length : Nat) : Int) < 5 then (((ns.map V.int).length : Nat) : Int) else 5) > 1 then (if (((ns.map V.int).length : Nat) : Int) < 5 then (((ns.map V.int).length : Nat) : Int) else 5) else 1) = ((max 1 (min 5 ns.length) : Nat) : Int) := by
      rw [List.length_map]
      split <;> split <;> omega
    refine ⟨((max 1 (min 5 ns.length) : Nat) : Int), congrArg (fun z => [V.int z]) em, by omega, by omega, ?_⟩
    rw [Int.toNat_natCast]
    refine for_range (lo := 0) (n := max 1 (min 5 ns.length)) (fun i σ H' => ∃ y1 y2 y3 y4 y5 y6 y7, σ = [some (.ref a), y1, y2, y3, y4, y5, y6, y7] ∧ SqL K H' a (ns.map V.int)) ⟨none, none, none, none, none, none, none, rfl, hA⟩ ?_ ?_
    · rintro i σ H' hi ⟨y1, y2, y3, y4, y5, y6, y7, rfl, hA'⟩
      rw [Int.zero_add]
      refine ⟨_, rfl, _, rfl, a, ns, i, rfl, hA', by omega, fun H1 j s1 j0 J1 => ?_⟩
      have hS : ∀ H2, SameBut j H1 H2 → SqL K H2 a (ns.map V.int) := fun H2 s2 => seq_new hA' j0 ((SameBut.of s1).trans s2)
      refine ⟨_, rfl, by decide, by decide, ?_⟩
      refine for_range (lo := 0) (n := 2) (fun t σ H' => ∃ y3 y4 y5 y6 y7, σ = [some (.ref a), some (.int (i : Int)), some (.ref j), y3, y4, y5, y6, y7] ∧ SameBut j H1 H' ∧ Jar H' j (t * 1000)) ⟨_, _, _, _, _, rfl, SameBut.refl _ _, J1⟩ ?_ ?_
      · rintro t σ H2 ht ⟨y3, y4, y5, y6, y7, rfl, sb2, J2⟩
        refine ⟨_, rfl, _, _, rfl, rfl, ⟨by decide, by decide, by decide⟩, small_len (by show 2 ≤ 1000; decide), fun u hu => ?_⟩
        have nuj : u ≠ j := J2.free_ne hu
        refine ⟨_, rfl, j, _, 2, rfl, J2.upd nuj.symm, by omega, by decide, b300 (by decide), fun H3 e s3 J3 he => ?_⟩
        obtain ⟨sz, hsz, hsz2⟩ := pick2 3 (10 ^ 20) he
        refine ⟨u, _, _, _, rfl, rfl, SqL.of (s3 _ _ nuj upd_same), atI_nat hsz, ?_⟩
        have z2 : sz ≤ 2 ^ 67 := by omega
        refine ⟨j, _, 30, sz, rfl, J3, by omega, by omega, by omega, by omega, Nat.lt_of_le_of_lt z2 (by decide), fun H4 p xs s4 p0 hp J4 x1 x2 x3 bx => ?_⟩
        have sb4 : SameBut j H1 H4 := ((sb2.trans (SameBut.of (same_upd hu))).trans s3).trans s4
        have npj : p ≠ j := J3.free_ne p0
        have wx : Win xs := ⟨x1, by omega, x3⟩
        have bx' : ∀ x ∈ xs, x.natAbs < 2 ^ 1000 := fun x hx => Nat.lt_of_le_of_lt (Nat.le_trans (bx x hx) (Nat.mul_le_mul_right _ z2)) (by decide)
        refine ⟨_, rfl, j, _, 9, rfl, J4, by omega, by decide, b300 (by decide), fun H5 d s5 J5 hd => ⟨_, _, rfl, rfl, small_len (by show 5 ≤ 1000; decide), fun tp htp => ?_⟩⟩
        have hp5 := s5 _ _ npj hp
        have ntj := J5.free_ne htp
        refine ⟨tp, rfl, ⟨_, SqT.of upd_same⟩, ?_⟩
        refine for_tup (K := K) (a := tp) (xs := [V.int 2, .int 3, .int 4, .int 6, .int (2 + (d : Int))]) (fun i' σ H' => ∃ y5, σ = [some (.ref a), some (.int (i : Int)), some (.ref j), some (.int (0 + (t : Int))), some (.ref p), y5, y6, y7] ∧ Same (upd H5 tp (.tup [V.int 2, .int 3, .int 4, .int 6, .int (2 + (d : Int))])) H') ⟨y5, rfl, Same.refl _⟩ (fun i σ H' _ ⟨_, _, s⟩ => SqT.of (s _ _ upd_same)) ?_ ?_
        · rintro i' x σ H6 hi' ⟨y5, rfl, s6⟩
          obtain ⟨L, rfl, L1, L2⟩ : ∃ L : Nat, x = .int (L : Int) ∧ 2 ≤ L ∧ L ≤ 10 := by
            have hm := List.mem_of_getElem? hi'
            simp only [List.mem_cons, List.not_mem_nil, or_false] at hm
            rcases hm with rfl | rfl | rfl | rfl | rfl
            · exact ⟨2, rfl, by decide, by decide⟩
            · exact ⟨3, rfl, by decide, by decide⟩
            · exact ⟨4, rfl, by decide, by decide⟩
            · exact ⟨6, rfl, by decide, by decide⟩
            · exact ⟨2 + d, congrArg V.int (by omega), by omega, by omega⟩
          obtain ⟨D, hDl, hD⟩ := ord_ex x3 L1
          exact ⟨_, rfl, _, rfl, p, xs, L, D, rfl, s6 _ _ (same_upd htp _ _ hp5), wx, L1, by omega, hD, bx', fun H7 s7 => ⟨true, rfl, iteF ⟨_, rfl, s6.trans s7⟩⟩⟩
        · rintro σ H6 ⟨y5', rfl, s6⟩
          have J6 := (J5.upd ntj.symm).same s6
          have sb6 : SameBut j H1 H6 := sb_same ((sb4.trans s5).trans (SameBut.of (same_upd htp))) s6
          refine ⟨_, rfl, j, _, 5, rfl, J6, by omega, by decide, b300 (by decide), fun H7 d1 s7 J7 h1 => ⟨_, _, rfl, rfl, _, rfl, j, _, 58, rfl, J7, by omega, by decide, b300 (by decide), fun H8 d2 s8 J8 h2 => ⟨_, _, rfl, rfl, small_len (by show 2 ≤ 1000; decide), fun u2 hu2 => ?_⟩⟩⟩
          have nu2 : u2 ≠ j := J8.free_ne hu2
          refine ⟨_, rfl, j, _, 2, rfl, J8.upd nu2.symm, by omega, by decide, b300 (by decide), fun H9 e2 s9 J9 he2 => ?_⟩
          obtain ⟨lap, hlap, hl1, hl2⟩ : ∃ lap : Nat, ([V.int (2 + (d1 : Int)), .int (2 + (d2 : Int))] : List V)[e2]? = some (V.int (lap : Int)) ∧ 2 ≤ lap ∧ lap ≤ 59 := by
            have : e2 = 0 ∨ e2 = 1 := by omega
            rcases this with e | e <;> subst e
            · exact ⟨2 + d1, congrArg (fun z => some (V.int z)) (by omega), by omega, by omega⟩
            · exact ⟨2 + d2, congrArg (fun z => some (V.int z)) (by omega), by omega, by omega⟩
          refine ⟨u2, _, _, _, rfl, rfl, SqL.of (s9 _ _ nu2 upd_same), atI_nat hlap, ?_⟩
          refine ⟨small_len (by show 1 ≤ 1000; decide), fun l hl => ?_⟩
          refine ⟨_, rfl, l, _, [.int 1], rfl, rfl, upd_same, by omega, by omega, rep1_size (by omega), fun m0 hm0 => ?_⟩
          rw [repN]
          have nlj : l ≠ j := J9.free_ne hl
          have nmj : m0 ≠ j := (J9.upd nlj.symm).free_ne hm0
          have J10 := (J9.upd (o := .lst [.int 1]) nlj.symm).upd (o := .lst ((List.replicate lap (1 : Int)).map V.int)) nmj.symm
          have sb10 : SameBut j H1 (upd (upd H9 l (.lst [.int 1])) m0 (.lst ((List.replicate lap (1 : Int)).map V.int))) := ((((sb6.trans s7).trans s8).trans (SameBut.of (same_upd hu2))).trans s9).trans ((SameBut.of (same_upd hl)).trans (SameBut.of (same_upd hm0)))
          refine ⟨_, rfl, _, rfl, _, _, rfl, rfl, _, rfl, ?_⟩
          by_cases c9 : (lap : Int) < 9
          · refine iteD c9 ?_
            refine ⟨j, _, 4, rfl, J10, by omega, by decide, b300 (by decide), fun H11 g s11 J11 hg => ?_⟩
            refine ⟨(g : Int), rfl, by omega, by omega, ?_⟩
            rw [Int.toNat_natCast]
            have hm11 := s11 _ _ nmj upd_same
            have hfl : ∀ i, i < 4 → (fp lap i).length ≤ 120 := fun i hi => by
              rw [fp_len (by omega)]
              have : (i + 1) * (lap - 1) ≤ 4 * 7 := Nat.mul_le_mul (by omega) (by omega)
              omega
            have win : ∀ i, i < 4 → Win (fp lap i) := fun i hi => ⟨by rw [fp_len (by omega)]; omega, by have := hfl i hi; omega, fp_any (by omega) i⟩
            refine for_range (lo := 0) (n := g) (fun i' σ H' => ∃ u y7, σ = [some (.ref a), some (.int (i : Int)), some (.ref j), some (.int (0 + (t : Int))), some (.ref p), some (.int (lap : Int)), some (.ref u), y7] ∧ Same H11 H' ∧ H' u = some (.lst ((fp lap i').map V.int))) ⟨m0, y7, rfl, Same.refl _, hm11⟩ ?_ ?_
            · rintro i' σ H12 hi' ⟨u4, y7, rfl, s12, hu4⟩
              refine ⟨_, rfl, small_len (by show 1 ≤ 1000; decide), fun l4 hl4 => ?_⟩
              refine ⟨_, rfl, l4, _, [.int 1], rfl, rfl, upd_same, by omega, by omega, rep1_size (by omega), fun w4 hw4 => ?_⟩
              rw [repN]
              have hu5 := same_upd hw4 (o := .lst ((List.replicate lap (1 : Int)).map V.int)) _ _ (same_upd hl4 (o := .lst [.int 1]) _ _ hu4)
              refine ⟨u4, w4, fp lap i', List.replicate lap 1, rfl, hu5, upd_same, win i' (by omega), ⟨by rw [List.length_replicate]; omega, by rw [List.length_replicate]; omega, fp_any (by omega) 0⟩, by rw [List.length_replicate]; have := hfl i' (by omega); omega, fun x _ y hy => by rw [(List.mem_replicate.mp hy).2]; exact mulOk_small x (by decide) (by decide), fun H13 z s13 z0 hz => ?_⟩
              exact ⟨z, _, rfl, ((s12.trans (same_upd hl4)).trans (same_upd hw4)).trans s13, hz⟩
            · rintro σ H12 ⟨u4, y7, rfl, s12, hu4⟩
              have od : IsOrd (fp lap g) lap (g + 1) := fp_ord (by omega) (by omega)
              have bnd : ∀ x ∈ fp lap g, x.natAbs < 2 ^ 1000 := fun x hx => Nat.lt_of_le_of_lt (fp_le (by omega) (by omega) g (by omega) x hx) (Nat.lt_of_le_of_lt (Nat.pow_le_pow_right (by decide) (show g ≤ 3 by omega)) (by decide))
              refine ⟨_, rfl, _, rfl, u4, fp lap g, lap, g + 1, rfl, hu4, win g hg, by omega, by omega, od, bnd, fun H14 s14 => ⟨true, rfl, iteF ?_⟩⟩
              refine ⟨_, rfl, _, rfl, u4, fp lap g, lap, g + 1, rfl, s14 _ _ hu4, win g hg, by omega, by omega, od, fun H15 s15 => ?_⟩
              refine ⟨_, rfl, _, _, rfl, rfl, _, _, rfl, rfl, (show CMul (((g + 1 : Nat)) : Int) ((lap : Int) - 1) from .inl ⟨by omega, by omega⟩).ok, _, rfl, u4, _, rfl, .inl (SqL.of (s15 _ _ (s14 _ _ hu4))), _, _, rfl, rfl, rfl, _, rfl, iteNS (congrArg V.int ?_) ?_⟩
              · have e9 : (((g + 1 : Nat) : Int)) * ((lap : Int) - 1) = (((g + 1) * (lap - 1) : Nat) : Int) := by
                  rw [Int.natCast_mul, Int.natCast_sub (by omega)]
                  rfl
                rw [List.length_map, fp_len (by omega)]
                show (((g + 1 : Nat) : Int)) * ((lap : Int) - 1) = (((g + 1) * (lap - 1) + 1 : Nat) : Int) - 1
                rw [e9]
                omega
              · refine ⟨_, _, _, _, _, rfl, ?_, J11.same ((s12.trans s14).trans s15) |>.mono (by omega)⟩
                exact sb_same (sb10.trans s11) ((s12.trans s14).trans s15)
          · refine iteDF c9 ?_
            refine ⟨j, _, 2, rfl, J10, by omega, by decide, b300 (by decide), fun H11 g s11 J11 hg => ?_⟩
            refine ⟨(g : Int), rfl, by omega, by omega, ?_⟩
            rw [Int.toNat_natCast]
            have hm11 := s11 _ _ nmj upd_same
            have hfl : ∀ i, i < 2 → (fp lap i).length ≤ 120 := fun i hi => by
              rw [fp_len (by omega)]
              have : (i + 1) * (lap - 1) ≤ 2 * 58 := Nat.mul_le_mul (by omega) (by omega)
              omega
            have win : ∀ i, i < 2 → Win (fp lap i) := fun i hi => ⟨by rw [fp_len (by omega)]; omega, by have := hfl i hi; omega, fp_any (by omega) i⟩
            refine for_range (lo := 0) (n := g) (fun i' σ H' => ∃ u y7, σ = [some (.ref a), some (.int (i : Int)), some (.ref j), some (.int (0 + (t : Int))), some (.ref p), some (.int (lap : Int)), some (.ref u), y7] ∧ Same H11 H' ∧ H' u = some (.lst ((fp lap i').map V.int))) ⟨m0, y7, rfl, Same.refl _, hm11⟩ ?_ ?_
            · rintro i' σ H12 hi' ⟨u4, y7, rfl, s12, hu4⟩
              refine ⟨_, rfl, small_len (by show 1 ≤ 1000; decide), fun l4 hl4 => ?_⟩
              refine ⟨_, rfl, l4, _, [.int 1], rfl, rfl, upd_same, by omega, by omega, rep1_size (by omega), fun w4 hw4 => ?_⟩
              rw [repN]
              have hu5 := same_upd hw4 (o := .lst ((List.replicate lap (1 : Int)).map V.int)) _ _ (same_upd hl4 (o := .lst [.int 1]) _ _ hu4)
              refine ⟨u4, w4, fp lap i', List.replicate lap 1, rfl, hu5, upd_same, win i' (by omega), ⟨by rw [List.length_replicate]; omega, by rw [List.length_replicate]; omega, fp_any (by omega) 0⟩, by rw [List.length_replicate]; have := hfl i' (by omega); omega, fun x _ y hy => by rw [(List.mem_replicate.mp hy).2]; exact mulOk_small x (by decide) (by decide), fun H13 z s13 z0 hz => ?_⟩
              exact ⟨z, _, rfl, ((s12.trans (same_upd hl4)).trans (same_upd hw4)).trans s13, hz⟩
            · rintro σ H12 ⟨u4, y7, rfl, s12, hu4⟩
              have od : IsOrd (fp lap g) lap (g + 1) := fp_ord (by omega) (by omega)
              have bnd : ∀ x ∈ fp lap g, x.natAbs < 2 ^ 1000 := fun x hx => Nat.lt_of_le_of_lt (fp_le (by omega) (by omega) g (by omega) x hx) (Nat.lt_of_le_of_lt (Nat.pow_le_pow_right (by decide) (show g ≤ 3 by omega)) (by decide))
              refine ⟨_, rfl, _, rfl, u4, fp lap g, lap, g + 1, rfl, hu4, win g hg, by omega, by omega, od, bnd, fun H14 s14 => ⟨true, rfl, iteF ?_⟩⟩
              refine ⟨_, rfl, _, rfl, u4, fp lap g, lap, g + 1, rfl, s14 _ _ hu4, win g hg, by omega, by omega, od, fun H15 s15 => ?_⟩
              refine ⟨_, rfl, _, _, rfl, rfl, _, _, rfl, rfl, (show CMul (((g + 1 : Nat)) : Int) ((lap : Int) - 1) from .inl ⟨by omega, by omega⟩).ok, _, rfl, u4, _, rfl, .inl (SqL.of (s15 _ _ (s14 _ _ hu4))), _, _, rfl, rfl, rfl, _, rfl, iteNS (congrArg V.int ?_) ?_⟩
              · have e9 : (((g + 1 : Nat) : Int)) * ((lap : Int) - 1) = (((g + 1) * (lap - 1) : Nat) : Int) := by
                  rw [Int.natCast_mul, Int.natCast_sub (by omega)]
                  rfl
                rw [List.length_map, fp_len (by omega)]
                show (((g + 1 : Nat) : Int)) * ((lap : Int) - 1) = (((g + 1) * (lap - 1) + 1 : Nat) : Int) - 1
                rw [e9]
                omega
              · refine ⟨_, _, _, _, _, rfl, ?_, J11.same ((s12.trans s14).trans s15) |>.mono (by omega)⟩
                exact sb_same (sb10.trans s11) ((s12.trans s14).trans s15)
      · rintro σ H2 ⟨y3, y4, y5, y6, y7, rfl, sb2, J2⟩
        exact ⟨_, _, _, _, _, _, _, rfl, hS _ sb2⟩
    · rintro σ H' ⟨y1, y2, y3, y4, y5, y6, y7, rfl, hA'⟩
      exact q H'
end
end Wd

namespace Wd
open PySem PySem.Spec PyProof.Rows L2 XR Mth GL

theorem all_mk {l : PySem.W.OpenLaw} {w : World} {K : PySem.W.Frag} {h : Heap} {mg : Str → Option Value} {fa : Addr} (X : K.In h) (G : h.Ns mainGlobals mg) (hfa : mg "law" = some (.ref fa))
    {od1 an1 : Option Addr} {sl1 : Array (Option Value)} {oc1 kV1 dc1 pm1 cd1 ct1 : Value} {f1 : Addr}
    (a1 : PySem.W.nsIn K mainGlobals "is_integer" = some (some (.ref f1))) (l1 : K.lookup f1 = some ⟨oc1, od1, .func (PySem.W.fnOf "is_integer" "is_integer" (defArgs sIsInt) (defBody sIsInt) (defScope sIsInt) .none kV1 dc1 pm1 an1 cd1 ct1), sl1⟩) (c1 : PySem.W.codeIn K cd1 "is_integer" = true) (k1 : PySem.W.keepIn K (.ref f1) = true)
    {od2 an2 : Option Addr} {sl2 : Array (Option Value)} {oc2 kV2 dc2 pm2 cd2 ct2 : Value} {f2 : Addr}
    (a2 : PySem.W.nsIn K mainGlobals "is_within" = some (some (.ref f2))) (l2 : K.lookup f2 = some ⟨oc2, od2, .func (PySem.W.fnOf "is_within" "is_within" (defArgs sWithin) (defBody sWithin) (defScope sWithin) .none kV2 dc2 pm2 an2 cd2 ct2), sl2⟩) (c2 : PySem.W.codeIn K cd2 "is_within" = true) (k2 : PySem.W.keepIn K (.ref f2) = true)
    {od3 an3 : Option Addr} {sl3 : Array (Option Value)} {oc3 kV3 dc3 pm3 cd3 ct3 : Value} {f3 : Addr} {T3 : Addr} {ocT3 : Value} {odT3 : Option Addr} {nT3 : Nat} {tT3_0 : Tok} {slT3 : Array (Option Value)}
    (a3 : PySem.W.nsIn K mainGlobals "is_integer_list" = some (some (.ref f3))) (l3 : K.lookup f3 = some ⟨oc3, od3, .func (PySem.W.fnOf "is_integer_list" "is_integer_list" (defArgs sIsList) (defBody sIsList) (defScope sIsList) (.ref T3) kV3 dc3 pm3 an3 cd3 ct3), sl3⟩) (c3 : PySem.W.codeIn K cd3 "is_integer_list" = true) (k3 : PySem.W.keepIn K (.ref f3) = true)
    (lT3 : K.lookup T3 = some ⟨ocT3, odT3, .seq #[.int 1 tT3_0] nT3, slT3⟩)
    {od4 an4 : Option Addr} {sl4 : Array (Option Value)} {oc4 kV4 dc4 pm4 cd4 ct4 : Value} {f4 : Addr} {T4 : Addr} {ocT4 : Value} {odT4 : Option Addr} {nT4 : Nat} {tT4_0 tT4_1 : Tok} {slT4 : Array (Option Value)}
    (a4 : PySem.W.nsIn K mainGlobals "need_hop" = some (some (.ref f4))) (l4 : K.lookup f4 = some ⟨oc4, od4, .func (PySem.W.fnOf "need_hop" "need_hop" (defArgs sNeedHop) (defBody sNeedHop) (defScope sNeedHop) (.ref T4) kV4 dc4 pm4 an4 cd4 ct4), sl4⟩) (c4 : PySem.W.codeIn K cd4 "need_hop" = true) (k4 : PySem.W.keepIn K (.ref f4) = true)
    (lT4 : K.lookup T4 = some ⟨ocT4, odT4, .seq #[.int 1 tT4_0, .int 1000 tT4_1] nT4, slT4⟩)
    {od5 an5 : Option Addr} {sl5 : Array (Option Value)} {oc5 kV5 dc5 pm5 cd5 ct5 : Value} {f5 : Addr}
    (a5 : PySem.W.nsIn K mainGlobals "need_number" = some (some (.ref f5))) (l5 : K.lookup f5 = some ⟨oc5, od5, .func (PySem.W.fnOf "need_number" "need_number" (defArgs sNeedNum) (defBody sNeedNum) (defScope sNeedNum) .none kV5 dc5 pm5 an5 cd5 ct5), sl5⟩) (c5 : PySem.W.codeIn K cd5 "need_number" = true) (k5 : PySem.W.keepIn K (.ref f5) = true)
    {od6 an6 : Option Addr} {sl6 : Array (Option Value)} {oc6 kV6 dc6 pm6 cd6 ct6 : Value} {f6 : Addr}
    (a6 : PySem.W.nsIn K mainGlobals "sums_at" = some (some (.ref f6))) (l6 : K.lookup f6 = some ⟨oc6, od6, .func (PySem.W.fnOf "sums_at" "sums_at" (defArgs sSumsAt) (defBody sSumsAt) (defScope sSumsAt) .none kV6 dc6 pm6 an6 cd6 ct6), sl6⟩) (c6 : PySem.W.codeIn K cd6 "sums_at" = true) (k6 : PySem.W.keepIn K (.ref f6) = true)
    {od7 an7 : Option Addr} {sl7 : Array (Option Value)} {oc7 kV7 dc7 pm7 cd7 ct7 : Value} {f7 : Addr}
    (a7 : PySem.W.nsIn K mainGlobals "are_equal" = some (some (.ref f7))) (l7 : K.lookup f7 = some ⟨oc7, od7, .func (PySem.W.fnOf "are_equal" "are_equal" (defArgs sAreEqual) (defBody sAreEqual) (defScope sAreEqual) .none kV7 dc7 pm7 an7 cd7 ct7), sl7⟩) (c7 : PySem.W.codeIn K cd7 "are_equal" = true) (k7 : PySem.W.keepIn K (.ref f7) = true)
    {od8 an8 : Option Addr} {sl8 : Array (Option Value)} {oc8 kV8 dc8 pm8 cd8 ct8 : Value} {f8 : Addr}
    (a8 : PySem.W.nsIn K mainGlobals "multiplied" = some (some (.ref f8))) (l8 : K.lookup f8 = some ⟨oc8, od8, .func (PySem.W.fnOf "multiplied" "multiplied" (defArgs sMultiplied) (defBody sMultiplied) (defScope sMultiplied) .none kV8 dc8 pm8 an8 cd8 ct8), sl8⟩) (c8 : PySem.W.codeIn K cd8 "multiplied" = true) (k8 : PySem.W.keepIn K (.ref f8) = true)
    {od9 an9 : Option Addr} {sl9 : Array (Option Value)} {oc9 kV9 dc9 pm9 cd9 ct9 : Value} {f9 : Addr}
    (a9 : PySem.W.nsIn K mainGlobals "is_window" = some (some (.ref f9))) (l9 : K.lookup f9 = some ⟨oc9, od9, .func (PySem.W.fnOf "is_window" "is_window" (defArgs sIsWin) (defBody sIsWin) (defScope sIsWin) .none kV9 dc9 pm9 an9 cd9 ct9), sl9⟩) (c9 : PySem.W.codeIn K cd9 "is_window" = true) (k9 : PySem.W.keepIn K (.ref f9) = true)
    {od10 an10 : Option Addr} {sl10 : Array (Option Value)} {oc10 kV10 dc10 pm10 cd10 ct10 : Value} {f10 : Addr}
    (a10 : PySem.W.nsIn K mainGlobals "need_window" = some (some (.ref f10))) (l10 : K.lookup f10 = some ⟨oc10, od10, .func (PySem.W.fnOf "need_window" "need_window" (defArgs sNeedWin) (defBody sNeedWin) (defScope sNeedWin) .none kV10 dc10 pm10 an10 cd10 ct10), sl10⟩) (c10 : PySem.W.codeIn K cd10 "need_window" = true) (k10 : PySem.W.keepIn K (.ref f10) = true)
    {od11 an11 : Option Addr} {sl11 : Array (Option Value)} {oc11 kV11 dc11 pm11 cd11 ct11 : Value} {f11 : Addr}
    (a11 : PySem.W.nsIn K mainGlobals "product_of" = some (some (.ref f11))) (l11 : K.lookup f11 = some ⟨oc11, od11, .func (PySem.W.fnOf "product_of" "product_of" (defArgs sProduct) (defBody sProduct) (defScope sProduct) .none kV11 dc11 pm11 an11 cd11 ct11), sl11⟩) (c11 : PySem.W.codeIn K cd11 "product_of" = true) (k11 : PySem.W.keepIn K (.ref f11) = true)
    {od12 an12 : Option Addr} {sl12 : Array (Option Value)} {oc12 kV12 dc12 pm12 cd12 ct12 : Value} {f12 : Addr}
    (a12 : PySem.W.nsIn K mainGlobals "order_at" = some (some (.ref f12))) (l12 : K.lookup f12 = some ⟨oc12, od12, .func (PySem.W.fnOf "order_at" "order_at" (defArgs sOrderAt) (defBody sOrderAt) (defScope sOrderAt) .none kV12 dc12 pm12 an12 cd12 ct12), sl12⟩) (c12 : PySem.W.codeIn K cd12 "order_at" = true) (k12 : PySem.W.keepIn K (.ref f12) = true)
    {od13 an13 : Option Addr} {sl13 : Array (Option Value)} {oc13 kV13 dc13 pm13 cd13 ct13 : Value} {f13 : Addr}
    (a13 : PySem.W.nsIn K mainGlobals "moments" = some (some (.ref f13))) (l13 : K.lookup f13 = some ⟨oc13, od13, .func (PySem.W.fnOf "moments" "moments" (defArgs sMoments) (defBody sMoments) (defScope sMoments) .none kV13 dc13 pm13 an13 cd13 ct13), sl13⟩) (c13 : PySem.W.codeIn K cd13 "moments" = true) (k13 : PySem.W.keepIn K (.ref f13) = true)
    {od14 an14 : Option Addr} {sl14 : Array (Option Value)} {oc14 kV14 dc14 pm14 cd14 ct14 : Value} {f14 : Addr}
    (a14 : PySem.W.nsIn K mainGlobals "_by_their_numbers" = some (some (.ref f14))) (l14 : K.lookup f14 = some ⟨oc14, od14, .func (PySem.W.fnOf "_by_their_numbers" "_by_their_numbers" (defArgs sByN) (defBody sByN) (defScope sByN) .none kV14 dc14 pm14 an14 cd14 ct14), sl14⟩) (c14 : PySem.W.codeIn K cd14 "_by_their_numbers" = true) (k14 : PySem.W.keepIn K (.ref f14) = true)
    {od15 an15 : Option Addr} {sl15 : Array (Option Value)} {oc15 kV15 dc15 pm15 cd15 ct15 : Value} {f15 : Addr}
    (a15 : PySem.W.nsIn K mainGlobals "_law_jar" = some (some (.ref f15))) (l15 : K.lookup f15 = some ⟨oc15, od15, .func (PySem.W.fnOf "_law_jar" "_law_jar" (defArgs sJar) (defBody sJar) (defScope sJar) .none kV15 dc15 pm15 an15 cd15 ct15), sl15⟩) (c15 : PySem.W.codeIn K cd15 "_law_jar" = true) (k15 : PySem.W.keepIn K (.ref f15) = true)
    {od16 an16 : Option Addr} {sl16 : Array (Option Value)} {oc16 kV16 dc16 pm16 cd16 ct16 : Value} {f16 : Addr}
    (a16 : PySem.W.nsIn K mainGlobals "_law_dip" = some (some (.ref f16))) (l16 : K.lookup f16 = some ⟨oc16, od16, .func (PySem.W.fnOf "_law_dip" "_law_dip" (defArgs sDip) (defBody sDip) (defScope sDip) .none kV16 dc16 pm16 an16 cd16 ct16), sl16⟩) (c16 : PySem.W.codeIn K cd16 "_law_dip" = true) (k16 : PySem.W.keepIn K (.ref f16) = true)
    {od17 an17 : Option Addr} {sl17 : Array (Option Value)} {oc17 kV17 dc17 pm17 cd17 ct17 : Value} {f17 : Addr}
    (a17 : PySem.W.nsIn K mainGlobals "_law_times" = some (some (.ref f17))) (l17 : K.lookup f17 = some ⟨oc17, od17, .func (PySem.W.fnOf "_law_times" "_law_times" (defArgs sTimes) (defBody sTimes) (defScope sTimes) .none kV17 dc17 pm17 an17 cd17 ct17), sl17⟩) (c17 : PySem.W.codeIn K cd17 "_law_times" = true) (k17 : PySem.W.keepIn K (.ref f17) = true)
    {od18 an18 : Option Addr} {sl18 : Array (Option Value)} {oc18 kV18 dc18 pm18 cd18 ct18 : Value} {f18 : Addr}
    (a18 : PySem.W.nsIn K mainGlobals "_law_list" = some (some (.ref f18))) (l18 : K.lookup f18 = some ⟨oc18, od18, .func (PySem.W.fnOf "_law_list" "_law_list" (defArgs sList) (defBody sList) (defScope sList) .none kV18 dc18 pm18 an18 cd18 ct18), sl18⟩) (c18 : PySem.W.codeIn K cd18 "_law_list" = true) (k18 : PySem.W.keepIn K (.ref f18) = true)
    {od19 an19 : Option Addr} {sl19 : Array (Option Value)} {oc19 kV19 dc19 pm19 cd19 ct19 : Value} {f19 : Addr}
    (a19 : PySem.W.nsIn K mainGlobals "_law_made" = some (some (.ref f19))) (l19 : K.lookup f19 = some ⟨oc19, od19, .func (PySem.W.fnOf "_law_made" "_law_made" (defArgs sMade) (defBody sMade) (defScope sMade) .none kV19 dc19 pm19 an19 cd19 ct19), sl19⟩) (c19 : PySem.W.codeIn K cd19 "_law_made" = true) (k19 : PySem.W.keepIn K (.ref f19) = true)
    {od20 an20 : Option Addr} {sl20 : Array (Option Value)} {oc20 kV20 dc20 pm20 cd20 ct20 : Value} {f20 : Addr}
    (a20 : PySem.W.nsIn K mainGlobals "_law_laid" = some (some (.ref f20))) (l20 : K.lookup f20 = some ⟨oc20, od20, .func (PySem.W.fnOf "_law_laid" "_law_laid" (defArgs sLaid) (defBody sLaid) (defScope sLaid) .none kV20 dc20 pm20 an20 cd20 ct20), sl20⟩) (c20 : PySem.W.codeIn K cd20 "_law_laid" = true) (k20 : PySem.W.keepIn K (.ref f20) = true)
    {od21 an21 : Option Addr} {sl21 : Array (Option Value)} {oc21 kV21 dc21 pm21 cd21 ct21 : Value} {f21 : Addr}
    (a21 : PySem.W.nsIn K mainGlobals "_law_differences" = some (some (.ref f21))) (l21 : K.lookup f21 = some ⟨oc21, od21, .func (PySem.W.fnOf "_law_differences" "_law_differences" (defArgs sLawDifferences) (defBody sLawDifferences) (defScope sLawDifferences) .none kV21 dc21 pm21 an21 cd21 ct21), sl21⟩) (c21 : PySem.W.codeIn K cd21 "_law_differences" = true) (k21 : PySem.W.keepIn K (.ref f21) = true)
    {od22 an22 : Option Addr} {sl22 : Array (Option Value)} {oc22 kV22 dc22 pm22 cd22 ct22 : Value} {f22 : Addr}
    (a22 : PySem.W.nsIn K mainGlobals "_law_right" = some (some (.ref f22))) (l22 : K.lookup f22 = some ⟨oc22, od22, .func (PySem.W.fnOf "_law_right" "_law_right" (defArgs sRight) (defBody sRight) (defScope sRight) .none kV22 dc22 pm22 an22 cd22 ct22), sl22⟩) (c22 : PySem.W.codeIn K cd22 "_law_right" = true) (k22 : PySem.W.keepIn K (.ref f22) = true)
    {od23 an23 : Option Addr} {sl23 : Array (Option Value)} {oc23 kV23 dc23 pm23 cd23 ct23 : Value} {f23 : Addr}
    (a23 : PySem.W.nsIn K mainGlobals "law" = some (some (.ref f23))) (l23 : K.lookup f23 = some ⟨oc23, od23, .func (PySem.W.fnOf "law" "law" (defArgs sLaw) (defBody sLaw) (defScope sLaw) .none kV23 dc23 pm23 an23 cd23 ct23), sl23⟩) (c23 : PySem.W.codeIn K cd23 "law" = true) (k23 : PySem.W.keepIn K (.ref f23) = true)
    {tc1 : Tok} (q1 : PySem.W.nsIn K mainGlobals "MOST_ENTRIES" = some (some (.int 200 tc1)))
    {tc2 : Tok} (q2 : PySem.W.nsIn K mainGlobals "GREATEST_HOP" = some (some (.int 1000 tc2)))
    {tc3 : Tok} (q3 : PySem.W.nsIn K mainGlobals "GREATEST_POWER" = some (some (.int 20 tc3)))
    (z1 : PySem.W.nsIn K mainGlobals "isinstance" = some none)
    (z2 : PySem.W.nsIn K mainGlobals "int" = some none)
    (z3 : PySem.W.nsIn K mainGlobals "bool" = some none)
    (z4 : PySem.W.nsIn K mainGlobals "list" = some none)
    (z5 : PySem.W.nsIn K mainGlobals "len" = some none)
    (z6 : PySem.W.nsIn K mainGlobals "all" = some none)
    (z7 : PySem.W.nsIn K mainGlobals "any" = some none)
    (z8 : PySem.W.nsIn K mainGlobals "sum" = some none)
    (z9 : PySem.W.nsIn K mainGlobals "range" = some none)
    (z10 : PySem.W.nsIn K mainGlobals "enumerate" = some none)
    (z11 : PySem.W.nsIn K mainGlobals "abs" = some none)
    (z12 : PySem.W.nsIn K mainGlobals "max" = some none)
    (z13 : PySem.W.nsIn K mainGlobals "min" = some none)
    (z14 : PySem.W.nsIn K mainGlobals "zip" = some none) :
    ∃ fd : FuncData, (∀ (s : Shared) (v : Value), BindsTo s fd ⟨[v], []⟩ [("script", v)]) ∧ ∀ base : Heap, K.In base → base.Ns mainGlobals mg → FnOk l.prog w K mg base CX0 7 fa fd ["script"] (spLaw K) := by
  have e := hfa.symm.trans (PySem.W.mg_of X G a23)
  cases e
  have T : Txt K mg := ⟨PySem.W.mg_none_of X G z1, PySem.W.mg_none_of X G z2, PySem.W.mg_none_of X G z3, PySem.W.mg_none_of X G z4, PySem.W.mg_none_of X G z5, PySem.W.mg_none_of X G z6, PySem.W.mg_none_of X G z7, PySem.W.mg_none_of X G z8, PySem.W.mg_none_of X G z9, PySem.W.mg_none_of X G z10, PySem.W.mg_none_of X G z11, PySem.W.mg_none_of X G z12, PySem.W.mg_none_of X G z13, PySem.W.mg_none_of X G z14, ⟨_, PySem.W.mg_of X G q1⟩, ⟨_, PySem.W.mg_of X G q2⟩, ⟨_, PySem.W.mg_of X G q3⟩⟩
  have F1 := fun_mk (st := sIsInt) l1 c1 k1
  have b1 := F1.binds (ps := ["thing"]) fun _ _ _ _ _ _ us hl => match us, hl with | [_], _ => rfl
  have g1 := PySem.W.mg_of X G a1
  have F2 := fun_mk (st := sWithin) l2 c2 k2
  have b2 := F2.binds (ps := ["thing", "least", "most"]) fun _ _ _ _ _ _ us hl => match us, hl with | [_, _, _], _ => rfl
  have g2 := PySem.W.mg_of X G a2
  have F3 : FunD K "is_integer_list" "is_integer_list" (defArgs sIsList) (defBody sIsList) (defScope sIsList) [.int 1] [] f3 _ := ⟨⟨_, _, _, _, _, _, _, _, _, _, rfl, l3, c3, .inr ⟨by simp, T3, _, [.int 1 tT3_0], nT3, rfl, lT3, rfl, (.cons ⟨_, rfl⟩ .nil)⟩, .inl rfl⟩, k3⟩
  obtain ⟨ds3_2, r3_2, b3_2⟩ := F3.binds1 (ps := ["thing", "most", "least"]) 2 0 (by simp) rfl fun _ _ _ _ _ _ _ us its h1 h2 => match us, its, h1, h2 with | [_, _], [_], _, _ => ⟨_, rfl, rfl⟩
  obtain ⟨ds3_3, r3_3, b3_3⟩ := F3.binds1 (ps := ["thing", "most", "least"]) 3 1 (by simp) rfl fun _ _ _ _ _ _ _ us its h1 h2 => match us, its, h1, h2 with | [_, _, _], [_], _, _ => ⟨_, rfl, rfl⟩
  have g3 := PySem.W.mg_of X G a3
  have F4 : FunD K "need_hop" "need_hop" (defArgs sNeedHop) (defBody sNeedHop) (defScope sNeedHop) [.int 1, .int 1000] [] f4 _ := ⟨⟨_, _, _, _, _, _, _, _, _, _, rfl, l4, c4, .inr ⟨by simp, T4, _, [.int 1 tT4_0, .int 1000 tT4_1], nT4, rfl, lT4, rfl, (.cons ⟨_, rfl⟩ (.cons ⟨_, rfl⟩ .nil))⟩, .inl rfl⟩, k4⟩
  obtain ⟨ds4_1, r4_1, b4_1⟩ := F4.binds1 (ps := ["hop", "least", "most"]) 1 0 (by simp) rfl fun _ _ _ _ _ _ _ us its h1 h2 => match us, its, h1, h2 with | [_], [_, _], _, _ => ⟨_, rfl, rfl⟩
  obtain ⟨ds4_2, r4_2, b4_2⟩ := F4.binds1 (ps := ["hop", "least", "most"]) 2 1 (by simp) rfl fun _ _ _ _ _ _ _ us its h1 h2 => match us, its, h1, h2 with | [_, _], [_, _], _, _ => ⟨_, rfl, rfl⟩
  obtain ⟨ds4_3, r4_3, b4_3⟩ := F4.binds1 (ps := ["hop", "least", "most"]) 3 2 (by simp) rfl fun _ _ _ _ _ _ _ us its h1 h2 => match us, its, h1, h2 with | [_, _, _], [_, _], _, _ => ⟨_, rfl, rfl⟩
  have g4 := PySem.W.mg_of X G a4
  have F5 := fun_mk (st := sNeedNum) l5 c5 k5
  have b5 := F5.binds (ps := ["number", "least", "most"]) fun _ _ _ _ _ _ us hl => match us, hl with | [_, _, _], _ => rfl
  have g5 := PySem.W.mg_of X G a5
  have F6 := fun_mk (st := sSumsAt) l6 c6 k6
  have b6 := F6.binds (ps := ["entries", "hop"]) fun _ _ _ _ _ _ us hl => match us, hl with | [_, _], _ => rfl
  have g6 := PySem.W.mg_of X G a6
  have F7 := fun_mk (st := sAreEqual) l7 c7 k7
  have b7 := F7.binds (ps := ["numbers"]) fun _ _ _ _ _ _ us hl => match us, hl with | [_], _ => rfl
  have g7 := PySem.W.mg_of X G a7
  have F8 := fun_mk (st := sMultiplied) l8 c8 k8
  have b8 := F8.binds (ps := ["entries", "others"]) fun _ _ _ _ _ _ us hl => match us, hl with | [_, _], _ => rfl
  have g8 := PySem.W.mg_of X G a8
  have F9 := fun_mk (st := sIsWin) l9 c9 k9
  have b9 := F9.binds (ps := ["thing"]) fun _ _ _ _ _ _ us hl => match us, hl with | [_], _ => rfl
  have g9 := PySem.W.mg_of X G a9
  have F10 := fun_mk (st := sNeedWin) l10 c10 k10
  have b10 := F10.binds (ps := ["window"]) fun _ _ _ _ _ _ us hl => match us, hl with | [_], _ => rfl
  have g10 := PySem.W.mg_of X G a10
  have F11 := fun_mk (st := sProduct) l11 c11 k11
  have b11 := F11.binds (ps := ["window", "other"]) fun _ _ _ _ _ _ us hl => match us, hl with | [_, _], _ => rfl
  have g11 := PySem.W.mg_of X G a11
  have F12 := fun_mk (st := sOrderAt) l12 c12 k12
  have b12 := F12.binds (ps := ["window", "hop"]) fun _ _ _ _ _ _ us hl => match us, hl with | [_, _], _ => rfl
  have g12 := PySem.W.mg_of X G a12
  have F13 := fun_mk (st := sMoments) l13 c13 k13
  have b13 := F13.binds (ps := ["window", "hop", "power"]) fun _ _ _ _ _ _ us hl => match us, hl with | [_, _, _], _ => rfl
  have g13 := PySem.W.mg_of X G a13
  have F14 := fun_mk (st := sByN) l14 c14 k14
  have b14 := F14.binds (ps := ["entries"]) fun _ _ _ _ _ _ us hl => match us, hl with | [_], _ => rfl
  have g14 := PySem.W.mg_of X G a14
  have F15 := fun_mk (st := sJar) l15 c15 k15
  have b15 := F15.binds (ps := ["script", "k"]) fun _ _ _ _ _ _ us hl => match us, hl with | [_, _], _ => rfl
  have g15 := PySem.W.mg_of X G a15
  have F16 := fun_mk (st := sDip) l16 c16 k16
  have b16 := F16.binds (ps := ["jar", "many"]) fun _ _ _ _ _ _ us hl => match us, hl with | [_, _], _ => rfl
  have g16 := PySem.W.mg_of X G a16
  have F17 := fun_mk (st := sTimes) l17 c17 k17
  have b17 := F17.binds (ps := ["one", "two"]) fun _ _ _ _ _ _ us hl => match us, hl with | [_, _], _ => rfl
  have g17 := PySem.W.mg_of X G a17
  have F18 := fun_mk (st := sList) l18 c18 k18
  have b18 := F18.binds (ps := ["jar", "longest", "size"]) fun _ _ _ _ _ _ us hl => match us, hl with | [_, _, _], _ => rfl
  have g18 := PySem.W.mg_of X G a18
  have F19 := fun_mk (st := sMade) l19 c19 k19
  have b19 := F19.binds (ps := ["jar", "longest", "size"]) fun _ _ _ _ _ _ us hl => match us, hl with | [_, _, _], _ => rfl
  have g19 := PySem.W.mg_of X G a19
  have F20 := fun_mk (st := sLaid) l20 c20 k20
  have b20 := F20.binds (ps := ["one", "lap", "power_here", "many"]) fun _ _ _ _ _ _ us hl => match us, hl with | [_, _, _, _], _ => rfl
  have g20 := PySem.W.mg_of X G a20
  have F21 := fun_mk (st := sLawDifferences) l21 c21 k21
  have b21 := F21.binds (ps := ["numbers_here", "many"]) fun _ _ _ _ _ _ us hl => match us, hl with | [_, _], _ => rfl
  have g21 := PySem.W.mg_of X G a21
  have F22 := fun_mk (st := sRight) l22 c22 k22
  have b22 := F22.binds (ps := ["one", "lap"]) fun _ _ _ _ _ _ us hl => match us, hl with | [_, _], _ => rfl
  have g22 := PySem.W.mg_of X G a22
  have F23 := fun_mk (st := sLaw) l23 c23 k23
  have g23 := PySem.W.mg_of X G a23
  refine ⟨PySem.W.fnOf "law" "law" (defArgs sLaw) (defBody sLaw) (defScope sLaw) .none kV23 dc23 pm23 an23 cd23 ct23, fun s v => .of_eq rfl, fun base _ _ => ?_⟩
  have G1 : FnOk l.prog w K mg base CX0 1 f1 _ _ spIsInt := ok_isInt F1 T
  have G2 : FnOk l.prog w K mg base CX0 2 f2 _ _ spWithin := ok_within F2 G1 g1 k1 b1
  have G3 : FnOk l.prog w K mg base CX0 2 f3 _ _ spIsList := ok_isList F3 T G1 g1 k1 b1
  have G9 : FnOk l.prog w K mg base CX0 3 f9 _ _ spIsWin := ok_isWin F9 T G3 g3 k3 b3_2 r3_2
  have G10 : FnOk l.prog w K mg base CX0 4 f10 _ _ spNeedWin := ok_needWin F10 G9 g9 k9 b9
  have G4 : FnOk l.prog w K mg base CX0 3 f4 _ _ spNeedHop := ok_needHop F4 G2 g2 k2 b2
  have G5 : FnOk l.prog w K mg base CX0 3 f5 _ _ spNeedNumber := ok_needNumber F5 G2 g2 k2 b2
  have G6 : FnOk l.prog w K mg base CX0 1 f6 _ _ spSumsAt := ok_sumsAt F6 T
  have G7 : FnOk l.prog w K mg base CX0 1 f7 _ _ spAreEqual := ok_areEqual F7 T
  have G14 : FnOk l.prog w K mg base CX0 1 f14 _ _ spByN := ok_byN F14 T
  have G13 : FnOk l.prog w K mg base CX0 5 f13 _ _ spMoments := ok_moments F13 T G10 g10 k10 b10 (G4.mono (by decide)) g4 k4 b4_1 r4_1 (G5.mono (by decide)) g5 k5 b5 (G14.mono (by decide)) g14 k14 b14 (G6.mono (by decide)) g6 k6 b6
  have G12 : FnOk l.prog w K mg base CX0 5 f12 _ _ spOrderAt := ok_orderAt F12 G10 g10 k10 b10 (G4.mono (by decide)) g4 k4 b4_2 r4_2 (G6.mono (by decide)) g6 k6 b6 (G7.mono (by decide)) g7 k7 b7 (G14.mono (by decide)) g14 k14 b14
  have G8 : FnOk l.prog w K mg base CX0 1 f8 _ _ spMultiplied := ok_multiplied F8 T
  have G11 : FnOk l.prog w K mg base CX0 5 f11 _ _ spProduct := ok_product F11 T G10 g10 k10 b10 (G8.mono (by decide)) g8 k8 b8
  have G15 : FnOk l.prog w K mg base CX0 1 f15 _ _ (spJar K) := ok_jar F15 T
  have G16 : FnOk l.prog w K mg base CX0 1 f16 _ _ spDip := ok_dip F16 T
  have G17 : FnOk l.prog w K mg base CX0 1 f17 _ _ spTimes := ok_times F17 T
  have G18 : FnOk l.prog w K mg base CX0 2 f18 _ _ spList := ok_list F18 T G16 g16 k16 b16
  have G19 : FnOk l.prog w K mg base CX0 3 f19 _ _ spMade := ok_made F19 T (G16.mono (by decide)) g16 k16 b16 G18 g18 k18 b18 (G17.mono (by decide)) g17 k17 b17
  have G20 : FnOk l.prog w K mg base CX0 1 f20 _ _ spLaid31 := ok_laid31 F20 T
  have G21 : FnOk l.prog w K mg base CX0 1 f21 _ _ spDiffs31 := ok_diffs31 F21 T
  have G22 : FnOk l.prog w K mg base CX0 6 f22 _ _ spRight31 := ok_right31 F22 T G12 g12 k12 b12 (G20.mono (by decide)) g20 k20 b20 (G21.mono (by decide)) g21 k21 b21 G13 g13 k13 b13
  exact ok_law F23 T (G15.mono (by decide)) g15 k15 b15 (G16.mono (by decide)) g16 k16 b16 (G19.mono (by decide)) g19 k19 b19 G22 g22 k22 b22 (G11.mono (by decide)) g11 k11 b11 (G12.mono (by decide)) g12 k12 b12
end Wd
open PySem PySem.W PyProof.Rows
set_option maxRecDepth 100000 in
set_option maxHeartbeats 0 in
theorem PySem.Challenge.cw_frameseams_k31_whole_orders_let_polynomi_holds : PySem.Challenge.rw_frameseams_k31_whole_orders_let_polynomi.Holds := by
  w_on; o_law; k_head; (case hw => w_witness2)
  k_fill
  refine L2.walk_of (l := PySem.Challenge.rw_frameseams_k31_whole_orders_let_polynomi) (n := 63) (k := 7) (x := "script") (CX := fun _ => L2.CX0) (sp := fun w => Wd.spLaw _) rfl (by decide) rfl ⟨rfl, by decide, by decide⟩ (fun w h Y => PySem.W.kIn_of Y) ?F (fun _ _ a ns hl _ hS => ⟨a, ns, rfl, hS, hl, fun _ => rfl⟩) (fun _ _ _ _ _ h => h)
  case F =>
    intro w mg fa h KX G hmg
    refine' Wd.all_mk KX G hmg ?a1 ?l1 ?c1 ?k1 ?a2 ?l2 ?c2 ?k2 ?a3 ?l3 ?c3 ?k3 ?lT3 ?a4 ?l4 ?c4 ?k4 ?lT4 ?a5 ?l5 ?c5 ?k5 ?a6 ?l6 ?c6 ?k6 ?a7 ?l7 ?c7 ?k7 ?a8 ?l8 ?c8 ?k8 ?a9 ?l9 ?c9 ?k9 ?a10 ?l10 ?c10 ?k10 ?a11 ?l11 ?c11 ?k11 ?a12 ?l12 ?c12 ?k12 ?a13 ?l13 ?c13 ?k13 ?a14 ?l14 ?c14 ?k14 ?a15 ?l15 ?c15 ?k15 ?a16 ?l16 ?c16 ?k16 ?a17 ?l17 ?c17 ?k17 ?a18 ?l18 ?c18 ?k18 ?a19 ?l19 ?c19 ?k19 ?a20 ?l20 ?c20 ?k20 ?a21 ?l21 ?c21 ?k21 ?a22 ?l22 ?c22 ?k22 ?a23 ?l23 ?c23 ?k23 ?q1 ?q2 ?q3 ?z1 ?z2 ?z3 ?z4 ?z5 ?z6 ?z7 ?z8 ?z9 ?z10 ?z11 ?z12 ?z13 ?z14
    (case a1 => k_is)
    (case l1 => k_is)
    (case c1 => k_is)
    (case k1 => k_is)
    (case a2 => k_is)
    (case l2 => k_is)
    (case c2 => k_is)
    (case k2 => k_is)
    (case a3 => k_is)
    (case l3 => k_is)
    (case c3 => k_is)
    (case k3 => k_is)
    (case lT3 => k_is)
    (case a4 => k_is)
    (case l4 => k_is)
    (case c4 => k_is)
    (case k4 => k_is)
    (case lT4 => k_is)
    (case a5 => k_is)
    (case l5 => k_is)
    (case c5 => k_is)
    (case k5 => k_is)
    (case a6 => k_is)
    (case l6 => k_is)
    (case c6 => k_is)
    (case k6 => k_is)
    (case a7 => k_is)
    (case l7 => k_is)
    (case c7 => k_is)
    (case k7 => k_is)
    (case a8 => k_is)
    (case l8 => k_is)
    (case c8 => k_is)
    (case k8 => k_is)
    (case a9 => k_is)
    (case l9 => k_is)
    (case c9 => k_is)
    (case k9 => k_is)
    (case a10 => k_is)
    (case l10 => k_is)
    (case c10 => k_is)
    (case k10 => k_is)
    (case a11 => k_is)
    (case l11 => k_is)
    (case c11 => k_is)
    (case k11 => k_is)
    (case a12 => k_is)
    (case l12 => k_is)
    (case c12 => k_is)
    (case k12 => k_is)
    (case a13 => k_is)
    (case l13 => k_is)
    (case c13 => k_is)
    (case k13 => k_is)
    (case a14 => k_is)
    (case l14 => k_is)
    (case c14 => k_is)
    (case k14 => k_is)
    (case a15 => k_is)
    (case l15 => k_is)
    (case c15 => k_is)
    (case k15 => k_is)
    (case a16 => k_is)
    (case l16 => k_is)
    (case c16 => k_is)
    (case k16 => k_is)
    (case a17 => k_is)
    (case l17 => k_is)
    (case c17 => k_is)
    (case k17 => k_is)
    (case a18 => k_is)
    (case l18 => k_is)
    (case c18 => k_is)
    (case k18 => k_is)
    (case a19 => k_is)
    (case l19 => k_is)
    (case c19 => k_is)
    (case k19 => k_is)
    (case a20 => k_is)
    (case l20 => k_is)
    (case c20 => k_is)
    (case k20 => k_is)
    (case a21 => k_is)
    (case l21 => k_is)
    (case c21 => k_is)
    (case k21 => k_is)
    (case a22 => k_is)
    (case l22 => k_is)
    (case c22 => k_is)
    (case k22 => k_is)
    (case a23 => k_is)
    (case l23 => k_is)
    (case c23 => k_is)
    (case k23 => k_is)
    (case q1 => k_is)
    (case q2 => k_is)
    (case q3 => k_is)
    (case z1 => k_is)
    (case z2 => k_is)
    (case z3 => k_is)
    (case z4 => k_is)
    (case z5 => k_is)
    (case z6 => k_is)
    (case z7 => k_is)
    (case z8 => k_is)
    (case z9 => k_is)
    (case z10 => k_is)
    (case z11 => k_is)
    (case z12 => k_is)
    (case z13 => k_is)
    (case z14 => k_is)
