import Derived.Test.YtjmpakngbdemgaaJ12
import Derived.Test.YtjmpakngbdemgaaJ3
namespace Go.Proofs.Ytjmpakngbdemgaa
open Go Go.Lib Go.RowKit
set_option maxRecDepth 20000

theorem ex13_res : ∃ st, dealF (thT [1, 2, 3]) (wtT []) 9 (cntT (thT [1, 2, 3])) (fun i => max (([3, 5] : List Int).getD i 0) 0) [1, 0] (fun _ => 0) (fun _ => (0, 0)) = some st ∧ pairsT st.2 2 = [(3, 1), (1, 2)] := by
  have h := ex13
  cases hd : dealF (thT [1, 2, 3]) (wtT []) 9 (cntT (thT [1, 2, 3])) (fun i => max (([3, 5] : List Int).getD i 0) 0) [1, 0] (fun _ => 0) (fun _ => (0, 0)) with
  | none => rw [hd] at h; cases h
  | some st =>
    rw [hd] at h
    simp only [Option.map_some, Option.some.injEq, Prod.mk.injEq] at h
    refine ⟨st, rfl, ?_⟩
    show [(((st.2 0).1 : Int), ((st.2 0).2 : Int)), (((st.2 1).1 : Int), ((st.2 1).2 : Int))] = _
    rw [h.1, h.2]
    rfl
theorem isl_new {w : World} {g : Nat} {z : List Int} {t : TypeId} {fr : Nat × Nat} (hg : w.heap[g]? = some (.cells (inI z).toArray t fr)) (hm : z.length ≤ maxLen) : ISl w (.slice (some ⟨g, 0, none⟩) z.length z.length) z :=
  ⟨some ⟨g, 0, none⟩, z.length, by rw [inI_len], by rw [inI_len]; exact Nat.le_refl _, hm, (fun e => by cases e), fun i hi => ⟨g, 0, (inI z).toArray, t, fr, rfl, hg, by rw [Nat.zero_add]; simp [hi]⟩⟩
set_option maxHeartbeats 8000000 in
set_option maxRecDepth 100000 in
theorem awake13_any (w : World) : Calls Try.prog 4 #[] w fun e w' => e = .returned (.bool true) ∧ Below w.heap.size w w' := by
  obtain ⟨w2, hw2⟩ : ∃ w2, w2 = (w.alloc (.cells #[.int .i64 3, .int .i64 5] 3)).alloc (.cells #[.int .i64 1, .int .i64 2, .int .i64 3] 3) := ⟨_, rfl⟩
  have B2 : Hid (Below w.heap.size w w2) := by show Below _ _ _; rw [hw2]; exact ((Below.refl _ _).alloc (Nat.le_refl _) _).alloc (by simp) _
  have Z2 : ISl w2 (.slice (some ⟨w.heap.size, 0, none⟩) 2 2) [3, 5] := by
    have h : w2.heap[w.heap.size]? = some (.cells (inI [3, 5]).toArray 3 (0, 0)) := by rw [hw2]; exact heap_past _ _ _ _ (heap_new _ _ _ rfl)
    exact isl_new h (by unfold maxLen; simp)
  have L2 : ISl w2 (.slice (some ⟨w.heap.size + 1, 0, none⟩) 3 3) [1, 2, 3] := by
    have h : w2.heap[w.heap.size + 1]? = some (.cells (inI [1, 2, 3]).toArray 3 (0, 0)) := by rw [hw2]; exact heap_new _ _ _ (by simp)
    exact isl_new h (by unfold maxLen; simp)
  have DE : Hid (Calls Try.prog 5 #[.slice (some ⟨w.heap.size, 0, none⟩) 2 2, .slice (some ⟨w.heap.size + 1, 0, none⟩) 3 3, .slice none 0 0, .int .i64 9] w2 fun e w' => (∃ v, e = .returned (.tuple #[v, .int .i64 0]) ∧ POwn w2.heap.size w' v [(3, 1), (1, 2)]) ∧ Below w2.heap.size w2 w') := by
    refine (deal_any [3, 5] [1, 2, 3] (by simp) [] (fun x hx => by simp at hx) 9 (by omega) (by omega) (fun x hx => by simp at hx; omega) _ _ _ w2 Z2 L2 (vsl_nil w2)).mono ?_
    rintro e w' ⟨⟨o, ho, hr⟩, hb⟩
    have hoe : o = [1, 0] := ord_one ho ex13_ord
    subst hoe
    obtain ⟨st, hst, hp⟩ := ex13_res
    rw [hst] at hr
    obtain ⟨v, he, hv⟩ := hr
    rw [show ([3, 5] : List Int).length = 2 from rfl, hp] at hv
    exact ⟨⟨v, he, hv⟩, hb⟩
  have e1 : ∀ W, (Op.equalIn 10000 33 (.agg #[.int .i64 3, .int .i64 1]) (.agg #[.int .i64 3, .int .i64 1])).run Try.prog W = .ok true W := eqP (3, 1)
  have e2 : ∀ W, (Op.equalIn 10000 33 (.agg #[.int .i64 1, .int .i64 2]) (.agg #[.int .i64 1, .int .i64 2])).run Try.prog W = .ok true W := eqP (1, 2)
  have e3 : ∀ op p q xs ys w, (eqGuard op 33 p q (.agg xs) (.agg ys)).run Try.prog w = .ok () w := fun op p q xs ys w => egP op p q xs ys w
  have W2 : Hid (w2 = _) := hw2
  clear Z2 L2 hw2
  go_enter Try.func4, Try.ntmps4
  go_wp2_with (first | (go_at_call 5; rw [← W2.out]; refine DE.out.mono ?_; rintro e w3 ⟨⟨v, rfl, hv⟩, hb3⟩; refine of_stopT ?_))
  unfold StopT
  have B3 : Hid (Below w.heap.size w w3) := B2.out.trans (hb3.mono B2.out.size)
  obtain ⟨o, cap, rfl, hc1, hc2⟩ := GSl.slice (POwn.at_ hv)
  obtain ⟨g, off, cur, t, fr, p, rfl, hg, hc, hp⟩ := (POwn.at_ hv).at 0 (by simp)
  obtain ⟨g', off', cur', t', fr', p', he', hg', hc', hp'⟩ := (POwn.at_ hv).at 1 (by simp)
  simp only [Option.some.injEq, Addr.mk.injEq, and_true] at he'
  obtain ⟨rfl, rfl⟩ := he'
  obtain rfl : ((3, 1) : Int × Int) = p := Option.some.inj hp
  obtain rfl : ((1, 2) : Int × Int) = p' := Option.some.inj hp'
  have c0 : w3.cell? ⟨g, off, none⟩ = some (.int .i64 3) := (cell_of_row _ _ _ _ _ _ hg).trans (hc 0 (by show 0 < 2; omega))
  have c1 : w3.cell? ⟨g, off + 1, none⟩ = some (.int .i64 1) := (cell_of_row _ _ _ _ _ _ hg).trans (hc 1 (by show 1 < 2; omega))
  have c2 : w3.cell? ⟨g, off + 2, none⟩ = some (.int .i64 1) := (cell_of_row _ _ _ _ _ _ hg').trans (hc' 0 (by show 0 < 2; omega))
  have c3 : w3.cell? ⟨g, off + 2 + 1, none⟩ = some (.int .i64 2) := (cell_of_row _ _ _ _ _ _ hg').trans (hc' 1 (by show 1 < 2; omega))
  have c4 : w3.cell? ⟨g, off + 3, none⟩ = some (.int .i64 2) := c3
  unfold maxLen at hc2
  simp only [List.length_cons, List.length_nil] at hc1 ⊢
  clear hv hb3 hg hc hp hg' hc' hp'
  go_wp2_with fail
  go_ret
  exact ⟨rfl, B3.out⟩
end Go.Proofs.Ytjmpakngbdemgaa
namespace Go.Proofs.Ytjmpakngbdemgaa
open Go Go.RowKit
set_option maxRecDepth 20000

theorem wl_min7 {ops : Array Oper} {rest : List Oper} {o : Oper} {a : Act} {w : World} {Q : Exit → Act → World → Prop} (hgd : o.guard = none) (x y : Operand) (ho : o.op = .call { callee := .builtin .min, args := #[x, y], argTypes := #[3, 3] })
    (p q r : Int) (hx : a.eval x = .int .i64 p) (hy : a.eval y = .int .i64 q) (hr : r = min p q) (h : wpList Try.prog ops Q rest (a.put o.dst (.int .i64 r)) w) : wpList Try.prog ops Q (o :: rest) a w := by
  obtain ⟨dst, op, ty, pos, after, guard⟩ := o
  subst ho
  have hr : (execOp a.eval ⟨dst, .call { callee := .builtin .min, args := #[x, y], argTypes := #[3, 3] }, ty, pos, after, guard⟩).run Try.prog w = .ok (.value (.int .i64 r)) w := by
    subst hr
    by_cases h1 : p ≤ q
    · rw [show min p q = p by omega]
      unfold execOp
      simp [resolve, invoke, builtin, hx, hy, Builtin.min_, Builtin.min2]
      all_goals omega
    · rw [show min p q = q by omega]
      unfold execOp
      simp [resolve, invoke, builtin, hx, hy, Builtin.min_, Builtin.min2]
      all_goals omega
  refine wpList_plain hgd fun K hK => ?_
  unfold Oper.wp
  rw [hr]
  exact hK _ _ h

theorem GSl.take7 {α : Type} {E : El} {enc : α → Array Value} {w : World} {o : Option Addr} {n cap : Nat} {C : List α} (h : GSl E enc w (.slice o n cap) C) {k : Nat} (hk : k ≤ n) : GSl E enc w (.slice o k cap) (C.take k) := by
  obtain ⟨o', cap', h1, h2, h3, h4⟩ := h
  simp only [Value.slice.injEq] at h1
  obtain ⟨rfl, rfl, rfl⟩ := h1
  have hl : (C.take k).length = k := by rw [List.length_take]; omega
  refine ⟨o, cap, by rw [hl], by rw [hl]; omega, h3, fun i hi => ?_⟩
  rw [hl] at hi
  obtain ⟨g, off, cur, t, fr, e1, e2, e3⟩ := h4 i (by omega)
  refine ⟨g, off, cur, t, fr, e1, e2, fun j hj => ?_⟩
  rw [List.getElem_take]
  exact e3 j hj
end Go.Proofs.Ytjmpakngbdemgaa
namespace Go.Proofs.Ytjmpakngbdemgaa
open Go Go.Lib Go.RowKit
set_option maxRecDepth 20000

theorem slice_ints {o : Option Addr} {n0 cap : Nat} {w : World} {z : List Int} (h : ISl w (.slice o n0 cap) z) (n : Nat) (hn : n ≤ n0) (hc : n0 ≤ cap) (W : World) :
    (Instr.sliceAt 24 (.slice o n0 cap) none (some (.int .i64 (n : Int))) none).run Try.prog W = .ok (.slice o n cap) W := by
  rcases Nat.eq_zero_or_pos n0 with h0 | h0
  · obtain rfl : n = 0 := by omega
    cases o with
    | none => simp [go_sem, Try.underlying24]
    | some a => simp [go_sem, Try.underlying24]
  · obtain ⟨g, off, _, rfl, _⟩ := ISl.cell h 0 h0
    simp [go_sem, Try.underlying24]
    omega
theorem ISl.front {w : World} {o : Option Addr} {n cap : Nat} {z : List Int} (h : ISl w (.slice o n cap) z) (q : Nat) (hq : q ≤ n) : ISl w (.slice o q cap) (z.take q) := by
  have h2 := VSl.front h q hq
  show VSl w _ (inI (z.take q))
  have e : inI (z.take q) = (inI z).take q := by unfold inI; rw [List.map_take]
  rw [e]
  exact h2
/-- A list cut to its first 100. -/
structure Cut100 (w : World) (o : Option Addr) (n0 n cap : Nat) (z : List Int) : Prop where
  cap1 : n0 ≤ cap
  cap2 : cap ≤ maxLen
  le : n ≤ n0
  min : (n : Int) = min (n0 : Int) 100
  len : z.length = n
  bd : ∀ x ∈ z, x ≤ 9223372036854775807
  at_ : ISl w (.slice o n cap) z
  slice : ∀ W, (Instr.sliceAt 24 (.slice o n0 cap) none (some (.int .i64 (n : Int))) none).run Try.prog W = .ok (.slice o n cap) W
theorem cut100 {w : World} {v : Value} {z0 : List Int} (hb : ∀ x ∈ z0, -9223372036854775808 ≤ x ∧ x ≤ 9223372036854775807) (h : ISl w v z0) : ∃ o n0 n cap z, v = .slice o n0 cap ∧ Cut100 w o n0 n cap z := by
  obtain ⟨o, cap, rfl, hc1, hc2⟩ := h.slice
  exact ⟨o, z0.length, min z0.length 100, cap, z0.take (min z0.length 100), rfl, hc1, hc2, Nat.min_le_left _ _, by omega, by rw [List.length_take]; omega, fun x hx => (hb x (List.mem_of_mem_take hx)).2, h.front _ (Nat.min_le_left _ _), slice_ints h _ (Nat.min_le_left _ _) hc1⟩
def resE (R : Option ((Nat → Int) × (Nat → Nat × Nat))) : Int := match R with | none => 15 | some _ => 0
def resC (R : Option ((Nat → Int) × (Nat → Nat × Nat))) (n : Nat) : List (Int × Int) := match R with | none => [] | some st => pairsT st.2 n
theorem dealR_at {w w' : World} {n : Nat} {R : Option ((Nat → Int) × (Nat → Nat × Nat))} {e : Ending} (h : dealR w w' n R e) : ∃ v, e = .returned (.tuple #[v, .int .i64 (resE R)]) ∧ PairsAt w' v (resC R n) := by
  cases R with
  | none => exact ⟨_, h, gsl_nil _ _ _⟩
  | some st =>
    obtain ⟨v, he, hv⟩ := h
    exact ⟨v, he, hv.at_⟩
end Go.Proofs.Ytjmpakngbdemgaa
namespace Go.Proofs.Ytjmpakngbdemgaa
open Ieee

theorem even_ord (s : Int) (n : Nat) : IsOrd (keyZ (List.replicate n s)) (List.replicate n s).length (List.range n) := by
  refine ⟨fun i => by simp, ?_⟩
  refine List.Pairwise.imp_of_mem ?_ List.pairwise_lt_range
  intro a b ha hb hab
  have e : ∀ i, i ∈ List.range n → keyZ (List.replicate n s) i = -s := fun i hi => keyZ_at (by rw [List.getElem?_replicate, if_pos (List.mem_range.1 hi)])
  right
  exact ⟨by rw [e a ha, e b hb], hab⟩
/-- Those from 1 to t. -/
def upT (t : Nat) : List Int := (List.range t).map fun (i : Nat) => (i : Int) + 1
theorem upT_snoc (t : Nat) : upT (t + 1) = upT t ++ [(t : Int) + 1] := by unfold upT; rw [List.range_succ, List.map_append]; rfl
theorem upT_len (t : Nat) : (upT t).length = t := by simp [upT]
theorem th_up (t m : Nat) : thT (upT t) m = true ↔ 1 ≤ m ∧ m ≤ t := by
  unfold thT upT
  simp only [List.any_map, List.any_eq_true, List.mem_range, Function.comp, beq_iff_eq]
  constructor
  · rintro ⟨i, hi, h⟩; omega
  · rintro ⟨h1, h2⟩; exact ⟨m - 1, by omega, by omega⟩
theorem wt_up (t x m : Nat) (h1 : 1 ≤ m) (h2 : m ≤ t) : wtT (List.replicate t x) m = x := by
  unfold wtT
  rw [List.getD, List.getElem?_replicate, if_pos (by omega)]
  rfl
theorem even_loads {s : Int} {n : Nat} {out : Nat → Nat × Nat} {o : List Nat} (h0 : 0 ≤ s) (h1 : s ≤ 1048576) (ho : ∀ i, i < n → i ∈ o) (m : Nat) : ∀ k, k ≤ n → ldS (List.replicate n s) (pairsT out n) (m : Int) k = sumD (hasS (fun i => max ((List.replicate n s).getD i 0) 0) o out m) k
  | 0, _ => rfl
  | k + 1, hk => by
    have ih := even_loads (out := out) h0 h1 ho m k (by omega)
    have e1 : (List.replicate n s)[k]? = some s := by rw [List.getElem?_replicate, if_pos (by omega)]
    have e2 : (pairsT out n)[k]? = some (((out k).1 : Int), ((out k).2 : Int)) := by unfold pairsT; rw [List.getElem?_map, List.getElem?_range (by omega)]; rfl
    rw [ldS, e1, e2, sumD, ih]
    have hh : hasS (fun i => max ((List.replicate n s).getD i 0) 0) o out m k = if (out k).1 = m ∨ (out k).2 = m then s else 0 := by
      unfold hasS
      dsimp only
      rw [List.getD_eq_getElem?_getD, e1]
      have : max s 0 = s := by omega
      simp [ho k (by omega), this]
    rw [hh]
    dsimp only
    unfold clip13
    by_cases hc : (out k).1 = m ∨ (out k).2 = m
    · rw [if_pos hc, if_pos (by omega)]; omega
    · rw [if_neg hc, if_neg (by omega)]
/-- What DealEven asks. -/
theorem even_deal {s : Int} {n t x : Nat} {o : List Nat} (hs1 : 1 ≤ s) (hs2 : s ≤ 16) (hn : n ≤ 63) (ht1 : 2 ≤ t) (ht2 : t ≤ 5) (ho : IsOrd (keyZ (List.replicate n s)) (List.replicate n s).length o) :
    ∃ st, dealF (thT (upT t)) (wtT (List.replicate t x)) 1048576 (cntT (thT (upT t))) (fun i => max ((List.replicate n s).getD i 0) 0) o (fun _ => 0) (fun _ => (0, 0)) = some st ∧
      ((double.order x BIL == some .gt) = false → ∀ a b : Nat, 1 ≤ a → a ≤ t → 1 ≤ b → b ≤ t → loadsT (List.replicate n s) (pairsT st.2 n) (a : Int) - loadsT (List.replicate n s) (pairsT st.2 n) (b : Int) ≤ s) := by
  obtain rfl : o = List.range n := ord_one ho (even_ord s n)
  have hf : ∀ i ∈ List.range n, (fun i => max ((List.replicate n s).getD i 0) 0) i = s := fun i hi => by
    dsimp only
    rw [List.getD_eq_getElem?_getD, List.getElem?_replicate, if_pos (List.mem_range.1 hi)]
    show max s 0 = s
    omega
  have hlen : (0 : Int) + s * ((List.range n).length : Int) ≤ 1048576 := by
    rw [List.length_range]
    have h1 : s * (n : Int) ≤ 16 * (n : Int) := Int.mul_le_mul_of_nonneg_right hs2 (by omega)
    omega
  have hp : 1 ≤ 1 ∧ 1 ≤ 6 ∧ thT (upT t) 1 = true := ⟨by omega, by omega, (th_up t 1).2 (by omega)⟩
  have hq : 1 ≤ 2 ∧ 2 ≤ 6 ∧ thT (upT t) 2 = true := ⟨by omega, by omega, (th_up t 2).2 (by omega)⟩
  obtain ⟨st, hst, hP⟩ := some_go (th := thT (upT t)) (wt := wtT (List.replicate t x)) (room := 1048576) (s := s) (f := fun i => max ((List.replicate n s).getD i 0) 0) (cnt := cntT (thT (upT t))) (p := 1) (q := 2) (by omega) hp hq (by omega)
    (fun ld => (double.order x BIL == some .gt) = false → Even13 (thT (upT t)) s ld) 1048576 (Int.le_refl _)
    (fun ld h hL h1 h2 hx => even_next (T := 1048576) (by omega) (Int.le_refl _) (fun a => placeT (costT (a + s) x))
      (fun m m1 _ mt a => by rw [wt_up t x m m1 ((th_up t m).1 mt).2])
      (fun a b h0 hab hb => costT_up (a + s) (b + s) x (clean_bil x hx) (by omega) (by omega) (by omega)) (h hx) hL h1 h2)
    (List.range n) (fun _ => 0) (fun _ => (0, 0)) 0 hf (fun _ _ _ => ⟨Int.le_refl _, Int.le_refl _⟩) hlen (fun _ i j _ _ _ _ _ _ => by show (0 : Int) ≤ 0 + s; omega)
  refine ⟨st, hst, fun hx a b a1 a2 b1 b2 => ?_⟩
  have hE := hP hx
  obtain ⟨hF, _⟩ := fit_room ho (by simp; omega) hst
  have hl : ∀ m : Nat, 1 ≤ m → loadsT (List.replicate n s) (pairsT st.2 n) (m : Int) = st.1 m := fun m hm => by
    rw [hF.sum m hm, List.length_replicate]
    unfold loadsT
    rw [pairs_len, List.length_replicate, show min (min n n) 4096 = n by omega]
    exact even_loads (by omega) (by omega) (fun i hi => List.mem_range.2 hi) m n (Nat.le_refl _)
  rw [hl a a1, hl b b1]
  have := hE a b a1 (by omega) ((th_up t a).2 ⟨a1, a2⟩) b1 (by omega) ((th_up t b).2 ⟨b1, b2⟩)
  omega
end Go.Proofs.Ytjmpakngbdemgaa
namespace Go.Proofs.Ytjmpakngbdemgaa

theorem whole_deal {s r : Int} {a b : Nat} (hs : 0 ≤ s) (hr : 0 ≤ r) (ha : 1 ≤ a) (ha6 : a ≤ 6) (hb : 1 ≤ b) (hb6 : b ≤ 6) (hne : a ≠ b) (wt : Nat → Nat) :
    ∃ st, dealF (thT [(b : Int), (a : Int)]) wt (s + r) (cntT (thT [(b : Int), (a : Int)])) (fun i => max (([s] : List Int).getD i 0) 0) [0] (fun _ => 0) (fun _ => (0, 0)) = some st ∧ (pairsT st.2 1 = [((a : Int), (b : Int))] ∨ pairsT st.2 1 = [((b : Int), (a : Int))]) := by
  obtain ⟨th, hth⟩ : ∃ th, th = thT [(b : Int), (a : Int)] := ⟨_, rfl⟩
  have ta : th a = true := by rw [hth]; simp [thT]
  have tb : th b = true := by rw [hth]; simp [thT]
  have tO : ∀ k, th k = true → k = a ∨ k = b := fun k hk => by
    rw [hth] at hk
    simp [thT] at hk
    omega
  rw [← hth]
  have e0 : max (([s] : List Int).getD 0 0) 0 = s := by show max s 0 = s; omega
  obtain ⟨x, hx⟩ : ∃ x, x = oneOf th wt (s + r) (fun _ => 0) s := ⟨_, rfl⟩
  obtain ⟨y, hy⟩ : ∃ y, y = twoOf th wt (s + r) (fun _ => 0) s := ⟨_, rfl⟩
  have hx0 : x ≠ 0 := by
    obtain ⟨⟨n, c⟩, hp⟩ := giveGo_some (th := th) (ld := fun _ => 0) (wt := wt) (room := s + r) (size := s) (but := 0) (k := 6) ha ha6 (by unfold mayG; rw [ta]; simp; omega)
    have := giveGo_in hp
    rw [hx]
    unfold oneOf giveN
    rw [hp]
    show n ≠ 0
    omega
  obtain ⟨x1, x6, xt, _, _⟩ := giveN_in (n := x) hx.symm hx0
  have hxx := tO x xt
  obtain ⟨c, hc, hcx, c1, c6, ct⟩ : ∃ c, (c = a ∨ c = b) ∧ c ≠ x ∧ 1 ≤ c ∧ c ≤ 6 ∧ th c = true := by
    rcases hxx with h | h
    · exact ⟨b, .inr rfl, by omega, hb, hb6, tb⟩
    · exact ⟨a, .inl rfl, by omega, ha, ha6, ta⟩
  have hy0 : y ≠ 0 := by
    obtain ⟨⟨n, q⟩, hp⟩ := giveGo_some (th := th) (ld := ldUp (fun _ => 0) x s) (wt := wt) (room := s + r) (size := s) (but := x) (k := 6) c1 c6 (by unfold mayG ldUp; rw [ct, if_neg (fun h => hcx h.1)]; simp; exact ⟨hcx, by omega⟩)
    have := giveGo_in hp
    rw [hy]
    unfold twoOf giveN
    rw [← hx, hp]
    show n ≠ 0
    omega
  have hyin : 1 ≤ y ∧ y ≤ 6 ∧ th y = true ∧ y ≠ x := by
    have h := giveN_in (th := th) (ld := ldUp (fun _ => 0) x s) (wt := wt) (room := s + r) (size := s) (but := x) (n := y) (by rw [hy]; unfold twoOf; rw [← hx]) hy0
    exact ⟨h.1, h.2.1, h.2.2.1, h.2.2.2.1⟩
  have hyy := tO y hyin.2.2.1
  rw [dealF, e0, if_neg (by unfold badG; rw [← hx, ← hy]; simp [hx0, hy0]), dealF]
  refine ⟨_, rfl, ?_⟩
  rw [← hx, ← hy]
  show [((x : Int), (y : Int))] = _ ∨ [((x : Int), (y : Int))] = _
  rcases hxx with rfl | rfl
  · left; have : y = b := by have := hyin.2.2.2; omega
    rw [this]
  · right; have : y = a := by have := hyin.2.2.2; omega
    rw [this]
theorem whole_ord (K : Nat → Int) : IsOrd K 1 [0] := ⟨fun i => by simp, by simp⟩
theorem whole_one {K : Nat → Int} {o : List Nat} (h : IsOrd K 1 o) : o = [0] := ord_one h (whole_ord K)
end Go.Proofs.Ytjmpakngbdemgaa
namespace Go.Proofs.Ytjmpakngbdemgaa
open Go Go.Lib Go.RowKit
set_option maxRecDepth 20000

theorem and1023_13 (n : Int) : bits .and .i64 n 1023 = n % 1024 := by
  have h : (BitVec.ofInt 64 1023).toNat = 2 ^ 10 - 1 := by decide
  have key : (BitVec.ofInt 64 n &&& BitVec.ofInt 64 1023).toNat = (n % ((2 ^ 64 : Nat) : Int)).toNat % 2 ^ 10 := by
    rw [BitVec.toNat_and, BitVec.toNat_ofInt, h, Nat.and_two_pow_sub_one_eq_mod]
  show IntKind.i64.wrap ((BitVec.ofInt 64 n &&& BitVec.ofInt 64 1023).toNat : Nat) = _
  rw [key, IntKind.wrap_i64]
  omega
theorem and7_13 (n : Int) : bits .and .i64 n 7 = n % 8 := by
  have h : (BitVec.ofInt 64 7).toNat = 2 ^ 3 - 1 := by decide
  have key : (BitVec.ofInt 64 n &&& BitVec.ofInt 64 7).toNat = (n % ((2 ^ 64 : Nat) : Int)).toNat % 2 ^ 3 := by
    rw [BitVec.toNat_and, BitVec.toNat_ofInt, h, Nat.and_two_pow_sub_one_eq_mod]
  show IntKind.i64.wrap ((BitVec.ofInt 64 n &&& BitVec.ofInt 64 7).toNat : Nat) = _
  rw [key, IntKind.wrap_i64]
  omega
theorem and1_13 (n : Int) : bits .and .i64 n 1 = n % 2 := by
  have h : (BitVec.ofInt 64 1).toNat = 2 ^ 1 - 1 := by decide
  have key : (BitVec.ofInt 64 n &&& BitVec.ofInt 64 1).toNat = (n % ((2 ^ 64 : Nat) : Int)).toNat % 2 ^ 1 := by
    rw [BitVec.toNat_and, BitVec.toNat_ofInt, h, Nat.and_two_pow_sub_one_eq_mod]
  show IntKind.i64.wrap ((BitVec.ofInt 64 n &&& BitVec.ofInt 64 1).toNat : Nat) = _
  rw [key, IntKind.wrap_i64]
  omega
end Go.Proofs.Ytjmpakngbdemgaa
namespace Go.Proofs.Ytjmpakngbdemgaa
open Go Go.Lib Go.RowKit
set_option maxRecDepth 20000

theorem and63_13 (n : Int) : bits .and .i64 n 63 = n % 64 := by
  have h : (BitVec.ofInt 64 63).toNat = 2 ^ 6 - 1 := by decide
  have key : (BitVec.ofInt 64 n &&& BitVec.ofInt 64 63).toNat = (n % ((2 ^ 64 : Nat) : Int)).toNat % 2 ^ 6 := by
    rw [BitVec.toNat_and, BitVec.toNat_ofInt, h, Nat.and_two_pow_sub_one_eq_mod]
  show IntKind.i64.wrap ((BitVec.ofInt 64 n &&& BitVec.ofInt 64 63).toNat : Nat) = _
  rw [key, IntKind.wrap_i64]
  omega
theorem and15_13 (n : Int) : bits .and .i64 n 15 = n % 16 := by
  have h : (BitVec.ofInt 64 15).toNat = 2 ^ 4 - 1 := by decide
  have key : (BitVec.ofInt 64 n &&& BitVec.ofInt 64 15).toNat = (n % ((2 ^ 64 : Nat) : Int)).toNat % 2 ^ 4 := by
    rw [BitVec.toNat_and, BitVec.toNat_ofInt, h, Nat.and_two_pow_sub_one_eq_mod]
  show IntKind.i64.wrap ((BitVec.ofInt 64 n &&& BitVec.ofInt 64 15).toNat : Nat) = _
  rw [key, IntKind.wrap_i64]
  omega
theorem and3_13 (n : Int) : bits .and .i64 n 3 = n % 4 := by
  have h : (BitVec.ofInt 64 3).toNat = 2 ^ 2 - 1 := by decide
  have key : (BitVec.ofInt 64 n &&& BitVec.ofInt 64 3).toNat = (n % ((2 ^ 64 : Nat) : Int)).toNat % 2 ^ 2 := by
    rw [BitVec.toNat_and, BitVec.toNat_ofInt, h, Nat.and_two_pow_sub_one_eq_mod]
  show IntKind.i64.wrap ((BitVec.ofInt 64 n &&& BitVec.ofInt 64 3).toNat : Nat) = _
  rw [key, IntKind.wrap_i64]
  omega
theorem inI_snoc (z : List Int) (x : Int) : inI z ++ [.int .i64 x] = inI (z ++ [x]) := by simp [inI]
theorem flV_snoc13 (z : List Nat) (x : Nat) : flV z ++ [.float .f64 x] = flV (z ++ [x]) := by simp [flV]
theorem rep_snoc {A : Type} (k : Nat) (x : A) : List.replicate k x ++ [x] = List.replicate (k + 1) x := by rw [List.replicate_succ']
set_option maxHeartbeats 8000000 in
set_option maxRecDepth 100000 in
theorem lawDEven_any (n0 s0 t0 : Int) (x : Nat) (hx : Wd x) (w : World) :
    Calls Try.prog 3 #[.int .i64 n0, .int .i64 s0, .int .i64 t0, .float .f64 x] w fun e w' => e = .returned (.bool true) ∧ Below w.heap.size w w' := by
  obtain ⟨n, hn, hn63⟩ : ∃ n : Nat, bits .and .i64 n0 63 = (n : Int) ∧ n ≤ 63 := ⟨(n0 % 64).toNat, by rw [and63_13]; omega, by omega⟩
  obtain ⟨s1, hs, hs0, hs15⟩ : ∃ s, bits .and .i64 s0 15 = s ∧ 0 ≤ s ∧ s ≤ 15 := ⟨_, and15_13 s0, by omega, by omega⟩
  obtain ⟨t1, ht, ht3⟩ : ∃ t : Nat, bits .and .i64 t0 3 = (t : Int) ∧ t ≤ 3 := ⟨(t0 % 4).toNat, by rw [and3_13]; omega, by omega⟩
  obtain ⟨t, htt⟩ : ∃ t, t = 2 + t1 := ⟨_, rfl⟩
  have HT : 2 + (t1 : Int) = (t : Int) := by omega
  have ht2 : 2 ≤ t := by omega
  have ht5 : t ≤ 5 := by omega
  obtain ⟨s, hss⟩ : ∃ s, s = 1 + s1 := ⟨_, rfl⟩
  have HS : 1 + s1 = s := hss.symm
  have hs1 : 1 ≤ s := by omega
  have hs16 : s ≤ 16 := by omega
  clear htt hss
  have AW : Hid (∀ W, Calls Try.prog 4 #[] W fun e w' => e = .returned (.bool true) ∧ Below W.heap.size W w') := fun W => awake13_any W
  have DE : Hid (∀ W vz vl vw, ISl W vz (List.replicate n s) → ISl W vl (upT t) → FSl W vw (List.replicate t x) → Calls Try.prog 5 #[vz, vl, vw, .int .i64 1048576] W fun e w' => (∃ v out, e = .returned (.tuple #[v, .int .i64 0]) ∧ PairsAt w' v (pairsT out n) ∧ Hid ((Ieee.double.order x BIL == some .gt) = false → ∀ a b : Nat, 1 ≤ a → a ≤ t → 1 ≤ b → b ≤ t → loadsT (List.replicate n s) (pairsT out n) (a : Int) - loadsT (List.replicate n s) (pairsT out n) (b : Int) ≤ s)) ∧ Below W.heap.size W w') := fun W vz vl vw h1 h2 h3 => by
    refine (deal_any (List.replicate n s) (upT t) (by simp; omega) (List.replicate t x) (fun y hy => by rw [(List.mem_replicate.1 hy).2]; exact hx) 1048576 (by omega) (by omega) (fun y hy => by rw [(List.mem_replicate.1 hy).2]; omega) vz vl vw W h1 h2 h3).mono ?_
    rintro e w' ⟨⟨o, ho, hd⟩, hbb⟩
    obtain ⟨st, hst, hP⟩ := even_deal (x := x) (t := t) hs1 hs16 hn63 ht2 ht5 ho
    rw [hst] at hd
    obtain ⟨v, he, hv⟩ := hd
    have hv := POwn.at_ hv
    rw [List.length_replicate] at hv
    exact ⟨⟨v, st.2, he, hv, hP⟩, hbb⟩
  have LD : Hid (∀ W vz vl out (m : Int), ISl W vz (List.replicate n s) → PairsAt W vl (pairsT out n) → Calls Try.prog 6 #[vz, vl, .int .i64 m] W fun e w' => e = .returned (.int .i64 (loadsT (List.replicate n s) (pairsT out n) m)) ∧ Below W.heap.size W w') := fun W vz vl out m h1 h2 => loads_any _ _ m _ _ W h1 h2
  clear hx
  go_enter Try.func3, Try.ntmps3
  go_wp2_with fail
  refine (AW.out _).mono ?_
  rintro e w1 ⟨rfl, B1⟩
  have B1 : Hid (Below w.heap.size w w1) := B1
  clear AW
  go_wp2_with fail
  go_loopw [9, 10] (fun vz vi wr => ∃ k : Nat, k ≤ n ∧ vi = .int .i64 (k : Int) ∧ Hid (VOwn 3 w1.heap.size wr vz (inI (List.replicate k s))) ∧ Hid (Below w1.heap.size w1 wr)) (fun _ vi _ => n - (intOf vi).toNat)
  case atStart => exact ⟨0, Nat.zero_le _, rfl, VOwn.nil _ _ _, Below.refl _ _⟩
  case round =>
    obtain ⟨k, hk, rfl, OZ, BZ⟩ := hrel
    by_cases hlt : k < n
    · have hlt' : (k : Int) < (n : Int) := by omega
      obtain ⟨wa, hwa⟩ : ∃ wa, wa = wr.alloc (.cells #[.int .i64 s] 3) := ⟨_, rfl⟩
      obtain ⟨q, hq⟩ : ∃ q, q = wr.heap.size := ⟨_, rfl⟩
      have ba : Below wr.heap.size wr wa := by rw [hwa]; exact (Below.refl _ _).alloc (Nat.le_refl _) _
      have OA : Hid (VOwn 3 w1.heap.size wa u9 (inI (List.replicate k s))) := OZ.out.below ba
      have BA : Hid (Below w1.heap.size w1 wa) := BZ.out.trans (ba.mono BZ.out.size)
      have GA : Hid (wa.heap[q]? = some (.cells #[.int .i64 s] 3 (0, 0))) := by show _ = _; rw [hwa, hq]; exact heap_new _ _ _ rfl
      clear ba OZ BZ
      go_wp2_with (at_builtin; refine of_stopT ?_)
      unfold StopT
      rw [← hwa, ← hq]
      clear hwa hq
      refine wl_app1V scI rfl _ _ rfl w1.heap.size u9 (inI (List.replicate k s)) (.int .i64 s) rfl rfl OA.out q 1 rfl GA.out (by rw [inI_len, List.length_replicate]; omega) BA.out.size ?_
      intro v3 w3 ho3 hg3 hb3
      have O3 : Hid (VOwn 3 w1.heap.size w3 v3 (inI (List.replicate (k + 1) s))) := by show VOwn _ _ _ _ _; rw [← rep_snoc, ← inI_snoc]; exact ho3
      have B3 : Hid (Below w1.heap.size w1 w3) := BA.out.grown hg3 BA.out.size fun j hj => (OA.out.ge j hj).1
      clear ho3 hg3 hb3 OA BA GA
      simp only [Act.put, List.setIfInBounds_toArray, List.set_cons_succ, List.set_cons_zero]
      go_wp2_with fail
      go_roundw
      case rel => exact ⟨k + 1, by omega, by go_num, O3, B3⟩
      case measure => simp [intOf]; omega
    · have hlt' : ¬ (k : Int) < (n : Int) := by omega
      obtain rfl : n = k := by omega
      obtain ⟨w2, hw2⟩ : ∃ w2 : World, w2 = wr := ⟨_, rfl⟩
      rw [← hw2] at OZ BZ ⊢
      clear hw2
      have B2 : Hid (Below w.heap.size w w2) := B1.out.trans (BZ.out.mono B1.out.size)
      obtain ⟨vz, hvz⟩ : ∃ vz, vz = u9 := ⟨_, rfl⟩
      rw [← hvz] at OZ ⊢
      clear hvz
      have ZS : Hid (ISl w2 vz (List.replicate n s)) := OZ.out.sl
      clear OZ BZ
      go_wp2_with fail
      go_loopw [11, 12, 13] (fun vl vw vi wr => ∃ k : Nat, k ≤ t ∧ vi = .int .i64 ((k : Int) + 1) ∧ Hid (VOwn 3 w2.heap.size wr vl (inI (upT k))) ∧ Hid (VOwn 22 w2.heap.size wr vw (flV (List.replicate k x))) ∧ Hid (∀ g, vl.ownBlock = some g → vw.ownBlock ≠ some g) ∧ Hid (Below w2.heap.size w2 wr)) (fun _ _ vi _ => t + 1 - (intOf vi).toNat)
      case atStart => exact ⟨0, Nat.zero_le _, rfl, VOwn.nil _ _ _, VOwn.nil _ _ _, (fun g h => by cases h), Below.refl _ _⟩
      case round =>
        obtain ⟨k, hk, rfl, OL, OW, NE, BX⟩ := hrel
        by_cases hlt : k < t
        · have hlt' : (k : Int) + 1 ≤ (t : Int) := by omega
          obtain ⟨wa, hwa⟩ : ∃ wa, wa = wr.alloc (.cells #[.int .i64 ((k : Int) + 1)] 3) := ⟨_, rfl⟩
          obtain ⟨q, hq⟩ : ∃ q, q = wr.heap.size := ⟨_, rfl⟩
          have ba : Below wr.heap.size wr wa := by rw [hwa]; exact (Below.refl _ _).alloc (Nat.le_refl _) _
          have LA : Hid (VOwn 3 w2.heap.size wa u11 (inI (upT k))) := OL.out.below ba
          have WA : Hid (VOwn 22 w2.heap.size wa u12 (flV (List.replicate k x))) := OW.out.below ba
          have BA : Hid (Below w2.heap.size w2 wa) := BX.out.trans (ba.mono BX.out.size)
          have GA : Hid (wa.heap[q]? = some (.cells #[.int .i64 ((k : Int) + 1)] 3 (0, 0))) := by show _ = _; rw [hwa, hq]; exact heap_new _ _ _ rfl
          clear ba OL OW BX
          go_wp2_with (at_builtin; refine of_stopT ?_)
          unfold StopT
          rw [← hwa, ← hq]
          clear hwa hq
          refine wl_app1V scI rfl _ _ rfl w2.heap.size u11 (inI (upT k)) (.int .i64 ((k : Int) + 1)) rfl rfl LA.out q 1 rfl GA.out (by rw [inI_len, upT_len]; omega) BA.out.size ?_
          intro v3 w3 ho3 hg3 hb3
          have L3 : Hid (VOwn 3 w2.heap.size w3 v3 (inI (upT (k + 1)))) := by show VOwn _ _ _ _ _; rw [upT_snoc, ← inI_snoc]; exact ho3
          have W3 : Hid (VOwn 22 w2.heap.size w3 u12 (flV (List.replicate k x))) := WA.out.grown hg3 (fun g h e => NE.out g e h)
          have B3 : Hid (Below w2.heap.size w2 w3) := BA.out.grown hg3 BA.out.size fun j hj => (LA.out.ge j hj).1
          have N3 : Hid (∀ g, v3.ownBlock = some g → u12.ownBlock ≠ some g) := fun g h => by
            rcases hb3 with h' | h'
            · exact NE.out g (h' ▸ h)
            · intro h2
              have := (WA.out.ge g h2).2
              rw [h'] at h
              cases h
              omega
          clear ho3 hg3 hb3 LA WA BA GA NE
          obtain ⟨wb, hwb⟩ : ∃ wb, wb = w3.alloc (.cells #[.float .f64 x] 22) := ⟨_, rfl⟩
          obtain ⟨q2, hq2⟩ : ∃ q, q = w3.heap.size := ⟨_, rfl⟩
          have bb : Below w3.heap.size w3 wb := by rw [hwb]; exact (Below.refl _ _).alloc (Nat.le_refl _) _
          have LB : Hid (VOwn 3 w2.heap.size wb v3 (inI (upT (k + 1)))) := L3.out.below bb
          have WB : Hid (VOwn 22 w2.heap.size wb u12 (flV (List.replicate k x))) := W3.out.below bb
          have BB : Hid (Below w2.heap.size w2 wb) := B3.out.trans (bb.mono B3.out.size)
          have GB : Hid (wb.heap[q2]? = some (.cells #[.float .f64 x] 22 (0, 0))) := by show _ = _; rw [hwb, hq2]; exact heap_new _ _ _ rfl
          clear bb L3 W3 B3
          simp only [Act.put, List.setIfInBounds_toArray, List.set_cons_succ, List.set_cons_zero]
          go_wp2_with (at_builtin; refine of_stopT ?_)
          unfold StopT
          rw [← hwb, ← hq2]
          clear hwb hq2
          refine wl_app1V scF rfl _ _ rfl w2.heap.size u12 (flV (List.replicate k x)) (.float .f64 x) rfl rfl WB.out q2 1 rfl GB.out (by rw [flV_len, List.length_replicate]; omega) BB.out.size ?_
          intro v5 w5 ho5 hg5 hb5
          have W5 : Hid (VOwn 22 w2.heap.size w5 v5 (flV (List.replicate (k + 1) x))) := by show VOwn _ _ _ _ _; rw [← rep_snoc, ← flV_snoc13]; exact ho5
          have L5 : Hid (VOwn 3 w2.heap.size w5 v3 (inI (upT (k + 1)))) := LB.out.grown hg5 (fun g h e => N3.out g h e)
          have B5 : Hid (Below w2.heap.size w2 w5) := BB.out.grown hg5 BB.out.size fun j hj => (WB.out.ge j hj).1
          have N5 : Hid (∀ g, v3.ownBlock = some g → v5.ownBlock ≠ some g) := fun g h => by
            rcases hb5 with h' | h'
            · rw [h']; exact N3.out g h
            · intro h2
              have := (LB.out.ge g h).2
              rw [h'] at h2
              cases h2
              omega
          clear ho5 hg5 hb5 LB WB BB GB N3
          simp only [Act.put, List.setIfInBounds_toArray, List.set_cons_succ, List.set_cons_zero]
          go_wp2_with fail
          go_roundw
          case rel => exact ⟨k + 1, by omega, by go_num, L5, W5, N5, B5⟩
          case measure => simp [intOf]; omega
        · have hlt' : ¬ (k : Int) + 1 ≤ (t : Int) := by omega
          obtain rfl : t = k := by omega
          have Z3 : Hid (ISl wr vz (List.replicate n s)) := VSl.below ZS.out BX.out
          have L3 : Hid (ISl wr u11 (upT t)) := OL.out.sl
          have W3 : Hid (FSl wr u12 (List.replicate t x)) := OW.out.sl
          have B3 : Hid (Below w.heap.size w wr) := B2.out.trans (BX.out.mono B2.out.size)
          clear ZS OL OW NE BX
          go_wp2_with fail
          refine (DE.out wr vz u11 u12 Z3.out L3.out W3.out).mono ?_
          rintro e w4 ⟨⟨v, out, rfl, hv, HP⟩, hb4⟩
          have Z4 : Hid (ISl w4 vz (List.replicate n s)) := VSl.below Z3.out hb4
          have B4 : Hid (Below w.heap.size w w4) := B3.out.trans (hb4.mono B3.out.size)
          clear Z3 L3 W3 B3 hb4
          obtain ⟨ol, cl, rfl, hl1, hl2⟩ := GSl.slice hv
          rw [pairs_len] at hv hl1 ⊢
          unfold maxLen at hl2
          have P4 : Hid (PairsAt w4 (.slice ol n cl) (pairsT out n)) := hv
          clear hv
          cases hg : (FloatKind.f64.format.order x 4741671816366391296 == some .gt) with
          | true =>
            go_wp2_with fail
            go_ret
            exact ⟨by simp, B4.out⟩
          | false =>
            have HP : Hid (∀ a b : Nat, 1 ≤ a → a ≤ t → 1 ≤ b → b ≤ t → loadsT (List.replicate n s) (pairsT out n) (a : Int) - loadsT (List.replicate n s) (pairsT out n) (b : Int) ≤ s) := HP.out hg
            have HB : Hid (∀ m, 0 ≤ loadsT (List.replicate n s) (pairsT out n) m ∧ loadsT (List.replicate n s) (pairsT out n) m ≤ 1048576 * 4096) := fun m => by
              have := ldS_le (List.replicate n s) (pairsT out n) m (min (min (List.replicate n s).length (pairsT out n).length) 4096)
              unfold loadsT
              omega
            go_wp2_with fail
            clear hg
            go_loopw [16] (fun vi wr => ∃ a : Nat, a ≤ t ∧ vi = .int .i64 ((a : Int) + 1) ∧ Hid (Below w4.heap.size w4 wr)) (fun vi _ => t + 1 - (intOf vi).toNat)
            case atStart => exact ⟨0, Nat.zero_le _, rfl, Below.refl _ _⟩
            case round =>
              obtain ⟨a, ha, rfl, BY⟩ := hrel
              by_cases hlt2 : a < t
              · have hlt2' : (a : Int) + 1 ≤ (t : Int) := by omega
                obtain ⟨wy, hwy⟩ : ∃ wy : World, wy = wr := ⟨_, rfl⟩
                rw [← hwy] at BY ⊢
                clear hwy
                go_wp2_with fail
                go_loopw [17] (fun vi wr => ∃ b : Nat, b ≤ t ∧ vi = .int .i64 ((b : Int) + 1) ∧ Hid (Below w4.heap.size w4 wr)) (fun vi _ => t + 1 - (intOf vi).toNat)
                case atStart => exact ⟨0, Nat.zero_le _, rfl, BY⟩
                case round =>
                  clear BY
                  obtain ⟨b, hb, rfl, BY⟩ := hrel
                  by_cases hlt3 : b < t
                  · have hlt3' : (b : Int) + 1 ≤ (t : Int) := by omega
                    have hle := HP.out (a + 1) (b + 1) (by omega) (by omega) (by omega) (by omega)
                    have hA := HB.out ((a : Int) + 1)
                    have hB := HB.out ((b : Int) + 1)
                    rw [show ((a + 1 : Nat) : Int) = (a : Int) + 1 by omega, show ((b + 1 : Nat) : Int) = (b : Int) + 1 by omega] at hle
                    go_wp2_with fail
                    refine (LD.out _ _ _ out _ (VSl.below Z4.out BY.out) (GSl.below P4.out BY.out)).mono ?_
                    rintro e w6 ⟨rfl, hb6⟩
                    have B6 : Hid (Below w4.heap.size w4 w6) := BY.out.trans (hb6.mono BY.out.size)
                    generalize loadsT (List.replicate n s) (pairsT out n) ((a : Int) + 1) = x1 at hle hA ⊢
                    clear hb6 BY
                    go_wp2_with fail
                    refine (LD.out _ _ _ out _ (VSl.below Z4.out B6.out) (GSl.below P4.out B6.out)).mono ?_
                    rintro e w7 ⟨rfl, hb7⟩
                    have B7 : Hid (Below w4.heap.size w4 w7) := B6.out.trans (hb7.mono B6.out.size)
                    generalize loadsT (List.replicate n s) (pairsT out n) ((b : Int) + 1) = x2 at hle hB ⊢
                    clear hb7 B6
                    have hno : ¬ x1 - x2 > s := by omega
                    have hno' : decide (x1 - x2 > s) = false := by simpa using hle
                    go_wp2_with fail
                    go_roundw
                    case rel => exact ⟨b + 1, by omega, by go_num, B7⟩
                    case measure => simp [intOf]; omega
                  · have hlt3' : ¬ (b : Int) + 1 ≤ (t : Int) := by omega
                    go_wp2_with fail
                    go_roundw
                    case rel => exact ⟨a + 1, by omega, by go_num, BY⟩
                    case measure => simp [intOf]; omega
              · have hlt2' : ¬ (a : Int) + 1 ≤ (t : Int) := by omega
                go_wp2_with fail
                go_ret
                exact ⟨by simp, B4.out.trans (BY.out.mono B4.out.size)⟩
end Go.Proofs.Ytjmpakngbdemgaa
