import Derived.Test.YtjfbahpaahlidaaDoorField
namespace Go.Proofs.YtjfbahpaahlidaaDoor
open Go Go.RowKit

theorem makeN_list (a b c d p : Int) : makeN [a, b, c, d, p] 5 = [a / 2 ^ 24 % 256, a / 2 ^ 16 % 256, a / 2 ^ 8 % 256, a / 2 ^ 0 % 256, b / 2 ^ 24 % 256, b / 2 ^ 16 % 256, b / 2 ^ 8 % 256, b / 2 ^ 0 % 256, c / 2 ^ 8 % 256, c / 2 ^ 0 % 256, d / 2 ^ 8 % 256, d / 2 ^ 0 % 256, p / 2 ^ 0 % 256] := by
  rfl
theorem makeN_byt (ns : List Int) : ∀ k, k ≤ 5 → Byt (makeN ns k)
  | 0, _ => ⟨rfl, fun k => by
    rcases Nat.lt_or_ge k 13 with h | h
    · have : ∀ k : Fin 13, 0 ≤ Z13.getD k.val 0 ∧ Z13.getD k.val 0 < 256 := by decide
      exact this ⟨k, h⟩
    · have e : (makeN ns 0).getD k 0 = 0 := by
        show Z13.getD k 0 = 0
        rw [List.getD, List.getElem?_eq_none (by simpa using h)]; rfl
      rw [e]; decide⟩
  | k + 1, h => putN_byt _ (makeN_byt ns k (by omega)) _ _ _ (by
    rcases (show k = 0 ∨ k = 1 ∨ k = 2 ∨ k = 3 ∨ k = 4 by omega) with e | e | e | e | e <;> subst e <;> decide)

theorem makeN_field0 (a b c d p : Int) (h : 0 ≤ a ∧ a < 4294967296) : getN (makeN [a, b, c, d, p] 5) (atOf 0) (sizeOfF 0) = a := by
  rw [makeN_list]
  show ((((0 : Int) * 256 + a / 2 ^ 24 % 256) * 256 + a / 2 ^ 16 % 256) * 256 + a / 2 ^ 8 % 256) * 256 + a / 2 ^ 0 % 256 = a
  omega
theorem makeN_field1 (a b c d p : Int) (h : 0 ≤ b ∧ b < 4294967296) : getN (makeN [a, b, c, d, p] 5) (atOf 1) (sizeOfF 1) = b := by
  rw [makeN_list]
  show ((((0 : Int) * 256 + b / 2 ^ 24 % 256) * 256 + b / 2 ^ 16 % 256) * 256 + b / 2 ^ 8 % 256) * 256 + b / 2 ^ 0 % 256 = b
  omega
theorem makeN_field2 (a b c d p : Int) (h : 0 ≤ c ∧ c < 65536) : getN (makeN [a, b, c, d, p] 5) (atOf 2) (sizeOfF 2) = c := by
  rw [makeN_list]
  show ((0 : Int) * 256 + c / 2 ^ 8 % 256) * 256 + c / 2 ^ 0 % 256 = c
  omega
theorem makeN_field3 (a b c d p : Int) (h : 0 ≤ d ∧ d < 65536) : getN (makeN [a, b, c, d, p] 5) (atOf 3) (sizeOfF 3) = d := by
  rw [makeN_list]
  show ((0 : Int) * 256 + d / 2 ^ 8 % 256) * 256 + d / 2 ^ 0 % 256 = d
  omega
theorem makeN_field4 (a b c d p : Int) (h : 0 ≤ p ∧ p < 256) : getN (makeN [a, b, c, d, p] 5) (atOf 4) (sizeOfF 4) = p := by
  rw [makeN_list]
  show (0 : Int) * 256 + p / 2 ^ 0 % 256 = p
  omega

set_option maxHeartbeats 2000000 in
theorem refMake_any (a b c d p : Int) (w : World) (ha : 0 ≤ a ∧ a < 4294967296) (hb : 0 ≤ b ∧ b < 4294967296) (hc : 0 ≤ c ∧ c < 65536) (hd : 0 ≤ d ∧ d < 65536) (hp : 0 ≤ p ∧ p < 256) :
    Calls Tryd.prog 12 #[.int .u32 a, .int .u32 b, .int .u32 c, .int .u32 d, .int .u32 p] w fun e w' => e = .returned (.agg (hv (makeN [a, b, c, d, p] 5))) ∧ Below w.heap.size w w' := by
  have W0 : Hid (∀ W, Calls Tryd.prog 15 #[.agg (hv (makeN [a, b, c, d, p] 0)), .int .i64 0, .int .u32 a] W fun e w' => e = .returned (.tuple #[.agg (hv (makeN [a, b, c, d, p] 1)), .int .i64 0]) ∧ Below W.heap.size W w') := fun W => refWith_ok _ (makeN_byt _ 0 (by decide)) 0 a W (by decide) (by decide) (by omega) (by omega) (by rw [show (2 : Int) ^ (8 * sizeOfF 0) = 4294967296 by decide]; omega)
  have l1 : (makeN [a, b, c, d, p] 1).length = 13 := makeN_length _ _
  have W1 : Hid (∀ W, Calls Tryd.prog 15 #[.agg (hv (makeN [a, b, c, d, p] 1)), .int .i64 1, .int .u32 b] W fun e w' => e = .returned (.tuple #[.agg (hv (makeN [a, b, c, d, p] 2)), .int .i64 0]) ∧ Below W.heap.size W w') := fun W => refWith_ok _ (makeN_byt _ 1 (by decide)) 1 b W (by decide) (by decide) (by omega) (by omega) (by rw [show (2 : Int) ^ (8 * sizeOfF 1) = 4294967296 by decide]; omega)
  have l2 : (makeN [a, b, c, d, p] 2).length = 13 := makeN_length _ _
  have W2 : Hid (∀ W, Calls Tryd.prog 15 #[.agg (hv (makeN [a, b, c, d, p] 2)), .int .i64 2, .int .u32 c] W fun e w' => e = .returned (.tuple #[.agg (hv (makeN [a, b, c, d, p] 3)), .int .i64 0]) ∧ Below W.heap.size W w') := fun W => refWith_ok _ (makeN_byt _ 2 (by decide)) 2 c W (by decide) (by decide) (by omega) (by omega) (by rw [show (2 : Int) ^ (8 * sizeOfF 2) = 65536 by decide]; omega)
  have l3 : (makeN [a, b, c, d, p] 3).length = 13 := makeN_length _ _
  have W3 : Hid (∀ W, Calls Tryd.prog 15 #[.agg (hv (makeN [a, b, c, d, p] 3)), .int .i64 3, .int .u32 d] W fun e w' => e = .returned (.tuple #[.agg (hv (makeN [a, b, c, d, p] 4)), .int .i64 0]) ∧ Below W.heap.size W w') := fun W => refWith_ok _ (makeN_byt _ 3 (by decide)) 3 d W (by decide) (by decide) (by omega) (by omega) (by rw [show (2 : Int) ^ (8 * sizeOfF 3) = 65536 by decide]; omega)
  have l4 : (makeN [a, b, c, d, p] 4).length = 13 := makeN_length _ _
  have W4 : Hid (∀ W, Calls Tryd.prog 15 #[.agg (hv (makeN [a, b, c, d, p] 4)), .int .i64 4, .int .u32 p] W fun e w' => e = .returned (.tuple #[.agg (hv (makeN [a, b, c, d, p] 5)), .int .i64 0]) ∧ Below W.heap.size W w') := fun W => refWith_ok _ (makeN_byt _ 4 (by decide)) 4 p W (by decide) (by decide) (by omega) (by omega) (by rw [show (2 : Int) ^ (8 * sizeOfF 4) = 256 by decide]; omega)
  have l5 : (makeN [a, b, c, d, p] 5).length = 13 := makeN_length _ _
  clear ha hb hc hd hp
  go_enter Tryd.func12, Tryd.ntmps12
  go_wp2_with fail
  refine (W0.out _).mono ?_
  rintro e w1 ⟨rfl, hb1⟩
  have hz1 := hb1.size
  rw [World.size_alloc] at hz1
  have r1 : w1.heap[w.heap.size]? = some (.cells zero26 26 (0, 0)) := by rw [hb1.block _ (by simp)]; exact heap_new _ _ _ rfl
  have hB1 : Below w.heap.size w w1 := ((Below.refl _ _).alloc (Nat.le_refl _) _).trans (hb1.mono (by simp))
  clear hb1 W0
  go_wp2_with (first
    | (refine wl_store26 rfl _ _ rfl w1.heap.size (makeN [a, b, c, d, p] 1) rfl rfl _ (heap_new _ _ _ rfl) rfl l1 _ (setRow_new _ _ _ _ _ rfl) ?_)
    | (refine wl_load26 rfl _ rfl w1.heap.size rfl (makeN [a, b, c, d, p] 1) (heap_new _ _ _ rfl) l1 ?_))
  obtain ⟨V1, hV1⟩ : ∃ V, V = w1.alloc (Obj.cells (hv (makeN [a, b, c, d, p] 1)) 26) := ⟨_, rfl⟩
  have r2 : V1.heap[w.heap.size]? = some (.cells zero26 26 (0, 0)) := by rw [hV1]; exact heap_past _ _ _ _ r1
  have m2 : V1.heap[w1.heap.size]? = some (.cells (hv (makeN [a, b, c, d, p] 1)) 26 (0, 0)) := by rw [hV1]; exact heap_new _ _ _ rfl
  have hC1 : Below w.heap.size w V1 := by rw [hV1]; exact hB1.alloc hB1.size _
  rw [← hV1]
  clear hV1 r1 hB1
  refine (W1.out _).mono ?_
  rintro e x1 ⟨rfl, hx1⟩
  have s1 : x1.heap[w.heap.size]? = some (.cells zero26 26 (0, 0)) := by rw [hx1.block _ (Array.getElem?_eq_some_iff.1 r2).1]; exact r2
  have t1 : x1.heap[w1.heap.size]? = some (.cells (hv (makeN [a, b, c, d, p] 1)) 26 (0, 0)) := by rw [hx1.block _ (Array.getElem?_eq_some_iff.1 m2).1]; exact m2
  have hD1 : Below w.heap.size w x1 := hC1.trans (hx1.mono hC1.size)
  have r3 : (x1.setRow w1.heap.size (hv (makeN [a, b, c, d, p] 2))).heap[w.heap.size]? = some (.cells zero26 26 (0, 0)) := by rw [setRow_other _ _ _ _ (by omega)]; exact s1
  have m3 : (x1.setRow w1.heap.size (hv (makeN [a, b, c, d, p] 2))).heap[w1.heap.size]? = some (.cells (hv (makeN [a, b, c, d, p] 2)) 26 (0, 0)) := setRow_heap _ _ _ _ _ _ t1
  have hC2 : Below w.heap.size w (x1.setRow w1.heap.size (hv (makeN [a, b, c, d, p] 2))) := below_setRow hD1 (by omega) _
  clear hx1 hD1 s1 W1 r2 m2 hC1
  go_wp2_with (first
    | (refine wl_store26 rfl _ _ rfl w1.heap.size (makeN [a, b, c, d, p] 2) rfl rfl _ t1 (by rw [hv_size]; exact makeN_length _ _) l2 _ rfl ?_)
    | (refine wl_load26 rfl _ rfl w1.heap.size rfl (makeN [a, b, c, d, p] 2) m3 l2 ?_)
    | (refine wl_store26 rfl _ _ rfl w.heap.size (makeN [a, b, c, d, p] 5) rfl rfl _ r3 rfl (makeN_length _ _) _ rfl ?_))
  refine (W2.out _).mono ?_
  rintro e x2 ⟨rfl, hx2⟩
  have s2 : x2.heap[w.heap.size]? = some (.cells zero26 26 (0, 0)) := by rw [hx2.block _ (Array.getElem?_eq_some_iff.1 r3).1]; exact r3
  have t2 : x2.heap[w1.heap.size]? = some (.cells (hv (makeN [a, b, c, d, p] 2)) 26 (0, 0)) := by rw [hx2.block _ (Array.getElem?_eq_some_iff.1 m3).1]; exact m3
  have hD2 : Below w.heap.size w x2 := hC2.trans (hx2.mono hC2.size)
  have r4 : (x2.setRow w1.heap.size (hv (makeN [a, b, c, d, p] 3))).heap[w.heap.size]? = some (.cells zero26 26 (0, 0)) := by rw [setRow_other _ _ _ _ (by omega)]; exact s2
  have m4 : (x2.setRow w1.heap.size (hv (makeN [a, b, c, d, p] 3))).heap[w1.heap.size]? = some (.cells (hv (makeN [a, b, c, d, p] 3)) 26 (0, 0)) := setRow_heap _ _ _ _ _ _ t2
  have hC3 : Below w.heap.size w (x2.setRow w1.heap.size (hv (makeN [a, b, c, d, p] 3))) := below_setRow hD2 (by omega) _
  clear hx2 hD2 s2 W2 r3 m3 hC2
  go_wp2_with (first
    | (refine wl_store26 rfl _ _ rfl w1.heap.size (makeN [a, b, c, d, p] 3) rfl rfl _ t2 (by rw [hv_size]; exact makeN_length _ _) l3 _ rfl ?_)
    | (refine wl_load26 rfl _ rfl w1.heap.size rfl (makeN [a, b, c, d, p] 3) m4 l3 ?_)
    | (refine wl_store26 rfl _ _ rfl w.heap.size (makeN [a, b, c, d, p] 5) rfl rfl _ r4 rfl (makeN_length _ _) _ rfl ?_))
  refine (W3.out _).mono ?_
  rintro e x3 ⟨rfl, hx3⟩
  have s3 : x3.heap[w.heap.size]? = some (.cells zero26 26 (0, 0)) := by rw [hx3.block _ (Array.getElem?_eq_some_iff.1 r4).1]; exact r4
  have t3 : x3.heap[w1.heap.size]? = some (.cells (hv (makeN [a, b, c, d, p] 3)) 26 (0, 0)) := by rw [hx3.block _ (Array.getElem?_eq_some_iff.1 m4).1]; exact m4
  have hD3 : Below w.heap.size w x3 := hC3.trans (hx3.mono hC3.size)
  have r5 : (x3.setRow w1.heap.size (hv (makeN [a, b, c, d, p] 4))).heap[w.heap.size]? = some (.cells zero26 26 (0, 0)) := by rw [setRow_other _ _ _ _ (by omega)]; exact s3
  have m5 : (x3.setRow w1.heap.size (hv (makeN [a, b, c, d, p] 4))).heap[w1.heap.size]? = some (.cells (hv (makeN [a, b, c, d, p] 4)) 26 (0, 0)) := setRow_heap _ _ _ _ _ _ t3
  have hC4 : Below w.heap.size w (x3.setRow w1.heap.size (hv (makeN [a, b, c, d, p] 4))) := below_setRow hD3 (by omega) _
  clear hx3 hD3 s3 W3 r4 m4 hC3
  go_wp2_with (first
    | (refine wl_store26 rfl _ _ rfl w1.heap.size (makeN [a, b, c, d, p] 4) rfl rfl _ t3 (by rw [hv_size]; exact makeN_length _ _) l4 _ rfl ?_)
    | (refine wl_load26 rfl _ rfl w1.heap.size rfl (makeN [a, b, c, d, p] 4) m5 l4 ?_)
    | (refine wl_store26 rfl _ _ rfl w.heap.size (makeN [a, b, c, d, p] 5) rfl rfl _ r5 rfl (makeN_length _ _) _ rfl ?_))
  refine (W4.out _).mono ?_
  rintro e x4 ⟨rfl, hx4⟩
  have s4 : x4.heap[w.heap.size]? = some (.cells zero26 26 (0, 0)) := by rw [hx4.block _ (Array.getElem?_eq_some_iff.1 r5).1]; exact r5
  have t4 : x4.heap[w1.heap.size]? = some (.cells (hv (makeN [a, b, c, d, p] 4)) 26 (0, 0)) := by rw [hx4.block _ (Array.getElem?_eq_some_iff.1 m5).1]; exact m5
  have hD4 : Below w.heap.size w x4 := hC4.trans (hx4.mono hC4.size)
  have r6 : (x4.setRow w1.heap.size (hv (makeN [a, b, c, d, p] 5))).heap[w.heap.size]? = some (.cells zero26 26 (0, 0)) := by rw [setRow_other _ _ _ _ (by omega)]; exact s4
  have m6 : (x4.setRow w1.heap.size (hv (makeN [a, b, c, d, p] 5))).heap[w1.heap.size]? = some (.cells (hv (makeN [a, b, c, d, p] 5)) 26 (0, 0)) := setRow_heap _ _ _ _ _ _ t4
  have hC5 : Below w.heap.size w (x4.setRow w1.heap.size (hv (makeN [a, b, c, d, p] 5))) := below_setRow hD4 (by omega) _
  clear hx4 hD4 s4 W4 r5 m5 hC4
  go_wp2_with (first
    | (refine wl_store26 rfl _ _ rfl w1.heap.size (makeN [a, b, c, d, p] 5) rfl rfl _ t4 (by rw [hv_size]; exact makeN_length _ _) l5 _ rfl ?_)
    | (refine wl_load26 rfl _ rfl w1.heap.size rfl (makeN [a, b, c, d, p] 5) m6 l5 ?_)
    | (refine wl_store26 rfl _ _ rfl w.heap.size (makeN [a, b, c, d, p] 5) rfl rfl _ r6 rfl (makeN_length _ _) _ rfl ?_))
  refine ret26 (p := 10) rfl rfl w.heap.size rfl (makeN [a, b, c, d, p] 5) l5 (setRow_heap _ _ _ _ _ _ r6) ⟨rfl, ?_⟩
  exact below_setRow hC5 (Nat.le_refl _) _
end Go.Proofs.YtjfbahpaahlidaaDoor
