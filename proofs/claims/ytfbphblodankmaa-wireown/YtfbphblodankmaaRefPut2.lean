import Derived.Test.YtfbphblodankmaaRefPut
namespace Go.Proofs.Ytfbphblodankmaa
open Go Go.RowKit
set_option maxRecDepth 20000

set_option maxHeartbeats 1000000 in
theorem refPut_same (L : List Int) (hL : Byt L) (i : Int) (b : Bool) (w : World) (he : bitB L i = b) :
    Calls Try.prog 34 #[.agg (hv L), .int .i64 i, .bool b] w fun e w' => e = .returned (.agg (hv L)) ∧ Below w.heap.size w w' := by
  have hl := hL.1
  have cb := refBit_any L hL i
  rw [he] at cb
  have CB : Hid _ := cb
  clear cb he
  go_enter Try.func34, Try.ntmps34
  go_wp2_with (refine wl_load26 rfl _ rfl w.heap.size rfl L (heap_past _ _ _ _ (heap_new _ _ _ rfl)) hl ?_)
  refine (CB.out _).mono ?_
  rintro e w1 ⟨rfl, hb1⟩
  have g1 : w1.heap[w.heap.size]? = some (.cells (hv L) 34 (0, 0)) := by
    rw [hb1.block _ (by simp; omega)]; exact heap_past _ _ _ _ (heap_new _ _ _ rfl)
  have g2 : w1.heap[w.heap.size + 1]? = some (.cells zero26 34 (0, 0)) := by
    rw [hb1.block _ (by simp)]; exact heap_new _ _ _ (by simp)
  have hB1 : Below w.heap.size w w1 := (((Below.refl _ _).alloc (Nat.le_refl _) _).alloc (by simp) _).trans (hb1.mono (by simp; omega))
  clear hb1
  go_wp2_with (first
    | (refine wl_load26 rfl _ rfl w.heap.size rfl L g1 hl ?_)
    | (refine wl_store26 rfl _ _ rfl (w.heap.size + 1) L rfl rfl _ g2 rfl hl _ rfl ?_))
  refine ret26 (p := 6) rfl rfl (w.heap.size + 1) rfl L hl (setRow_heap _ _ _ _ _ _ g2) ⟨rfl, ?_⟩
  exact below_setRow hB1 (by omega) _

set_option maxHeartbeats 1000000 in
theorem refPut_up (L : List Int) (hL : Byt L) (i : Int) (w : World) (h0 : 0 ≤ i) (h1 : i < 104) (he : bitB L i = false) :
    Calls Try.prog 34 #[.agg (hv L), .int .i64 i, .bool true] w fun e w' => e = .returned (.agg (hv (setB L i true))) ∧ Below w.heap.size w w' := by
  have hl := hL.1
  obtain ⟨x, hx, hxe⟩ : ∃ x, (hv L)[(i / 8).toNat]? = some (.int .u8 x) ∧ x = byteAt L i := ⟨_, hv_at L hL.1 _ (by omega), rfl⟩
  have hb : 0 ≤ x ∧ x < 256 := by rw [hxe]; exact hL.2 _
  obtain ⟨hb0, hb1⟩ := hb
  have hs := sieve_pos i
  have hup : x + 128 / 2 ^ (i % 8).toNat < 256 := by
    rw [hxe]; exact (up_byte (byteAt L i) i (hL.2 _) (by rw [← bitB_in L i h0 h1]; exact he)).1
  have HX : Hid (x = byteAt L i) := hxe
  have HE : Hid (bitB L i = false) := he
  have cb := refBit_any L hL i
  rw [he] at cb
  have CB : Hid _ := cb
  clear cb he hxe
  go_enter Try.func34, Try.ntmps34
  go_wp2_with (refine wl_load26 rfl _ rfl w.heap.size rfl L (heap_past _ _ _ _ (heap_new _ _ _ rfl)) hl ?_)
  refine (CB.out _).mono ?_
  rintro e w1 ⟨rfl, hb1⟩
  have g1 : w1.heap[w.heap.size]? = some (.cells (hv L) 34 (0, 0)) := by
    rw [hb1.block _ (by simp; omega)]; exact heap_past _ _ _ _ (heap_new _ _ _ rfl)
  have g2 : w1.heap[w.heap.size + 1]? = some (.cells zero26 34 (0, 0)) := by
    rw [hb1.block _ (by simp)]; exact heap_new _ _ _ (by simp)
  have hB1 : Below w.heap.size w w1 := (((Below.refl _ _).alloc (Nat.le_refl _) _).alloc (by simp) _).trans (hb1.mono (by simp; omega))
  have hc1 : w1.cell? ⟨w.heap.size, (i / 8).toNat, none⟩ = some (.int .u8 x) := by rw [cell_of_row w1 _ _ _ _ _ g1]; exact hx
  have hf1 : w1.frozen? ⟨w.heap.size, (i / 8).toNat, none⟩ = false := frozen_of_row w1 _ _ _ _ g1
  clear hb1
  go_wp2_with fail
  refine wp_region_tail 11 (by kernel_rfl) (by kernel_rfl) ?_
  simp only [List.take_succ_cons, List.take_zero, List.drop_succ_cons, List.drop_zero]
  repeat go_big_quiet_step (fail)
  refine wpQuiet_nil ?_
  have gS : ((w1.setCell ⟨w.heap.size, (i / 8).toNat, none⟩ (.int .u8 (x + 128 / 2 ^ (i % 8).toNat))).drew).heap[w.heap.size]? = some (.cells (hv (L.set (i / 8).toNat (x + 128 / 2 ^ (i % 8).toNat))) 34 (0, 0)) := by
    rw [← hv_set]; exact heap_setCell_same w1 _ _ _ _ _ g1
  have gO : ((w1.setCell ⟨w.heap.size, (i / 8).toNat, none⟩ (.int .u8 (x + 128 / 2 ^ (i % 8).toNat))).drew).heap[w.heap.size + 1]? = some (.cells zero26 34 (0, 0)) := by
    have := heap_setCell_other w1 ⟨w.heap.size, (i / 8).toNat, none⟩ (w.heap.size + 1) (.int .u8 (x + 128 / 2 ^ (i % 8).toNat)) (by simp)
    exact this.trans g2
  have hl2 : (L.set (i / 8).toNat (x + 128 / 2 ^ (i % 8).toNat)).length = 13 := by rw [List.length_set]; exact hl
  go_wp2_with (first
    | (refine wl_load26 rfl _ rfl w.heap.size rfl (L.set (i / 8).toNat (x + 128 / 2 ^ (i % 8).toNat)) gS hl2 ?_)
    | (refine wl_store26 rfl _ _ rfl (w.heap.size + 1) (L.set (i / 8).toNat (x + 128 / 2 ^ (i % 8).toNat)) rfl rfl _ gO rfl hl2 _ rfl ?_))
  refine ret26 (p := 6) rfl rfl (w.heap.size + 1) rfl (L.set (i / 8).toNat (x + 128 / 2 ^ (i % 8).toNat)) hl2 (setRow_heap _ _ _ _ _ _ gO) ⟨?_, ?_⟩
  · unfold setB; rw [if_neg (by rw [HE.out]; decide), if_pos rfl, HX.out]
  · exact below_setRow (hB1.setCell (Nat.le_refl _) _).drew (by omega) _

set_option maxHeartbeats 1000000 in
theorem refPut_down (L : List Int) (hL : Byt L) (i : Int) (w : World) (h0 : 0 ≤ i) (h1 : i < 104) (he : bitB L i = true) :
    Calls Try.prog 34 #[.agg (hv L), .int .i64 i, .bool false] w fun e w' => e = .returned (.agg (hv (setB L i false))) ∧ Below w.heap.size w w' := by
  have hl := hL.1
  obtain ⟨x, hx, hxe⟩ : ∃ x, (hv L)[(i / 8).toNat]? = some (.int .u8 x) ∧ x = byteAt L i := ⟨_, hv_at L hL.1 _ (by omega), rfl⟩
  have hb : 0 ≤ x ∧ x < 256 := by rw [hxe]; exact hL.2 _
  obtain ⟨hb0, hb1⟩ := hb
  have hs := sieve_pos i
  have hdn : 0 ≤ x - 128 / 2 ^ (i % 8).toNat := by
    rw [hxe]; exact (down_byte (byteAt L i) i (hL.2 _) (by rw [← bitB_in L i h0 h1]; exact he)).1
  have HX : Hid (x = byteAt L i) := hxe
  have HE : Hid (bitB L i = true) := he
  have cb := refBit_any L hL i
  rw [he] at cb
  have CB : Hid _ := cb
  clear cb he hxe
  go_enter Try.func34, Try.ntmps34
  go_wp2_with (refine wl_load26 rfl _ rfl w.heap.size rfl L (heap_past _ _ _ _ (heap_new _ _ _ rfl)) hl ?_)
  refine (CB.out _).mono ?_
  rintro e w1 ⟨rfl, hb1⟩
  have g1 : w1.heap[w.heap.size]? = some (.cells (hv L) 34 (0, 0)) := by
    rw [hb1.block _ (by simp; omega)]; exact heap_past _ _ _ _ (heap_new _ _ _ rfl)
  have g2 : w1.heap[w.heap.size + 1]? = some (.cells zero26 34 (0, 0)) := by
    rw [hb1.block _ (by simp)]; exact heap_new _ _ _ (by simp)
  have hB1 : Below w.heap.size w w1 := (((Below.refl _ _).alloc (Nat.le_refl _) _).alloc (by simp) _).trans (hb1.mono (by simp; omega))
  have hc1 : w1.cell? ⟨w.heap.size, (i / 8).toNat, none⟩ = some (.int .u8 x) := by rw [cell_of_row w1 _ _ _ _ _ g1]; exact hx
  have hf1 : w1.frozen? ⟨w.heap.size, (i / 8).toNat, none⟩ = false := frozen_of_row w1 _ _ _ _ g1
  clear hb1
  go_wp2_with fail
  refine wp_region_tail 11 (by kernel_rfl) (by kernel_rfl) ?_
  simp only [List.take_succ_cons, List.take_zero, List.drop_succ_cons, List.drop_zero]
  repeat go_big_quiet_step (fail)
  refine wpQuiet_nil ?_
  have gS : ((w1.setCell ⟨w.heap.size, (i / 8).toNat, none⟩ (.int .u8 (x - 128 / 2 ^ (i % 8).toNat))).drew).heap[w.heap.size]? = some (.cells (hv (L.set (i / 8).toNat (x - 128 / 2 ^ (i % 8).toNat))) 34 (0, 0)) := by
    rw [← hv_set]; exact heap_setCell_same w1 _ _ _ _ _ g1
  have gO : ((w1.setCell ⟨w.heap.size, (i / 8).toNat, none⟩ (.int .u8 (x - 128 / 2 ^ (i % 8).toNat))).drew).heap[w.heap.size + 1]? = some (.cells zero26 34 (0, 0)) := by
    have := heap_setCell_other w1 ⟨w.heap.size, (i / 8).toNat, none⟩ (w.heap.size + 1) (.int .u8 (x - 128 / 2 ^ (i % 8).toNat)) (by simp)
    exact this.trans g2
  have hl2 : (L.set (i / 8).toNat (x - 128 / 2 ^ (i % 8).toNat)).length = 13 := by rw [List.length_set]; exact hl
  go_wp2_with (first
    | (refine wl_load26 rfl _ rfl w.heap.size rfl (L.set (i / 8).toNat (x - 128 / 2 ^ (i % 8).toNat)) gS hl2 ?_)
    | (refine wl_store26 rfl _ _ rfl (w.heap.size + 1) (L.set (i / 8).toNat (x - 128 / 2 ^ (i % 8).toNat)) rfl rfl _ gO rfl hl2 _ rfl ?_))
  refine ret26 (p := 6) rfl rfl (w.heap.size + 1) rfl (L.set (i / 8).toNat (x - 128 / 2 ^ (i % 8).toNat)) hl2 (setRow_heap _ _ _ _ _ _ gO) ⟨?_, ?_⟩
  · unfold setB; rw [if_neg (by rw [HE.out]; decide), if_neg (by decide), HX.out]
  · exact below_setRow (hB1.setCell (Nat.le_refl _) _).drew (by omega) _

theorem refPut_any (L : List Int) (hL : Byt L) (i : Int) (b : Bool) (w : World) (h0 : 0 ≤ i) (h1 : i < 104) :
    Calls Try.prog 34 #[.agg (hv L), .int .i64 i, .bool b] w fun e w' => e = .returned (.agg (hv (setB L i b))) ∧ Below w.heap.size w w' := by
  by_cases e : bitB L i = b
  · have es : setB L i b = L := by unfold setB; rw [if_pos e]
    rw [es]; exact refPut_same L hL i b w e
  · cases b
    · exact refPut_down L hL i w h0 h1 (by simpa using e)
    · exact refPut_up L hL i w h0 h1 (by simpa using e)
end Go.Proofs.Ytfbphblodankmaa
