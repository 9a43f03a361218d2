import Derived.Test.YtjfbahpaahlidaaDoorWith
namespace Go.Proofs.YtjfbahpaahlidaaDoor
open Go Go.RowKit

def makeN (ns : List Int) : Nat → List Int
  | 0 => Z13
  | k + 1 => putN (makeN ns k) (atOf k) (sizeOfF k) (ns.getD k 0) (sizeOfF k)
theorem makeN_length (ns : List Int) (k : Nat) : (makeN ns k).length = 13 := by
  induction k with
  | zero => rfl
  | succ k ih => rw [makeN, putN_length, ih]

theorem put_int (L : List Int) (hL : L.length = 13) (at0 size : Nat) (v : Int) (w : World) (hs : at0 + size ≤ 13) (hs4 : size ≤ 4) (hv0 : 0 ≤ v) (hv1 : v < 4294967296) (x y : Int) (hx : x = at0) (hy : y = size) :
    Calls Tryd.prog 28 #[.agg (hv L), .int .i64 x, .int .i64 y, .int .u32 v] w fun e w' => e = .returned (.agg (hv (putN L at0 size v size))) ∧ Below w.heap.size w w' := by
  subst hx hy; exact put_any L hL at0 size v w hs hs4 hv0 hv1

set_option maxHeartbeats 4000000 in
theorem make_any (a b c d p : Int) (w : World) (ha : 0 ≤ a ∧ a < 4294967296) (hb : 0 ≤ b ∧ b < 4294967296) (hc : 0 ≤ c ∧ c < 65536) (hd : 0 ≤ d ∧ d < 65536) (hp : 0 ≤ p ∧ p < 256) (hP : Places w) :
    Calls Tryd.prog 10 #[.int .u32 a, .int .u32 b, .int .u16 c, .int .u16 d, .int .u8 p] w fun e w' => e = .returned (.agg (hv (makeN [a, b, c, d, p] 5))) ∧ Below w.heap.size w w' := by
  obtain ⟨ha0, ha1⟩ := ha
  obtain ⟨hb0, hb1⟩ := hb
  obtain ⟨hc0, hc1⟩ := hc
  obtain ⟨hd0, hd1⟩ := hd
  obtain ⟨hp0, hp1⟩ := hp
  have hpos := hP.pos
  go_enter Tryd.func10, Tryd.ntmps10
  go_wp2
  go_loopw [25] (fun i wr => ∃ k : Nat, k ≤ 5 ∧ i = .int .i64 k ∧ wr.heap[w.heap.size]? = some (.cells zero26 26 (0, 0)) ∧ wr.heap[w.heap.size + 1 + 1]? = some (.cells (hv (makeN [a, b, c, d, p] k)) 26 (0, 0)) ∧ Below w.heap.size w wr) (fun i _ => 5 - (intOf i).toNat)
  case atStart =>
    exact ⟨0, Nat.zero_le _, rfl, heap_past _ _ _ _ (heap_past _ _ _ _ (heap_new _ _ _ rfl)), heap_new _ _ _ (by simp), (((Below.refl _ _).alloc (Nat.le_refl _) _).alloc (by simp) _).alloc (by simp; omega) _⟩
  case round =>
    obtain ⟨k, hk, rfl, hg0, hg2, hbw⟩ := hrel
    have hPr := hP.later hpos hbw
    have hml := makeN_length [a, b, c, d, p] k
    have hz0 := (Array.getElem?_eq_some_iff.1 hg0).1
    have hz2 := (Array.getElem?_eq_some_iff.1 hg2).1
    clear hP
    by_cases hlt : k < 5
    · rcases (show k = 0 ∨ k = 1 ∨ k = 2 ∨ k = 3 ∨ k = 4 by omega) with h | h | h | h | h
      · subst h
        have i0 : ∀ w, (Instr.index 48 (.agg #[.int .u32 a, .int .u32 b, .int .u32 c, .int .u32 d, .int .u32 p]) (.int .i64 0)).run Tryd.prog w = .ok (.int .u32 a) w := fun _ => by kernel_rfl
        have c0 : wr.cell? ⟨0, 0, none⟩ = some (.int .i64 0) := hPr 0 (by decide)
        have c1 : wr.cell? ⟨0, 1, none⟩ = some (.int .i64 32) := hPr 1 (by decide)
        clear hPr
        go_wp2
        refine wp_region_tail 12 (by kernel_rfl) (by kernel_rfl) ?_
        simp only [List.take_succ_cons, List.take_zero, List.drop_succ_cons, List.drop_zero]
        refine q_load_row rfl 26 _ rfl (w.heap.size + 1 + 1) rfl 26 _ (0, 0) _ (by rintro w' rfl; exact heap_drew hg2) Tryd.underlying26 rfl (size26 _ hml) ?_
        simp only [Act.put, List.setIfInBounds_toArray, List.set_cons_succ, List.set_cons_zero]
        repeat go_big_quiet_step (fail)
        refine wpQuiet_nil ?_
        go_wp2_with fail
        refine (put_int (makeN [a, b, c, d, p] 0) hml 0 4 a wr.drew (by decide) (by decide) (by omega) (by omega) _ _ rfl rfl).mono ?_
        rintro e w2 ⟨rfl, hb2⟩
        have g0 : w2.heap[w.heap.size]? = some (.cells zero26 26 (0, 0)) := by rw [hb2.block _ hz0]; exact hg0
        have g2 : w2.heap[w.heap.size + 1 + 1]? = some (.cells (hv (makeN [a, b, c, d, p] 0)) 26 (0, 0)) := by rw [hb2.block _ hz2]; exact hg2
        have hl2 : (putN (makeN [a, b, c, d, p] 0) 0 4 a 4).length = 13 := by rw [putN_length]; exact hml
        go_wp2_with (refine wl_store26 rfl _ _ rfl (w.heap.size + 1 + 1) (putN (makeN [a, b, c, d, p] 0) 0 4 a 4) rfl rfl _ g2 (by rw [hv_size]; exact hml) hl2 _ rfl ?_)
        go_roundw
        case rel =>
          refine ⟨1, by decide, rfl, ?_, setRow_heap _ _ _ _ _ _ g2, below_setRow ((hbw.drew).trans (hb2.mono hbw.size)) (by omega) _⟩
          rw [setRow_other _ _ _ _ (by omega)]; exact g0
        case measure => simp [intOf]
      · subst h
        have i0 : ∀ w, (Instr.index 48 (.agg #[.int .u32 a, .int .u32 b, .int .u32 c, .int .u32 d, .int .u32 p]) (.int .i64 1)).run Tryd.prog w = .ok (.int .u32 b) w := fun _ => by kernel_rfl
        have c0 : wr.cell? ⟨0, 2, none⟩ = some (.int .i64 32) := hPr 2 (by decide)
        have c1 : wr.cell? ⟨0, 3, none⟩ = some (.int .i64 32) := hPr 3 (by decide)
        clear hPr
        go_wp2
        refine wp_region_tail 12 (by kernel_rfl) (by kernel_rfl) ?_
        simp only [List.take_succ_cons, List.take_zero, List.drop_succ_cons, List.drop_zero]
        refine q_load_row rfl 26 _ rfl (w.heap.size + 1 + 1) rfl 26 _ (0, 0) _ (by rintro w' rfl; exact heap_drew hg2) Tryd.underlying26 rfl (size26 _ hml) ?_
        simp only [Act.put, List.setIfInBounds_toArray, List.set_cons_succ, List.set_cons_zero]
        repeat go_big_quiet_step (fail)
        refine wpQuiet_nil ?_
        go_wp2_with fail
        refine (put_int (makeN [a, b, c, d, p] 1) hml 4 4 b wr.drew (by decide) (by decide) (by omega) (by omega) _ _ rfl rfl).mono ?_
        rintro e w2 ⟨rfl, hb2⟩
        have g0 : w2.heap[w.heap.size]? = some (.cells zero26 26 (0, 0)) := by rw [hb2.block _ hz0]; exact hg0
        have g2 : w2.heap[w.heap.size + 1 + 1]? = some (.cells (hv (makeN [a, b, c, d, p] 1)) 26 (0, 0)) := by rw [hb2.block _ hz2]; exact hg2
        have hl2 : (putN (makeN [a, b, c, d, p] 1) 4 4 b 4).length = 13 := by rw [putN_length]; exact hml
        go_wp2_with (refine wl_store26 rfl _ _ rfl (w.heap.size + 1 + 1) (putN (makeN [a, b, c, d, p] 1) 4 4 b 4) rfl rfl _ g2 (by rw [hv_size]; exact hml) hl2 _ rfl ?_)
        go_roundw
        case rel =>
          refine ⟨2, by decide, rfl, ?_, setRow_heap _ _ _ _ _ _ g2, below_setRow ((hbw.drew).trans (hb2.mono hbw.size)) (by omega) _⟩
          rw [setRow_other _ _ _ _ (by omega)]; exact g0
        case measure => simp [intOf]
      · subst h
        have i0 : ∀ w, (Instr.index 48 (.agg #[.int .u32 a, .int .u32 b, .int .u32 c, .int .u32 d, .int .u32 p]) (.int .i64 2)).run Tryd.prog w = .ok (.int .u32 c) w := fun _ => by kernel_rfl
        have c0 : wr.cell? ⟨0, 4, none⟩ = some (.int .i64 64) := hPr 4 (by decide)
        have c1 : wr.cell? ⟨0, 5, none⟩ = some (.int .i64 16) := hPr 5 (by decide)
        clear hPr
        go_wp2
        refine wp_region_tail 12 (by kernel_rfl) (by kernel_rfl) ?_
        simp only [List.take_succ_cons, List.take_zero, List.drop_succ_cons, List.drop_zero]
        refine q_load_row rfl 26 _ rfl (w.heap.size + 1 + 1) rfl 26 _ (0, 0) _ (by rintro w' rfl; exact heap_drew hg2) Tryd.underlying26 rfl (size26 _ hml) ?_
        simp only [Act.put, List.setIfInBounds_toArray, List.set_cons_succ, List.set_cons_zero]
        repeat go_big_quiet_step (fail)
        refine wpQuiet_nil ?_
        go_wp2_with fail
        refine (put_int (makeN [a, b, c, d, p] 2) hml 8 2 c wr.drew (by decide) (by decide) (by omega) (by omega) _ _ rfl rfl).mono ?_
        rintro e w2 ⟨rfl, hb2⟩
        have g0 : w2.heap[w.heap.size]? = some (.cells zero26 26 (0, 0)) := by rw [hb2.block _ hz0]; exact hg0
        have g2 : w2.heap[w.heap.size + 1 + 1]? = some (.cells (hv (makeN [a, b, c, d, p] 2)) 26 (0, 0)) := by rw [hb2.block _ hz2]; exact hg2
        have hl2 : (putN (makeN [a, b, c, d, p] 2) 8 2 c 2).length = 13 := by rw [putN_length]; exact hml
        go_wp2_with (refine wl_store26 rfl _ _ rfl (w.heap.size + 1 + 1) (putN (makeN [a, b, c, d, p] 2) 8 2 c 2) rfl rfl _ g2 (by rw [hv_size]; exact hml) hl2 _ rfl ?_)
        go_roundw
        case rel =>
          refine ⟨3, by decide, rfl, ?_, setRow_heap _ _ _ _ _ _ g2, below_setRow ((hbw.drew).trans (hb2.mono hbw.size)) (by omega) _⟩
          rw [setRow_other _ _ _ _ (by omega)]; exact g0
        case measure => simp [intOf]
      · subst h
        have i0 : ∀ w, (Instr.index 48 (.agg #[.int .u32 a, .int .u32 b, .int .u32 c, .int .u32 d, .int .u32 p]) (.int .i64 3)).run Tryd.prog w = .ok (.int .u32 d) w := fun _ => by kernel_rfl
        have c0 : wr.cell? ⟨0, 6, none⟩ = some (.int .i64 80) := hPr 6 (by decide)
        have c1 : wr.cell? ⟨0, 7, none⟩ = some (.int .i64 16) := hPr 7 (by decide)
        clear hPr
        go_wp2
        refine wp_region_tail 12 (by kernel_rfl) (by kernel_rfl) ?_
        simp only [List.take_succ_cons, List.take_zero, List.drop_succ_cons, List.drop_zero]
        refine q_load_row rfl 26 _ rfl (w.heap.size + 1 + 1) rfl 26 _ (0, 0) _ (by rintro w' rfl; exact heap_drew hg2) Tryd.underlying26 rfl (size26 _ hml) ?_
        simp only [Act.put, List.setIfInBounds_toArray, List.set_cons_succ, List.set_cons_zero]
        repeat go_big_quiet_step (fail)
        refine wpQuiet_nil ?_
        go_wp2_with fail
        refine (put_int (makeN [a, b, c, d, p] 3) hml 10 2 d wr.drew (by decide) (by decide) (by omega) (by omega) _ _ rfl rfl).mono ?_
        rintro e w2 ⟨rfl, hb2⟩
        have g0 : w2.heap[w.heap.size]? = some (.cells zero26 26 (0, 0)) := by rw [hb2.block _ hz0]; exact hg0
        have g2 : w2.heap[w.heap.size + 1 + 1]? = some (.cells (hv (makeN [a, b, c, d, p] 3)) 26 (0, 0)) := by rw [hb2.block _ hz2]; exact hg2
        have hl2 : (putN (makeN [a, b, c, d, p] 3) 10 2 d 2).length = 13 := by rw [putN_length]; exact hml
        go_wp2_with (refine wl_store26 rfl _ _ rfl (w.heap.size + 1 + 1) (putN (makeN [a, b, c, d, p] 3) 10 2 d 2) rfl rfl _ g2 (by rw [hv_size]; exact hml) hl2 _ rfl ?_)
        go_roundw
        case rel =>
          refine ⟨4, by decide, rfl, ?_, setRow_heap _ _ _ _ _ _ g2, below_setRow ((hbw.drew).trans (hb2.mono hbw.size)) (by omega) _⟩
          rw [setRow_other _ _ _ _ (by omega)]; exact g0
        case measure => simp [intOf]
      · subst h
        have i0 : ∀ w, (Instr.index 48 (.agg #[.int .u32 a, .int .u32 b, .int .u32 c, .int .u32 d, .int .u32 p]) (.int .i64 4)).run Tryd.prog w = .ok (.int .u32 p) w := fun _ => by kernel_rfl
        have c0 : wr.cell? ⟨0, 8, none⟩ = some (.int .i64 96) := hPr 8 (by decide)
        have c1 : wr.cell? ⟨0, 9, none⟩ = some (.int .i64 8) := hPr 9 (by decide)
        clear hPr
        go_wp2
        refine wp_region_tail 12 (by kernel_rfl) (by kernel_rfl) ?_
        simp only [List.take_succ_cons, List.take_zero, List.drop_succ_cons, List.drop_zero]
        refine q_load_row rfl 26 _ rfl (w.heap.size + 1 + 1) rfl 26 _ (0, 0) _ (by rintro w' rfl; exact heap_drew hg2) Tryd.underlying26 rfl (size26 _ hml) ?_
        simp only [Act.put, List.setIfInBounds_toArray, List.set_cons_succ, List.set_cons_zero]
        repeat go_big_quiet_step (fail)
        refine wpQuiet_nil ?_
        go_wp2_with fail
        refine (put_int (makeN [a, b, c, d, p] 4) hml 12 1 p wr.drew (by decide) (by decide) (by omega) (by omega) _ _ rfl rfl).mono ?_
        rintro e w2 ⟨rfl, hb2⟩
        have g0 : w2.heap[w.heap.size]? = some (.cells zero26 26 (0, 0)) := by rw [hb2.block _ hz0]; exact hg0
        have g2 : w2.heap[w.heap.size + 1 + 1]? = some (.cells (hv (makeN [a, b, c, d, p] 4)) 26 (0, 0)) := by rw [hb2.block _ hz2]; exact hg2
        have hl2 : (putN (makeN [a, b, c, d, p] 4) 12 1 p 1).length = 13 := by rw [putN_length]; exact hml
        go_wp2_with (refine wl_store26 rfl _ _ rfl (w.heap.size + 1 + 1) (putN (makeN [a, b, c, d, p] 4) 12 1 p 1) rfl rfl _ g2 (by rw [hv_size]; exact hml) hl2 _ rfl ?_)
        go_roundw
        case rel =>
          refine ⟨5, by decide, rfl, ?_, setRow_heap _ _ _ _ _ _ g2, below_setRow ((hbw.drew).trans (hb2.mono hbw.size)) (by omega) _⟩
          rw [setRow_other _ _ _ _ (by omega)]; exact g0
        case measure => simp [intOf]
    · obtain rfl : k = 5 := by omega
      go_wp2_with (first
        | (refine wl_load26 rfl _ rfl (w.heap.size + 1 + 1) rfl (makeN [a, b, c, d, p] 5) hg2 hml ?_)
        | (refine wl_store26 rfl _ _ rfl w.heap.size (makeN [a, b, c, d, p] 5) rfl rfl _ hg0 rfl hml _ rfl ?_))
      refine ret26 (p := 10) rfl rfl w.heap.size rfl (makeN [a, b, c, d, p] 5) hml (setRow_heap _ _ _ _ _ _ hg0) ⟨rfl, ?_⟩
      exact below_setRow hbw (Nat.le_refl _) _
end Go.Proofs.YtjfbahpaahlidaaDoor
