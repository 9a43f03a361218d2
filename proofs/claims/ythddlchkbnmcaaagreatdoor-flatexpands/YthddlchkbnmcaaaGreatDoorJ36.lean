import Derived.Test.YthddlchkbnmcaaaGreatDoorJ30
import Derived.Test.YthddlchkbnmcaaaGreatDoorJ28
namespace Go.Proofs.YthddlchkbnmcaaaGreatDoor
open Go Go.RowKit
set_option maxRecDepth 20000

set_option maxHeartbeats 1000000 in
theorem proto_ok (n : Nat) (w : World) (hn : n ≤ 255) (hP : Places w) :
    Calls Tryz.prog 56 #[.int .i64 (n : Int)] w fun e w' => e = .returned (.tuple #[.agg (cv (pxV 4 n 8) (pxM 4 8)), .int .i64 0]) ∧ Below w.heap.size w w' := by
  have BG : Hid (∀ W, Places W → Calls Tryz.prog 53 #[.int .i64 4, .int .u32 (n : Int), .int .i64 8] W fun e w' => e = .returned (.agg (cv (pxV 4 n 8) (pxM 4 8))) ∧ Below W.heap.size W w') := fun W hW => begins_at 4 n 8 W (by omega) (by omega) (by rw [size_4]; omega) (by decide) hW
  have B0 : Below w.heap.size w (w.alloc (.cells zeroC 37)) := (Below.refl _ _).alloc (Nat.le_refl _) _
  have o0 := heap_new w (.cells zeroC 37) _ rfl
  have HP : Hid (Places (w.alloc (.cells zeroC 37))) := hP.later hP.pos B0
  have hVl := (pxV_byt 4 n 8).1
  have hMl := (pxM_byt 4 8).1
  obtain ⟨V, hV⟩ : ∃ V, V = pxV 4 n 8 := ⟨_, rfl⟩
  obtain ⟨M, hM⟩ : ∃ M, M = pxM 4 8 := ⟨_, rfl⟩
  rw [← hV] at BG hVl ⊢
  rw [← hM] at BG hMl ⊢
  clear hP hV hM
  go_enter Tryz.func56, Tryz.ntmps56
  go_wp2_with fail
  refine (BG.out _ HP.out).mono ?_
  rintro e w1 ⟨rfl, hb1⟩
  have o1 : w1.heap[w.heap.size]? = some (.cells zeroC 37 (0, 0)) := by rw [hb1.block _ (by simp)]; exact o0
  have B1 := B0.trans (hb1.mono B0.size)
  go_wp2_with (first
    | (refine wl_storeC rfl _ _ rfl w.heap.size V M rfl rfl _ o1 rfl hVl hMl _ rfl ?_))
  refine retCe (p := 2) (u := 3) rfl rfl w.heap.size rfl V M hVl hMl (setRow_heap _ _ _ _ _ _ o1) _ rfl ⟨rfl, ?_⟩
  exact below_setRow B1 (Nat.le_refl _) _

set_option maxHeartbeats 1000000 in
theorem proto_no (n : Int) (w : World) (h : ¬ (0 ≤ n ∧ n ≤ 255)) :
    Calls Tryz.prog 56 #[.int .i64 n] w fun e w' => e = .returned (.tuple #[.agg (cv Z Z), .int .i64 10]) ∧ Below w.heap.size w w' := by
  have hZl := Z_byt.1
  by_cases hk : n < 0
  · go_enter Tryz.func56, Tryz.ntmps56
    go_wp2_with (first
      | (refine wl_storeC rfl _ _ rfl w.heap.size Z Z rfl (by rw [← zeroC_eq]; rfl) _ (heap_new _ _ _ rfl) rfl hZl hZl _ (setRow_new _ _ _ _ _ rfl) ?_))
    refine retCe (p := 2) (u := 3) rfl rfl w.heap.size rfl Z Z hZl hZl (heap_new _ _ _ rfl) _ rfl ⟨rfl, (Below.refl _ _).alloc (Nat.le_refl _) _⟩
  · have hk2 : n > 255 := by omega
    clear h
    go_enter Tryz.func56, Tryz.ntmps56
    go_wp2_with (first
      | (refine wl_storeC rfl _ _ rfl w.heap.size Z Z rfl (by rw [← zeroC_eq]; rfl) _ (heap_new _ _ _ rfl) rfl hZl hZl _ (setRow_new _ _ _ _ _ rfl) ?_))
    refine retCe (p := 2) (u := 3) rfl rfl w.heap.size rfl Z Z hZl hZl (heap_new _ _ _ rfl) _ rfl ⟨rfl, (Below.refl _ _).alloc (Nat.le_refl _) _⟩

set_option maxHeartbeats 1000000 in
theorem rproto_ok (n : Nat) (w : World) (hn : n ≤ 255) :
    Calls Tryz.prog 37 #[.int .i64 (n : Int)] w fun e w' => e = .returned (.tuple #[.agg (cv (pxV 4 n 8) (pxM 4 8)), .int .i64 0]) ∧ Below w.heap.size w w' := by
  have RW : Hid (∀ W, Calls Tryz.prog 58 #[.agg zero26, .int .i64 4, .int .u32 (n : Int)] W fun e w' => e = .returned (.tuple #[.agg (hv (fh 4 (n : Int))), .int .i64 0]) ∧ Below W.heap.size W w') := fun W => rwith_at 4 n W (by omega) (by omega) (by rw [size_4]; omega)
  have FR : Hid (∀ W, Calls Tryz.prog 59 #[.agg (hv (fh 4 (n : Int))), .int .i64 4, .int .i64 8] W fun e w' => e = .returned (.agg (cv (pxV 4 n 8) (pxM 4 8))) ∧ Below W.heap.size W w') := fun W => front_at 4 n 8 W (by omega) (by omega) (by decide)
  have B0 : Below w.heap.size w (w.alloc (.cells zeroC 37)) := (Below.refl _ _).alloc (Nat.le_refl _) _
  have o0 := heap_new w (.cells zeroC 37) _ rfl
  have hLl := (fh_byt 4 (n : Int) (by omega) (by omega)).1
  have hVl := (pxV_byt 4 n 8).1
  have hMl := (pxM_byt 4 8).1
  obtain ⟨L, hL⟩ : ∃ L, L = fh 4 (n : Int) := ⟨_, rfl⟩
  obtain ⟨V, hV⟩ : ∃ V, V = pxV 4 n 8 := ⟨_, rfl⟩
  obtain ⟨M, hM⟩ : ∃ M, M = pxM 4 8 := ⟨_, rfl⟩
  rw [← hL] at RW FR hLl
  rw [← hV] at FR hVl ⊢
  rw [← hM] at FR hMl ⊢
  clear hV hM hL
  go_enter Tryz.func37, Tryz.ntmps37
  go_wp2_with fail
  refine (RW.out _).mono ?_
  rintro e w1 ⟨rfl, hb1⟩
  have o1 : w1.heap[w.heap.size]? = some (.cells zeroC 37 (0, 0)) := by rw [hb1.block _ (by simp)]; exact o0
  have B1 := B0.trans (hb1.mono B0.size)
  have l2 := heap_new w1 (.cells (hv L) 31) _ rfl
  have o2 := heap_past w1 (.cells (hv L) 31) _ _ o1
  have B2 := B1.alloc B1.size (.cells (hv L) 31)
  have hz := (Array.getElem?_eq_some_iff.1 o1).1
  go_wp2_with (first
    | (refine wl_store26 rfl _ _ rfl w1.heap.size L rfl rfl _ (heap_new _ _ _ rfl) rfl hLl _ (setRow_new _ _ _ _ _ rfl) ?_)
    | (refine wl_load26 rfl _ rfl w1.heap.size rfl L l2 hLl ?_))
  refine (FR.out _).mono ?_
  rintro e w3 ⟨rfl, hb3⟩
  have o3 : w3.heap[w.heap.size]? = some (.cells zeroC 37 (0, 0)) := by rw [hb3.block _ (Array.getElem?_eq_some_iff.1 o2).1]; exact o2
  have B3 := B2.trans (hb3.mono B2.size)
  go_wp2_with (first
    | (refine wl_storeC rfl _ _ rfl w.heap.size V M rfl rfl _ o3 rfl hVl hMl _ rfl ?_))
  refine retCe (p := 2) (u := 3) rfl rfl w.heap.size rfl V M hVl hMl (setRow_heap _ _ _ _ _ _ o3) _ rfl ⟨rfl, ?_⟩
  exact below_setRow B3 (Nat.le_refl _) _

/-- The protocol of a header. -/
theorem has_proto (H : List Int) (hH : Byt H) (n : Nat) (hn : n ≤ 255) : has (pxV 4 n 8) (pxM 4 8) H = decide (n = fld H 4) := by
  have := has_field H hH 4 n 8 (by omega) (by omega) (by rw [size_4]; omega) (by decide)
  rw [show 8 * sizeOfF 4 - 8 = 0 from rfl, Nat.pow_zero, Nat.div_one, Nat.div_one] at this
  exact this

end Go.Proofs.YthddlchkbnmcaaaGreatDoor
