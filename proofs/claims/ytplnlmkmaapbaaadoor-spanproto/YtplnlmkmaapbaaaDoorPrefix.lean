import Derived.Test.YtplnlmkmaapbaaaDoorRefFront
import Derived.Test.YtplnlmkmaapbaaaDoorFrontMath
namespace Go.Proofs.YtplnlmkmaapbaaaDoor
open Go Go.RowKit

theorem size_01 (f : Int) (hf : f = 0 ∨ f = 1) : sizeOfF f = 4 := by rcases hf with rfl | rfl <;> rfl
theorem size_23 (f : Int) (hf : f = 2 ∨ f = 3) : sizeOfF f = 2 := by rcases hf with rfl | rfl <;> rfl
theorem size_4 : sizeOfF 4 = 1 := rfl

/-- The cube of a field's first bits. -/
def pxV (f : Int) (v k : Nat) : List Int := frV (fh f (v : Int)) (8 * atOf f) k
def pxM (f : Int) (k : Nat) : List Int := frM (8 * atOf f) k
theorem pxV_byt (f : Int) (v k : Nat) : Byt (pxV f v k) := frV_byt _ _ _
theorem pxM_byt (f : Int) (k : Nat) : Byt (pxM f k) := frM_byt _ _

theorem begins_at (f : Int) (v k : Nat) (w : World) (h0 : 0 ≤ f) (h1 : f < 5) (hv : v < 2 ^ (8 * sizeOfF f)) (hk : k ≤ 8 * sizeOfF f) (hP : Places w) :
    Calls Tryd.prog 20 #[.int .i64 f, .int .u32 (v : Int), .int .i64 (k : Int)] w fun e w' => e = .returned (.agg (cv (pxV f v k) (pxM f k))) ∧ Below w.heap.size w w' := by
  have hs := (place_facts f h0 h1).2.2.2.1
  have h32 : v < 4294967296 := Nat.lt_of_lt_of_le hv (Nat.le_trans (Nat.pow_le_pow_right (by decide) (show 8 * sizeOfF f ≤ 32 by omega)) (by decide))
  exact begins_any f v k w h0 h1 (by omega) (by omega) (by exact_mod_cast hv) hk hP
theorem rwith_at (f : Int) (v : Nat) (w : World) (h0 : 0 ≤ f) (h1 : f < 5) (hvb : v < 2 ^ (8 * sizeOfF f)) :
    Calls Tryd.prog 22 #[.agg zero26, .int .i64 f, .int .u32 (v : Int)] w fun e w' => e = .returned (.tuple #[.agg (hv (fh f (v : Int))), .int .i64 0]) ∧ Below w.heap.size w w' := by
  have hs := (place_facts f h0 h1).2.2.2.1
  have h32 : v < 4294967296 := Nat.lt_of_lt_of_le hvb (Nat.le_trans (Nat.pow_le_pow_right (by decide) (show 8 * sizeOfF f ≤ 32 by omega)) (by decide))
  exact refWith_ok Z13 Z13_byt f v w h0 h1 (by omega) (by omega) (by exact_mod_cast hvb)
theorem front_at (f : Int) (v k : Nat) (w : World) (h0 : 0 ≤ f) (h1 : f < 5) (hk : k ≤ 8 * sizeOfF f) :
    Calls Tryd.prog 23 #[.agg (hv (fh f (v : Int))), .int .i64 f, .int .i64 (k : Int)] w fun e w' => e = .returned (.agg (cv (pxV f v k) (pxM f k))) ∧ Below w.heap.size w w' :=
  front_any (fh f (v : Int)) (fh_byt f _ h0 h1) f k w h0 h1 hk

set_option maxHeartbeats 1000000 in
theorem prefix_ok (f : Int) (v k : Nat) (w : World) (hf : f = 0 ∨ f = 1) (hv : v < 2 ^ 32) (hk : k ≤ 32) (hP : Places w) :
    Calls Tryd.prog 13 #[.int .i64 f, .int .u32 (v : Int), .int .i64 (k : Int)] w fun e w' => e = .returned (.tuple #[.agg (cv (pxV f v k) (pxM f k)), .int .i64 0]) ∧ Below w.heap.size w w' := by
  have hs := size_01 f hf
  have BG : Hid (∀ W, Places W → Calls Tryd.prog 20 #[.int .i64 f, .int .u32 (v : Int), .int .i64 (k : Int)] W fun e w' => e = .returned (.agg (cv (pxV f v k) (pxM f k))) ∧ Below W.heap.size W w') := fun W hW => begins_at f v k W (by omega) (by omega) (by rw [hs]; exact hv) (by omega) hW
  have B0 : Below w.heap.size w (w.alloc (.cells zeroC 37)) := (Below.refl _ _).alloc (Nat.le_refl _) _
  have o0 := heap_new w (.cells zeroC 37) _ rfl
  have HP : Hid (Places (w.alloc (.cells zeroC 37))) := hP.later hP.pos B0
  have hVl := (pxV_byt f v k).1
  have hMl := (pxM_byt f k).1
  obtain ⟨V, hV⟩ : ∃ V, V = pxV f v k := ⟨_, rfl⟩
  obtain ⟨M, hM⟩ : ∃ M, M = pxM f k := ⟨_, rfl⟩
  rw [← hV] at BG hVl ⊢
  rw [← hM] at BG hMl ⊢
  clear hP hv hs hV hM
  rcases hf with rfl | rfl
  all_goals
    go_enter Tryd.func13, Tryd.ntmps13
    go_wp2_with fail
    refine (BG.out _ HP.out).mono ?_
    rintro e w1 ⟨rfl, hb1⟩
    have o1 : w1.heap[w.heap.size]? = some (.cells zeroC 37 (0, 0)) := by rw [hb1.block _ (by simp)]; exact o0
    have B1 := B0.trans (hb1.mono B0.size)
    go_wp2_with (first
      | (refine wl_storeC rfl _ _ rfl w.heap.size V M rfl rfl _ o1 rfl hVl hMl _ rfl ?_))
    refine retCe (p := 6) (u := 7) rfl rfl w.heap.size rfl V M hVl hMl (setRow_heap _ _ _ _ _ _ o1) _ rfl ⟨rfl, ?_⟩
    exact below_setRow B1 (Nat.le_refl _) _

set_option maxHeartbeats 1000000 in
theorem prefix_no (f v k : Int) (w : World) (h : ¬ ((f = 0 ∨ f = 1) ∧ 0 ≤ k ∧ k ≤ 32)) :
    Calls Tryd.prog 13 #[.int .i64 f, .int .u32 v, .int .i64 k] w fun e w' => e = .returned (.tuple #[.agg (cv Z Z), .int .i64 1]) ∧ Below w.heap.size w w' := by
  have hZl := Z_byt.1
  by_cases hf : f = 0 ∨ f = 1
  · by_cases hk : k < 0
    · rcases hf with rfl | rfl
      all_goals
        go_enter Tryd.func13, Tryd.ntmps13
        go_wp2_with (first
          | (refine wl_storeC rfl _ _ rfl w.heap.size Z Z rfl (by rw [← zeroC_eq]; rfl) _ (heap_new _ _ _ rfl) rfl hZl hZl _ (setRow_new _ _ _ _ _ rfl) ?_))
        refine retCe (p := 6) (u := 7) rfl rfl w.heap.size rfl Z Z hZl hZl (heap_new _ _ _ rfl) _ rfl ⟨rfl, (Below.refl _ _).alloc (Nat.le_refl _) _⟩
    · have hk2 : k > 32 := by omega
      clear h
      rcases hf with rfl | rfl
      all_goals
        go_enter Tryd.func13, Tryd.ntmps13
        go_wp2_with (first
          | (refine wl_storeC rfl _ _ rfl w.heap.size Z Z rfl (by rw [← zeroC_eq]; rfl) _ (heap_new _ _ _ rfl) rfl hZl hZl _ (setRow_new _ _ _ _ _ rfl) ?_))
        refine retCe (p := 6) (u := 7) rfl rfl w.heap.size rfl Z Z hZl hZl (heap_new _ _ _ rfl) _ rfl ⟨rfl, (Below.refl _ _).alloc (Nat.le_refl _) _⟩
  · have e0 : (f == 0) = false := by simp; omega
    have e1 : (f == 1) = false := by simp; omega
    have n0 : ¬ f = 0 := by omega
    have n1 : ¬ f = 1 := by omega
    clear h hf
    go_enter Tryd.func13, Tryd.ntmps13
    go_wp2_with (first
      | (refine wl_storeC rfl _ _ rfl w.heap.size Z Z rfl (by rw [← zeroC_eq]; rfl) _ (heap_new _ _ _ rfl) rfl hZl hZl _ (setRow_new _ _ _ _ _ rfl) ?_))
    refine retCe (p := 6) (u := 7) rfl rfl w.heap.size rfl Z Z hZl hZl (heap_new _ _ _ rfl) _ rfl ⟨rfl, (Below.refl _ _).alloc (Nat.le_refl _) _⟩

set_option maxHeartbeats 1000000 in
theorem rprefix_ok (f : Int) (v k : Nat) (w : World) (hf : f = 0 ∨ f = 1) (hv : v < 2 ^ 32) (hk : k ≤ 32) :
    Calls Tryd.prog 14 #[.int .i64 f, .int .u32 (v : Int), .int .i64 (k : Int)] w fun e w' => e = .returned (.tuple #[.agg (cv (pxV f v k) (pxM f k)), .int .i64 0]) ∧ Below w.heap.size w w' := by
  have hs := size_01 f hf
  have RW : Hid (∀ W, Calls Tryd.prog 22 #[.agg zero26, .int .i64 f, .int .u32 (v : Int)] W fun e w' => e = .returned (.tuple #[.agg (Go.Proofs.YtplnlmkmaapbaaaDoor.hv (fh f (v : Int))), .int .i64 0]) ∧ Below W.heap.size W w') := fun W => rwith_at f v W (by omega) (by omega) (by rw [hs]; exact hv)
  have FR : Hid (∀ W, Calls Tryd.prog 23 #[.agg (Go.Proofs.YtplnlmkmaapbaaaDoor.hv (fh f (v : Int))), .int .i64 f, .int .i64 (k : Int)] W fun e w' => e = .returned (.agg (cv (pxV f v k) (pxM f k))) ∧ Below W.heap.size W w') := fun W => front_at f v k W (by omega) (by omega) (by omega)
  have B0 : Below w.heap.size w (w.alloc (.cells zeroC 37)) := (Below.refl _ _).alloc (Nat.le_refl _) _
  have o0 := heap_new w (.cells zeroC 37) _ rfl
  have hLl := (fh_byt f (v : Int) (by omega) (by omega)).1
  have hVl := (pxV_byt f v k).1
  have hMl := (pxM_byt f k).1
  obtain ⟨L, hL⟩ : ∃ L, L = fh f (v : Int) := ⟨_, rfl⟩
  obtain ⟨V, hV⟩ : ∃ V, V = pxV f v k := ⟨_, rfl⟩
  obtain ⟨M, hM⟩ : ∃ M, M = pxM f k := ⟨_, rfl⟩
  rw [← hL] at RW FR hLl
  rw [← hV] at FR hVl ⊢
  rw [← hM] at FR hMl ⊢
  clear hv hs hV hM hL
  rcases hf with rfl | rfl
  all_goals
    go_enter Tryd.func14, Tryd.ntmps14
    go_wp2_with fail
    refine (RW.out _).mono ?_
    rintro e w1 ⟨rfl, hb1⟩
    have o1 : w1.heap[w.heap.size]? = some (.cells zeroC 37 (0, 0)) := by rw [hb1.block _ (by simp)]; exact o0
    have B1 := B0.trans (hb1.mono B0.size)
    have l2 := heap_new w1 (.cells (Go.Proofs.YtplnlmkmaapbaaaDoor.hv L) 23) _ rfl
    have o2 := heap_past w1 (.cells (Go.Proofs.YtplnlmkmaapbaaaDoor.hv L) 23) _ _ o1
    have B2 := B1.alloc B1.size (.cells (Go.Proofs.YtplnlmkmaapbaaaDoor.hv L) 23)
    have hz := (Array.getElem?_eq_some_iff.1 o1).1
    go_wp2_with (first
      | (refine wl_store26 rfl _ _ rfl w1.heap.size L rfl rfl _ (heap_new _ _ _ rfl) rfl hLl _ (setRow_new _ _ _ _ _ rfl) ?_)
      | (refine wl_load26 rfl _ rfl w1.heap.size rfl L l2 hLl ?_))
    refine (FR.out _).mono ?_
    rintro e w3 ⟨rfl, hb3⟩
    have o3 : w3.heap[w.heap.size]? = some (.cells zeroC 37 (0, 0)) := by rw [hb3.block _ (Array.getElem?_eq_some_iff.1 o2).1]; exact o2
    have B3 := B2.trans (hb3.mono B2.size)
    go_wp2_with (first
      | (refine wl_storeC rfl _ _ rfl w.heap.size V M rfl rfl _ o3 rfl hVl hMl _ rfl ?_))
    refine retCe (p := 6) (u := 7) rfl rfl w.heap.size rfl V M hVl hMl (setRow_heap _ _ _ _ _ _ o3) _ rfl ⟨rfl, ?_⟩
    exact below_setRow B3 (Nat.le_refl _) _

set_option maxHeartbeats 1000000 in
theorem rprefix_no (f v k : Int) (w : World) (h : ¬ ((f = 0 ∨ f = 1) ∧ 0 ≤ k ∧ k ≤ 32)) :
    Calls Tryd.prog 14 #[.int .i64 f, .int .u32 v, .int .i64 k] w fun e w' => e = .returned (.tuple #[.agg (cv Z Z), .int .i64 1]) ∧ Below w.heap.size w w' := by
  have hZl := Z_byt.1
  by_cases hf : f = 0 ∨ f = 1
  · by_cases hk : k < 0
    · rcases hf with rfl | rfl
      all_goals
        go_enter Tryd.func14, Tryd.ntmps14
        go_wp2_with (first
          | (refine wl_storeC rfl _ _ rfl w.heap.size Z Z rfl (by rw [← zeroC_eq]; rfl) _ (heap_new _ _ _ rfl) rfl hZl hZl _ (setRow_new _ _ _ _ _ rfl) ?_))
        refine retCe (p := 6) (u := 7) rfl rfl w.heap.size rfl Z Z hZl hZl (heap_new _ _ _ rfl) _ rfl ⟨rfl, (Below.refl _ _).alloc (Nat.le_refl _) _⟩
    · have hk2 : k > 32 := by omega
      clear h
      rcases hf with rfl | rfl
      all_goals
        go_enter Tryd.func14, Tryd.ntmps14
        go_wp2_with (first
          | (refine wl_storeC rfl _ _ rfl w.heap.size Z Z rfl (by rw [← zeroC_eq]; rfl) _ (heap_new _ _ _ rfl) rfl hZl hZl _ (setRow_new _ _ _ _ _ rfl) ?_))
        refine retCe (p := 6) (u := 7) rfl rfl w.heap.size rfl Z Z hZl hZl (heap_new _ _ _ rfl) _ rfl ⟨rfl, (Below.refl _ _).alloc (Nat.le_refl _) _⟩
  · have e0 : (f == 0) = false := by simp; omega
    have e1 : (f == 1) = false := by simp; omega
    have n0 : ¬ f = 0 := by omega
    have n1 : ¬ f = 1 := by omega
    clear h hf
    go_enter Tryd.func14, Tryd.ntmps14
    go_wp2_with (first
      | (refine wl_storeC rfl _ _ rfl w.heap.size Z Z rfl (by rw [← zeroC_eq]; rfl) _ (heap_new _ _ _ rfl) rfl hZl hZl _ (setRow_new _ _ _ _ _ rfl) ?_))
    refine retCe (p := 6) (u := 7) rfl rfl w.heap.size rfl Z Z hZl hZl (heap_new _ _ _ rfl) _ rfl ⟨rfl, (Below.refl _ _).alloc (Nat.le_refl _) _⟩
end Go.Proofs.YtplnlmkmaapbaaaDoor
