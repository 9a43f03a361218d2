import Derived.Test.YtplnlmkmaapbaaaDoorSmall
namespace Go.Proofs.YtplnlmkmaapbaaaDoor
open Go Go.RowKit

set_option maxHeartbeats 1000000 in
theorem fix_no (V M : List Int) (i : Int) (b : Bool) (hi : ¬ (0 ≤ i ∧ i < 104)) (w : World) :
    Calls Tryd.prog 34 #[.agg (cv V M), .int .i64 i, .bool b] w fun e w' => e = .returned (.tuple #[.agg (cv Z Z), .int .i64 3]) ∧ Below w.heap.size w w' := by
  go_enter Tryd.func34, Tryd.ntmps34
  have HI : Hid (¬ (0 ≤ i ∧ i < 104)) := hi
  clear hi
  go_wp2_with (first
    | (go_at_call 41; refine (cisBit_no _ _ HI.out).mono ?_; rintro e w' ⟨rfl, rfl⟩)
    | (refine wl_storeC rfl _ _ rfl (w.heap.size + 1) Z Z rfl (by rw [← zeroC_eq]; rfl) _ (heap_new _ _ _ (by simp)) rfl Z_byt.1 Z_byt.1 _ (setRow_new _ _ _ _ _ (by simp)) ?_))
  refine retCe (p := 6) (u := 7) rfl rfl (w.heap.size + 1) rfl Z Z Z_byt.1 Z_byt.1 (heap_new _ _ _ (by simp)) _ rfl ⟨rfl, ?_⟩
  exact ((Below.refl _ _).alloc (Nat.le_refl _) _).alloc (by simp) _

def fixV (V M : List Int) (i : Nat) (b : Bool) : List Int := setb (can V M) i b
def fixM (M : List Int) (i : Nat) : List Int := setb M i true

set_option maxHeartbeats 2000000 in
theorem fix_in (V M : List Int) (hV : Byt V) (hM : Byt M) (i : Nat) (b : Bool) (hi : i < 104) (w : World) :
    Calls Tryd.prog 34 #[.agg (cv V M), .int .i64 (i : Int), .bool b] w fun e w' => e = .returned (.tuple #[.agg (cv (fixV V M i b) (fixM M i)), .int .i64 0]) ∧ Below w.heap.size w w' := by
  have hVl := hV.1
  have hMl := hM.1
  have hCl := (can_byt V M).1
  have hFl : (fixM M i).length = 13 := (setb_byt M i true).1
  have hGl : (fixV V M i b).length = 13 := (setb_byt _ i b).1
  have CC : Hid (∀ W, Calls Tryd.prog 28 #[.agg (cv V M)] W fun e w' => e = .returned (.agg (cv (can V M) M)) ∧ Below W.heap.size W w') := canon_any V M hV hM
  have C1 : Hid (∀ W, Calls Tryd.prog 42 #[.agg (hv M), .int .i64 (i : Int), .bool true] W fun e w' => e = .returned (.agg (hv (fixM M i))) ∧ Below W.heap.size W w') := set_any M hM i hi true
  have C2 : Hid (∀ W, Calls Tryd.prog 42 #[.agg (hv (can V M)), .int .i64 (i : Int), .bool b] W fun e w' => e = .returned (.agg (hv (fixV V M i b))) ∧ Below W.heap.size W w') := set_any _ (can_byt V M) i hi b
  clear hV hM
  go_enter Tryd.func34, Tryd.ntmps34
  have g0 : ((w.alloc (.cells (cv V M) 37)).alloc (.cells zeroC 37)).heap[w.heap.size]? = some (.cells (cv V M) 37 (0, 0)) := heap_past _ _ _ _ (heap_new _ _ _ rfl)
  have g1 : ((w.alloc (.cells (cv V M) 37)).alloc (.cells zeroC 37)).heap[w.heap.size + 1]? = some (.cells zeroC 37 (0, 0)) := heap_new _ _ _ (by simp)
  have hb : Below w.heap.size w ((w.alloc (.cells (cv V M) 37)).alloc (.cells zeroC 37)) := ((Below.refl _ _).alloc (Nat.le_refl _) _).alloc (by simp) _
  have hsz : w.heap.size + 2 ≤ ((w.alloc (.cells (cv V M) 37)).alloc (.cells zeroC 37)).heap.size := by simp
  go_wp2_with (first
    | (go_at_call 41; refine (cisBit_yes _ _ (by omega) (by omega)).mono ?_; rintro e w' ⟨rfl, rfl⟩)
    | (refine wl_loadC rfl _ rfl w.heap.size rfl V M g0 hVl hMl ?_))
  refine (CC.out _).mono ?_
  rintro e w1 ⟨rfl, hb1⟩
  have k0 : w1.heap[w.heap.size]? = some (.cells (cv V M) 37 (0, 0)) := by rw [hb1.block _ (by simp; omega)]; exact g0
  have k1 : w1.heap[w.heap.size + 1]? = some (.cells zeroC 37 (0, 0)) := by rw [hb1.block _ (by simp)]; exact g1
  have hz1 : w.heap.size + 2 ≤ w1.heap.size := Nat.le_trans hsz hb1.size
  have hB1 := hb.trans (hb1.mono hb.size)
  clear g0 g1 hb hsz hb1 CC
  have l0 : (w1.setRow w.heap.size (cv (can V M) M)).heap[w.heap.size]? = some (.cells (cv (can V M) M) 37 (0, 0)) := setRow_heap _ _ _ _ _ _ k0
  have l1 : (w1.setRow w.heap.size (cv (can V M) M)).heap[w.heap.size + 1]? = some (.cells zeroC 37 (0, 0)) := (setRow_other _ _ _ _ (by omega)).trans k1
  go_wp2_with (first
    | (refine wl_storeC rfl _ _ rfl w.heap.size (can V M) M rfl rfl _ k0 (cv_size _ _ hVl hMl) hCl hMl _ rfl ?_)
    | (refine wl_loadM rfl _ rfl w.heap.size rfl (can V M) M l0 hCl hMl ?_))
  refine (C1.out _).mono ?_
  rintro e w2 ⟨rfl, hb2⟩
  have m0 : w2.heap[w.heap.size]? = some (.cells (cv (can V M) M) 37 (0, 0)) := by rw [hb2.block _ (by simp; omega)]; exact l0
  have m1 : w2.heap[w.heap.size + 1]? = some (.cells zeroC 37 (0, 0)) := by rw [hb2.block _ (by simp; omega)]; exact l1
  have hz2 : w.heap.size + 2 ≤ w2.heap.size := Nat.le_trans (by simpa using hz1) hb2.size
  have hB2 := (below_setRow hB1 (Nat.le_refl _) (cv (can V M) M)).trans (hb2.mono (by simpa using hB1.size))
  clear l0 l1 k0 k1 hB1 hb2 hz1 C1
  have n0 : (w2.setRow w.heap.size (cv (can V M) (fixM M i))).heap[w.heap.size]? = some (.cells (cv (can V M) (fixM M i)) 37 (0, 0)) := setRow_heap _ _ _ _ _ _ m0
  have n1 : (w2.setRow w.heap.size (cv (can V M) (fixM M i))).heap[w.heap.size + 1]? = some (.cells zeroC 37 (0, 0)) := (setRow_other _ _ _ _ (by omega)).trans m1
  go_wp2_with (first
    | (refine wl_storeM rfl _ _ rfl w.heap.size rfl (can V M) M (fixM M i) rfl hCl hMl hFl m0 _ rfl ?_)
    | (refine wl_loadV rfl _ rfl w.heap.size rfl (can V M) (fixM M i) n0 hCl ?_))
  refine (C2.out _).mono ?_
  rintro e w3 ⟨rfl, hb3⟩
  have p0 : w3.heap[w.heap.size]? = some (.cells (cv (can V M) (fixM M i)) 37 (0, 0)) := by rw [hb3.block _ (by simp; omega)]; exact n0
  have p1 : w3.heap[w.heap.size + 1]? = some (.cells zeroC 37 (0, 0)) := by rw [hb3.block _ (by simp; omega)]; exact n1
  have hB3 := (below_setRow hB2 (Nat.le_refl _) (cv (can V M) (fixM M i))).trans (hb3.mono (by simpa using hB2.size))
  clear m0 m1 n0 n1 hB2 hb3 hz2 C2
  have q0 : (w3.setRow w.heap.size (cv (fixV V M i b) (fixM M i))).heap[w.heap.size]? = some (.cells (cv (fixV V M i b) (fixM M i)) 37 (0, 0)) := setRow_heap _ _ _ _ _ _ p0
  have q1 : (w3.setRow w.heap.size (cv (fixV V M i b) (fixM M i))).heap[w.heap.size + 1]? = some (.cells zeroC 37 (0, 0)) := (setRow_other _ _ _ _ (by omega)).trans p1
  go_wp2_with (first
    | (refine wl_storeV rfl _ _ rfl w.heap.size rfl (can V M) (fixM M i) (fixV V M i b) rfl hCl hFl hGl p0 _ rfl ?_)
    | (refine wl_loadC rfl _ rfl w.heap.size rfl (fixV V M i b) (fixM M i) q0 hGl hFl ?_)
    | (refine wl_storeC rfl _ _ rfl (w.heap.size + 1) (fixV V M i b) (fixM M i) rfl rfl _ q1 rfl hGl hFl _ rfl ?_))
  refine retCe (p := 6) (u := 7) rfl rfl (w.heap.size + 1) rfl _ _ hGl hFl (setRow_heap _ _ _ _ _ _ q1) _ rfl ⟨rfl, ?_⟩
  exact below_setRow (below_setRow hB3 (Nat.le_refl _) _) (by omega) _
end Go.Proofs.YtplnlmkmaapbaaaDoor
