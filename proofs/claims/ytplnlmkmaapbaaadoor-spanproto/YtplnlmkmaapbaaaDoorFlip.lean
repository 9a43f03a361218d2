import Derived.Test.YtplnlmkmaapbaaaDoorBits
import Derived.StillTailTactics
namespace Go.Proofs.YtplnlmkmaapbaaaDoor
open Go Go.RowKit

theorem still_of_quiet {P : Program} {ops : Array Oper} {w : World} {Q : Act → Prop} : ∀ (l : List Oper) (a : Act), wpQuiet P ops (fun w' => w' = w) Q l a → wpStill P ops w Q l a
  | [], _, h => h
  | o :: rest, a, h => by
    unfold wpQuiet at h
    unfold wpStill
    split at h
    · rename_i hw
      rw [if_pos hw]
      obtain ⟨v, h1, h2⟩ := h
      have h2' := still_of_quiet rest _ h2
      have h1' := h1 w rfl
      unfold Oper.quietAt at h1'
      unfold Oper.still
      revert h1'
      generalize (execOp a.eval o).run P w = r
      intro h1'
      match r, h1' with
      | .ok (.value u) w', ⟨e1, e2⟩ => exact ⟨e1, by rw [e2]; exact h2'⟩
      | .ok .skip w', ⟨e1, e2⟩ => exact ⟨e1, by rw [← e2]; exact h2'⟩
      | .ok (.enter f args) w', ⟨e1, e2⟩ => exact ⟨e1, v, e2, h2'⟩
    · rename_i hw
      rw [if_neg hw]
      exact still_of_quiet rest _ h

theorem wp_region_tail {P : Program} {id : Nat} {Q : Exit → Act → World → Prop} {a : Act} {w : World} {l : List Oper} (n : Nat) (hm : P.follows .mixedOrders = true) (hB : Region.lexTailB .any l.toArray n = true)
    (h : wpQuiet P l.toArray (fun w' => w' = w.drew) (fun a' => wpList P l.toArray Q (l.drop n) a' w.drew) (l.take n) a) : (Code.region id l.toArray true).wp P Q a w :=
  wp_region_still_tail n hm hB (still_of_quiet _ _ h)

theorem heap_drew {w : World} {g : Nat} {x : Obj} (h : w.heap[g]? = some x) : w.drew.heap[g]? = some x := h

theorem hv_set (L : List Int) (k : Nat) (v : Int) : (hv L).setIfInBounds k (.int .u8 v) = hv (L.set k v) := by
  unfold hv
  rw [List.setIfInBounds_toArray, ← List.map_set]

set_option maxHeartbeats 400000 in
theorem flip_in (L : List Int) (hL : Byt L) (i : Int) (w : World) (h0 : 0 ≤ i) (h1 : i < 104) :
    Calls Tryd.prog 45 #[.agg (hv L), .int .i64 i] w fun e w' => e = .returned (.agg (hv (flipL L i))) ∧ Below w.heap.size w w' := by
  obtain ⟨x, hx, hxe⟩ : ∃ x, (hv L)[(i / 8).toNat]? = some (.int .u8 x) ∧ x = byteAt L i := ⟨_, hv_at L hL.1 _ (by omega), rfl⟩
  have hb : 0 ≤ x ∧ x < 256 := by rw [hxe]; exact hL.2 _
  obtain ⟨hb0, hb1⟩ := hb
  have HX : Hid (x = byteAt L i) := hxe
  clear hxe
  go_enter Tryd.func45, Tryd.ntmps45
  go_wp2_with (first | (go_at_call 43; refine (isBit_yes _ _ h0 h1).mono ?_; rintro e w' ⟨rfl, rfl⟩))
  refine wp_region_tail 8 (by kernel_rfl) (by kernel_rfl) ?_
  simp only [List.take_succ_cons, List.take_zero, List.drop_succ_cons, List.drop_zero]
  go_big_quiet_step (fail)
  go_big_quiet_step (fail)
  go_big_quiet_step (fail)
  go_big_quiet_step (fail)
  go_big_quiet_step (fail)
  go_big_quiet_want; go_big_quiet_op
  refine ⟨_, sieve_any _ _ h0 h1, ?_⟩
  go_big_quiet_on
  go_big_quiet_step (fail)
  go_big_quiet_step (fail)
  refine wpQuiet_nil ?_
  have hL2 : (L.set (i / 8).toNat (bits .xor .u8 x (128 / 2 ^ (i % 8).toNat))).length = 13 := by rw [List.length_set]; exact hL.1
  go_wp2_with (first
    | (refine wl_load26 rfl _ rfl w.heap.size rfl (L.set (i / 8).toNat (bits .xor .u8 x (128 / 2 ^ (i % 8).toNat))) (heap_drew (by rw [← hv_set]; exact heap_past _ _ _ _ (heap_new _ _ _ rfl))) hL2 ?_)
    | (refine wl_store26 rfl _ _ rfl (w.heap.size + 1) (L.set (i / 8).toNat (bits .xor .u8 x (128 / 2 ^ (i % 8).toNat))) rfl rfl _ (heap_drew (heap_new _ _ _ (by simp))) rfl hL2 _ (by rw [setRow_drew, setRow_new _ _ _ _ _ (by simp)]) ?_))
  refine ret26 (p := 4) rfl rfl (w.heap.size + 1) rfl _ hL2 (heap_drew (heap_new _ _ _ (by simp))) ⟨?_, ?_⟩
  · rw [HX.out]; unfold flipL; rw [if_pos ⟨h0, h1⟩]
  · exact (((Below.refl _ _).alloc (Nat.le_refl _) _).alloc (by simp) _).drew

set_option maxHeartbeats 400000 in
theorem flip_no (L : List Int) (hL : Byt L) (i : Int) (w : World) (hin : ¬ (0 ≤ i ∧ i < 104)) :
    Calls Tryd.prog 45 #[.agg (hv L), .int .i64 i] w fun e w' => e = .returned (.agg (hv (flipL L i))) ∧ Below w.heap.size w w' := by
  have hf : flipL L i = L := by unfold flipL; rw [if_neg hin]
  rw [hf]
  clear hf
  go_enter Tryd.func45, Tryd.ntmps45
  go_wp2_with (first | (go_at_call 43; refine (isBit_no _ _ hin).mono ?_; rintro e w' ⟨rfl, rfl⟩) | (refine wl_load26 rfl _ rfl w.heap.size rfl L (heap_past _ _ _ _ (heap_new _ _ _ rfl)) hL.1 ?_) | (refine wl_store26 rfl _ _ rfl (w.heap.size + 1) L rfl rfl _ (heap_new _ _ _ (by simp)) rfl hL.1 _ (setRow_new _ _ _ _ _ (by simp)) ?_))
  refine ret26 (p := 4) rfl rfl (w.heap.size + 1) rfl L hL.1 (heap_new _ _ _ (by simp)) ⟨rfl, ?_⟩
  exact ((Below.refl _ _).alloc (Nat.le_refl _) _).alloc (by simp) _

theorem flip_any (L : List Int) (hL : Byt L) (i : Int) (w : World) :
    Calls Tryd.prog 45 #[.agg (hv L), .int .i64 i] w fun e w' => e = .returned (.agg (hv (flipL L i))) ∧ Below w.heap.size w w' := by
  by_cases hin : 0 ≤ i ∧ i < 104
  · exact flip_in L hL i w hin.1 hin.2
  · exact flip_no L hL i w hin
end Go.Proofs.YtplnlmkmaapbaaaDoor
