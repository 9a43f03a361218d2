import Derived.Test.YtjmbdoiibchokaaJ5
import Derived.BigRegion
import Derived.Lib.Hide
import Derived.Test.YtjmbdoiibchokaaJ4
import Derived.Maps.AppendAt
namespace Go.Proofs.Ytjmbdoiibchokaa
open Go Go.Lib Go.RowKit
set_option maxRecDepth 20000

/-! A kind's fields, as pointers to them: fieldsOf. -/
def ptrsF (g : Nat) (ns : List Nat) : Array Value := (ns.map fun j => Value.pointer (some ⟨g, j + 1, none⟩)).toArray
def ptrC (g : Nat) (c : Bool) : Value := if c then .pointer (some ⟨g, 14, none⟩) else .pointer none
def ptrH (g : Nat) (d : Bool) : Value := if d then .pointer (some ⟨g, 40, none⟩) else .pointer none
def fvA (h g n : Nat) (c d : Bool) : Array Value := #[.slice (some ⟨h, 0, none⟩) n n, ptrC g c, ptrH g d]
/-- The pointers of a list of fields lie in memory. -/
def FldR (g : Nat) (ns : List Nat) (c d : Bool) (w : World) (e : Ending) (w' : World) : Prop :=
  ∃ h, e = .returned (.tuple #[.agg (fvA h g ns.length c d), .bool true]) ∧ w.heap.size ≤ h ∧ w'.heap[h]? = some (.cells (ptrsF g ns) 66 (0, 0)) ∧ Below w.heap.size w w'
def FvG : Ag := ⟨45, 3⟩
theorem FvOk : FvG.Ok := ⟨⟨_, Try.underlying45, rfl⟩, by kernel_rfl⟩
theorem fvA_fits (h g n : Nat) (c d : Bool) : (fvA h g n c d).size = 3 ∧ (fvA h g n c d).all (·.oneCell') = true := by
  refine ⟨rfl, ?_⟩
  unfold fvA ptrC ptrH
  cases c <;> cases d <;> simp [Value.oneCell']
theorem set3 {w : World} {g : Nat} {a b c x y z : Value} {t : TypeId} (h : w.heap[g]? = some (.cells #[a, b, c] t (0, 0))) : (((w.setCell ⟨g, 0, none⟩ x).setCell ⟨g, 1, none⟩ y).setCell ⟨g, 2, none⟩ z).heap[g]? = some (.cells #[x, y, z] t (0, 0)) :=
  heap_setCell_same _ _ _ _ _ _ (heap_setCell_same _ _ _ _ _ _ (heap_setCell_same _ _ _ _ _ _ h))
theorem set3_below {B g : Nat} {u w : World} (hB : Below B u w) (hg : B ≤ g) (x y z : Value) : Below B u (((w.setCell ⟨g, 0, none⟩ x).setCell ⟨g, 1, none⟩ y).setCell ⟨g, 2, none⟩ z) :=
  ((hB.setCell (by simpa using hg) x).setCell (by simpa using hg) y).setCell (by simpa using hg) z
set_option maxHeartbeats 8000000 in
theorem fields1 (g : Nat) (m : MsgM) (hk : m.kind = 1) (w : World) (hg : w.heap[g]? = some (.cells (msA m) 27 (0, 0))) :
    Calls Try.prog 17 #[.pointer (some ⟨g, 0, none⟩)] w fun e w' => FldR g [0, 1, 2, 3, 4, 7, 8] true false w e w' := by
  have hc : ∀ o, (w.alloc o).cell? ⟨g, 0, none⟩ = some (.int .i64 1) := fun o => by
    rw [cell_of_row _ _ _ _ _ _ (heap_past _ _ _ _ hg), ms_kind, hk]
  clear hk hg
  go_enter Try.func17, Try.ntmps17
  go_wp2_with fail
  obtain ⟨w1, hw1⟩ : ∃ w1, w1 = w.alloc (.cells (#[.slice none 0 0, .pointer none, .pointer none]) 45) := ⟨_, rfl⟩
  rw [← hw1]
  have h1 : w1.heap[w.heap.size]? = some (.cells #[.slice none 0 0, .pointer none, .pointer none] 45 (0, 0)) := by rw [hw1]; exact heap_new _ _ _ rfl
  have B1 : Below w.heap.size w w1 := by rw [hw1]; exact (Below.refl _ _).alloc (Nat.le_refl _) _
  have hs1 : w1.heap.size = w.heap.size + 1 := by rw [hw1]; simp
  clear hw1 hc
  have c0 : w1.cell? ⟨w.heap.size, 0, none⟩ = some (.slice none 0 0) := cell_of_row _ _ _ _ _ _ h1
  have c1 : w1.cell? ⟨w.heap.size, 1, none⟩ = some (.pointer none) := cell_of_row _ _ _ _ _ _ h1
  have c2 : w1.cell? ⟨w.heap.size, 2, none⟩ = some (.pointer none) := cell_of_row _ _ _ _ _ _ h1
  have f0 : w1.frozen? ⟨w.heap.size, 0, none⟩ = false := frozen_of_row _ _ _ _ _ h1
  have f1 : w1.frozen? ⟨w.heap.size, 1, none⟩ = false := frozen_of_row _ _ _ _ _ h1
  have f2 : w1.frozen? ⟨w.heap.size, 2, none⟩ = false := frozen_of_row _ _ _ _ _ h1
  go_region
  go_wp2_with fail
  have hh := set3 (x := .slice (some ⟨w.heap.size + 1, 0, none⟩) 7 7) (y := .pointer (some ⟨g, 14, none⟩)) (z := .pointer none) h1
  have hB := set3_below B1 (Nat.le_refl w.heap.size) (.slice (some ⟨w.heap.size + 1, 0, none⟩) 7 7) (.pointer (some ⟨g, 14, none⟩)) (.pointer none)
  refine retAe FvOk (p := 2) (u := 3) rfl rfl w.heap.size rfl (fvA (w.heap.size + 1) g 7 true false) rfl ?_ _ rfl ⟨w.heap.size + 1, rfl, Nat.le_succ _, ?_, ?_⟩
  · exact heap_past _ _ _ _ hh
  · exact heap_new _ _ _ (by simp [hs1])
  · exact (hB.alloc (by simp [hs1]) _).drew
set_option maxHeartbeats 8000000 in
theorem fields2 (g : Nat) (m : MsgM) (hk : m.kind = 2) (w : World) (hg : w.heap[g]? = some (.cells (msA m) 27 (0, 0))) :
    Calls Try.prog 17 #[.pointer (some ⟨g, 0, none⟩)] w fun e w' => FldR g [0, 1, 2, 3, 4, 5, 6] true false w e w' := by
  have hc : ∀ o, (w.alloc o).cell? ⟨g, 0, none⟩ = some (.int .i64 2) := fun o => by
    rw [cell_of_row _ _ _ _ _ _ (heap_past _ _ _ _ hg), ms_kind, hk]
  clear hk hg
  go_enter Try.func17, Try.ntmps17
  go_wp2_with fail
  obtain ⟨w1, hw1⟩ : ∃ w1, w1 = w.alloc (.cells (#[.slice none 0 0, .pointer none, .pointer none]) 45) := ⟨_, rfl⟩
  rw [← hw1]
  have h1 : w1.heap[w.heap.size]? = some (.cells #[.slice none 0 0, .pointer none, .pointer none] 45 (0, 0)) := by rw [hw1]; exact heap_new _ _ _ rfl
  have B1 : Below w.heap.size w w1 := by rw [hw1]; exact (Below.refl _ _).alloc (Nat.le_refl _) _
  have hs1 : w1.heap.size = w.heap.size + 1 := by rw [hw1]; simp
  clear hw1 hc
  have c0 : w1.cell? ⟨w.heap.size, 0, none⟩ = some (.slice none 0 0) := cell_of_row _ _ _ _ _ _ h1
  have c1 : w1.cell? ⟨w.heap.size, 1, none⟩ = some (.pointer none) := cell_of_row _ _ _ _ _ _ h1
  have c2 : w1.cell? ⟨w.heap.size, 2, none⟩ = some (.pointer none) := cell_of_row _ _ _ _ _ _ h1
  have f0 : w1.frozen? ⟨w.heap.size, 0, none⟩ = false := frozen_of_row _ _ _ _ _ h1
  have f1 : w1.frozen? ⟨w.heap.size, 1, none⟩ = false := frozen_of_row _ _ _ _ _ h1
  have f2 : w1.frozen? ⟨w.heap.size, 2, none⟩ = false := frozen_of_row _ _ _ _ _ h1
  go_region
  go_wp2_with fail
  have hh := set3 (x := .slice (some ⟨w.heap.size + 1, 0, none⟩) 7 7) (y := .pointer (some ⟨g, 14, none⟩)) (z := .pointer none) h1
  have hB := set3_below B1 (Nat.le_refl w.heap.size) (.slice (some ⟨w.heap.size + 1, 0, none⟩) 7 7) (.pointer (some ⟨g, 14, none⟩)) (.pointer none)
  refine retAe FvOk (p := 2) (u := 3) rfl rfl w.heap.size rfl (fvA (w.heap.size + 1) g 7 true false) rfl ?_ _ rfl ⟨w.heap.size + 1, rfl, Nat.le_succ _, ?_, ?_⟩
  · exact heap_past _ _ _ _ hh
  · exact heap_new _ _ _ (by simp [hs1])
  · exact (hB.alloc (by simp [hs1]) _).drew
set_option maxHeartbeats 8000000 in
theorem fields3 (g : Nat) (m : MsgM) (hk : m.kind = 3) (w : World) (hg : w.heap[g]? = some (.cells (msA m) 27 (0, 0))) :
    Calls Try.prog 17 #[.pointer (some ⟨g, 0, none⟩)] w fun e w' => FldR g [0, 9, 10, 2] false false w e w' := by
  have hc : ∀ o, (w.alloc o).cell? ⟨g, 0, none⟩ = some (.int .i64 3) := fun o => by
    rw [cell_of_row _ _ _ _ _ _ (heap_past _ _ _ _ hg), ms_kind, hk]
  clear hk hg
  go_enter Try.func17, Try.ntmps17
  go_wp2_with fail
  obtain ⟨w1, hw1⟩ : ∃ w1, w1 = w.alloc (.cells (#[.slice none 0 0, .pointer none, .pointer none]) 45) := ⟨_, rfl⟩
  rw [← hw1]
  have h1 : w1.heap[w.heap.size]? = some (.cells #[.slice none 0 0, .pointer none, .pointer none] 45 (0, 0)) := by rw [hw1]; exact heap_new _ _ _ rfl
  have B1 : Below w.heap.size w w1 := by rw [hw1]; exact (Below.refl _ _).alloc (Nat.le_refl _) _
  have hs1 : w1.heap.size = w.heap.size + 1 := by rw [hw1]; simp
  clear hw1 hc
  have c0 : w1.cell? ⟨w.heap.size, 0, none⟩ = some (.slice none 0 0) := cell_of_row _ _ _ _ _ _ h1
  have c1 : w1.cell? ⟨w.heap.size, 1, none⟩ = some (.pointer none) := cell_of_row _ _ _ _ _ _ h1
  have c2 : w1.cell? ⟨w.heap.size, 2, none⟩ = some (.pointer none) := cell_of_row _ _ _ _ _ _ h1
  have f0 : w1.frozen? ⟨w.heap.size, 0, none⟩ = false := frozen_of_row _ _ _ _ _ h1
  have f1 : w1.frozen? ⟨w.heap.size, 1, none⟩ = false := frozen_of_row _ _ _ _ _ h1
  have f2 : w1.frozen? ⟨w.heap.size, 2, none⟩ = false := frozen_of_row _ _ _ _ _ h1
  go_region
  go_wp2_with fail
  have hh := set3 (x := .slice (some ⟨w.heap.size + 1, 0, none⟩) 4 4) (y := .pointer none) (z := .pointer none) h1
  have hB := set3_below B1 (Nat.le_refl w.heap.size) (.slice (some ⟨w.heap.size + 1, 0, none⟩) 4 4) (.pointer none) (.pointer none)
  refine retAe FvOk (p := 2) (u := 3) rfl rfl w.heap.size rfl (fvA (w.heap.size + 1) g 4 false false) rfl ?_ _ rfl ⟨w.heap.size + 1, rfl, Nat.le_succ _, ?_, ?_⟩
  · exact heap_past _ _ _ _ hh
  · exact heap_new _ _ _ (by simp [hs1])
  · exact (hB.alloc (by simp [hs1]) _).drew
set_option maxHeartbeats 8000000 in
theorem fields4 (g : Nat) (m : MsgM) (hk : m.kind = 4) (w : World) (hg : w.heap[g]? = some (.cells (msA m) 27 (0, 0))) :
    Calls Try.prog 17 #[.pointer (some ⟨g, 0, none⟩)] w fun e w' => FldR g [0, 1, 3] false false w e w' := by
  have hc : ∀ o, (w.alloc o).cell? ⟨g, 0, none⟩ = some (.int .i64 4) := fun o => by
    rw [cell_of_row _ _ _ _ _ _ (heap_past _ _ _ _ hg), ms_kind, hk]
  clear hk hg
  go_enter Try.func17, Try.ntmps17
  go_wp2_with fail
  obtain ⟨w1, hw1⟩ : ∃ w1, w1 = w.alloc (.cells (#[.slice none 0 0, .pointer none, .pointer none]) 45) := ⟨_, rfl⟩
  rw [← hw1]
  have h1 : w1.heap[w.heap.size]? = some (.cells #[.slice none 0 0, .pointer none, .pointer none] 45 (0, 0)) := by rw [hw1]; exact heap_new _ _ _ rfl
  have B1 : Below w.heap.size w w1 := by rw [hw1]; exact (Below.refl _ _).alloc (Nat.le_refl _) _
  have hs1 : w1.heap.size = w.heap.size + 1 := by rw [hw1]; simp
  clear hw1 hc
  have c0 : w1.cell? ⟨w.heap.size, 0, none⟩ = some (.slice none 0 0) := cell_of_row _ _ _ _ _ _ h1
  have c1 : w1.cell? ⟨w.heap.size, 1, none⟩ = some (.pointer none) := cell_of_row _ _ _ _ _ _ h1
  have c2 : w1.cell? ⟨w.heap.size, 2, none⟩ = some (.pointer none) := cell_of_row _ _ _ _ _ _ h1
  have f0 : w1.frozen? ⟨w.heap.size, 0, none⟩ = false := frozen_of_row _ _ _ _ _ h1
  have f1 : w1.frozen? ⟨w.heap.size, 1, none⟩ = false := frozen_of_row _ _ _ _ _ h1
  have f2 : w1.frozen? ⟨w.heap.size, 2, none⟩ = false := frozen_of_row _ _ _ _ _ h1
  go_region
  go_wp2_with fail
  have hh := set3 (x := .slice (some ⟨w.heap.size + 1, 0, none⟩) 3 3) (y := .pointer none) (z := .pointer none) h1
  have hB := set3_below B1 (Nat.le_refl w.heap.size) (.slice (some ⟨w.heap.size + 1, 0, none⟩) 3 3) (.pointer none) (.pointer none)
  refine retAe FvOk (p := 2) (u := 3) rfl rfl w.heap.size rfl (fvA (w.heap.size + 1) g 3 false false) rfl ?_ _ rfl ⟨w.heap.size + 1, rfl, Nat.le_succ _, ?_, ?_⟩
  · exact heap_past _ _ _ _ hh
  · exact heap_new _ _ _ (by simp [hs1])
  · exact (hB.alloc (by simp [hs1]) _).drew
set_option maxHeartbeats 8000000 in
theorem fields5 (g : Nat) (m : MsgM) (hk : m.kind = 5) (w : World) (hg : w.heap[g]? = some (.cells (msA m) 27 (0, 0))) :
    Calls Try.prog 17 #[.pointer (some ⟨g, 0, none⟩)] w fun e w' => FldR g [0, 10, 1, 3, 12] false false w e w' := by
  have hc : ∀ o, (w.alloc o).cell? ⟨g, 0, none⟩ = some (.int .i64 5) := fun o => by
    rw [cell_of_row _ _ _ _ _ _ (heap_past _ _ _ _ hg), ms_kind, hk]
  clear hk hg
  go_enter Try.func17, Try.ntmps17
  go_wp2_with fail
  obtain ⟨w1, hw1⟩ : ∃ w1, w1 = w.alloc (.cells (#[.slice none 0 0, .pointer none, .pointer none]) 45) := ⟨_, rfl⟩
  rw [← hw1]
  have h1 : w1.heap[w.heap.size]? = some (.cells #[.slice none 0 0, .pointer none, .pointer none] 45 (0, 0)) := by rw [hw1]; exact heap_new _ _ _ rfl
  have B1 : Below w.heap.size w w1 := by rw [hw1]; exact (Below.refl _ _).alloc (Nat.le_refl _) _
  have hs1 : w1.heap.size = w.heap.size + 1 := by rw [hw1]; simp
  clear hw1 hc
  have c0 : w1.cell? ⟨w.heap.size, 0, none⟩ = some (.slice none 0 0) := cell_of_row _ _ _ _ _ _ h1
  have c1 : w1.cell? ⟨w.heap.size, 1, none⟩ = some (.pointer none) := cell_of_row _ _ _ _ _ _ h1
  have c2 : w1.cell? ⟨w.heap.size, 2, none⟩ = some (.pointer none) := cell_of_row _ _ _ _ _ _ h1
  have f0 : w1.frozen? ⟨w.heap.size, 0, none⟩ = false := frozen_of_row _ _ _ _ _ h1
  have f1 : w1.frozen? ⟨w.heap.size, 1, none⟩ = false := frozen_of_row _ _ _ _ _ h1
  have f2 : w1.frozen? ⟨w.heap.size, 2, none⟩ = false := frozen_of_row _ _ _ _ _ h1
  go_region
  go_wp2_with fail
  have hh := set3 (x := .slice (some ⟨w.heap.size + 1, 0, none⟩) 5 5) (y := .pointer none) (z := .pointer none) h1
  have hB := set3_below B1 (Nat.le_refl w.heap.size) (.slice (some ⟨w.heap.size + 1, 0, none⟩) 5 5) (.pointer none) (.pointer none)
  refine retAe FvOk (p := 2) (u := 3) rfl rfl w.heap.size rfl (fvA (w.heap.size + 1) g 5 false false) rfl ?_ _ rfl ⟨w.heap.size + 1, rfl, Nat.le_succ _, ?_, ?_⟩
  · exact heap_past _ _ _ _ hh
  · exact heap_new _ _ _ (by simp [hs1])
  · exact (hB.alloc (by simp [hs1]) _).drew
set_option maxHeartbeats 8000000 in
theorem fields6 (g : Nat) (m : MsgM) (hk : m.kind = 6) (w : World) (hg : w.heap[g]? = some (.cells (msA m) 27 (0, 0))) :
    Calls Try.prog 17 #[.pointer (some ⟨g, 0, none⟩)] w fun e w' => FldR g [0, 11, 1] false true w e w' := by
  have hc : ∀ o, (w.alloc o).cell? ⟨g, 0, none⟩ = some (.int .i64 6) := fun o => by
    rw [cell_of_row _ _ _ _ _ _ (heap_past _ _ _ _ hg), ms_kind, hk]
  clear hk hg
  go_enter Try.func17, Try.ntmps17
  go_wp2_with fail
  obtain ⟨w1, hw1⟩ : ∃ w1, w1 = w.alloc (.cells (#[.slice none 0 0, .pointer none, .pointer none]) 45) := ⟨_, rfl⟩
  rw [← hw1]
  have h1 : w1.heap[w.heap.size]? = some (.cells #[.slice none 0 0, .pointer none, .pointer none] 45 (0, 0)) := by rw [hw1]; exact heap_new _ _ _ rfl
  have B1 : Below w.heap.size w w1 := by rw [hw1]; exact (Below.refl _ _).alloc (Nat.le_refl _) _
  have hs1 : w1.heap.size = w.heap.size + 1 := by rw [hw1]; simp
  clear hw1 hc
  have c0 : w1.cell? ⟨w.heap.size, 0, none⟩ = some (.slice none 0 0) := cell_of_row _ _ _ _ _ _ h1
  have c1 : w1.cell? ⟨w.heap.size, 1, none⟩ = some (.pointer none) := cell_of_row _ _ _ _ _ _ h1
  have c2 : w1.cell? ⟨w.heap.size, 2, none⟩ = some (.pointer none) := cell_of_row _ _ _ _ _ _ h1
  have f0 : w1.frozen? ⟨w.heap.size, 0, none⟩ = false := frozen_of_row _ _ _ _ _ h1
  have f1 : w1.frozen? ⟨w.heap.size, 1, none⟩ = false := frozen_of_row _ _ _ _ _ h1
  have f2 : w1.frozen? ⟨w.heap.size, 2, none⟩ = false := frozen_of_row _ _ _ _ _ h1
  go_region
  go_wp2_with fail
  have hh := set3 (x := .slice (some ⟨w.heap.size + 1, 0, none⟩) 3 3) (y := .pointer none) (z := .pointer (some ⟨g, 40, none⟩)) h1
  have hB := set3_below B1 (Nat.le_refl w.heap.size) (.slice (some ⟨w.heap.size + 1, 0, none⟩) 3 3) (.pointer none) (.pointer (some ⟨g, 40, none⟩))
  refine retAe FvOk (p := 2) (u := 3) rfl rfl w.heap.size rfl (fvA (w.heap.size + 1) g 3 false true) rfl ?_ _ rfl ⟨w.heap.size + 1, rfl, Nat.le_succ _, ?_, ?_⟩
  · exact heap_past _ _ _ _ hh
  · exact heap_new _ _ _ (by simp [hs1])
  · exact (hB.alloc (by simp [hs1]) _).drew
set_option maxHeartbeats 8000000 in
theorem fields7 (g : Nat) (m : MsgM) (hk : m.kind = 7) (w : World) (hg : w.heap[g]? = some (.cells (msA m) 27 (0, 0))) :
    Calls Try.prog 17 #[.pointer (some ⟨g, 0, none⟩)] w fun e w' => FldR g [0, 11, 1, 6] true false w e w' := by
  have hc : ∀ o, (w.alloc o).cell? ⟨g, 0, none⟩ = some (.int .i64 7) := fun o => by
    rw [cell_of_row _ _ _ _ _ _ (heap_past _ _ _ _ hg), ms_kind, hk]
  clear hk hg
  go_enter Try.func17, Try.ntmps17
  go_wp2_with fail
  obtain ⟨w1, hw1⟩ : ∃ w1, w1 = w.alloc (.cells (#[.slice none 0 0, .pointer none, .pointer none]) 45) := ⟨_, rfl⟩
  rw [← hw1]
  have h1 : w1.heap[w.heap.size]? = some (.cells #[.slice none 0 0, .pointer none, .pointer none] 45 (0, 0)) := by rw [hw1]; exact heap_new _ _ _ rfl
  have B1 : Below w.heap.size w w1 := by rw [hw1]; exact (Below.refl _ _).alloc (Nat.le_refl _) _
  have hs1 : w1.heap.size = w.heap.size + 1 := by rw [hw1]; simp
  clear hw1 hc
  have c0 : w1.cell? ⟨w.heap.size, 0, none⟩ = some (.slice none 0 0) := cell_of_row _ _ _ _ _ _ h1
  have c1 : w1.cell? ⟨w.heap.size, 1, none⟩ = some (.pointer none) := cell_of_row _ _ _ _ _ _ h1
  have c2 : w1.cell? ⟨w.heap.size, 2, none⟩ = some (.pointer none) := cell_of_row _ _ _ _ _ _ h1
  have f0 : w1.frozen? ⟨w.heap.size, 0, none⟩ = false := frozen_of_row _ _ _ _ _ h1
  have f1 : w1.frozen? ⟨w.heap.size, 1, none⟩ = false := frozen_of_row _ _ _ _ _ h1
  have f2 : w1.frozen? ⟨w.heap.size, 2, none⟩ = false := frozen_of_row _ _ _ _ _ h1
  go_region
  go_wp2_with fail
  have hh := set3 (x := .slice (some ⟨w.heap.size + 1, 0, none⟩) 4 4) (y := .pointer (some ⟨g, 14, none⟩)) (z := .pointer none) h1
  have hB := set3_below B1 (Nat.le_refl w.heap.size) (.slice (some ⟨w.heap.size + 1, 0, none⟩) 4 4) (.pointer (some ⟨g, 14, none⟩)) (.pointer none)
  refine retAe FvOk (p := 2) (u := 3) rfl rfl w.heap.size rfl (fvA (w.heap.size + 1) g 4 true false) rfl ?_ _ rfl ⟨w.heap.size + 1, rfl, Nat.le_succ _, ?_, ?_⟩
  · exact heap_past _ _ _ _ hh
  · exact heap_new _ _ _ (by simp [hs1])
  · exact (hB.alloc (by simp [hs1]) _).drew
set_option maxHeartbeats 8000000 in
theorem fields0 (g : Nat) (m : MsgM) (hk : fldK m.kind = []) (w : World) (hg : w.heap[g]? = some (.cells (msA m) 27 (0, 0))) :
    Calls Try.prog 17 #[.pointer (some ⟨g, 0, none⟩)] w fun e w' => e = .returned (.tuple #[.agg #[.slice none 0 0, .pointer none, .pointer none], .bool false]) ∧ Below w.heap.size w w' := by
  have hc : ∀ o, (w.alloc o).cell? ⟨g, 0, none⟩ = some (.int .i64 m.kind) := fun o => by
    rw [cell_of_row _ _ _ _ _ _ (heap_past _ _ _ _ hg), ms_kind]
  obtain ⟨k, hkk⟩ : ∃ k, k = m.kind := ⟨_, rfl⟩
  rw [← hkk] at hc hk
  have n1 : ¬ k = 1 := fun e => by rw [e] at hk; cases hk
  have n2 : ¬ k = 2 := fun e => by rw [e] at hk; cases hk
  have n3 : ¬ k = 3 := fun e => by rw [e] at hk; cases hk
  have n4 : ¬ k = 4 := fun e => by rw [e] at hk; cases hk
  have n5 : ¬ k = 5 := fun e => by rw [e] at hk; cases hk
  have n6 : ¬ k = 6 := fun e => by rw [e] at hk; cases hk
  have n7 : ¬ k = 7 := fun e => by rw [e] at hk; cases hk
  clear hkk hg hk
  go_enter Try.func17, Try.ntmps17
  go_wp2_with fail
  have h1 : (w.alloc (.cells #[.slice none 0 0, .pointer none, .pointer none] 45)).heap[w.heap.size]? = some (.cells #[.slice none 0 0, .pointer none, .pointer none] 45 (0, 0)) := heap_new _ _ _ rfl
  refine retAe FvOk (p := 2) (u := 3) rfl rfl w.heap.size rfl _ rfl h1 _ rfl ⟨rfl, (Below.refl _ _).alloc (Nat.le_refl _) _⟩
/-- The numbers of a kind; has it a cube, a header? -/
def nfK (k : Int) : List Nat := (fldK k).filter (fun f => decide (f < 13))
def hcK (k : Int) : Bool := (fldK k).contains 13
def hhK (k : Int) : Bool := (fldK k).contains 14
theorem fields_any (g : Nat) (m : MsgM) (hk : fldK m.kind ≠ []) (w : World) (hg : w.heap[g]? = some (.cells (msA m) 27 (0, 0))) :
    Calls Try.prog 17 #[.pointer (some ⟨g, 0, none⟩)] w fun e w' => FldR g (nfK m.kind) (hcK m.kind) (hhK m.kind) w e w' := by
  have hr := fld_kind (k := m.kind) (by cases h : fldK m.kind with | nil => exact absurd h hk | cons a l => rfl)
  have hcases : m.kind = 1 ∨ m.kind = 2 ∨ m.kind = 3 ∨ m.kind = 4 ∨ m.kind = 5 ∨ m.kind = 6 ∨ m.kind = 7 := by omega
  rcases hcases with h | h | h | h | h | h | h
  · have := fields1 g m h w hg
    rw [h]
    exact this
  · have := fields2 g m h w hg
    rw [h]
    exact this
  · have := fields3 g m h w hg
    rw [h]
    exact this
  · have := fields4 g m h w hg
    rw [h]
    exact this
  · have := fields5 g m h w hg
    rw [h]
    exact this
  · have := fields6 g m h w hg
    rw [h]
    exact this
  · have := fields7 g m h w hg
    rw [h]
    exact this
end Go.Proofs.Ytjmbdoiibchokaa
namespace Go.Proofs.Ytjmbdoiibchokaa
open Go Go.Lib Go.RowKit
set_option maxRecDepth 20000

/-! The fields' right, clear, bytes, size and fill. -/
def inN (x : Int) : Bool := decide (0 ≤ x) && decide (x ≤ 281474976710655)
theorem inN_iff (x : Int) : inN x = true ↔ 0 ≤ x ∧ x ≤ 281474976710655 := by unfold inN; simp
def allN (m : MsgM) (ns : List Nat) : Bool := ns.all fun j => inN (numM m j)
def rightF (m : MsgM) (ns : List Nat) (c : Bool) : Bool := allN m ns && (!c || cubR m)
theorem allN_take {m : MsgM} {ns : List Nat} {k j : Nat} (hj : ns[k]? = some j) (h : allN m (ns.take k) = true) (hx : inN (numM m j) = true) : allN m (ns.take (k + 1)) = true := by
  unfold allN at h ⊢
  rw [List.take_add_one, hj, List.all_append, h]
  simp [hx]
theorem allN_not {m : MsgM} {ns : List Nat} {k j : Nat} (hj : ns[k]? = some j) (hx : inN (numM m j) = false) : allN m ns = false := by
  cases e : allN m ns with
  | false => rfl
  | true =>
    unfold allN at e
    rw [List.all_eq_true] at e
    have := e j (List.mem_of_getElem? hj)
    rw [hx] at this
    cases this
/-- What the pointers point to. -/
structure FIn (w : World) (h g : Nat) (ns : List Nat) (m : MsgM) : Prop where
  hg : w.heap[g]? = some (.cells (msA m) 27 (0, 0))
  hh : w.heap[h]? = some (.cells (ptrsF g ns) 66 (0, 0))
  hm : okM m
  hn : ∀ j ∈ ns, j < 13
theorem FIn.at {w : World} {h g : Nat} {ns : List Nat} {m : MsgM} (H : FIn w h g ns m) {k j : Nat} (hj : ns[k]? = some j) : w.cell? ⟨h, k, none⟩ = some (.pointer (some ⟨g, j + 1, none⟩)) ∧ w.cell? ⟨g, j + 1, none⟩ = some (.int .i64 (numM m j)) ∧ j < 13 := by
  have hl := H.hn j (List.mem_of_getElem? hj)
  refine ⟨?_, ?_, hl⟩
  · rw [cell_of_row _ _ _ _ _ _ H.hh]
    unfold ptrsF
    rw [List.getElem?_toArray, List.getElem?_map, hj]
    rfl
  · rw [cell_of_row _ _ _ _ _ _ H.hg, ms_num H.hm j hl]
theorem FIn.below {w w' : World} {h g : Nat} {ns : List Nat} {m : MsgM} (H : FIn w h g ns m) (hb : Below w.heap.size w w') : FIn w' h g ns m :=
  ⟨(hb.block _ (Array.getElem?_eq_some_iff.1 H.hg).1).trans H.hg, (hb.block _ (Array.getElem?_eq_some_iff.1 H.hh).1).trans H.hh, H.hm, H.hn⟩
theorem FIn.alloc {w : World} {h g : Nat} {ns : List Nat} {m : MsgM} (H : FIn w h g ns m) (o : Obj) : FIn (w.alloc o) h g ns m := H.below ((Below.refl _ _).alloc (Nat.le_refl _) _)
theorem fv_cells (w : World) (h g n : Nat) (c d : Bool) (k : Nat) : (w.alloc (.cells (fvA h g n c d) 45)).cell? ⟨w.heap.size, k, none⟩ = (fvA h g n c d)[k]? :=
  cell_of_row _ _ _ _ _ _ (heap_new _ _ _ rfl)

theorem wl_gl16 {P : Program} {ops : Array Oper} {Q : Exit → Act → World → Prop} {o : Oper} {rest : List Oper} {a : Act} {w : World} (ty : TypeId) (x : Operand) (_ : o.op = .load ty x) (h : wpList P ops Q (o :: rest) a w) : wpList P ops Q (o :: rest) a w := h
theorem wl_gs16 {P : Program} {ops : Array Oper} {Q : Exit → Act → World → Prop} {o : Oper} {rest : List Oper} {a : Act} {w : World} (ty : TypeId) (x y : Operand) (_ : o.op = .store ty x y) (h : wpList P ops Q (o :: rest) a w) : wpList P ops Q (o :: rest) a w := h
theorem wl_gb16 {P : Program} {ops : Array Oper} {Q : Exit → Act → World → Prop} {o : Oper} {rest : List Oper} {a : Act} {w : World} (ty : TypeId) (ps : Array (Nat × Operand)) (_ : o.op = .build ty ps) (h : wpList P ops Q (o :: rest) a w) : wpList P ops Q (o :: rest) a w := h
set_option maxHeartbeats 8000000 in
theorem fright_any (h g : Nat) (ns : List Nat) (c d : Bool) (m : MsgM) (w : World) (H : FIn w h g ns m) (hl : ns.length ≤ 7) :
    Calls Try.prog 18 #[.agg (fvA h g ns.length c d)] w fun e w' => e = .returned (.bool (rightF m ns c)) ∧ Below w.heap.size w w' := by
  obtain ⟨n, hn⟩ : ∃ n, n = ns.length := ⟨_, rfl⟩
  have HN : Hid (n = ns.length) := hn
  rw [← hn] at hl ⊢
  clear hn
  obtain ⟨w1, hw1⟩ : ∃ w1, w1 = w.alloc (.cells (fvA h g n c d) 45) := ⟨_, rfl⟩
  have HI : Hid (FIn w1 h g ns m) := by rw [hw1]; exact H.alloc _
  have HB : Hid (Below w.heap.size w w1) := by rw [hw1]; exact (Below.refl _ _).alloc (Nat.le_refl _) _
  have c0 : w1.cell? ⟨w.heap.size, 0, none⟩ = some (.slice (some ⟨h, 0, none⟩) n n) := by rw [hw1, fv_cells]; rfl
  have c1 : w1.cell? ⟨w.heap.size, 1, none⟩ = some (ptrC g c) := by rw [hw1, fv_cells]; rfl
  have CQ : Hid (∀ W, Calls Try.prog 36 #[.agg (cv m.cube.1 m.cube.2)] W fun e w' => e = .returned (.bool (cubR m)) ∧ Below W.heap.size W w') := wright_any _ _ H.hm.2.1 H.hm.2.2.1
  rw [hw1] at c0 c1
  go_enter Try.func18, Try.ntmps18
  go_wp2_with fail
  rw [← hw1] at c0 c1 ⊢
  clear hw1
  go_loop [8] (fun i => ∃ k : Nat, k ≤ n ∧ i = .int .i64 k ∧ allN m (ns.take k) = true) (fun i => n - (intOf i).toNat)
  case atStart => exact ⟨0, Nat.zero_le _, rfl, rfl⟩
  case round =>
    obtain ⟨k, hk, rfl, ha⟩ := hrel
    have HA : Hid (allN m (ns.take k) = true) := ha
    clear ha
    by_cases hlt : k < n
    · obtain ⟨j, hj⟩ : ∃ j, ns[k]? = some j := ⟨_, List.getElem?_eq_getElem (by rw [← HN.out]; exact hlt)⟩
      obtain ⟨e1, e2, hj13⟩ := HI.out.at hj
      have HJ : Hid (ns[k]? = some j) := hj
      obtain ⟨x, hx⟩ : ∃ x, x = numM m j := ⟨_, rfl⟩
      have HX : Hid (x = numM m j) := hx
      rw [← hx] at e2
      clear hj hx
      by_cases h0 : x < 0
      · have HF : Hid (rightF m ns c = false) := by
          show _ = _
          unfold rightF
          rw [allN_not HJ.out (by rw [← HX.out]; unfold inN; simp; omega)]
          rfl
        go_wp2_with fail
        go_ret
        rw [HF.out]
        exact ⟨rfl, HB.out⟩
      · by_cases h1 : 281474976710655 < x
        · have HF : Hid (rightF m ns c = false) := by
            show _ = _
            unfold rightF
            rw [allN_not HJ.out (by rw [← HX.out]; unfold inN; simp; omega)]
            rfl
          go_wp2_with fail
          go_ret
          rw [HF.out]
          exact ⟨rfl, HB.out⟩
        · have HA2 : Hid (allN m (ns.take (k + 1)) = true) := allN_take HJ.out HA.out (by rw [← HX.out, inN_iff]; omega)
          go_wp2_with fail
          exact ⟨⟨k + 1, by omega, by go_num, HA2.out⟩, by simp [intOf]; omega⟩
    · obtain rfl : k = n := by omega
      have HA2 : Hid (rightF m ns c = (!c || cubR m)) := by
        show _ = _
        have := HA.out
        rw [HN.out, List.take_length] at this
        unfold rightF
        rw [this]
        rfl
      cases c with
      | false =>
        have c1' : w1.cell? ⟨w.heap.size, 1, none⟩ = some (.pointer none) := c1
        clear c1
        go_wp2_with go_skip
        go_ret
        rw [HA2.out]
        exact ⟨rfl, HB.out⟩
      | true =>
        have c1' : w1.cell? ⟨w.heap.size, 1, none⟩ = some (.pointer (some ⟨g, 14, none⟩)) := c1
        clear c1
        have hgm := HI.out.hg
        have hmm := HI.out.hm
        go_wp2_with (first | go_skip | ((with_reducible refine wl_gl16 25 _ rfl ?_); refine wl_loadA CuGOk rfl _ rfl g 14 rfl _ _ _ (cv m.cube.1 m.cube.2) (cv_size _ _ hmm.2.1.1 hmm.2.2.1.1) hgm (ms_cube hmm) ?_))
        refine (CQ.out _).mono ?_
        rintro e w2 ⟨rfl, hb2⟩
        have HB2 : Hid (Below w.heap.size w w2) := HB.out.trans (hb2.mono HB.out.size)
        clear hb2
        go_wp2_with fail
        go_ret
        rw [HA2.out]
        exact ⟨rfl, HB2.out⟩
end Go.Proofs.Ytjmbdoiibchokaa
namespace Go.Proofs.Ytjmbdoiibchokaa
open Go Go.Lib Go.RowKit
set_option maxRecDepth 20000

theorem grown_refl16 (w : World) (r : Option Nat) : w.grownBy w r := ⟨rfl, rfl, rfl, Nat.le_refl _, fun _ _ _ => rfl⟩
theorem grown_cell16 {u w : World} {g : Nat} (h : u.grownBy w (some g)) (k : Nat) (v : Value) : u.grownBy (w.setCell ⟨g, k, none⟩ v) (some g) :=
  h.trans ⟨rfl, rfl, rfl, by simp, fun i _ hi => heap_setCell_other w ⟨g, k, none⟩ i v (fun e => hi (by rw [e]))⟩
theorem grown_row16 {u w : World} {g : Nat} (h : u.grownBy w (some g)) (cs : Array Value) : u.grownBy (w.setRow g cs) (some g) :=
  h.trans ⟨rfl, rfl, rfl, by simp, fun i _ hi => setRow_other w g i cs (fun e => hi (by rw [e]))⟩
theorem grown_below16 {u w w' : World} {r : Option Nat} (h : u.grownBy w r) (hb : Below w.heap.size w w') : u.grownBy w' r :=
  h.trans ⟨hb.os, hb.tape, hb.output, hb.size, fun i hi _ => hb.block i hi⟩
theorem below_grown16 {B : Nat} {u w w' : World} {g : Nat} (h : Below B u w) (hg : w.grownBy w' (some g)) (hB : B ≤ g) (hs : B ≤ w.heap.size) : Below B u w' :=
  h.grown hg hs fun k hk => by cases hk; exact hB
theorem wl_zeroH16 {ops : Array Oper} {rest : List Oper} {o : Oper} {a : Act} {w : World} {Q : Exit → Act → World → Prop} (hg : o.guard = none) (ho : o.op = .build 23 #[])
    (h : wpList Try.prog ops Q rest (a.put o.dst (.agg (hv Z))) w) : wpList Try.prog ops Q (o :: rest) a w :=
  wpList_plain hg fun _ hK => by
    unfold Oper.wp execOp
    have e : ((#[] : Array (Nat × Operand)).map (fun (i, x) => (i, a.eval x))) = #[] := by simp
    have hb : (Instr.build 23 #[]).run Try.prog w = .ok (.agg (hv Z)) w := by
      rw [← zero26_eq]; kernel_rfl
    simp only [ho, Sem.run_bind]
    rw [e, hb]
    exact hK _ _ h

set_option maxHeartbeats 4000000 in
/-- Numbers set to nought. -/
def clrN (m : MsgM) : List Nat → MsgM
  | [] => m
  | j :: ns => clrN (setN m j 0) ns
theorem clrN_app (m : MsgM) : ∀ (a b : List Nat), clrN m (a ++ b) = clrN (clrN m a) b
  | [], _ => rfl
  | j :: a, b => clrN_app (setN m j 0) a b
theorem clrN_ok : ∀ (ns : List Nat) {m : MsgM}, okM m → okM (clrN m ns)
  | [], _, h => h
  | j :: ns, _, h => clrN_ok ns (setN_ok h j 0)
def clrF (m : MsgM) (ns : List Nat) (c d : Bool) : MsgM :=
  let m1 := clrN m ns
  let m2 := if c then setC m1 Z Z else m1
  if d then setH m2 Z else m2
set_option maxHeartbeats 8000000 in
theorem fclear_any (h g : Nat) (ns : List Nat) (c d : Bool) (m : MsgM) (w : World) (H : FIn w h g ns m) (hl : ns.length ≤ 7) (hne : h ≠ g) :
    Calls Try.prog 19 #[.agg (fvA h g ns.length c d)] w fun e w' => e = .returned (.tuple #[]) ∧ w'.heap[g]? = some (.cells (msA (clrF m ns c d)) 27 (0, 0)) ∧ w.grownBy w' (some g) := by
  obtain ⟨n, hn⟩ : ∃ n, n = ns.length := ⟨_, rfl⟩
  have HN : Hid (n = ns.length) := hn
  rw [← hn] at hl ⊢
  clear hn
  have HNS : Hid (∀ j ∈ ns, j < 13) := H.hn
  have HM : Hid (okM m) := H.hm
  have hgl := (Array.getElem?_eq_some_iff.1 H.hg).1
  have hhl := (Array.getElem?_eq_some_iff.1 H.hh).1
  obtain ⟨w1, hw1⟩ : ∃ w1, w1 = w.alloc (.cells (fvA h g n c d) 45) := ⟨_, rfl⟩
  have HI : Hid (FIn w1 h g ns m) := by rw [hw1]; exact H.alloc _
  have HF : Hid (w1.heap[w.heap.size]? = some (.cells (fvA h g n c d) 45 (0, 0))) := by rw [hw1]; exact heap_new _ _ _ rfl
  have HB : Hid (w.grownBy w1 (some g)) := by rw [hw1]; exact grown_below16 (grown_refl16 _ _) ((Below.refl _ _).alloc (Nat.le_refl _) _)
  have c0 : w1.cell? ⟨w.heap.size, 0, none⟩ = some (.slice (some ⟨h, 0, none⟩) n n) := by rw [hw1, fv_cells]; rfl
  rw [hw1] at c0
  clear H
  go_enter Try.func19, Try.ntmps19
  go_wp2_with fail
  rw [← hw1] at c0 ⊢
  clear hw1 c0
  go_loopw [7] (fun i W => ∃ k : Nat, k ≤ n ∧ i = .int .i64 k ∧ FIn W h g ns (clrN m (ns.take k)) ∧ W.heap[w.heap.size]? = some (.cells (fvA h g n c d) 45 (0, 0)) ∧ w.grownBy W (some g)) (fun i _ => n - (intOf i).toNat)
  case atStart => exact ⟨0, Nat.zero_le _, rfl, HI.out, HF.out, HB.out⟩
  case round =>
    clear HI HF HB
    obtain ⟨k, hk, rfl, hI, hF, hB⟩ := hrel
    have HI : Hid (FIn wr h g ns (clrN m (ns.take k))) := hI
    have HF : Hid (wr.heap[w.heap.size]? = some (.cells (fvA h g n c d) 45 (0, 0))) := hF
    have HB : Hid (w.grownBy wr (some g)) := hB
    clear hI hF hB
    by_cases hlt : k < n
    · obtain ⟨j, hj⟩ : ∃ j, ns[k]? = some j := ⟨_, List.getElem?_eq_getElem (by rw [← HN.out]; exact hlt)⟩
      obtain ⟨e1, e2, hj13⟩ := HI.out.at hj
      have HJ : Hid (ns[k]? = some j) := hj
      have f2 : wr.frozen? ⟨g, j + 1, none⟩ = false := frozen_of_row _ _ _ _ _ HI.out.hg
      obtain ⟨x, hx⟩ : ∃ x, x = numM (clrN m (ns.take k)) j := ⟨_, rfl⟩
      rw [← hx] at e2
      clear hj hx
      have HT : Hid (clrN m (ns.take (k + 1)) = setN (clrN m (ns.take k)) j 0) := by
        show _ = _
        rw [List.take_add_one, HJ.out, clrN_app]
        rfl
      go_wp2_with fail
      refine ⟨⟨k + 1, by omega, by go_num, ⟨?_, ?_, ?_, HNS.out⟩, ?_, grown_cell16 HB.out _ _⟩, by simp [intOf]; omega⟩
      · rw [HT.out, ← ms_setN HI.out.hm j hj13 0]
        exact heap_setCell_same _ _ _ _ _ _ HI.out.hg
      · exact (heap_setCell_other _ ⟨g, j + 1, none⟩ h _ (by simpa using hne)).trans HI.out.hh
      · rw [HT.out]
        exact setN_ok HI.out.hm j 0
      · exact (heap_setCell_other _ ⟨g, j + 1, none⟩ w.heap.size _ (by simp; omega)).trans HF.out
    · obtain rfl : k = n := by omega
      have HI2 : Hid (FIn wr h g ns (clrN m ns)) := by
        have := HI.out
        rw [HN.out, List.take_length] at this
        exact this
      clear HI
      obtain ⟨m1, hm1⟩ : ∃ m1, m1 = clrN m ns := ⟨_, rfl⟩
      have HC : Hid (clrF m ns c d = (let m2 := if c then setC m1 Z Z else m1; if d then setH m2 Z else m2)) := by show _ = _; rw [hm1]; rfl
      rw [← hm1] at HI2
      clear hm1
      have hgm := HI2.out.hg
      have hmm := HI2.out.hm
      have hms := msA_size hmm
      have c1 : wr.cell? ⟨w.heap.size, 1, none⟩ = some (ptrC g c) := cell_of_row _ _ _ _ _ _ HF.out
      have c2 : wr.cell? ⟨w.heap.size, 2, none⟩ = some (ptrH g d) := cell_of_row _ _ _ _ _ _ HF.out
      cases c with
      | false =>
        have c1' : wr.cell? ⟨w.heap.size, 1, none⟩ = some (.pointer none) := c1
        clear c1
        cases d with
        | false =>
          have c2' : wr.cell? ⟨w.heap.size, 2, none⟩ = some (.pointer none) := c2
          clear c2
          go_wp2_with fail
          go_end0
          rw [HC.out]
          exact ⟨rfl, hgm, HB.out⟩
        | true =>
          have c2' : wr.cell? ⟨w.heap.size, 2, none⟩ = some (.pointer (some ⟨g, 40, none⟩)) := c2
          clear c2
          go_wp2_with (first
            | ((with_reducible refine wl_gb16 25 _ rfl ?_); refine wl_zeroC rfl rfl ?_)
            | ((with_reducible refine wl_gb16 23 _ rfl ?_); refine wl_zeroH16 rfl rfl ?_)
            | ((with_reducible refine wl_gs16 25 _ _ rfl ?_); refine wl_storeAP CuGOk rfl _ _ rfl g 14 rfl (cv Z Z) ⟨cv_size _ _ Z_byt.1 Z_byt.1, cv_one _ _⟩ rfl _ _ hgm (by rw [hms]; decide) _ (ms_setC hmm Z Z) ?_)
            | ((with_reducible refine wl_gs16 23 _ _ rfl ?_); refine wl_storeAP HeOk rfl _ _ rfl g 40 rfl (hv Z) ⟨by rw [hv_size, Z_byt.1]; rfl, hv_one _⟩ rfl _ _ hgm (by rw [hms]; decide) _ (ms_setH hmm Z) ?_))
          try simp only [Act.put]
          go_wp2_with fail
          go_end0
          rw [HC.out]
          exact ⟨rfl, setRow_heap _ _ _ _ _ _ hgm, grown_row16 HB.out _⟩
      | true =>
        have c1' : wr.cell? ⟨w.heap.size, 1, none⟩ = some (.pointer (some ⟨g, 14, none⟩)) := c1
        clear c1 c2
        have hg2 := setRow_heap _ _ _ (msA (setC m1 Z Z)) _ _ hgm
        have hm2 : okM (setC m1 Z Z) := setC_ok hmm Z_byt Z_byt
        have hms2 := msA_size hm2
        have HB2 : Hid (w.grownBy (wr.setRow g (msA (setC m1 Z Z))) (some g)) := grown_row16 HB.out _
        cases d with
        | false =>
          have d2 : (wr.setRow g (msA (setC m1 Z Z))).cell? ⟨w.heap.size, 2, none⟩ = some (.pointer none) := by
            rw [cell_of_row _ _ _ _ _ _ ((setRow_other wr g w.heap.size _ (by omega)).trans HF.out)]
            rfl
          go_wp2_with (first
            | ((with_reducible refine wl_gb16 23 _ rfl ?_); refine wl_zeroH16 rfl rfl ?_)
            | ((with_reducible refine wl_gs16 23 _ _ rfl ?_); refine wl_storeAP HeOk rfl _ _ rfl g 40 rfl (hv Z) ⟨by rw [hv_size, Z_byt.1]; rfl, hv_one _⟩ rfl _ _ hg2 (by rw [hms2]; decide) _ (ms_setH hm2 Z) ?_)
            | ((with_reducible refine wl_gb16 25 _ rfl ?_); refine wl_zeroC rfl rfl ?_)
            | ((with_reducible refine wl_gs16 25 _ _ rfl ?_); refine wl_storeAP CuGOk rfl _ _ rfl g 14 rfl (cv Z Z) ⟨cv_size _ _ Z_byt.1 Z_byt.1, cv_one _ _⟩ rfl _ _ hgm (by rw [hms]; decide) _ (ms_setC hmm Z Z) ?_))
          try simp only [Act.put]
          go_wp2_with fail
          go_end0
          rw [HC.out]
          exact ⟨rfl, hg2, HB2.out⟩
        | true =>
          have d2 : (wr.setRow g (msA (setC m1 Z Z))).cell? ⟨w.heap.size, 2, none⟩ = some (.pointer (some ⟨g, 40, none⟩)) := by
            rw [cell_of_row _ _ _ _ _ _ ((setRow_other wr g w.heap.size _ (by omega)).trans HF.out)]
            rfl
          go_wp2_with (first
            | ((with_reducible refine wl_gb16 23 _ rfl ?_); refine wl_zeroH16 rfl rfl ?_)
            | ((with_reducible refine wl_gs16 23 _ _ rfl ?_); refine wl_storeAP HeOk rfl _ _ rfl g 40 rfl (hv Z) ⟨by rw [hv_size, Z_byt.1]; rfl, hv_one _⟩ rfl _ _ hg2 (by rw [hms2]; decide) _ (ms_setH hm2 Z) ?_)
            | ((with_reducible refine wl_gb16 25 _ rfl ?_); refine wl_zeroC rfl rfl ?_)
            | ((with_reducible refine wl_gs16 25 _ _ rfl ?_); refine wl_storeAP CuGOk rfl _ _ rfl g 14 rfl (cv Z Z) ⟨cv_size _ _ Z_byt.1 Z_byt.1, cv_one _ _⟩ rfl _ _ hgm (by rw [hms]; decide) _ (ms_setC hmm Z Z) ?_))
          try simp only [Act.put]
          go_wp2_with fail
          go_end0
          rw [HC.out]
          exact ⟨rfl, setRow_heap _ _ _ _ _ _ hg2, grown_row16 HB2.out _⟩
set_option maxHeartbeats 8000000 in
theorem fsize_any (h g n : Nat) (c d : Bool) (w : World) (hl : n ≤ 7) :
    Calls Try.prog 44 #[.agg (fvA h g n c d)] w fun e w' => e = .returned (.int .i64 ((n * 6 + (if c then 26 else 0) + (if d then 13 else 0) : Nat) : Int)) ∧ Below w.heap.size w w' := by
  obtain ⟨w1, hw1⟩ : ∃ w1, w1 = w.alloc (.cells (fvA h g n c d) 45) := ⟨_, rfl⟩
  have HB : Hid (Below w.heap.size w w1) := by rw [hw1]; exact (Below.refl _ _).alloc (Nat.le_refl _) _
  have c0 : w1.cell? ⟨w.heap.size, 0, none⟩ = some (.slice (some ⟨h, 0, none⟩) n n) := by rw [hw1, fv_cells]; rfl
  have c1 : w1.cell? ⟨w.heap.size, 1, none⟩ = some (ptrC g c) := by rw [hw1, fv_cells]; rfl
  have c2 : w1.cell? ⟨w.heap.size, 2, none⟩ = some (ptrH g d) := by rw [hw1, fv_cells]; rfl
  rw [hw1] at c0 c1 c2 HB
  clear hw1
  cases c
  all_goals cases d
  all_goals (
    simp only [ptrC, ptrH, if_true, if_false, Bool.false_eq_true] at c1 c2
    go_enter Try.func44, Try.ntmps44
    go_wp2_with fail
    go_ret
    refine ⟨?_, HB.out⟩
    apply ret_int
    simp)
end Go.Proofs.Ytjmbdoiibchokaa
