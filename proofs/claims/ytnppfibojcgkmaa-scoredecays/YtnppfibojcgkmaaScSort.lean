import Derived.Test.YtnppfibojcgkmaaScSum
import Derived.Test.YtnppfibojcgkmaaStIStable
import Derived.Deep.QuietTactic
namespace Go.Proofs.Ytnppfibojcgkmaa
open Go Go.Lib Go.RowKit Go.Sort Go.Shelf
set_option maxRecDepth 20000

set_option maxHeartbeats 4000000 in
/-- The order's closure: does one place's number stand ahead of another's? -/
theorem ahead_any (l : List Nat) (hw : AllW l) (vl : Value) (c i j : Nat) (hi : i < l.length) (hj : j < l.length) (w : World) (hbox : w.cell? ⟨c, 0, none⟩ = some vl) (hL : FSl w vl l) :
    Calls Try.prog 37 #[.int .i64 (i : Int), .int .i64 (j : Int), .pointer (some ⟨c, 0, none⟩)] w fun e w' => e = .returned (.bool (decide (keyT l i < keyT l j))) ∧ ∃ q, w' = w.drewN q := by
  obtain ⟨o, cap, rfl, h1, h2⟩ := hL.slice
  obtain ⟨g, off, x, rfl, hx, hxi⟩ := hL.at i hi
  obtain ⟨g', off', y, e, hy, hyj⟩ := hL.at j hj
  simp only [Option.some.injEq, Addr.mk.injEq, and_true] at e
  obtain ⟨rfl, rfl⟩ := e
  have HC : Hid (∀ W, Calls Try.prog 15 #[.float .f64 x, .float .f64 y] W fun e w' => e = .returned (.bool (decide (keyT l i < keyT l j))) ∧ w' = W) := fun W => by rw [keyT_at hxi, keyT_at hyj]; exact less_any x y (hw.at hxi) (hw.at hyj) W
  generalize decide (keyT l i < keyT l j) = tb at HC ⊢
  have hiz : (i : Int) < (l.length : Int) := by omega
  have hjz : (j : Int) < (l.length : Int) := by omega
  generalize l.length = n at hiz hjz hbox h1
  unfold maxLen at h2
  clear hL hw hi hj hxi hyj
  go_enter Try.func37, Try.ntmps37
  go_wp2_with fail
  go_quiet (first | (go_at_call 15; exact Calls.quiet_of_same (HC.out _)))
  go_wp2_with fail
  go_ret
  exact ⟨rfl, nq, rfl⟩
def cmpK (K : Nat → Int) (i j : Nat) : Int := if K i < K j then -1 else if K j < K i then 1 else 0
theorem cmpK_lt (K : Nat → Int) (i j : Nat) : cmpK K i j < 0 ↔ -K j < -K i := by
  unfold cmpK
  split
  · simp; omega
  · split <;> simp <;> omega
set_option maxHeartbeats 4000000 in
theorem cmp_any (l : List Nat) (hw : AllW l) (vl : Value) (c d i j : Nat) (hi : i < l.length) (hj : j < l.length) (w : World) (hbox : w.cell? ⟨c, 0, none⟩ = some vl) (hL : FSl w vl l) (hd : w.cell? ⟨d, 0, none⟩ = some (.func (.func 37) #[] #[.pointer (some ⟨c, 0, none⟩)])) :
    Calls Try.prog 42 #[.int .i64 (i : Int), .int .i64 (j : Int), .pointer (some ⟨d, 0, none⟩)] w fun e w' => e = .returned (.int .i64 (cmpK (keyT l) i j)) ∧ ∃ q, w' = w.drewN q := by
  have HA : Hid (∀ W x y, (∃ q, W = w.drewN q) → (x = i ∧ y = j ∨ x = j ∧ y = i) → Calls Try.prog 37 #[.int .i64 ((x : Nat) : Int), .int .i64 ((y : Nat) : Int), .pointer (some ⟨c, 0, none⟩)] W fun e w' => e = .returned (.bool (decide (keyT l x < keyT l y))) ∧ ∃ m, w' = w.drewN m) := fun W x y hq hxy => by
    obtain ⟨q, rfl⟩ := hq
    rcases hxy with ⟨rfl, rfl⟩ | ⟨rfl, rfl⟩
    · exact Calls.quiet_of (ahead_any l hw vl c _ _ hi hj (w.drewN q) hbox hL)
    · exact Calls.quiet_of (ahead_any l hw vl c _ _ hj hi (w.drewN q) hbox hL)
  have HV : Hid (cmpK (keyT l) i j = if keyT l i < keyT l j then -1 else if keyT l j < keyT l i then 1 else 0) := rfl
  generalize cmpK (keyT l) i j = R at HV ⊢
  clear hw hi hj hbox hL
  have hd2 : ∀ q, (w.drewN q).cell? ⟨d, 0, none⟩ = some (.func (.func 37) #[] #[.pointer (some ⟨c, 0, none⟩)]) := fun q => hd
  by_cases h1 : keyT l i < keyT l j
  · have HR : Hid (R = -1) := by have := HV.out; rw [if_pos h1] at this; exact this
    have H1 : Hid (decide (keyT l i < keyT l j) = true) := decide_eq_true h1
    clear h1 HV
    go_enter Try.func42, Try.ntmps42
    go_wp2_with (go_at_call 37; refine (HA.out _ _ _ ⟨0, rfl⟩ (.inl ⟨rfl, rfl⟩)).mono ?_; rintro e w1 ⟨rfl, q, rfl⟩; rw [H1.out])
    go_ret
    exact ⟨by rw [HR.out]; rfl, _, rfl⟩
  · have H1 : Hid (decide (keyT l i < keyT l j) = false) := decide_eq_false h1
    by_cases h2 : keyT l j < keyT l i
    · have HR : Hid (R = 1) := by have := HV.out; rw [if_neg h1, if_pos h2] at this; exact this
      have H2 : Hid (decide (keyT l j < keyT l i) = true) := decide_eq_true h2
      clear h1 h2 HV
      go_enter Try.func42, Try.ntmps42
      go_wp2_with (go_at_call 37; refine (HA.out _ _ _ (by first | exact ⟨0, rfl⟩ | exact ⟨_, rfl⟩) (by first | exact .inl ⟨rfl, rfl⟩ | exact .inr ⟨rfl, rfl⟩)).mono ?_; rintro e w1 ⟨rfl, q, rfl⟩; first | rw [H1.out] | rw [H2.out])
      go_ret
      exact ⟨by rw [HR.out]; rfl, _, rfl⟩
    · have HR : Hid (R = 0) := by have := HV.out; rw [if_neg h1, if_neg h2] at this; exact this
      have H2 : Hid (decide (keyT l j < keyT l i) = false) := decide_eq_false h2
      clear h1 h2 HV
      go_enter Try.func42, Try.ntmps42
      go_wp2_with (go_at_call 37; refine (HA.out _ _ _ (by first | exact ⟨0, rfl⟩ | exact ⟨_, rfl⟩) (by first | exact .inl ⟨rfl, rfl⟩ | exact .inr ⟨rfl, rfl⟩)).mono ?_; rintro e w1 ⟨rfl, q, rfl⟩; first | rw [H1.out] | rw [H2.out])
      go_ret
      exact ⟨by rw [HR.out]; rfl, _, rfl⟩
section
variable {α : Type} [Inhabited α]
theorem segI_all (d : Array α) : segF (arrF d) 0 d.size = d.toList := by
  apply List.ext_getElem?
  intro i
  unfold segF arrF
  by_cases hi : i < d.size
  · simp [hi]
  · simp [hi]
theorem sw_heap {enc : α → Value} {w : World} {blk off m : Nat} {dk : Array α} {os : Array Obj} (k : Nat) (hk : k < w.heap.size) (hne : k ≠ blk) : (sortWorld enc w blk off m dk os).heap[k]? = w.heap[k]? := by
  unfold sortWorld grow putRow mapBlock Sort.ahead
  rw [Array.getElem?_append_left (by simpa using hk), Array.getElem?_modify, if_neg (fun e => hne e.symm)]
theorem SW.grownBy {enc : α → Value} {w W : World} {g off : Nat} {d : Array α} (h : SW enc w g off d W) : w.grownBy W (some g) := by
  obtain ⟨n, os, rfl⟩ := h
  refine ⟨rfl, rfl, rfl, SW.le ⟨n, os, rfl⟩, fun j hj hne => sw_heap j hj fun e => hne (by rw [e])⟩
theorem own_of_sw {enc : α → Value} {w W : World} {g B cap : Nat} {ty : TypeId} {d : Array α} {L : List Value} (h : SW enc w g 0 d W) (hown : VOwn ty B w (.slice (some ⟨g, 0, none⟩) d.size cap) L) : VOwn ty B W (.slice (some ⟨g, 0, none⟩) d.size cap) (d.toList.map enc) := by
  have hl := hown.sl.len
  obtain ⟨h1, ⟨e, _⟩ | ⟨g', cap', cur, e, hB, hcur, h5, h6, h7, h4⟩⟩ := hown
  · cases e
  simp only [Value.slice.injEq, Option.some.injEq, Addr.mk.injEq, and_true] at e
  obtain ⟨⟨rfl, _⟩, _, rfl⟩ := e
  obtain ⟨n, os, rfl⟩ := h
  have hlt : g < w.heap.size := (Array.getElem?_eq_some_iff.1 hcur).1
  have hlen : (d.toList.map enc).length = d.size := by simp
  refine ⟨by simp, .inr ⟨g, cap, putCells enc 0 d cur, by rw [hlen], hB, ?_, by rw [hlen, hl]; exact h5, h6, by rw [← h7]; simp [putCells], ?_⟩⟩
  · unfold sortWorld grow putRow mapBlock Sort.ahead
    rw [Array.getElem?_append_left (by simpa using hlt), Array.getElem?_modify, if_pos rfl, hcur]
    rfl
  · rw [hlen, Nat.mul_one]
    have hsz : d.size ≤ cur.size := by rw [h7, Nat.mul_one, hl]; exact h5
    apply List.ext_getElem?
    intro t
    by_cases ht : t < d.size
    · rw [List.getElem?_take_of_lt ht, Array.getElem?_toList]
      unfold putCells
      rw [Array.getElem?_mapIdx, Array.getElem?_eq_getElem (by omega), Option.map_some, if_pos (by omega), Nat.sub_zero]
      simp [ht]
    · rw [List.getElem?_take_eq_none (by omega), List.getElem?_eq_none (by simp; omega)]
end
/-- A list of places that is sorted so is the order. -/
theorem ord_of_sorted {K : Nat → Int} {n : Nat} {m' m : List (Fin n)} (hm : m.Pairwise fun a b => a.val < b.val) (hall : ∀ i : Fin n, i ∈ m) (hd : Desc (fun i : Fin n => -K i.val) m') (ha : Alike (fun i : Fin n => -K i.val) m' m) : IsOrd K n (m'.map Fin.val) := by
  refine ⟨fun i => ⟨fun h => ?_, fun h => ?_⟩, ?_⟩
  · obtain ⟨j, _, rfl⟩ := List.mem_map.1 h
    exact j.2
  · have h1 : (⟨i, h⟩ : Fin n) ∈ m'.filter (fun x => -K x.val == -K i) := by
      rw [ha (-K i)]
      exact List.mem_filter.2 ⟨hall _, by simp⟩
    exact List.mem_map.2 ⟨_, (List.mem_filter.1 h1).1, rfl⟩
  · rw [List.pairwise_map, List.pairwise_iff_forall_sublist]
    intro a b hab
    have h1 := (List.pairwise_iff_forall_sublist.1 hd) hab
    by_cases he : K a.val = K b.val
    · right
      refine ⟨he, ?_⟩
      have h2 := List.Sublist.filter (fun x : Fin n => -K x.val == -K a.val) hab
      rw [ha (-K a.val)] at h2
      have h3 : [a, b].filter (fun x : Fin n => -K x.val == -K a.val) = [a, b] := by simp [he]
      rw [h3] at h2
      exact (List.pairwise_iff_forall_sublist.1 hm) (h2.trans List.filter_sublist)
    · left
      have : -K b.val ≤ -K a.val := h1
      omega
end Go.Proofs.Ytnppfibojcgkmaa
