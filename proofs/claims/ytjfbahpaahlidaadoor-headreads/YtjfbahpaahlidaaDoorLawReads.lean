import Derived.Test.YtjfbahpaahlidaaDoorRefParse
import Derived.Test.YtjfbahpaahlidaaDoorLawTexts
namespace Go.Proofs.YtjfbahpaahlidaaDoor
open Go Go.RowKit

/-- Both Parses say the same: a header of thirteen bytes and a number. -/
theorem parsed_both (s : ByteArray) : ∃ (H : List Int) (n : Int), H.length = 13 ∧ ∀ e, Parsed (parseB s.data.toList 0 (-1) Z13) e → e = .returned (.tuple #[.agg (hv H), .int .i64 n]) := by
  cases h : parseB s.data.toList 0 (-1) Z13 with
  | none => exact ⟨Z13, 12, rfl, fun e he => he⟩
  | some H => exact ⟨H, 0, (text_parse s.data.toList H h).1.1, fun e he => he⟩

set_option maxHeartbeats 2000000 in
theorem lawReads_any (s : ByteArray) (hs : s.size ≤ maxLen) (w : World) (hT : Laid w) :
    Calls Tryd.prog 8 #[.string s] w fun e w' => e = .returned (.bool true) ∧ Below w.heap.size w w' := by
  have hsz := hT.size
  have HT : Hid (Laid w) := hT
  obtain ⟨H, n, hl, hp⟩ := parsed_both s
  have KP : Hid (∀ W, Laid W → Calls Tryd.prog 25 #[.string s] W fun e w' => e = .returned (.tuple #[.agg (hv H), .int .i64 n]) ∧ Below W.heap.size W w') := fun W h =>
    (parse_any s W hs h.parts h.size).mono fun e w' ⟨h1, h2⟩ => ⟨hp e h1, h2⟩
  have KR : Hid (∀ W, Calls Tryd.prog 27 #[.string s] W fun e w' => e = .returned (.tuple #[.agg (hv H), .int .i64 n]) ∧ Below W.heap.size W w') := fun W =>
    (refParse_any s W (by unfold maxLen at hs; omega)).mono fun e w' ⟨h1, h2⟩ => ⟨hp e h1, h2⟩
  have e1 : ∀ w, (Op.equalIn 10000 26 (.agg (hv H)) (.agg (hv H))).run Tryd.prog w = .ok true w := fun w => by rw [eq26 H H hl hl]; simp
  have eg : ∀ op x y (xs ys : Array Value) w, (eqGuard op 26 x y (.agg xs) (.agg ys)).run Tryd.prog w = .ok () w := fun op x y xs ys w => run_eqGuard_agg w op 26 x y xs ys (by kernel_rfl)
  clear hT hp hs
  go_enter Tryd.func8, Tryd.ntmps8
  go_wp2_with fail
  refine (awake_any _ HT.out).mono ?_
  rintro e w1 ⟨rfl, hB1⟩
  have hz1 := hB1.size
  go_wp2_with fail
  refine (KP.out _ (HT.out.later hsz hB1)).mono ?_
  rintro e w2 ⟨rfl, hb2⟩
  have hz2 := hb2.size
  have hB2 : Below w.heap.size w w2 := hB1.trans (hb2.mono (by omega))
  clear hb2 hB1 KP
  go_wp2_with (first
    | (refine wl_store26 rfl _ _ rfl w2.heap.size H rfl rfl _ (heap_new _ _ _ rfl) rfl hl _ (setRow_new _ _ _ _ _ rfl) ?_))
  refine (KR.out _).mono ?_
  rintro e w3 ⟨rfl, hb3⟩
  have hz3 := hb3.size
  rw [World.size_alloc] at hz3
  have g3 : w3.heap[w2.heap.size]? = some (.cells (hv H) 26 (0, 0)) := by rw [hb3.block _ (by simp)]; exact heap_new _ _ _ rfl
  have hB3 : Below w.heap.size w w3 := (hB2.alloc hB2.size _).trans (hb3.mono (by simp; omega))
  clear hb3 hB2 KR
  go_wp2_with (first
    | (refine wl_store26 rfl _ _ rfl w3.heap.size H rfl rfl _ (heap_new _ _ _ rfl) rfl hl _ (setRow_new _ _ _ _ _ rfl) ?_)
    | (refine wl_load26 rfl _ rfl w2.heap.size rfl H (heap_past _ _ _ _ g3) hl ?_)
    | (refine wl_load26 rfl _ rfl w3.heap.size rfl H (heap_new _ _ _ rfl) hl ?_))
  go_ret
  exact ⟨rfl, hB3.alloc hB3.size _⟩
end Go.Proofs.YtjfbahpaahlidaaDoor
