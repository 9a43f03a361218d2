import Derived.Test.YtjfbahpaahlidaaDoorText
namespace Go.Proofs.YtjfbahpaahlidaaDoor
open Go Go.RowKit

abbrev H0 : List Int := [10, 0, 0, 1, 1, 2, 3, 4, 0, 80, 0, 53, 17]
theorem make0 : makeN [167772161, 16909060, 80, 53, 17] 5 = H0 := by kernel_rfl
theorem byt0 : Byt H0 := ⟨rfl, fun k => by
  rcases Nat.lt_or_ge k 13 with h | h
  · have : ∀ k : Fin 13, 0 ≤ H0.getD k.val 0 ∧ H0.getD k.val 0 < 256 := by decide +kernel
    exact this ⟨k, h⟩
  · rw [List.getD, List.getElem?_eq_none (by simpa using h)]; decide⟩

theorem text0 : txt H0 11 = [49, 48, 46, 48, 46, 48, 46, 49, 58, 56, 48, 62, 49, 46, 50, 46, 51, 46, 52, 58, 53, 51, 47, 49, 55] := by
  have n0 : numAt H0 0 = 10 := by kernel_rfl
  have n1 : numAt H0 1 = 0 := by kernel_rfl
  have n2 : numAt H0 2 = 0 := by kernel_rfl
  have n3 : numAt H0 3 = 1 := by kernel_rfl
  have n4 : numAt H0 4 = 80 := by kernel_rfl
  have n5 : numAt H0 5 = 1 := by kernel_rfl
  have n6 : numAt H0 6 = 2 := by kernel_rfl
  have n7 : numAt H0 7 = 3 := by kernel_rfl
  have n8 : numAt H0 8 = 4 := by kernel_rfl
  have n9 : numAt H0 9 = 53 := by kernel_rfl
  have n10 : numAt H0 10 = 17 := by kernel_rfl
  have d10 : Lib.decDigits 10 = [49, 48] := by rw [Lib.decDigits_two (by decide) (by decide)]; rfl
  have d80 : Lib.decDigits 80 = [56, 48] := by rw [Lib.decDigits_two (by decide) (by decide)]; rfl
  have d53 : Lib.decDigits 53 = [53, 51] := by rw [Lib.decDigits_two (by decide) (by decide)]; rfl
  have d17 : Lib.decDigits 17 = [49, 55] := by rw [Lib.decDigits_two (by decide) (by decide)]; rfl
  have d0 : Lib.decDigits 0 = [48] := by rw [Lib.decDigits_one (by decide)]; rfl
  have d1 : Lib.decDigits 1 = [49] := by rw [Lib.decDigits_one (by decide)]; rfl
  have d2 : Lib.decDigits 2 = [50] := by rw [Lib.decDigits_one (by decide)]; rfl
  have d3 : Lib.decDigits 3 = [51] := by rw [Lib.decDigits_one (by decide)]; rfl
  have d4 : Lib.decDigits 4 = [52] := by rw [Lib.decDigits_one (by decide)]; rfl
  simp only [txt, n0, n1, n2, n3, n4, n5, n6, n7, n8, n9, n10, d10, d80, d53, d17, d0, d1, d2, d3, d4]
  rfl

/-- What the laws lean on of the memory in which they are called: the three tables lie there as the text lays them. -/
structure Laid (w : World) : Prop where
  places : Places w
  parts : Parts w
  pow : Pow w
  size : 3 ≤ w.heap.size
theorem Laid.later {w w' : World} (h : Laid w) {B : Nat} (hB : 3 ≤ B) (hb : Below B w w') : Laid w' :=
  ⟨h.places.later (by omega) hb, h.parts.later (by omega) hb, h.pow.later (by omega) hb, Nat.le_trans h.size hb.size⟩

/-- A whole header is read out of its block, behind a guard that says yes. -/
theorem wl_load26g {ops : Array Oper} {rest : List Oper} {o : Oper} {a : Act} {w : World} {Q : Exit → Act → World → Prop} (hw : Region.wanted o (yielded ops a.tmps) = true) (x : Operand) (ho : o.op = .load 26 x)
    (g : Nat) (hx : a.eval x = .pointer (some ⟨g, 0, none⟩)) (L : List Int) (hg : w.heap[g]? = some (.cells (hv L) 26 (0, 0))) (hL : L.length = 13)
    (h : wpList Tryd.prog ops Q rest (a.put o.dst (.agg (hv L))) w) : wpList Tryd.prog ops Q (o :: rest) a w := by
  refine wpList_step fun K hK => ?_
  rw [if_pos hw]
  exact wp_load_row 26 x ho g hx 26 (hv L) (0, 0) _ hg Tryd.underlying26 rfl (size26 L hL) (hK _ _ h)

set_option maxHeartbeats 1000000 in
theorem awake_any (w : World) (hT : Laid w) : Calls Tryd.prog 9 #[] w fun e w' => e = .returned (.bool true) ∧ Below w.heap.size w w' := by
  have hsz := hT.size
  have HT : Hid (Laid w) := hT
  clear hT
  go_enter Tryd.func9, Tryd.ntmps9
  go_wp2_with fail
  refine (make_any 167772161 16909060 80 53 17 w (by decide) (by decide) (by decide) (by decide) (by decide) HT.out.places).mono ?_
  rintro e w1 ⟨rfl, hb1⟩
  rw [make0]
  have hz1 := hb1.size
  go_wp2_with (first
    | (refine wl_store26 rfl _ _ rfl w1.heap.size H0 rfl rfl _ (heap_new _ _ _ rfl) rfl rfl _ (setRow_new _ _ _ _ _ rfl) ?_)
    | (refine wl_load26 rfl _ rfl w1.heap.size rfl H0 (heap_new _ _ _ rfl) rfl ?_))
  have hB1 : Below w.heap.size w (w1.alloc (Obj.cells (hv H0) 26)) := hb1.alloc hz1 _
  refine (with_big H0 4 256 _ (by decide) (by decide) (by decide) (by decide) (HT.out.places.later (by omega) hB1) (by decide)).mono ?_
  rintro e w2 ⟨rfl, hb2⟩
  have hz2 := hb2.size
  rw [World.size_alloc] at hz2
  have g1 : w2.heap[w1.heap.size]? = some (.cells (hv H0) 26 (0, 0)) := by rw [hb2.block _ (by simp)]; exact heap_new _ _ _ rfl
  have hB2 : Below w.heap.size w w2 := hB1.trans (hb2.mono hB1.size)
  clear hb1 hB1 hb2
  go_wp2_with (first
    | (refine wl_store26 rfl _ _ rfl w2.heap.size Z13 rfl rfl _ (heap_new _ _ _ rfl) rfl rfl _ (setRow_new _ _ _ _ _ rfl) ?_)
    | (refine wl_load26 rfl _ rfl w1.heap.size rfl H0 (heap_past _ _ _ _ g1) rfl ?_))
  have hB3 : Below w.heap.size w (w2.alloc (Obj.cells (hv Z13) 26)) := hB2.alloc hB2.size _
  have hT3 := HT.out.later hsz hB3
  refine (text_any H0 byt0 _ hT3.parts hT3.pow hT3.size).mono ?_
  rintro e w3 ⟨rfl, hb3⟩
  rw [text0]
  have g3 : w3.heap[w1.heap.size]? = some (.cells (hv H0) 26 (0, 0)) := by rw [hb3.block _ (by simp; omega)]; exact heap_past _ _ _ _ g1
  have hB4 : Below w.heap.size w w3 := hB3.trans (hb3.mono hB3.size)
  clear hT3 hB3 hB2 hb3 g1
  go_wp2_with (refine wl_load26g rfl _ rfl w1.heap.size rfl H0 g3 rfl ?_)
  refine (bit_any H0 byt0 4 w3).mono ?_
  rintro e w4 ⟨rfl, hb4⟩
  rw [show bitB H0 4 = true from by decide]
  have g4 : w4.heap[w1.heap.size]? = some (.cells (hv H0) 26 (0, 0)) := by rw [hb4.block _ (Array.getElem?_eq_some_iff.1 g3).1]; exact g3
  have hB5 : Below w.heap.size w w4 := hB4.trans (hb4.mono hB4.size)
  clear hb4 hB4 g3
  go_wp2_with (refine wl_load26g rfl _ rfl w1.heap.size rfl H0 g4 rfl ?_)
  refine (bit_any H0 byt0 5 w4).mono ?_
  rintro e w5 ⟨rfl, hb5⟩
  rw [show bitB H0 5 = false from by decide]
  go_wp2_with fail
  go_ret
  exact ⟨rfl, hB5.trans (hb5.mono hB5.size)⟩
end Go.Proofs.YtjfbahpaahlidaaDoor
