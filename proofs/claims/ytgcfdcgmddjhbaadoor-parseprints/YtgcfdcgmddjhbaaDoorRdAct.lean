import Derived.Test.YtgcfdcgmddjhbaaDoorRdFig
namespace Go.Proofs.YtgcfdcgmddjhbaaDoor
open Go Go.RowKit
set_option maxRecDepth 20000

theorem takeA_eq (E : Nat) (T : List Tok) : takeA E T = (takeK E 1 T).bind fun x => if x.1.text = wDrop then .ok ((true, ⟨0, 0⟩), x.2) else if x.1.text = wPort then (takeF E x.2).map (fun y => ((false, y.1), y.2)) else .error (8, x.1.pos) := by
  cases T with
  | nil => rfl
  | cons t T =>
    unfold takeA takeK
    by_cases h : t.kind = 1
    · simp only [h, true_and, if_true]
      rfl
    · simp only [h, false_and, if_false]
      rfl
def ActV (v : Value) (a : Bool × Fig) : Prop := v = .tuple #[.bool a.1, .agg (figV a.2)]

set_option maxHeartbeats 2000000 in
theorem action_any (W0 w : World) (g E : Nat) (T : List Tok) (h : Rd W0 w g E T) :
    Calls Tryd.prog 29 #[.pointer (some ⟨g, 0, none⟩)] w fun e w' => Took W0 w g E (fun _ a v => ActV v a) (takeA E T) e w' := by
  have CF : Hid (∀ W T, Rd W0 W g E T → Calls Tryd.prog 27 #[.pointer (some ⟨g, 0, none⟩)] W fun e w' => Took W0 W g E (fun _ f v => v = .agg (figV f)) (takeF E T) e w') := fun W T h => figure_any W0 W g E T h
  have CK : Hid (∀ W T, Rd W0 W g E T → Calls Tryd.prog 18 #[.pointer (some ⟨g, 0, none⟩), .int .i64 1] W fun e w' => Took W0 W g E (fun _ t v => v = .agg (encT t)) (takeK E 1 T) e w') := fun W T h => take_any W0 W g E 1 (by decide) T h
  have hgl := h.size
  have H : Hid (Rd W0 w g E T) := h
  obtain ⟨A, hA⟩ : ∃ A, A = takeA E T := ⟨_, rfl⟩
  rw [← hA]
  rw [takeA_eq] at hA
  clear h
  go_enter Tryd.func29, Tryd.ntmps29
  go_wp2_with fail
  refine (CK.out _ T (H.out.alloc _)).mono ?_
  cases hK : takeK E 1 T with
  | error x =>
    obtain ⟨c, q⟩ := x
    have HA : Hid (A = .error (c, q)) := by rw [hA, hK]; rfl
    clear hA hK
    rintro e w1 ⟨hg1, rfl⟩
    go_wp2_with fail
    rw [HA.out]
    exact ⟨rfl, grown_trans (gb_alloc (gb_refl w g) _) hg1, rfl⟩
  | ok x =>
    obtain ⟨t, T1⟩ := x
    have HA : Hid (A = if t.text = wDrop then .ok ((true, ⟨0, 0⟩), T1) else if t.text = wPort then (takeF E T1).map (fun y => ((false, y.1), y.2)) else .error (8, t.pos)) := by rw [hA, hK]; rfl
    clear hA hK
    rintro e w1 ⟨hg1, ⟨v, rfl, rfl⟩, R1⟩
    have z1 : w.heap.size < w1.heap.size := by have := hg1.size; simp at this; omega
    have HG1 : Hid (w.grownBy w1 (some g)) := grown_trans (gb_alloc (gb_refl w g) _) hg1
    obtain ⟨t0, t1, t2, t3⟩ := tok_cells (heap_new w1 (.cells (encT t) 52) _ rfl)
    have hr1 : Hid ((w1.alloc (.cells (encT t) 52)).heap[w.heap.size]? = some (.cells (figV ⟨0, 0⟩) 25 (0, 0))) := (heap_past _ _ _ _ ((hg1.block _ (by simp) (by simp; omega)).trans (heap_new _ _ _ rfl)))
    have HR1 : Hid (Rd W0 w1 g E T1) := R1
    clear hg1 R1
    by_cases d1 : t.text = wDrop
    · rw [if_pos d1] at HA
      have e1 : (t.text == [100, 114, 111, 112]) = true := by rw [d1]; rfl
      clear d1
      go_wp2_with (first
        | (refine wl_storeE (E := TokE) TokOk rfl _ _ rfl w1.heap.size (encT t) (tv_fits _ _ _ _) rfl rfl _ (heap_new _ _ _ rfl) rfl _ (setRow_new _ _ _ _ _ rfl) ?_)
        | (refine wl_storeE (E := FigE) FigOk rfl _ _ rfl w.heap.size (figV ⟨0, 0⟩) (fig_fits _) rfl rfl _ hr1.out rfl _ rfl ?_))
      refine retBE (E := FigE) FigOk rfl rfl w.heap.size rfl (figV ⟨0, 0⟩) rfl (setRow_heap _ _ _ _ _ _ hr1.out) _ rfl ?_
      rw [HA.out]
      exact ⟨gb_setRow (gb_alloc HG1.out _) (.inr (Nat.le_refl _)) _, ⟨_, rfl, rfl⟩, rd_setRow (HR1.out.alloc _) (by omega) (by omega) _⟩
    · rw [if_neg d1] at HA
      have e1 : (t.text == [100, 114, 111, 112]) = false := by rw [beq_eq_false_iff_ne]; exact d1
      clear d1
      by_cases d2 : t.text = wPort
      · rw [if_pos d2] at HA
        have e2 : (t.text == [112, 111, 114, 116]) = true := by rw [d2]; rfl
        clear d2
        go_wp2_with (first
          | (refine wl_storeE (E := TokE) TokOk rfl _ _ rfl w1.heap.size (encT t) (tv_fits _ _ _ _) rfl rfl _ (heap_new _ _ _ rfl) rfl _ (setRow_new _ _ _ _ _ rfl) ?_))
        refine (CF.out _ T1 (HR1.out.alloc _)).mono ?_
        cases hF : takeF E T1 with
        | error x =>
          obtain ⟨c, q⟩ := x
          rw [hF] at HA
          clear hF
          rintro e w2 ⟨hg2, rfl⟩
          go_wp2_with fail
          rw [HA.out]
          exact ⟨rfl, grown_trans (gb_alloc HG1.out _) hg2, rfl⟩
        | ok x =>
          obtain ⟨f, T2⟩ := x
          rw [hF] at HA
          clear hF
          rintro e w2 ⟨hg2, ⟨v, rfl, rfl⟩, R2⟩
          have hr2 : Hid (w2.heap[w.heap.size]? = some (.cells (figV ⟨0, 0⟩) 25 (0, 0))) := (hg2.block _ (by simp; omega) (by simp; omega)).trans hr1.out
          have HG2 : Hid (w.grownBy w2 (some g)) := grown_trans (gb_alloc HG1.out _) hg2
          have HR2 : Hid (Rd W0 w2 g E T2) := R2
          clear hg2 R2 t0 t1 t2 t3
          go_wp2_with (first
            | (refine wl_storeE (E := FigE) FigOk rfl _ _ rfl w.heap.size (figV f) (fig_fits _) rfl rfl _ hr2.out rfl _ rfl ?_))
          refine retBE (E := FigE) FigOk rfl rfl w.heap.size rfl (figV f) rfl (setRow_heap _ _ _ _ _ _ hr2.out) _ rfl ?_
          rw [HA.out]
          exact ⟨gb_setRow HG2.out (.inr (Nat.le_refl _)) _, ⟨_, rfl, rfl⟩, rd_setRow HR2.out (by omega) (by omega) _⟩
      · rw [if_neg d2] at HA
        have e2 : (t.text == [112, 111, 114, 116]) = false := by rw [beq_eq_false_iff_ne]; exact d2
        clear d2
        go_wp2_with (first
          | (refine wl_storeE (E := TokE) TokOk rfl _ _ rfl w1.heap.size (encT t) (tv_fits _ _ _ _) rfl rfl _ (heap_new _ _ _ rfl) rfl _ (setRow_new _ _ _ _ _ rfl) ?_))
        rw [HA.out]
        exact ⟨rfl, gb_alloc HG1.out _, rfl⟩
end Go.Proofs.YtgcfdcgmddjhbaaDoor
