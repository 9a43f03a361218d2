import Derived.Test.YtgcfdcgmddjhbaaDoorRdBase
namespace Go.Proofs.YtgcfdcgmddjhbaaDoor
open Go Go.RowKit
set_option maxRecDepth 20000

theorem retE {E : El} (H : E.Ok) {fn : Func} {R : Ending → World → Prop} {a : Act} {w : World} {p : Tmp} (hr : fn.results = #[.cell p E.elem]) (hd : a.defers = []) (g : Nat) (hp : a.tmps.getD p undef = .pointer (some ⟨g, 0, none⟩)) (cs : Array Value) (hcs : cs.size = E.size)
    (hg : w.heap[g]? = some (.cells cs E.elem (0, 0))) (h : R (.returned (.agg cs)) w) : bodyPost Tryd.prog fn R .ret a w := by
  refine bodyPost_ret (v := .agg cs) ?_ hd h
  rw [Array.getD_eq_getD_getElem?] at hp
  have hl := H.load w g 0 cs E.elem (0, 0) cs hcs hg (own_cells _ _)
  simp [results, hr, hp, asAddr, hl]
theorem retBE {E : El} (H : E.Ok) {fn : Func} {R : Ending → World → Prop} {a : Act} {w : World} {u p : Tmp} (hr : fn.results = #[.tmp u, .cell p E.elem]) (hd : a.defers = []) (g : Nat) (hp : a.tmps.getD p undef = .pointer (some ⟨g, 0, none⟩)) (cs : Array Value) (hcs : cs.size = E.size)
    (hg : w.heap[g]? = some (.cells cs E.elem (0, 0))) (v : Value) (hu : a.tmps.getD u undef = v) (h : R (.returned (.tuple #[v, .agg cs])) w) : bodyPost Tryd.prog fn R .ret a w := by
  refine bodyPost_ret (v := .tuple #[v, .agg cs]) ?_ hd h
  rw [Array.getD_eq_getD_getElem?] at hp hu
  have hl := H.load w g 0 cs E.elem (0, 0) cs hcs hg (own_cells _ _)
  simp [results, hr, hp, hu, asAddr, hl]

set_option maxHeartbeats 2000000 in
theorem peek_any (W0 w : World) (g E : Nat) (T : List Tok) (h : Rd W0 w g E T) :
    Calls Tryd.prog 17 #[.pointer (some ⟨g, 0, none⟩)] w fun e w' => e = .returned (.agg (encT (hd E T))) ∧ Below w.heap.size w w' := by
  obtain ⟨h0, h1, v, h2, h3⟩ := h
  have hgl := (Array.getElem?_eq_some_iff.1 h2).1
  have h3' := h3.below h0
  cases T with
  | nil =>
    obtain ⟨o, cap, rfl, _, _⟩ := h3'.slice
    have c0 : ∀ x, (w.alloc x).cell? ⟨g, 0, none⟩ = some (.slice o 0 cap) := fun x => by rw [cell_of_row _ _ _ _ _ _ (heap_past _ _ _ _ h2)]; rfl
    have c1 : ∀ x, (w.alloc x).cell? ⟨g, 1, none⟩ = some (.int .i64 (E : Int)) := fun x => by rw [cell_of_row _ _ _ _ _ _ (heap_past _ _ _ _ h2)]; rfl
    clear h0 h1 h2 h3 h3'
    go_enter Tryd.func17, Tryd.ntmps17
    go_wp2_with (first
      | (refine wl_storeE (E := TokE) TokOk rfl _ _ rfl w.heap.size (tv 0 (E : Nat) ⟨#[]⟩ 0) (tv_fits _ _ _ _) rfl rfl _ (heap_new _ _ _ rfl) rfl _ (setRow_new _ _ _ _ _ rfl) ?_))
    refine retE (E := TokE) TokOk rfl rfl w.heap.size rfl (tv 0 (E : Nat) ⟨#[]⟩ 0) rfl (heap_new _ _ _ rfl) ?_
    exact ⟨rfl, (Below.refl _ _).alloc (Nat.le_refl _) _⟩
  | cons t T =>
    obtain ⟨o, cap, rfl, hcap, hm⟩ := h3'.slice
    obtain ⟨b, off, cur, ty, fr, c, rfl, hb, hc, hck⟩ := h3'.at 0 (by simp)
    obtain rfl : t = c := by simpa using hck
    have c0 : ∀ x, (w.alloc x).cell? ⟨g, 0, none⟩ = some (.slice (some ⟨b, off, none⟩) (T.length + 1) cap) := fun x => by rw [cell_of_row _ _ _ _ _ _ (heap_past _ _ _ _ h2)]; rfl
    have HB : Hid (∀ x, (w.alloc x).heap[b]? = some (.cells cur ty fr)) := fun x => heap_past _ _ _ _ hb
    have HC : Hid (∀ j, j < 4 → cur[off + 0 * 4 + j]? = (encT t)[j]?) := hc
    have hl : ((T.length : Int) + 1 == 0) = false := by simp; omega
    simp only [List.length_cons] at hcap
    unfold maxLen at hm
    clear h0 h1 h2 h3 h3' hb hc hck
    go_enter Tryd.func17, Tryd.ntmps17
    go_wp2_with (first
      | (refine wl_loadE (E := TokE) TokOk rfl _ rfl b (off + 0 * 4) rfl cur ty fr (encT t) rfl (HB.out _) HC.out ?_)
      | (refine wl_storeE (E := TokE) TokOk rfl _ _ rfl w.heap.size (encT t) (tv_fits _ _ _ _) rfl rfl _ (heap_new _ _ _ rfl) rfl _ (setRow_new _ _ _ _ _ rfl) ?_))
    refine retE (E := TokE) TokOk rfl rfl w.heap.size rfl (encT t) rfl (heap_new _ _ _ rfl) ?_
    exact ⟨rfl, (Below.refl _ _).alloc (Nat.le_refl _) _⟩
theorem tok_cells {w : World} {b : Nat} {t : Tok} {ty : TypeId} {fr : Nat × Nat} (h : w.heap[b]? = some (.cells (encT t) ty fr)) :
    w.cell? ⟨b, 0, none⟩ = some (.int .i64 (t.kind : Int)) ∧ w.cell? ⟨b, 1, none⟩ = some (.int .i64 (t.pos : Int)) ∧ w.cell? ⟨b, 2, none⟩ = some (.string ⟨t.text.toArray⟩) ∧ w.cell? ⟨b, 3, none⟩ = some (.int .i64 (t.num : Int)) := by
  refine ⟨?_, ?_, ?_, ?_⟩ <;> (rw [cell_of_row _ _ _ _ _ _ h]; rfl)
theorem tok_f0 (t : Tok) (W : World) : (Instr.field 52 (.agg (encT t)) 0).run Tryd.prog W = .ok (.int .i64 (t.kind : Int)) W := by kernel_rfl
theorem tok_f1 (t : Tok) (W : World) : (Instr.field 52 (.agg (encT t)) 1).run Tryd.prog W = .ok (.int .i64 (t.pos : Int)) W := by kernel_rfl
theorem tok_f2 (t : Tok) (W : World) : (Instr.field 52 (.agg (encT t)) 2).run Tryd.prog W = .ok (.string ⟨t.text.toArray⟩) W := by kernel_rfl
theorem takeK_no {E k : Nat} {T : List Tok} (h : (hd E T).kind ≠ k) : takeK E k T = .error (8, (hd E T).pos) := by
  cases T with
  | nil => rfl
  | cons t T => exact if_neg h
theorem takeK_yes {E k : Nat} (hk : k ≠ 0) {T : List Tok} (h : (hd E T).kind = k) : ∃ T', T = hd E T :: T' ∧ takeK E k T = .ok (hd E T, T') := by
  cases T with
  | nil => exact absurd h.symm hk
  | cons t T => exact ⟨T, rfl, if_pos h⟩

theorem slice_tail (b off n cap : Nat) (h : n + 1 ≤ cap) (hm : cap ≤ 2 ^ 63 - 1) (T' : List Tok) (hT : T'.length = n) : ∃ o' : Option Addr, (T' ≠ [] → o' = some ⟨b, off + 4, none⟩) ∧ ∀ W, (Instr.sliceAt 40 (.slice (some ⟨b, off, none⟩) (n + 1) cap) (some (.int .i64 1)) none none).run Tryd.prog W = .ok (.slice o' n (cap - 1)) W := by
  by_cases hc : cap = 1
  · subst hc
    refine ⟨some ⟨b, off, none⟩, fun hn => ?_, fun W => ?_⟩
    · exfalso
      exact hn (List.length_eq_zero_iff.1 (by omega))
    · obtain rfl : n = 0 := by omega
      simp [go_sem, Tryd.underlying40]
  · refine ⟨some ⟨b, off + 4, none⟩, fun _ => rfl, fun W => ?_⟩
    simp [go_sem, Tryd.underlying40]
    rw [if_pos (by omega), if_neg hc]

set_option maxHeartbeats 2000000 in
theorem take_any (W0 w : World) (g E k : Nat) (hk : k ≠ 0) (T : List Tok) (h : Rd W0 w g E T) :
    Calls Tryd.prog 18 #[.pointer (some ⟨g, 0, none⟩), .int .i64 (k : Int)] w fun e w' => Took W0 w g E (fun _ t v => v = .agg (encT t)) (takeK E k T) e w' := by
  have C1 : Hid (∀ W, Below w.heap.size w W → Calls Tryd.prog 17 #[.pointer (some ⟨g, 0, none⟩)] W fun e w' => e = .returned (.agg (encT (hd E T))) ∧ Below W.heap.size W w') := fun W hb => peek_any W0 W g E T (h.below hb)
  have hgl := h.size
  have H : Hid (Rd W0 w g E T) := h
  clear h
  by_cases hc : (hd E T).kind = k
  · obtain ⟨T', hT, hR⟩ := takeK_yes hk hc
    have HR : Hid (takeK E k T = .ok (hd E T, T')) := hR
    have hne : (((hd E T).kind : Int) != (k : Int)) = false := by simp; omega
    have HT : Hid (T = hd E T :: T') := hT
    obtain ⟨t, ht⟩ : ∃ t, t = hd E T := ⟨_, rfl⟩
    rw [← ht] at C1 hne HR HT
    clear hc hR ht hT
    go_enter Tryd.func18, Tryd.ntmps18
    go_wp2_with fail
    refine (C1.out _ ?_).mono ?_
    · exact (Below.refl _ _).alloc (Nat.le_refl _) _
    rintro e w1 ⟨rfl, hb1⟩
    have B1 : Below w.heap.size w w1 := ((Below.refl _ _).alloc (Nat.le_refl _) _).trans (hb1.mono (by simp))
    have z1 : w.heap.size < w1.heap.size := by have := hb1.size; simp at this; omega
    have hr1 : Hid (w1.heap[w.heap.size]? = some (.cells (tv 0 0 ⟨#[]⟩ 0) 52 (0, 0))) := (hb1.block _ (by simp)).trans (heap_new _ _ _ rfl)
    have R1 := H.out.below B1
    obtain ⟨q0, q1, v, q2, q3⟩ := R1
    rw [HT.out] at q3
    obtain ⟨o, cap, rfl, hcap, hm⟩ := q3.slice
    obtain ⟨b, off, cur, ty, fr, c, rfl, _, _, _⟩ := q3.at 0 (by simp)
    have c0 : ∀ x, (w1.alloc x).cell? ⟨g, 0, none⟩ = some (.slice (some ⟨b, off, none⟩) (T'.length + 1) cap) := fun x => by rw [cell_of_row _ _ _ _ _ _ (heap_past _ _ _ _ q2)]; rfl
    have z0 : ∀ x, (w1.alloc x).frozen? ⟨g, 0, none⟩ = false := fun x => tc_frozen (heap_past _ _ _ _ q2) rfl
    obtain ⟨t0, t1, t2, t3⟩ := tok_cells (heap_new w1 (.cells (encT t) 52) _ rfl)
    simp only [List.length_cons] at hcap
    unfold maxLen at hm
    obtain ⟨o', ho', hsl⟩ : ∃ o' : Option Addr, (T' ≠ [] → o' = some ⟨b, off + 4, none⟩) ∧ ∀ W, (Instr.sliceAt 40 (.slice (some ⟨b, off, none⟩) (T'.length + 1) cap) (some (.int .i64 1)) none none).run Tryd.prog W = .ok (.slice o' T'.length (cap - 1)) W := slice_tail b off T'.length cap (by omega) hm T' rfl
    have HQ : Hid (GSl TokE encT W0 (.slice o' T'.length (cap - 1)) T') := gsl_tail q3 o' ho'
    have HQ2 : Hid (w1.heap[g]? = some (.cells #[.slice (some ⟨b, off, none⟩) (T'.length + 1) cap, .int .i64 (E : Int)] 46 (0, 0))) := q2
    have hrr : Hid (((w1.alloc (.cells (encT t) 52)).setCell ⟨g, 0, none⟩ (.slice o' T'.length (cap - 1))).heap[w.heap.size]? = some (.cells (tv 0 0 ⟨#[]⟩ 0) 52 (0, 0))) := (tc_far (by omega) _).trans (heap_past _ _ _ _ hr1.out)
    clear q2 q3 ho' hr1
    go_wp2_with (first
      | (refine wl_storeE (E := TokE) TokOk rfl _ _ rfl w1.heap.size (encT t) (tv_fits _ _ _ _) rfl rfl _ (heap_new _ _ _ rfl) rfl _ (setRow_new _ _ _ _ _ rfl) ?_)
      | (refine wl_loadE (E := TokE) TokOk rfl _ rfl w1.heap.size 0 rfl _ _ _ (encT t) rfl ((tc_far (by omega) _).trans (heap_new _ _ _ rfl)) (own_cells _ _) ?_)
      | (refine wl_storeE (E := TokE) TokOk rfl _ _ rfl w.heap.size (encT t) (tv_fits _ _ _ _) rfl rfl _ hrr.out rfl _ rfl ?_))
    refine retE (E := TokE) TokOk rfl rfl w.heap.size rfl (encT t) rfl (setRow_heap _ _ _ _ _ _ hrr.out) ?_
    have G1 : w.grownBy w1 (some g) := grown_below B1
    refine ⟨gb_setRow (gb_setCell (gb_alloc G1 _) (.inl rfl) _ _) (.inr (Nat.le_refl _)) _, ?_⟩
    rw [HR.out]
    refine ⟨⟨_, rfl, rfl⟩, below_setRow (tc_below (q0.alloc q0.size _) q1 _ _) (by omega) _, q1, _, ?_, HQ.out⟩
    rw [setRow_other _ _ _ _ (by omega), tc_row (heap_past _ _ _ _ HQ2.out)]
    rfl
  · have hR := takeK_no hc
    have HR : Hid (takeK E k T = .error (8, (hd E T).pos)) := hR
    have hne : (((hd E T).kind : Int) != (k : Int)) = true := by simp; omega
    obtain ⟨t, ht⟩ : ∃ t, t = hd E T := ⟨_, rfl⟩
    rw [← ht] at C1 hne HR
    clear hc hR ht
    go_enter Tryd.func18, Tryd.ntmps18
    go_wp2_with fail
    refine (C1.out _ ?_).mono ?_
    · exact (Below.refl _ _).alloc (Nat.le_refl _) _
    rintro e w1 ⟨rfl, hb1⟩
    have B1 : Below w.heap.size w w1 := ((Below.refl _ _).alloc (Nat.le_refl _) _).trans (hb1.mono (by simp))
    obtain ⟨t0, t1, t2, t3⟩ := tok_cells (heap_new w1 (.cells (encT t) 52) _ rfl)
    go_wp2_with (first
      | (refine wl_storeE (E := TokE) TokOk rfl _ _ rfl w1.heap.size (encT t) (tv_fits _ _ _ _) rfl rfl _ (heap_new _ _ _ rfl) rfl _ (setRow_new _ _ _ _ _ rfl) ?_))
    refine ⟨rfl, gb_alloc (grown_below B1) _, ?_⟩
    rw [HR.out]
    rfl
end Go.Proofs.YtgcfdcgmddjhbaaDoor
