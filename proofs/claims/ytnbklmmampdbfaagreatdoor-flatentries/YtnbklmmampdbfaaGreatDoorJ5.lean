import Derived.Test.YtnbklmmampdbfaaGreatDoorJ4
import Derived.Test.YtnbklmmampdbfaaGreatDoorJ1
import Derived.StillTail
import Derived.Test.YtnbklmmampdbfaaGreatDoorJ2
namespace Go.Proofs.YtnbklmmampdbfaaGreatDoor
open Go Go.RowKit
set_option maxRecDepth 20000

/-- A fault: an error and its place. -/
def fltV (p : Int × Int) : Array Value := #[.int .i64 p.1, .int .i64 p.2]
def FltE : El := ⟨94, 124, 2, 16, #[.int .i64 0, .int .i64 0]⟩
theorem FltOk : FltE.Ok := ⟨Tryz.underlying124, ⟨_, Tryz.underlying94, rfl⟩, by kernel_rfl, rfl, by decide, by decide, by decide⟩
theorem flt_fits (p : Int × Int) : Fits FltE (fltV p) := ⟨rfl, by simp [fltV, Value.oneCell']⟩
theorem below2 (w : World) (a b : Obj) : Below w.heap.size w ((w.alloc a).alloc b) := ((Below.refl _ _).alloc (Nat.le_refl _) _).alloc (by simp) _

set_option maxHeartbeats 1000000 in
theorem when_any (b : Bool) (e p : Int) (w : World) :
    Calls Tryz.prog 46 #[.bool b, .int .i64 e, .int .i64 p] w fun x w' => x = .returned (.agg (fltV (if b then (e, p) else (0, 0)))) ∧ Below w.heap.size w w' := by
  cases b
  · go_enter Tryz.func46, Tryz.ntmps46
    go_wp2_with (first
      | (refine wl_storeE (E := FltE) FltOk rfl _ _ rfl w.heap.size (fltV (0, 0)) (flt_fits _) rfl rfl _ (heap_new _ _ _ rfl) rfl _ (setRow_new _ _ _ _ _ rfl) ?_))
    refine retE (E := FltE) FltOk rfl rfl w.heap.size rfl (fltV (0, 0)) rfl (heap_new _ _ _ rfl) ?_
    exact ⟨rfl, (Below.refl _ _).alloc (Nat.le_refl _) _⟩
  · go_enter Tryz.func46, Tryz.ntmps46
    go_wp2_with (first
      | (refine wl_storeE (E := FltE) FltOk rfl _ _ rfl w.heap.size (fltV (e, p)) (flt_fits _) rfl rfl _ (heap_new _ _ _ rfl) rfl _ (setRow_new _ _ _ _ _ rfl) ?_))
    refine retE (E := FltE) FltOk rfl rfl w.heap.size rfl (fltV (e, p)) rfl (heap_new _ _ _ rfl) ?_
    exact ⟨rfl, (Below.refl _ _).alloc (Nat.le_refl _) _⟩

def firstF : List (Int × Int) → Int × Int
  | [] => (0, 0)
  | f :: l => if f.1 = 0 then firstF l else f
set_option maxHeartbeats 2000000 in
theorem first7_any (F : List (Int × Int)) (v : Value) (w : World) (h : GSl FltE fltV w v F) :
    Calls Tryz.prog 45 #[v] w fun e w' => e = .returned (.agg (fltV (firstF F))) ∧ Below w.heap.size w w' := by
  obtain ⟨o, cap, rfl, hc1, hc2⟩ := h.slice
  obtain ⟨n, hn⟩ : ∃ n, n = F.length := ⟨_, rfl⟩
  have HN : Hid (n = F.length) := hn
  rw [← hn] at h hc1 ⊢
  unfold maxLen at hc2
  have H : Hid (GSl FltE fltV w (.slice o n cap) F) := h
  clear h hn
  go_enter Tryz.func45, Tryz.ntmps45
  go_wp2_with fail
  go_loopw [7] (fun x wr => ∃ j : Nat, j ≤ n ∧ x = .int .i64 (j : Int) ∧ Hid (firstF F = firstF (F.drop j)) ∧ wr.heap[w.heap.size]? = some (.cells (fltV (0, 0)) 94 (0, 0)) ∧ Below w.heap.size w wr) (fun x _ => n - (intOf x).toNat)
  case atStart => exact ⟨0, Nat.zero_le _, rfl, rfl, heap_new _ _ _ rfl, (Below.refl _ _).alloc (Nat.le_refl _) _⟩
  case round =>
    obtain ⟨j, hj, rfl, HJ, hr, hb⟩ := hrel
    have HR : Hid (wr.heap[w.heap.size]? = some (.cells (fltV (0, 0)) 94 (0, 0))) := hr
    have HB : Hid (Below w.heap.size w wr) := hb
    clear hr hb
    by_cases hlt : j < n
    · obtain ⟨g, off, cur, ty, fr, f, rfl, hg, hc, hFj⟩ := H.out.at j hlt
      have K1 : Hid (wr.heap[g]? = some (.cells cur ty fr)) := (HB.out.block g (Array.getElem?_eq_some_iff.1 hg).1).trans hg
      have H1 : Hid (∀ q, q < 2 → cur[off + j * 2 + q]? = (fltV f)[q]?) := hc
      have HD : Hid (F.drop j = f :: F.drop (j + 1)) := by
        obtain ⟨hk, rfl⟩ := List.getElem?_eq_some_iff.1 hFj
        exact List.drop_eq_getElem_cons hk
      have KN : Hid ((wr.alloc (.cells (fltV f) 94)).heap[wr.heap.size]? = some (.cells (fltV f) 94 (0, 0))) := heap_new _ _ _ rfl
      have n0 : (wr.alloc (.cells (fltV f) 94)).cell? ⟨wr.heap.size, 0, none⟩ = some (.int .i64 f.1) := by rw [cell_of_row _ _ _ _ _ _ KN.out]; rfl
      have hlt' : (j : Int) < (n : Int) := by omega
      clear hg hc hFj
      by_cases hz : f.1 = 0
      · have hz' : (f.1 != 0) = false := by simp [hz]
        have HE : Hid (firstF F = firstF (F.drop (j + 1))) := by
          show _ = _
          rw [HJ.out, HD.out, firstF, if_pos hz]
        clear hz
        go_wp2_with (first
          | (refine wl_loadE (E := FltE) FltOk rfl _ rfl g (off + j * 2) rfl cur ty fr (fltV f) rfl K1.out H1.out ?_)
          | (refine wl_storeE (E := FltE) FltOk rfl _ _ rfl wr.heap.size (fltV f) (flt_fits _) rfl rfl _ (heap_new _ _ _ rfl) rfl _ (setRow_new _ _ _ _ _ rfl) ?_))
        go_roundw
        case rel => exact ⟨j + 1, by omega, by go_num, HE, heap_past _ _ _ _ HR.out, HB.out.alloc HB.out.size _⟩
        case measure => simp [intOf]; omega
      · have hz' : (f.1 != 0) = true := by simp [hz]
        have HE : Hid (firstF F = f) := by
          show _ = _
          rw [HJ.out, HD.out, firstF, if_neg hz]
        clear hz
        go_wp2_with (first
          | (refine wl_loadE (E := FltE) FltOk rfl _ rfl g (off + j * 2) rfl cur ty fr (fltV f) rfl K1.out H1.out ?_)
          | (refine wl_storeE (E := FltE) FltOk rfl _ _ rfl wr.heap.size (fltV f) (flt_fits _) rfl rfl _ (heap_new _ _ _ rfl) rfl _ (setRow_new _ _ _ _ _ rfl) ?_)
          | (refine wl_loadE (E := FltE) FltOk rfl _ rfl wr.heap.size 0 rfl _ _ _ (fltV f) rfl KN.out (own_cells _ _) ?_)
          | (refine wl_storeE (E := FltE) FltOk rfl _ _ rfl w.heap.size (fltV f) (flt_fits _) rfl rfl _ (heap_past _ _ _ _ HR.out) rfl _ rfl ?_))
        refine retE (E := FltE) FltOk rfl rfl w.heap.size rfl (fltV f) rfl (setRow_heap _ _ _ _ _ _ (heap_past _ _ _ _ HR.out)) ?_
        exact ⟨by rw [HE.out], below_setRow (HB.out.alloc HB.out.size _) (Nat.le_refl _) _⟩
    · have hlt' : (n : Int) ≤ (j : Int) := by omega
      have HE : Hid (firstF F = (0, 0)) := by
        show _ = _
        rw [HJ.out, List.drop_of_length_le (by have := HN.out; omega)]
        rfl
      clear hlt
      go_wp2_with (first
        | (refine wl_storeE (E := FltE) FltOk rfl _ _ rfl w.heap.size (fltV (0, 0)) (flt_fits _) rfl rfl _ HR.out rfl _ rfl ?_))
      refine retE (E := FltE) FltOk rfl rfl w.heap.size rfl (fltV (0, 0)) rfl (setRow_heap _ _ _ _ _ _ HR.out) ?_
      exact ⟨by rw [HE.out], below_setRow HB.out (Nat.le_refl _) _⟩

/-- A number that isn't from low to high. -/
def outF (f : Fig) (low high : Int) : Int × Int := if decide (f.n < low) || decide (high < f.n) then (10, f.pos) else (0, 0)
set_option maxHeartbeats 2000000 in
theorem outside_any (f : Fig) (low high : Int) (w : World) :
    Calls Tryz.prog 73 #[.agg (figV f), .int .i64 low, .int .i64 high] w fun x w' => x = .returned (.agg (fltV (outF f low high))) ∧ Below w.heap.size w w' := by
  have WH : Hid (∀ b e p W, Calls Tryz.prog 46 #[.bool b, .int .i64 e, .int .i64 p] W fun x w' => x = .returned (.agg (fltV (if b then (e, p) else (0, 0)))) ∧ Below W.heap.size W w') := when_any
  obtain ⟨W2, hW2⟩ : ∃ W2, W2 = (w.alloc (.cells (figV f) 89)).alloc (.cells #[.int .i64 0, .int .i64 0] 94) := ⟨_, rfl⟩
  have c0 : ((w.alloc (.cells (figV f) 89)).alloc (.cells #[.int .i64 0, .int .i64 0] 94)).cell? ⟨w.heap.size, 0, none⟩ = some (.int .i64 f.n) := by rw [cell_of_row _ _ _ _ _ _ (heap_past _ _ _ _ (heap_new w (.cells (figV f) 89) _ rfl))]; rfl
  have c1 : ((w.alloc (.cells (figV f) 89)).alloc (.cells #[.int .i64 0, .int .i64 0] 94)).cell? ⟨w.heap.size, 1, none⟩ = some (.int .i64 f.pos) := by rw [cell_of_row _ _ _ _ _ _ (heap_past _ _ _ _ (heap_new w (.cells (figV f) 89) _ rfl))]; rfl
  have HR : Hid (W2.heap[w.heap.size + 1]? = some (.cells #[.int .i64 0, .int .i64 0] 94 (0, 0)) ∧ Below w.heap.size w W2) := by rw [hW2]; exact ⟨heap_new _ _ _ (by simp), below2 _ _ _⟩
  have HW : Hid (W2 = (w.alloc (.cells (figV f) 89)).alloc (.cells #[.int .i64 0, .int .i64 0] 94)) := hW2
  clear hW2
  have fin : ∀ (F : Int × Int) w1, Below W2.heap.size W2 w1 → w1.heap[w.heap.size + 1]? = some (.cells #[.int .i64 0, .int .i64 0] 94 (0, 0)) ∧ Below w.heap.size w w1 := fun F w1 hb => ⟨(hb.block _ (Array.getElem?_eq_some_iff.1 HR.out.1).1).trans HR.out.1, HR.out.2.trans (hb.mono HR.out.2.size)⟩
  have FIN : Hid (∀ w1, Below W2.heap.size W2 w1 → w1.heap[w.heap.size + 1]? = some (.cells #[.int .i64 0, .int .i64 0] 94 (0, 0)) ∧ Below w.heap.size w w1) := fin (0, 0)
  clear fin
  by_cases h1 : f.n < low
  · have e : outF f low high = (10, f.pos) := by unfold outF; simp [h1]
    rw [e]
    clear e
    go_enter Tryz.func73, Tryz.ntmps73
    go_wp2_with fail
    refine (WH.out _ _ _ _).mono ?_
    rintro x w1 ⟨rfl, hb1⟩
    rw [← HW.out] at hb1
    have K := FIN.out w1 hb1
    have KR : Hid _ := K.1
    have KB := K.2
    clear K hb1
    go_wp2_with (first
      | (refine wl_storeE (E := FltE) FltOk rfl _ _ rfl (w.heap.size + 1) (fltV (10, f.pos)) (flt_fits _) rfl rfl _ KR.out rfl _ rfl ?_))
    refine retE (E := FltE) FltOk rfl rfl (w.heap.size + 1) rfl (fltV (10, f.pos)) rfl (setRow_heap _ _ _ _ _ _ KR.out) ?_
    exact ⟨rfl, below_setRow KB (by omega) _⟩
  · by_cases h2 : high < f.n
    · have e : outF f low high = (10, f.pos) := by unfold outF; simp [h2]
      rw [e]
      have h2' : f.n > high := h2
      clear e h2
      go_enter Tryz.func73, Tryz.ntmps73
      go_wp2_with fail
      refine (WH.out _ _ _ _).mono ?_
      rintro x w1 ⟨rfl, hb1⟩
      rw [← HW.out] at hb1
      have K := FIN.out w1 hb1
      have KR : Hid _ := K.1
      have KB := K.2
      clear K hb1
      go_wp2_with (first
        | (refine wl_storeE (E := FltE) FltOk rfl _ _ rfl (w.heap.size + 1) (fltV (10, f.pos)) (flt_fits _) rfl rfl _ KR.out rfl _ rfl ?_))
      refine retE (E := FltE) FltOk rfl rfl (w.heap.size + 1) rfl (fltV (10, f.pos)) rfl (setRow_heap _ _ _ _ _ _ KR.out) ?_
      exact ⟨rfl, below_setRow KB (by omega) _⟩
    · have e : outF f low high = (0, 0) := by unfold outF; simp [h1, h2]
      rw [e]
      have h2' : ¬ f.n > high := h2
      clear e h2
      go_enter Tryz.func73, Tryz.ntmps73
      go_wp2_with fail
      refine (WH.out _ _ _ _).mono ?_
      rintro x w1 ⟨rfl, hb1⟩
      rw [← HW.out] at hb1
      have K := FIN.out w1 hb1
      have KR : Hid _ := K.1
      have KB := K.2
      clear K hb1
      go_wp2_with (first
        | (refine wl_storeE (E := FltE) FltOk rfl _ _ rfl (w.heap.size + 1) (fltV (0, 0)) (flt_fits _) rfl rfl _ KR.out rfl _ rfl ?_))
      refine retE (E := FltE) FltOk rfl rfl (w.heap.size + 1) rfl (fltV (0, 0)) rfl (setRow_heap _ _ _ _ _ _ KR.out) ?_
      exact ⟨rfl, below_setRow KB (by omega) _⟩
end Go.Proofs.YtnbklmmampdbfaaGreatDoor
namespace Go.Proofs.YtnbklmmampdbfaaGreatDoor
open Go Go.RowKit
set_option maxRecDepth 20000

def manyI (c : Cla) : Int := if mustN c = 0 then -1 else (mustN c : Int)
theorem cla_row (w : World) (c : Cla) (u : Value) : (w.alloc (.cells (claV c u) 129)).heap[w.heap.size]? = some (.cells (claV c u) 129 (0, 0)) := heap_new _ _ _ rfl
theorem cla_f {w : World} {b : Nat} {c : Cla} {u : Value} {ty : TypeId} {fr : Nat × Nat} (h : w.heap[b]? = some (.cells (claV c u) ty fr)) :
    w.cell? ⟨b, 0, none⟩ = some (.string ⟨c.word.toArray⟩) ∧ w.cell? ⟨b, 1, none⟩ = some (.int .i64 c.pos) ∧ w.cell? ⟨b, 2, none⟩ = some u ∧ w.cell? ⟨b, 3, none⟩ = some (.bool c.slash) ∧ w.cell? ⟨b, 4, none⟩ = some (.bool c.dash) := by
  refine ⟨?_, ?_, ?_, ?_, ?_⟩ <;> (rw [cell_of_row _ _ _ _ _ _ h]; rfl)
/-- The five words, and all others. -/
theorem word_cases (x : List UInt8) : x = wSrc ∨ x = wDst ∨ x = wSport ∨ x = wDport ∨ x = wProto ∨ ((x == [115, 114, 99]) = false ∧ (x == [100, 115, 116]) = false ∧ (x == [115, 112, 111, 114, 116]) = false ∧ (x == [100, 112, 111, 114, 116]) = false ∧ (x == [112, 114, 111, 116, 111]) = false) := by
  by_cases h1 : x = wSrc
  · exact .inl h1
  by_cases h2 : x = wDst
  · exact .inr (.inl h2)
  by_cases h3 : x = wSport
  · exact .inr (.inr (.inl h3))
  by_cases h4 : x = wDport
  · exact .inr (.inr (.inr (.inl h4)))
  by_cases h5 : x = wProto
  · exact .inr (.inr (.inr (.inr (.inl h5))))
  refine .inr (.inr (.inr (.inr (.inr ⟨?_, ?_, ?_, ?_, ?_⟩)))) <;> (rw [beq_eq_false_iff_ne]; assumption)

set_option maxHeartbeats 2000000 in
theorem many7_any (c : Cla) (u : Value) (hu : ∃ o n m, u = .slice o n m) (w : World) :
    Calls Tryz.prog 101 #[.agg (claV c u)] w fun x w' => x = .returned (.int .i64 (manyI c)) ∧ Below w.heap.size w w' := by
  obtain ⟨o, n, m, rfl⟩ := hu
  have q := cla_f (cla_row w c (.slice o n m))
  obtain ⟨c0, -, -, c3, c4⟩ := q
  have HB : Hid (Below w.heap.size w (w.alloc (.cells (claV c (.slice o n m)) 129))) := (Below.refl _ _).alloc (Nat.le_refl _) _
  obtain ⟨word, pos, nums, slash, dash⟩ := c
  simp only at c0 c3 c4
  rcases word_cases word with rfl | rfl | rfl | rfl | rfl | ⟨e0, e1, e2, e3, e4⟩
  · cases slash
    · rw [show manyI ⟨wSrc, pos, nums, false, dash⟩ = 4 from rfl]
      go_enter Tryz.func101, Tryz.ntmps101
      go_wp2_with fail
      go_ret
      exact ⟨rfl, HB.out⟩
    · rw [show manyI ⟨wSrc, pos, nums, true, dash⟩ = 5 from rfl]
      go_enter Tryz.func101, Tryz.ntmps101
      go_wp2_with fail
      go_ret
      exact ⟨rfl, HB.out⟩
  · cases slash
    · rw [show manyI ⟨wDst, pos, nums, false, dash⟩ = 4 from rfl]
      go_enter Tryz.func101, Tryz.ntmps101
      go_wp2_with fail
      go_ret
      exact ⟨rfl, HB.out⟩
    · rw [show manyI ⟨wDst, pos, nums, true, dash⟩ = 5 from rfl]
      go_enter Tryz.func101, Tryz.ntmps101
      go_wp2_with fail
      go_ret
      exact ⟨rfl, HB.out⟩
  · cases dash
    · rw [show manyI ⟨wSport, pos, nums, slash, false⟩ = 1 from rfl]
      go_enter Tryz.func101, Tryz.ntmps101
      go_wp2_with fail
      go_ret
      exact ⟨rfl, HB.out⟩
    · rw [show manyI ⟨wSport, pos, nums, slash, true⟩ = 2 from rfl]
      go_enter Tryz.func101, Tryz.ntmps101
      go_wp2_with fail
      go_ret
      exact ⟨rfl, HB.out⟩
  · cases dash
    · rw [show manyI ⟨wDport, pos, nums, slash, false⟩ = 1 from rfl]
      go_enter Tryz.func101, Tryz.ntmps101
      go_wp2_with fail
      go_ret
      exact ⟨rfl, HB.out⟩
    · rw [show manyI ⟨wDport, pos, nums, slash, true⟩ = 2 from rfl]
      go_enter Tryz.func101, Tryz.ntmps101
      go_wp2_with fail
      go_ret
      exact ⟨rfl, HB.out⟩
  · rw [show manyI ⟨wProto, pos, nums, slash, dash⟩ = 1 from rfl]
    go_enter Tryz.func101, Tryz.ntmps101
    go_wp2_with fail
    go_ret
    exact ⟨rfl, HB.out⟩
  · have hm : manyI ⟨word, pos, nums, slash, dash⟩ = -1 := by
      unfold manyI mustN isAddrW isPortW wSrc wDst wSport wDport wProto
      simp only [e0, e1, e2, e3, e4]
      rfl
    rw [hm]
    clear hm
    go_enter Tryz.func101, Tryz.ntmps101
    go_wp2_with fail
    go_ret
    exact ⟨rfl, HB.out⟩
theorem many_ne (c : Cla) : (((c.nums.length : Int)) != manyI c) = (mustN c == 0 || c.nums.length != mustN c) := by
  unfold manyI
  by_cases h : mustN c = 0
  · rw [if_pos h, h]
    have : ((c.nums.length : Int) != -1) = true := by rw [bne_iff_ne]; omega
    rw [this]; rfl
  · rw [if_neg h]
    have e : (mustN c == 0) = false := by simpa using h
    rw [e, Bool.false_or, Bool.eq_iff_iff, bne_iff_ne, bne_iff_ne]
    omega

set_option maxHeartbeats 4000000 in
theorem bounds_any (c : Cla) (u : Value) (i : Nat) (w : World) (hu : FigsAt w c u) (hi : i < c.nums.length) :
    Calls Tryz.prog 117 #[.agg (claV c u), .int .i64 (i : Int)] w fun x w' => x = .returned (.tuple #[.int .i64 (lowN c i), .int .i64 (mostN c.word i)]) ∧ Below w.heap.size w w' := by
  obtain ⟨o, m, rfl, hm1, hm2⟩ := hu.slice
  have q := cla_f (cla_row w c (.slice o c.nums.length m))
  obtain ⟨c0, -, c2, -, -⟩ := q
  have HB : Hid (Below w.heap.size w (w.alloc (.cells (claV c (.slice o c.nums.length m)) 129))) := (Below.refl _ _).alloc (Nat.le_refl _) _
  obtain ⟨g, off, cur, ty, fr, f, rfl, hg, hc, hf⟩ := hu.at 0 (by omega)
  have hn : nth c 0 = f.n := by unfold nth; rw [List.getD_eq_getElem?_getD, hf]; rfl
  have cg : (w.alloc (.cells (claV c (.slice (some ⟨g, off, none⟩) c.nums.length m)) 129)).cell? ⟨g, off, none⟩ = some (.int .i64 f.n) := by
    rw [cell_of_row _ _ _ _ _ _ (heap_past _ _ _ _ hg)]
    have := hc 0 (by decide)
    rw [show off + 0 * FigE.size + 0 = off by simp] at this
    exact this
  obtain ⟨n, hnn⟩ : ∃ n, n = c.nums.length := ⟨_, rfl⟩
  rw [← hnn] at hi hm1 c0 c2 cg HB ⊢
  have hpos : (0 : Int) < (n : Int) := by omega
  have hposn : 0 < n := by omega
  unfold maxLen at hm2
  clear hu hg hc hf hnn
  obtain ⟨word, pos, nums, slash, dash⟩ := c
  simp only at c0 c2
  rcases word_cases word with rfl | rfl | rfl | rfl | rfl | ⟨e0, e1, e2, e3, e4⟩
  · by_cases h4 : i = 4
    · subst h4
      rw [show lowN ⟨wSrc, pos, nums, slash, dash⟩ 4 = 0 from rfl, show mostN wSrc 4 = 32 from rfl]
      clear hn
      go_enter Tryz.func117, Tryz.ntmps117
      go_wp2_with fail
      go_ret2
      exact ⟨rfl, HB.out⟩
    · have h4' : ((i : Int) == 4) = false := by simp; omega
      rw [show lowN ⟨wSrc, pos, nums, slash, dash⟩ i = 0 from rfl, show mostN wSrc i = 255 by unfold mostN; simp [h4]; decide]
      clear hn h4
      go_enter Tryz.func117, Tryz.ntmps117
      go_wp2_with fail
      go_ret2
      exact ⟨rfl, HB.out⟩
  · by_cases h4 : i = 4
    · subst h4
      rw [show lowN ⟨wDst, pos, nums, slash, dash⟩ 4 = 0 from rfl, show mostN wDst 4 = 32 from rfl]
      clear hn
      go_enter Tryz.func117, Tryz.ntmps117
      go_wp2_with fail
      go_ret2
      exact ⟨rfl, HB.out⟩
    · have h4' : ((i : Int) == 4) = false := by simp; omega
      rw [show lowN ⟨wDst, pos, nums, slash, dash⟩ i = 0 from rfl, show mostN wDst i = 255 by unfold mostN; simp [h4]; decide]
      clear hn h4
      go_enter Tryz.func117, Tryz.ntmps117
      go_wp2_with fail
      go_ret2
      exact ⟨rfl, HB.out⟩
  · by_cases h0 : 0 < i
    · have h0' : (i : Int) > 0 := by omega
      have hl : lowN ⟨wSport, pos, nums, slash, dash⟩ i = f.n := by rw [← hn]; unfold lowN; rw [decide_eq_true h0]; rfl
      rw [hl, show mostN wSport i = 65535 from rfl]
      clear hn hl h0
      go_enter Tryz.func117, Tryz.ntmps117
      go_wp2_with fail
      go_ret2
      exact ⟨rfl, HB.out⟩
    · have h0' : ¬ (i : Int) > 0 := by omega
      have hl : lowN ⟨wSport, pos, nums, slash, dash⟩ i = 0 := by unfold lowN; rw [decide_eq_false h0]; rfl
      rw [hl, show mostN wSport i = 65535 from rfl]
      clear hn hl h0
      go_enter Tryz.func117, Tryz.ntmps117
      go_wp2_with fail
      go_ret2
      exact ⟨rfl, HB.out⟩
  · by_cases h0 : 0 < i
    · have h0' : (i : Int) > 0 := by omega
      have hl : lowN ⟨wDport, pos, nums, slash, dash⟩ i = f.n := by rw [← hn]; unfold lowN; rw [decide_eq_true h0]; rfl
      rw [hl, show mostN wDport i = 65535 from rfl]
      clear hn hl h0
      go_enter Tryz.func117, Tryz.ntmps117
      go_wp2_with fail
      go_ret2
      exact ⟨rfl, HB.out⟩
    · have h0' : ¬ (i : Int) > 0 := by omega
      have hl : lowN ⟨wDport, pos, nums, slash, dash⟩ i = 0 := by unfold lowN; rw [decide_eq_false h0]; rfl
      rw [hl, show mostN wDport i = 65535 from rfl]
      clear hn hl h0
      go_enter Tryz.func117, Tryz.ntmps117
      go_wp2_with fail
      go_ret2
      exact ⟨rfl, HB.out⟩
  · rw [show lowN ⟨wProto, pos, nums, slash, dash⟩ i = 0 from rfl, show mostN wProto i = 255 from rfl]
    clear hn
    go_enter Tryz.func117, Tryz.ntmps117
    go_wp2_with fail
    go_ret2
    exact ⟨rfl, HB.out⟩
  · have hp : isPortW word = false := by unfold isPortW wSport wDport; rw [e2, e3]; rfl
    have hl : lowN ⟨word, pos, nums, slash, dash⟩ i = 0 := by unfold lowN; rw [hp]; rfl
    have ho : (word == wProto) = false := e4
    by_cases h4 : i = 4
    · subst h4
      have hm : mostN word 4 = 32 := by unfold mostN; rw [hp, ho]; rfl
      rw [hl, hm]
      clear hn hl hm hp ho
      go_enter Tryz.func117, Tryz.ntmps117
      go_wp2_with fail
      go_ret2
      exact ⟨rfl, HB.out⟩
    · have h4' : ((i : Int) == 4) = false := by simp; omega
      have hm : mostN word i = 255 := by unfold mostN; rw [hp, ho]; simp [h4]
      rw [hl, hm]
      clear hn hl hm hp ho h4
      go_enter Tryz.func117, Tryz.ntmps117
      go_wp2_with fail
      go_ret2
      exact ⟨rfl, HB.out⟩
end Go.Proofs.YtnbklmmampdbfaaGreatDoor
namespace Go.Proofs.YtnbklmmampdbfaaGreatDoor
open Go Go.RowKit
set_option maxRecDepth 20000

set_option maxHeartbeats 2000000 in
theorem sameWord7_any (w : World) (k : Nat) (c0 : Cla) (u0 : Value) (c : Cla) (u : Value) (hu : ∃ o n m, u = .slice o n m) (hk : w.heap[k]? = some (.cells (claV c0 u0) 129 (0, 0))) :
    Calls Tryz.prog 100 #[.agg (claV c u), .pointer (some ⟨k, 0, none⟩)] w fun e w' => e = .returned (.bool (c.word == c0.word)) ∧ Below w.heap.size w w' := by
  obtain ⟨o, n, m, rfl⟩ := hu
  have t2 : ∀ x, (w.alloc x).cell? ⟨k, 0, none⟩ = some (.string ⟨c0.word.toArray⟩) := fun x => (cla_f (heap_past _ x _ _ hk)).1
  have n0 := heap_new w (.cells (claV c (.slice o n m)) 129) _ rfl
  have c0' : (w.alloc (.cells (claV c (.slice o n m)) 129)).cell? ⟨w.heap.size, 0, none⟩ = some (.string ⟨c.word.toArray⟩) := by rw [cell_of_row _ _ _ _ _ _ n0]; rfl
  clear hk n0
  go_enter Tryz.func100, Tryz.ntmps100
  go_wp2_with fail
  go_ret
  exact ⟨rfl, (Below.refl _ _).alloc (Nat.le_refl _) _⟩
set_option maxHeartbeats 4000000 in
theorem indexFunc7_any {R : World → Cla → Value → Prop} (hR : ∀ w c u, R w c u → ∃ o n m, u = .slice o n m) (w : World) (v : Value) (C : List Cla) (h : NSl ClaE claV R w v C) (k : Nat) (c0 : Cla) (u0 : Value) (hk : w.heap[k]? = some (.cells (claV c0 u0) 129 (0, 0))) :
    Calls Tryz.prog 116 #[v, .func (.func 100) #[] #[.pointer (some ⟨k, 0, none⟩)]] w fun e w' => (∃ i : Int, e = .returned (.int .i64 i) ∧ ((decide (0 ≤ i)) = C.any (fun c => c.word == c0.word))) ∧ Below w.heap.size w w' := by
  obtain ⟨o, cap, rfl, hcap, hm⟩ := h.slice
  have CS : Hid (∀ W c u, (∃ o n m, u = .slice o n m) → Below w.heap.size w W → Calls Tryz.prog 100 #[.agg (claV c u), .pointer (some ⟨k, 0, none⟩)] W fun e w' => e = .returned (.bool (c.word == c0.word)) ∧ Below W.heap.size W w') := fun W c u hu hb => sameWord7_any W k c0 u0 c u hu ((hb.block k (Array.getElem?_eq_some_iff.1 hk).1).trans hk)
  obtain ⟨n, hn⟩ : ∃ n, n = C.length := ⟨_, rfl⟩
  have HN : Hid (n = C.length) := hn
  rw [← hn] at h hcap ⊢
  have H : Hid (NSl ClaE claV R w (.slice o n cap) C) := h
  unfold maxLen at hm
  clear h hk hn
  go_enter Tryz.func116, Tryz.ntmps116
  go_wp2_with fail
  go_loopw [8] (fun x wr => ∃ j : Nat, j ≤ n ∧ x = .int .i64 (j : Int) ∧ Hid ((C.take j).any (fun c => c.word == c0.word) = false) ∧ Below w.heap.size w wr) (fun x _ => n - (intOf x).toNat)
  case atStart => exact ⟨0, Nat.zero_le _, rfl, rfl, Below.refl _ _⟩
  case round =>
    obtain ⟨j, hj, rfl, HJ, hb⟩ := hrel
    by_cases hlt : j < n
    · obtain ⟨g, off, cur, ty, fr, c, u, rfl, hg, hc, hCj, hr⟩ := H.out.at j hlt
      obtain ⟨o1, n1, m1, rfl⟩ := hR _ _ _ hr
      have k1 : Hid (wr.heap[g]? = some (.cells cur ty fr)) := (hb.block g (Array.getElem?_eq_some_iff.1 hg).1).trans hg
      have H1 : Hid (∀ i, i < 5 → cur[off + j * 5 + i]? = (claV c (.slice o1 n1 m1))[i]?) := hc
      have HT := any_take_succ hCj (fun c => c.word == c0.word)
      rw [HJ.out, Bool.false_or] at HT
      have HTT : Hid ((C.take (j + 1)).any (fun c => c.word == c0.word) = (c.word == c0.word)) := HT
      have hlt' : (j : Int) < (n : Int) := by omega
      clear hg hc hCj hr HT
      go_wp2_with (first
        | (refine wl_loadE (E := ClaE) ClaOk rfl _ rfl g (off + j * 5) rfl cur ty fr (claV c (.slice o1 n1 m1)) rfl k1.out H1.out ?_))
      refine (CS.out _ c _ ⟨_, _, _, rfl⟩ hb).mono ?_
      rintro e w1 ⟨rfl, hb1⟩
      have B1 := hb.trans (hb1.mono hb.size)
      clear hb hb1
      by_cases hq : (c.word == c0.word) = true
      · have HALL : Hid (C.any (fun c => c.word == c0.word) = true) := by
          show _ = _
          have := HTT.out
          rw [hq] at this
          obtain ⟨x, hx, hx2⟩ := List.any_eq_true.1 this
          exact List.any_eq_true.2 ⟨x, List.mem_of_mem_take hx, hx2⟩
        rw [hq]
        clear hq
        go_wp2_with fail
        go_ret
        refine ⟨⟨_, rfl, ?_⟩, B1⟩
        rw [HALL.out]
        simp
      · have hq' : (c.word == c0.word) = false := by simpa using hq
        rw [hq'] at HTT
        rw [hq']
        clear hq hq'
        go_wp2_with fail
        go_roundw
        case rel => exact ⟨j + 1, by omega, by go_num, HTT, B1⟩
        case measure => simp [intOf]; omega
    · have hlt' : (n : Int) ≤ (j : Int) := by omega
      have HALL : Hid (C.any (fun c => c.word == c0.word) = false) := by
        show _ = _
        have := HJ.out
        rwa [List.take_of_length_le (by have := HN.out; omega)] at this
      go_wp2_with fail
      go_ret
      refine ⟨⟨_, rfl, ?_⟩, hb⟩
      rw [HALL.out]
      decide
set_option maxHeartbeats 2000000 in
theorem containsFunc7_any {R : World → Cla → Value → Prop} (hR : ∀ w c u, R w c u → ∃ o n m, u = .slice o n m) (w : World) (v : Value) (C : List Cla) (h : NSl ClaE claV R w v C) (k : Nat) (c0 : Cla) (u0 : Value) (hk : w.heap[k]? = some (.cells (claV c0 u0) 129 (0, 0))) :
    Calls Tryz.prog 99 #[v, .func (.func 100) #[] #[.pointer (some ⟨k, 0, none⟩)]] w fun e w' => e = .returned (.bool (C.any (fun c => c.word == c0.word))) ∧ Below w.heap.size w w' := by
  have C1 : Hid (Calls Tryz.prog 116 #[v, .func (.func 100) #[] #[.pointer (some ⟨k, 0, none⟩)]] w fun e w' => (∃ i : Int, e = .returned (.int .i64 i) ∧ ((decide (0 ≤ i)) = C.any (fun c => c.word == c0.word))) ∧ Below w.heap.size w w') := indexFunc7_any hR w v C h k c0 u0 hk
  obtain ⟨b, hb⟩ : ∃ b, b = C.any (fun c => c.word == c0.word) := ⟨_, rfl⟩
  rw [← hb] at C1 ⊢
  clear h hk hb
  go_enter Tryz.func99, Tryz.ntmps99
  go_wp2_with fail
  refine C1.out.mono ?_
  rintro e w1 ⟨⟨i, rfl, hi⟩, hb1⟩
  have HI : Hid (decide (0 ≤ i) = b) := hi
  clear hi
  go_wp2_with fail
  go_ret
  refine ⟨?_, hb1⟩
  rw [← HI.out]
  rfl

theorem outF_zero (f : Fig) (low high : Int) : (outF f low high).1 = 0 ↔ ¬ (decide (f.n < low) || decide (high < f.n)) = true := by
  unfold outF
  split
  · rename_i h; simp [h]
  · rename_i h; simp [h]
theorem numF_step (c : Cla) (j : Nat) (f : Fig) (l : List Fig) : numF c j (f :: l) = if (outF f (lowN c j) (mostN c.word j)).1 = 0 then numF c (j + 1) l else outF f (lowN c j) (mostN c.word j) := by
  rw [numF]
  by_cases h : (decide (f.n < lowN c j) || decide (mostN c.word j < f.n)) = true
  · rw [if_pos h, if_neg (by rw [outF_zero]; simp [h])]
    unfold outF
    rw [if_pos h]
  · rw [if_neg h, if_pos (by rw [outF_zero]; exact h)]
theorem below_at {w wr : World} {k : Nat} (hk : k < w.heap.size) {o : Obj} (h : w.heap[k]? = some o) (hb : Below w.heap.size w wr) : wr.heap[k]? = some o := (hb.block k hk).trans h

set_option maxHeartbeats 4000000 in
theorem numbers_any (c : Cla) (u : Value) (w : World) (hu : FigsAt w c u) :
    Calls Tryz.prog 102 #[.agg (claV c u)] w fun x w' => x = .returned (.agg (fltV (numF c 0 c.nums))) ∧ Below w.heap.size w w' := by
  have BO : Hid (∀ (i : Nat) W, Below w.heap.size w W → i < c.nums.length → Calls Tryz.prog 117 #[.agg (claV c u), .int .i64 (i : Int)] W fun x w' => x = .returned (.tuple #[.int .i64 (lowN c i), .int .i64 (mostN c.word i)]) ∧ Below W.heap.size W w') := fun i W hb hi => bounds_any c u i W (figs_below _ _ _ _ hb hu) hi
  have OU : Hid (∀ (f : Fig) (low high : Int) W, Calls Tryz.prog 73 #[.agg (figV f), .int .i64 low, .int .i64 high] W fun x w' => x = .returned (.agg (fltV (outF f low high))) ∧ Below W.heap.size W w') := outside_any
  obtain ⟨o, cap, rfl, hc1, hc2⟩ := GSl.slice hu
  obtain ⟨n, hn⟩ : ∃ n, n = c.nums.length := ⟨_, rfl⟩
  have HN : Hid (n = c.nums.length) := hn
  rw [← hn] at hu hc1 BO ⊢
  unfold maxLen at hc2
  have HU : Hid (FigsAt w c (.slice o n cap)) := hu
  have b1 : Hid (((w.alloc (.cells (claV c (.slice o n cap)) 129)).alloc (.cells #[.int .i64 0, .int .i64 0] 94)).heap[w.heap.size]? = some (.cells (claV c (.slice o n cap)) 129 (0, 0))) := heap_past _ _ _ _ (heap_new _ _ _ rfl)
  have b2 : Hid (((w.alloc (.cells (claV c (.slice o n cap)) 129)).alloc (.cells #[.int .i64 0, .int .i64 0] 94)).heap[w.heap.size + 1]? = some (.cells #[.int .i64 0, .int .i64 0] 94 (0, 0))) := heap_new _ _ _ (by simp)
  have c2 := (cla_f b1.out).2.2.1
  clear hu hn
  go_enter Tryz.func102, Tryz.ntmps102
  go_wp2_with fail
  clear c2
  go_loopw [11] (fun x wr => ∃ j : Nat, j ≤ n ∧ x = .int .i64 (j : Int) ∧ Hid (numF c 0 c.nums = numF c j (c.nums.drop j)) ∧ wr.heap[w.heap.size]? = some (.cells (claV c (.slice o n cap)) 129 (0, 0)) ∧ wr.heap[w.heap.size + 1]? = some (.cells #[.int .i64 0, .int .i64 0] 94 (0, 0)) ∧ Below w.heap.size w wr) (fun x _ => n - (intOf x).toNat)
  case atStart => exact ⟨0, Nat.zero_le _, rfl, rfl, b1.out, b2.out, below2 _ _ _⟩
  case round =>
    clear b1 b2
    obtain ⟨j, hj, rfl, HJ, hr1, hr2, hb⟩ := hrel
    have R1 : Hid (wr.heap[w.heap.size]? = some (.cells (claV c (.slice o n cap)) 129 (0, 0))) := hr1
    have R2 : Hid (wr.heap[w.heap.size + 1]? = some (.cells #[.int .i64 0, .int .i64 0] 94 (0, 0))) := hr2
    have HB : Hid (Below w.heap.size w wr) := hb
    clear hr1 hr2 hb
    by_cases hlt : j < n
    · obtain ⟨g, off, cur, ty, fr, f, rfl, hg, hc, hFj⟩ := HU.out.at j hlt
      have K1 : Hid (wr.heap[g]? = some (.cells cur ty fr)) := (HB.out.block g (Array.getElem?_eq_some_iff.1 hg).1).trans hg
      have H1 : Hid (∀ q, q < 2 → cur[off + j * 2 + q]? = (figV f)[q]?) := hc
      have HD : Hid (c.nums.drop j = f :: c.nums.drop (j + 1)) := by
        obtain ⟨hk, rfl⟩ := List.getElem?_eq_some_iff.1 hFj
        exact List.drop_eq_getElem_cons hk
      have hlt' : (j : Int) < (n : Int) := by omega
      have BA : Hid (Below wr.heap.size wr (wr.alloc (.cells (figV f) 89))) := (Below.refl _ _).alloc (Nat.le_refl _) _
      have HLT : Hid (j < n) := hlt
      clear hg hc hFj hlt
      go_wp2_with (first
        | (refine wl_loadE (E := FigE) FigOk rfl _ rfl g (off + j * 2) rfl cur ty fr (figV f) rfl K1.out H1.out ?_)
        | (refine wl_storeE (E := FigE) FigOk rfl _ _ rfl wr.heap.size (figV f) (fig_fits _) rfl rfl _ (heap_new _ _ _ rfl) rfl _ (setRow_new _ _ _ _ _ rfl) ?_)
        | (refine wl_loadE (E := ClaE) ClaOk rfl _ rfl w.heap.size 0 rfl _ _ _ (claV c (.slice (some ⟨g, off, none⟩) n cap)) rfl (heap_past _ _ _ _ R1.out) (own_cells _ _) ?_))
      refine (BO.out j _ (HB.out.trans (BA.out.mono HB.out.size)) HLT.out).mono ?_
      rintro e w1 ⟨rfl, hb1⟩
      have B1 : Hid (Below wr.heap.size wr w1) := BA.out.trans (hb1.mono BA.out.size)
      have KF : Hid (w1.heap[wr.heap.size]? = some (.cells (figV f) 89 (0, 0))) := (hb1.block _ (by simp)).trans (heap_new _ _ _ rfl)
      clear hb1 BA
      obtain ⟨F, hF⟩ : ∃ F, F = outF f (lowN c j) (mostN c.word j) := ⟨_, rfl⟩
      have CO : Hid (∀ W, Calls Tryz.prog 73 #[.agg (figV f), .int .i64 (lowN c j), .int .i64 (mostN c.word j)] W fun x w' => x = .returned (.agg (fltV F)) ∧ Below W.heap.size W w') := fun W => by rw [hF]; exact OU.out f _ _ W
      have HST : Hid (numF c j (f :: c.nums.drop (j + 1)) = if F.1 = 0 then numF c (j + 1) (c.nums.drop (j + 1)) else F) := by rw [hF]; exact numF_step c j f _
      obtain ⟨lo, hlo⟩ : ∃ lo, lo = lowN c j := ⟨_, rfl⟩
      obtain ⟨hi, hhi⟩ : ∃ hi, hi = mostN c.word j := ⟨_, rfl⟩
      rw [← hlo, ← hhi] at CO ⊢
      clear hF hlo hhi
      go_wp2_with (first
        | (refine wl_loadE (E := FigE) FigOk rfl _ rfl wr.heap.size 0 rfl _ _ _ (figV f) rfl KF.out (own_cells _ _) ?_))
      refine (CO.out _).mono ?_
      rintro e w2 ⟨rfl, hb2⟩
      have B2 : Hid (Below wr.heap.size wr w2) := B1.out.trans (hb2.mono B1.out.size)
      clear hb2
      have KN : Hid ((w2.alloc (.cells (fltV F) 94)).heap[w2.heap.size]? = some (.cells (fltV F) 94 (0, 0))) := heap_new _ _ _ rfl
      have n0 : (w2.alloc (.cells (fltV F) 94)).cell? ⟨w2.heap.size, 0, none⟩ = some (.int .i64 F.1) := by rw [cell_of_row _ _ _ _ _ _ KN.out]; rfl
      have B3 : Hid (Below wr.heap.size wr (w2.alloc (.cells (fltV F) 94))) := B2.out.alloc B2.out.size _
      have zr : Hid (w.heap.size + 1 < wr.heap.size) := (Array.getElem?_eq_some_iff.1 R2.out).1
      by_cases hz : F.1 = 0
      · have hz' : (F.1 != 0) = false := by simp [hz]
        have HE : Hid (numF c 0 c.nums = numF c (j + 1) (c.nums.drop (j + 1))) := by
          show _ = _
          rw [HJ.out, HD.out, HST.out, if_pos hz]
        clear hz
        go_wp2_with (first
          | (refine wl_storeE (E := FltE) FltOk rfl _ _ rfl w2.heap.size (fltV F) (flt_fits _) rfl rfl _ (heap_new _ _ _ rfl) rfl _ (setRow_new _ _ _ _ _ rfl) ?_))
        go_roundw
        case rel =>
          have z := zr.out
          exact ⟨j + 1, by omega, by go_num, HE, (B3.out.block _ (by omega)).trans R1.out, (B3.out.block _ (by omega)).trans R2.out, HB.out.trans (B3.out.mono HB.out.size)⟩
        case measure =>
          have := HLT.out
          simp [intOf]; omega
      · have hz' : (F.1 != 0) = true := by simp [hz]
        have HE : Hid (numF c 0 c.nums = F) := by
          show _ = _
          rw [HJ.out, HD.out, HST.out, if_neg hz]
        have KR : Hid ((w2.alloc (.cells (fltV F) 94)).heap[w.heap.size + 1]? = some (.cells #[.int .i64 0, .int .i64 0] 94 (0, 0))) := (B3.out.block _ zr.out).trans R2.out
        clear hz
        go_wp2_with (first
          | (refine wl_storeE (E := FltE) FltOk rfl _ _ rfl w2.heap.size (fltV F) (flt_fits _) rfl rfl _ (heap_new _ _ _ rfl) rfl _ (setRow_new _ _ _ _ _ rfl) ?_)
          | (refine wl_loadE (E := FltE) FltOk rfl _ rfl w2.heap.size 0 rfl _ _ _ (fltV F) rfl KN.out (own_cells _ _) ?_)
          | (refine wl_storeE (E := FltE) FltOk rfl _ _ rfl (w.heap.size + 1) (fltV F) (flt_fits _) rfl rfl _ KR.out rfl _ rfl ?_))
        refine retE (E := FltE) FltOk rfl rfl (w.heap.size + 1) rfl (fltV F) rfl (setRow_heap _ _ _ _ _ _ KR.out) ?_
        exact ⟨by rw [HE.out], below_setRow (HB.out.trans (B3.out.mono HB.out.size)) (by omega) _⟩
    · have hlt' : (n : Int) ≤ (j : Int) := by omega
      have HE : Hid (numF c 0 c.nums = (0, 0)) := by
        show _ = _
        rw [HJ.out, List.drop_of_length_le (by have := HN.out; omega)]
        rfl
      clear hlt
      go_wp2_with (first
        | (refine wl_storeE (E := FltE) FltOk rfl _ _ rfl (w.heap.size + 1) (fltV (0, 0)) (flt_fits _) rfl rfl _ R2.out rfl _ rfl ?_))
      refine retE (E := FltE) FltOk rfl rfl (w.heap.size + 1) rfl (fltV (0, 0)) rfl (setRow_heap _ _ _ _ _ _ R2.out) ?_
      exact ⟨by rw [HE.out], below_setRow HB.out (by omega) _⟩
end Go.Proofs.YtnbklmmampdbfaaGreatDoor
namespace Go.Proofs.YtnbklmmampdbfaaGreatDoor
open Go Go.RowKit
set_option maxRecDepth 20000

theorem later_cell7 {W : World} {g k : Nat} {cs : Array Value} {t : TypeId} {fr : Nat × Nat} {v : Value} (hg : W.heap[g]? = some (.cells cs t fr)) (hk : cs[k]? = some v) : ∀ u : Later W, u.world.cell? ⟨g, k, none⟩ = some v := fun u => by
  rw [cell_of_row u.world _ _ _ _ _ (later_block hg _ ⟨u, rfl⟩)]; exact hk
theorem figs_slice7 (w : World) (c : Cla) (u : Value) (h : FigsAt w c u) : ∃ o n m, u = .slice o n m := by
  obtain ⟨o, cap, rfl, _⟩ := GSl.slice h
  exact ⟨_, _, _, rfl⟩
/-- A row that lies in a block of its own. -/
theorem gsl_row {α : Type} {E : El} {enc : α → Array Value} (hE : ∀ c, (enc c).size = E.size) {w : World} {g : Nat} {C : List α} {t : TypeId} {fr : Nat × Nat} (h : w.heap[g]? = some (.cells (gcells enc C).toArray t fr)) (hl : C.length ≤ maxLen) : GSl E enc w (.slice (some ⟨g, 0, none⟩) C.length C.length) C :=
  ⟨_, _, rfl, Nat.le_refl _, hl, fun i hi => ⟨g, 0, _, _, _, rfl, h, fun j hj => by
    rw [← gcells_at enc E.size C (fun c _ => hE c) i hi j hj, Nat.zero_add, Nat.mul_comm]
    simp⟩⟩
theorem wl_build3F {ops : Array Oper} {rest : List Oper} {o : Oper} {a : Act} {w : World} {Q : Exit → Act → World → Prop} (hg : o.guard = none) (x y z : Operand) (ho : o.op = .buildSlice 124 3 #[(0, x), (1, y), (2, z)]) (p q r : Int × Int) (hx : a.eval x = .agg (fltV p)) (hy : a.eval y = .agg (fltV q)) (hz : a.eval z = .agg (fltV r))
    (h : wpList Tryz.prog ops Q rest (a.put o.dst (.slice (some ⟨w.heap.size, 0, none⟩) 3 3)) (w.alloc (.cells (gcells fltV [p, q, r]).toArray 94))) : wpList Tryz.prog ops Q (o :: rest) a w := by
  obtain ⟨ie, hie, hze, hs, _⟩ := FltOk.info
  have hs' : ie.size = 2 := hs
  refine wpList_buildSlice hg 124 94 3 _ ho _ ie (.agg FltE.zero) FltOk.hs hie hze (by rw [hs']; decide) (by rw [hs']; decide) ?_ h
  simp only [List.map_toArray, List.map_cons, List.map_nil, hx, hy, hz, hs']
  kernel_rfl
theorem wl_build4F {ops : Array Oper} {rest : List Oper} {o : Oper} {a : Act} {w : World} {Q : Exit → Act → World → Prop} (hg : o.guard = none) (x y z t : Operand) (ho : o.op = .buildSlice 124 4 #[(0, x), (1, y), (2, z), (3, t)]) (p q r s : Int × Int) (hx : a.eval x = .agg (fltV p)) (hy : a.eval y = .agg (fltV q)) (hz : a.eval z = .agg (fltV r)) (ht : a.eval t = .agg (fltV s))
    (h : wpList Tryz.prog ops Q rest (a.put o.dst (.slice (some ⟨w.heap.size, 0, none⟩) 4 4)) (w.alloc (.cells (gcells fltV [p, q, r, s]).toArray 94))) : wpList Tryz.prog ops Q (o :: rest) a w := by
  obtain ⟨ie, hie, hze, hs, _⟩ := FltOk.info
  have hs' : ie.size = 2 := hs
  refine wpList_buildSlice hg 124 94 4 _ ho _ ie (.agg FltE.zero) FltOk.hs hie hze (by rw [hs']; decide) (by rw [hs']; decide) ?_ h
  simp only [List.map_toArray, List.map_cons, List.map_nil, hx, hy, hz, ht, hs']
  kernel_rfl
def whenF (b : Bool) (e p : Int) : Int × Int := if b then (e, p) else (0, 0)
theorem whenF_any (b : Bool) (e p : Int) (w : World) :
    Calls Tryz.prog 46 #[.bool b, .int .i64 e, .int .i64 p] w fun x w' => x = .returned (.agg (fltV (whenF b e p))) ∧ Below w.heap.size w w' := when_any b e p w
theorem first3 (had : List Cla) (c : Cla) : firstF [whenF (((c.nums.length : Int)) != manyI c) 8 c.pos, whenF (had.any (fun d => d.word == c.word)) 9 c.pos, numF c 0 c.nums] = claF had c := by
  rw [many_ne]
  have hz : ∀ (l : List Fig) (k : Nat), (numF c k l).1 = 0 → numF c k l = (0, 0) := by
    intro l
    induction l with
    | nil => intro k _; rfl
    | cons f l ih =>
      intro k h
      rw [numF] at h ⊢
      split
      · rename_i hh; rw [if_pos hh] at h; simp at h
      · rename_i hh; rw [if_neg hh] at h; exact ih _ h
  unfold claF whenF
  generalize (mustN c == 0 || c.nums.length != mustN c) = b1
  generalize (had.any fun d => d.word == c.word) = b2
  cases b1
  · cases b2
    · simp only [firstF, Bool.false_eq_true, if_false, if_true]
      split
      · rename_i h; exact (hz _ _ h).symm
      · rfl
    · simp [firstF]
  · simp [firstF]

set_option maxHeartbeats 4000000 in
theorem clauseF_any (had : List Cla) (c : Cla) (u va : Value) (w : World) (hu : FigsAt w c u) (ha : NSl ClaE claV FigsAt w va had) :
    Calls Tryz.prog 74 #[.agg (claV c u), va] w fun x w' => x = .returned (.agg (fltV (claF had c))) ∧ Below w.heap.size w w' := by
  obtain ⟨o, cap, rfl, hc1, hc2⟩ := GSl.slice hu
  obtain ⟨oa, capa, rfl, -, -⟩ := NSl.slice ha
  have hmf : ∀ (fn : Fn) (first cap : Array Value) (w : World), (Instr.makeFunc fn first cap).run Tryz.prog w = .ok (.func fn first cap) w := fun _ _ _ _ => rfl
  obtain ⟨n, hn⟩ : ∃ n, n = c.nums.length := ⟨_, rfl⟩
  have HN : Hid (n = c.nums.length) := hn
  rw [← hn] at hu hc1 ⊢
  have CF : Hid (∀ W, Below w.heap.size w W → W.heap[w.heap.size]? = some (.cells (claV c (.slice o n cap)) 129 (0, 0)) → Calls Tryz.prog 99 #[.slice oa had.length capa, .func (.func 100) #[] #[.pointer (some ⟨w.heap.size, 0, none⟩)]] W fun e w' => e = .returned (.bool (had.any (fun d => d.word == c.word))) ∧ Below W.heap.size W w') := fun W hb hk => containsFunc7_any figs_slice7 W _ had (NSl.below figs_below ha hb) w.heap.size c _ hk
  have MA : Hid (∀ W, Calls Tryz.prog 101 #[.agg (claV c (.slice o n cap))] W fun x w' => x = .returned (.int .i64 (manyI c)) ∧ Below W.heap.size W w') := fun W => many7_any c _ ⟨_, _, _, rfl⟩ W
  have WH : Hid (∀ b e p W, Calls Tryz.prog 46 #[.bool b, .int .i64 e, .int .i64 p] W fun x w' => x = .returned (.agg (fltV (whenF b e p))) ∧ Below W.heap.size W w') := whenF_any
  have NU : Hid (∀ W, Below w.heap.size w W → Calls Tryz.prog 102 #[.agg (claV c (.slice o n cap))] W fun x w' => x = .returned (.agg (fltV (numF c 0 c.nums))) ∧ Below W.heap.size W w') := fun W hb => numbers_any c _ W (figs_below _ _ _ _ hb hu)
  have FI : Hid (∀ F v W, GSl FltE fltV W v F → Calls Tryz.prog 45 #[v] W fun e w' => e = .returned (.agg (fltV (firstF F))) ∧ Below W.heap.size W w') := first7_any
  have b1 : Hid (((w.alloc (.cells (claV c (.slice o n cap)) 129)).alloc (.cells #[.int .i64 0, .int .i64 0] 94)).heap[w.heap.size]? = some (.cells (claV c (.slice o n cap)) 129 (0, 0))) := heap_past _ _ _ _ (heap_new _ _ _ rfl)
  have b2 : Hid (((w.alloc (.cells (claV c (.slice o n cap)) 129)).alloc (.cells #[.int .i64 0, .int .i64 0] 94)).heap[w.heap.size + 1]? = some (.cells #[.int .i64 0, .int .i64 0] 94 (0, 0))) := heap_new _ _ _ (by simp)
  have B0 : Hid (Below w.heap.size w ((w.alloc (.cells (claV c (.slice o n cap)) 129)).alloc (.cells #[.int .i64 0, .int .i64 0] 94))) := below2 _ _ _
  have H3 := first3 had c
  rw [← hn] at H3
  have HF : Hid (firstF [whenF ((n : Int) != manyI c) 8 c.pos, whenF (had.any (fun d => d.word == c.word)) 9 c.pos, numF c 0 c.nums] = claF had c) := H3
  obtain ⟨st, hst⟩ : ∃ st, st = had.any (fun d => d.word == c.word) := ⟨_, rfl⟩
  obtain ⟨ma, hma⟩ : ∃ ma, ma = manyI c := ⟨_, rfl⟩
  obtain ⟨nf, hnf⟩ : ∃ nf, nf = numF c 0 c.nums := ⟨_, rfl⟩
  rw [← hst] at CF HF
  rw [← hma] at MA HF
  rw [← hnf] at NU HF
  clear hu ha H3 hst hma hnf hn
  go_enter Tryz.func74, Tryz.ntmps74
  go_wp2_with fail
  refine (CF.out _ B0.out b1.out).mono ?_
  rintro e w1 ⟨rfl, hb1⟩
  have r1 : w1.heap[w.heap.size]? = some (.cells (claV c (.slice o n cap)) 129 (0, 0)) := (hb1.block _ (by simp; omega)).trans b1.out
  have r2 : w1.heap[w.heap.size + 1]? = some (.cells #[.int .i64 0, .int .i64 0] 94 (0, 0)) := (hb1.block _ (by simp)).trans b2.out
  have B1 : Hid (Below w.heap.size w w1) := B0.out.trans (hb1.mono (by simp; omega))
  clear hb1 b1 b2 B0 CF
  go_wp2_with fail
  have l1 : ∀ u : Later w1, u.world.cell? ⟨w.heap.size, 1, none⟩ = some (.int .i64 c.pos) := later_cell7 r1 rfl
  have l2 : ∀ u : Later w1, u.world.cell? ⟨w.heap.size, 2, none⟩ = some (.slice o n cap) := later_cell7 r1 rfl
  have ne1 := Later.ne w1
  refine wp_region_latertail 15 (by kernel_rfl) (by kernel_rfl) ?_
  simp only [List.take_succ_cons, List.take_zero, List.drop_succ_cons, List.drop_zero]
  go_big_quiet_step (rfl)
  go_big_quiet_step (rfl)
  go_big_quiet_step (rfl)
  refine qlE (E := ClaE) ClaOk rfl _ rfl w.heap.size 0 rfl _ _ _ (claV c (.slice o n cap)) rfl (later_block r1) (own_cells _ _) ?_
  simp only [Act.put, List.setIfInBounds_toArray, List.set_cons_succ, List.set_cons_zero]
  go_big_quiet_want; go_big_quiet_op
  refine ⟨_, fun u => Calls.later_of (MA.out u.world), ?_⟩
  go_big_quiet_on
  go_big_quiet_step (rfl)
  go_big_quiet_step (rfl)
  go_big_quiet_step (rfl)
  go_big_quiet_want; go_big_quiet_op
  refine ⟨_, fun u => Calls.later_of (WH.out _ _ _ u.world), ?_⟩
  go_big_quiet_on
  go_big_quiet_step (rfl)
  go_big_quiet_step (rfl)
  go_big_quiet_step (rfl)
  go_big_quiet_want; go_big_quiet_op
  refine ⟨_, fun u => Calls.later_of (WH.out _ _ _ u.world), ?_⟩
  go_big_quiet_on
  refine qlE (E := ClaE) ClaOk rfl _ rfl w.heap.size 0 rfl _ _ _ (claV c (.slice o n cap)) rfl (later_block r1) (own_cells _ _) ?_
  simp only [Act.put, List.setIfInBounds_toArray, List.set_cons_succ, List.set_cons_zero]
  go_big_quiet_want; go_big_quiet_op
  refine ⟨_, fun u => Calls.later_of (NU.out u.world (B1.out.trans (u.below.mono B1.out.size))), ?_⟩
  go_big_quiet_on
  refine wpQuiet_nil ?_
  rintro w' ⟨u, rfl⟩
  have k2 : Hid (u.world.heap[w.heap.size + 1]? = some (.cells #[.int .i64 0, .int .i64 0] 94 (0, 0))) := later_block r2 _ ⟨u, rfl⟩
  have BU : Hid (Below w.heap.size w u.world) := B1.out.trans (u.below.mono B1.out.size)
  obtain ⟨W2, hW2⟩ : ∃ W2, W2 = u.world := ⟨_, rfl⟩
  rw [← hW2] at k2 BU ⊢
  clear hW2 l1 l2 ne1 r1 r2 B1 NU MA
  refine wl_build3F rfl _ _ _ rfl _ _ _ rfl rfl rfl ?_
  simp only [Act.put, List.setIfInBounds_toArray, List.set_cons_succ, List.set_cons_zero]
  have G3 : Hid (GSl FltE fltV (W2.alloc (.cells (gcells fltV [whenF ((n : Int) != ma) 8 c.pos, whenF st 9 c.pos, nf]).toArray 94)) (.slice (some ⟨W2.heap.size, 0, none⟩) 3 3) [whenF ((n : Int) != ma) 8 c.pos, whenF st 9 c.pos, nf]) := gsl_row (E := FltE) (C := [whenF ((n : Int) != ma) 8 c.pos, whenF st 9 c.pos, nf]) (fun _ => rfl) (heap_new _ _ _ rfl) (by show 3 ≤ _; decide)
  go_wp2_with fail
  refine (FI.out _ _ _ G3.out).mono ?_
  rintro e w3 ⟨rfl, hb3⟩
  rw [HF.out]
  have k3 : Hid (w3.heap[w.heap.size + 1]? = some (.cells #[.int .i64 0, .int .i64 0] 94 (0, 0))) := (hb3.block _ (by have := (Array.getElem?_eq_some_iff.1 k2.out).1; simp; omega)).trans (heap_past _ _ _ _ k2.out)
  have B3 : Hid (Below w.heap.size w w3) := (BU.out.alloc BU.out.size _).trans (hb3.mono (BU.out.alloc BU.out.size _).size)
  clear hb3 G3
  go_wp2_with (first
    | (refine wl_storeE (E := FltE) FltOk rfl _ _ rfl (w.heap.size + 1) (fltV (claF had c)) (flt_fits _) rfl rfl _ k3.out rfl _ rfl ?_))
  refine retE (E := FltE) FltOk rfl rfl (w.heap.size + 1) rfl (fltV (claF had c)) rfl (setRow_heap _ _ _ _ _ _ k3.out) ?_
  exact ⟨rfl, below_setRow B3.out (by omega) _⟩
end Go.Proofs.YtnbklmmampdbfaaGreatDoor
namespace Go.Proofs.YtnbklmmampdbfaaGreatDoor
open Go Go.RowKit
set_option maxRecDepth 20000

theorem raw_f {w : World} {b : Nat} {x : Raw} {u : Value} {ty : TypeId} {fr : Nat × Nat} (h : w.heap[b]? = some (.cells (rawV x u) ty fr)) :
    w.cell? ⟨b, 0, none⟩ = some (.int .i64 x.pos) ∧ w.cell? ⟨b, 1, none⟩ = some (.bool x.dflt) ∧ w.cell? ⟨b, 2, none⟩ = some (.int .i64 x.prio.n) ∧ w.cell? ⟨b, 4, none⟩ = some u ∧ w.cell? ⟨b, 5, none⟩ = some (.bool x.drop) ∧ w.cell? ⟨b, 6, none⟩ = some (.int .i64 x.port.n) := by
  refine ⟨?_, ?_, ?_, ?_, ?_, ?_⟩ <;> (rw [cell_of_row _ _ _ _ _ _ h]; rfl)
theorem raw_prio (x : Raw) (u : Value) : ∀ q, q < 2 → (rawV x u)[2 + q]? = (figV x.prio)[q]? := fun q hq => by
  rcases (show q = 0 ∨ q = 1 by omega) with rfl | rfl <;> rfl
theorem raw_port (x : Raw) (u : Value) : ∀ q, q < 2 → (rawV x u)[6 + q]? = (figV x.port)[q]? := fun q hq => by
  rcases (show q = 0 ∨ q = 1 by omega) with rfl | rfl <;> rfl
theorem ruleF_zero (x : Raw) : outF x.prio 0 65535 = ruleF x 0 := by
  unfold outF ruleF
  rw [List.take_zero]
  rfl
theorem NSl.take {α : Type} {E : El} {row : α → Value → Array Value} {R : World → α → Value → Prop} {w : World} {o : Option Addr} {n cap : Nat} {C : List α} (h : NSl E row R w (.slice o n cap) C) {k : Nat} (hk : k ≤ n) : NSl E row R w (.slice o k cap) (C.take k) := by
  obtain ⟨P, h1, ⟨o', cap', h2, h3, h4, h5⟩, h6⟩ := h
  simp only [Value.slice.injEq] at h2
  obtain ⟨rfl, rfl, rfl⟩ := h2
  have hl : (P.take k).length = k := by rw [List.length_take]; omega
  refine ⟨P.take k, by rw [List.map_take, h1], ⟨o, cap, by rw [hl], by rw [hl]; omega, h4, fun i hi => ?_⟩, fun p hp => h6 p (List.mem_of_mem_take hp)⟩
  rw [hl] at hi
  obtain ⟨g, off, cur, t, fr, e1, e2, e3⟩ := h5 i (by omega)
  refine ⟨g, off, cur, t, fr, e1, e2, fun j hj => ?_⟩
  rw [List.getElem_take]
  exact e3 j hj
theorem slice_to (b off n cap k : Nat) (hk : k ≤ cap) (_hm : cap ≤ 2 ^ 63 - 1) (W : World) : (Instr.sliceAt 90 (.slice (some ⟨b, off, none⟩) n cap) none (some (.int .i64 (k : Int))) none).run Tryz.prog W = .ok (.slice (some ⟨b, off, none⟩) k cap) W := by
  simp [go_sem, Tryz.underlying90]
  omega

set_option maxHeartbeats 4000000 in
theorem action7_any (x : Raw) (u : Value) (hu : ∃ o n m, u = .slice o n m) (w : World) :
    Calls Tryz.prog 75 #[.agg (rawV x u)] w fun e w' => e = .returned (.int .i64 (actOf x)) ∧ Below w.heap.size w w' := by
  obtain ⟨o, n, m, rfl⟩ := hu
  obtain ⟨-, -, -, -, c5, c6⟩ := raw_f (heap_new w (.cells (rawV x (.slice o n m)) 92) _ rfl)
  have HB : Hid (Below w.heap.size w (w.alloc (.cells (rawV x (.slice o n m)) 92))) := (Below.refl _ _).alloc (Nat.le_refl _) _
  cases hd : x.drop with
  | true =>
    rw [show actOf x = 0 by unfold actOf; rw [hd]; rfl]
    rw [hd] at c5
    go_enter Tryz.func75, Tryz.ntmps75
    go_wp2_with fail
    go_ret
    exact ⟨rfl, HB.out⟩
  | false =>
    rw [show actOf x = x.port.n by unfold actOf; rw [hd]; rfl]
    rw [hd] at c5
    go_enter Tryz.func75, Tryz.ntmps75
    go_wp2_with fail
    go_ret
    exact ⟨rfl, HB.out⟩

set_option maxHeartbeats 4000000 in
theorem actionF_any (x : Raw) (u : Value) (hu : ∃ o n m, u = .slice o n m) (w : World) :
    Calls Tryz.prog 48 #[.agg (rawV x u)] w fun e w' => e = .returned (.agg (fltV (actF x))) ∧ Below w.heap.size w w' := by
  obtain ⟨o, n, m, rfl⟩ := hu
  have OU : Hid (∀ (f : Fig) (low high : Int) W, Calls Tryz.prog 73 #[.agg (figV f), .int .i64 low, .int .i64 high] W fun x w' => x = .returned (.agg (fltV (outF f low high))) ∧ Below W.heap.size W w') := outside_any
  have b1 : Hid (((w.alloc (.cells (rawV x (.slice o n m)) 92)).alloc (.cells #[.int .i64 0, .int .i64 0] 94)).heap[w.heap.size]? = some (.cells (rawV x (.slice o n m)) 92 (0, 0))) := heap_past _ _ _ _ (heap_new _ _ _ rfl)
  have b2 : Hid (((w.alloc (.cells (rawV x (.slice o n m)) 92)).alloc (.cells #[.int .i64 0, .int .i64 0] 94)).heap[w.heap.size + 1]? = some (.cells #[.int .i64 0, .int .i64 0] 94 (0, 0))) := heap_new _ _ _ (by simp)
  have B0 : Hid (Below w.heap.size w ((w.alloc (.cells (rawV x (.slice o n m)) 92)).alloc (.cells #[.int .i64 0, .int .i64 0] 94))) := below2 _ _ _
  have c5 := (raw_f b1.out).2.2.2.2.1
  cases hd : x.drop with
  | true =>
    rw [show actF x = (0, 0) by unfold actF; rw [hd]; rfl]
    rw [hd] at c5
    go_enter Tryz.func48, Tryz.ntmps48
    go_wp2_with (first
      | (refine wl_storeE (E := FltE) FltOk rfl _ _ rfl (w.heap.size + 1) (fltV (0, 0)) (flt_fits _) rfl rfl _ b2.out rfl _ rfl ?_))
    refine retE (E := FltE) FltOk rfl rfl (w.heap.size + 1) rfl (fltV (0, 0)) rfl (setRow_heap _ _ _ _ _ _ b2.out) ?_
    exact ⟨rfl, below_setRow B0.out (by omega) _⟩
  | false =>
    rw [show actF x = outF x.port 1 99 by unfold actF outF; rw [hd]; rfl]
    rw [hd] at c5
    go_enter Tryz.func48, Tryz.ntmps48
    go_wp2_with (first
      | (refine wl_loadE (E := FigE) FigOk rfl _ rfl w.heap.size 6 rfl _ _ _ (figV x.port) rfl b1.out (raw_port x _) ?_))
    refine (OU.out _ _ _ _).mono ?_
    rintro e w1 ⟨rfl, hb1⟩
    have k2 : Hid (w1.heap[w.heap.size + 1]? = some (.cells #[.int .i64 0, .int .i64 0] 94 (0, 0))) := (hb1.block _ (by simp)).trans b2.out
    have B1 : Hid (Below w.heap.size w w1) := B0.out.trans (hb1.mono (by simp; omega))
    clear hb1
    go_wp2_with (first
      | (refine wl_storeE (E := FltE) FltOk rfl _ _ rfl (w.heap.size + 1) (fltV (outF x.port 1 99)) (flt_fits _) rfl rfl _ k2.out rfl _ rfl ?_))
    refine retE (E := FltE) FltOk rfl rfl (w.heap.size + 1) rfl (fltV (outF x.port 1 99)) rfl (setRow_heap _ _ _ _ _ _ k2.out) ?_
    exact ⟨rfl, below_setRow B1.out (by omega) _⟩

set_option maxHeartbeats 8000000 in
theorem ruleF_any (x : Raw) (u : Value) (w : World) (hu : ClasAt w x u) :
    Calls Tryz.prog 47 #[.agg (rawV x u)] w fun e w' => e = .returned (.agg (fltV (lineF x))) ∧ Below w.heap.size w w' := by
  have OU : Hid (∀ (f : Fig) (low high : Int) W, Calls Tryz.prog 73 #[.agg (figV f), .int .i64 low, .int .i64 high] W fun x w' => x = .returned (.agg (fltV (outF f low high))) ∧ Below W.heap.size W w') := outside_any
  have CL : Hid (∀ (had : List Cla) (c : Cla) (u va : Value) W, FigsAt W c u → NSl ClaE claV FigsAt W va had → Calls Tryz.prog 74 #[.agg (claV c u), va] W fun x w' => x = .returned (.agg (fltV (claF had c))) ∧ Below W.heap.size W w') := clauseF_any
  obtain ⟨o, cap, rfl, hc1, hc2⟩ := NSl.slice hu
  obtain ⟨n, hn⟩ : ∃ n, n = x.clauses.length := ⟨_, rfl⟩
  have HN : Hid (n = x.clauses.length) := hn
  rw [← hn] at hu hc1 ⊢
  have HU : Hid (ClasAt w x (.slice o n cap)) := hu
  unfold maxLen at hc2
  have b1 : Hid (((w.alloc (.cells (rawV x (.slice o n cap)) 92)).alloc (.cells #[.int .i64 0, .int .i64 0] 94)).heap[w.heap.size]? = some (.cells (rawV x (.slice o n cap)) 92 (0, 0))) := heap_past _ _ _ _ (heap_new _ _ _ rfl)
  have b2 : Hid (((w.alloc (.cells (rawV x (.slice o n cap)) 92)).alloc (.cells #[.int .i64 0, .int .i64 0] 94)).heap[w.heap.size + 1]? = some (.cells #[.int .i64 0, .int .i64 0] 94 (0, 0))) := heap_new _ _ _ (by simp)
  have B0 : Hid (Below w.heap.size w ((w.alloc (.cells (rawV x (.slice o n cap)) 92)).alloc (.cells #[.int .i64 0, .int .i64 0] 94))) := below2 _ _ _
  have c1 := (raw_f b1.out).2.1
  clear hu hn
  cases hd : x.dflt with
  | true =>
    rw [show lineF x = (0, 0) by unfold lineF; rw [hd]; rfl]
    rw [hd] at c1
    go_enter Tryz.func47, Tryz.ntmps47
    go_wp2_with (first
      | (refine wl_storeE (E := FltE) FltOk rfl _ _ rfl (w.heap.size + 1) (fltV (0, 0)) (flt_fits _) rfl rfl _ b2.out rfl _ rfl ?_))
    refine retE (E := FltE) FltOk rfl rfl (w.heap.size + 1) rfl (fltV (0, 0)) rfl (setRow_heap _ _ _ _ _ _ b2.out) ?_
    exact ⟨rfl, below_setRow B0.out (by omega) _⟩
  | false =>
    have HL : Hid (lineF x = ruleF x n) := by
      show _ = _
      rw [HN.out, ruleF_all]
      unfold lineF
      rw [hd]; rfl
    rw [hd] at c1
    have HD : Hid (x.dflt = false) := hd
    have ST : Hid (∀ k, (ruleF x k).1 ≠ 0 → ruleF x n = ruleF x k) := fun k h => by rw [HN.out]; exact ruleF_stays h
    have NX : Hid (∀ (k : Nat) c, x.clauses[k]? = some c → (ruleF x k).1 = 0 → claF (x.clauses.take k) c = ruleF x (k + 1)) := fun k c h1 h2 => (ruleF_next h1 h2).symm
    clear hd
    go_enter Tryz.func47, Tryz.ntmps47
    go_wp2_with (first
      | (refine wl_loadE (E := FigE) FigOk rfl _ rfl w.heap.size 2 rfl _ _ _ (figV x.prio) rfl b1.out (raw_prio x _) ?_))
    refine (OU.out _ _ _ _).mono ?_
    rintro e w1 ⟨rfl, hb1⟩
    rw [ruleF_zero]
    have k1 : Hid (w1.heap[w.heap.size]? = some (.cells (rawV x (.slice o n cap)) 92 (0, 0))) := (hb1.block _ (by simp; omega)).trans b1.out
    have k2 : Hid (w1.heap[w.heap.size + 1]? = some (.cells #[.int .i64 0, .int .i64 0] 94 (0, 0))) := (hb1.block _ (by simp)).trans b2.out
    have B1 : Hid (Below w.heap.size w w1) := B0.out.trans (hb1.mono (by simp; omega))
    clear hb1 b1 b2 B0 c1
    obtain ⟨G, hG⟩ : ∃ G, G = w1.heap.size := ⟨_, rfl⟩
    have hGw : w.heap.size + 1 < G := by rw [hG]; exact (Array.getElem?_eq_some_iff.1 k2.out).1
    have HG : Hid (G = w1.heap.size) := hG
    have KA : Hid ((w1.alloc (.cells (fltV (ruleF x 0)) 94)).heap[G]? = some (.cells (fltV (ruleF x 0)) 94 (0, 0)) ∧ (w1.alloc (.cells (fltV (ruleF x 0)) 94)).heap[w.heap.size]? = some (.cells (rawV x (.slice o n cap)) 92 (0, 0)) ∧ (w1.alloc (.cells (fltV (ruleF x 0)) 94)).heap[w.heap.size + 1]? = some (.cells #[.int .i64 0, .int .i64 0] 94 (0, 0)) ∧ Below w.heap.size w (w1.alloc (.cells (fltV (ruleF x 0)) 94))) := ⟨heap_new _ _ _ hG, heap_past _ _ _ _ k1.out, heap_past _ _ _ _ k2.out, B1.out.alloc B1.out.size _⟩
    go_wp2_with (first
      | (refine wl_storeE (E := FltE) FltOk rfl _ _ rfl w1.heap.size (fltV (ruleF x 0)) (flt_fits _) rfl rfl _ (heap_new _ _ _ rfl) rfl _ (setRow_new _ _ _ _ _ rfl) ?_))
    rw [← hG]
    clear hG
    go_loopw [4] (fun i wr => ∃ k : Nat, k ≤ n ∧ i = .int .i64 (k : Int) ∧ wr.heap[G]? = some (.cells (fltV (ruleF x k)) 94 (0, 0)) ∧ wr.heap[w.heap.size]? = some (.cells (rawV x (.slice o n cap)) 92 (0, 0)) ∧ wr.heap[w.heap.size + 1]? = some (.cells #[.int .i64 0, .int .i64 0] 94 (0, 0)) ∧ Below w.heap.size w wr) (fun i _ => n - (intOf i).toNat)
    case atStart => exact ⟨0, Nat.zero_le _, rfl, KA.out.1, KA.out.2.1, KA.out.2.2.1, KA.out.2.2.2⟩
    case round =>
      clear KA k1 k2 B1
      obtain ⟨k, hk, rfl, hr0, hr1, hr2, hb⟩ := hrel
      have R0 : Hid (wr.heap[G]? = some (.cells (fltV (ruleF x k)) 94 (0, 0))) := hr0
      have R1 : Hid (wr.heap[w.heap.size]? = some (.cells (rawV x (.slice o n cap)) 92 (0, 0))) := hr1
      have R2 : Hid (wr.heap[w.heap.size + 1]? = some (.cells #[.int .i64 0, .int .i64 0] 94 (0, 0))) := hr2
      have HB : Hid (Below w.heap.size w wr) := hb
      have f0 : wr.cell? ⟨G, 0, none⟩ = some (.int .i64 (ruleF x k).1) := by rw [cell_of_row _ _ _ _ _ _ R0.out]; rfl
      have f4 := (raw_f R1.out).2.2.2.1
      clear hr0 hr1 hr2 hb
      have fin : ∀ F, ruleF x n = F → wr.heap[G]? = some (.cells (fltV F) 94 (0, 0)) → lineF x = F := fun F h _ => by rw [HL.out]; exact h
      by_cases hlt : k < n
      · have hlt' : (k : Int) < (n : Int) := by omega
        by_cases hz : (ruleF x k).1 = 0
        · have hz' : ((ruleF x k).1 == 0) = true := by simp [hz]
          obtain ⟨g, off, cur, ty, fr, c, u', rfl, hg, hc, hCk, hcl⟩ := NSl.at (NSl.below figs_below HU.out HB.out) k hlt
          have HNX := NX.out k c hCk hz
          have CC : Hid (∀ W, Below wr.heap.size wr W → Calls Tryz.prog 74 #[.agg (claV c u'), .slice (some ⟨g, off, none⟩) k cap] W fun x1 w' => x1 = .returned (.agg (fltV (ruleF x (k + 1)))) ∧ Below W.heap.size W w') := fun W hbW => by
            have := CL.out (x.clauses.take k) c u' (.slice (some ⟨g, off, none⟩) k cap) W (figs_below _ _ _ _ hbW hcl) (NSl.below figs_below (NSl.take (NSl.below figs_below HU.out HB.out) (by omega)) hbW)
            rwa [HNX] at this
          have hsl := fun W => slice_to g off n cap k (by omega) hc2 W
          have k1 : wr.heap[g]? = some (.cells cur ty fr) := hg
          have H1 : Hid (∀ i, i < 5 → cur[off + k * 5 + i]? = (claV c u')[i]?) := hc
          have l4 : ∀ u : Later wr, u.world.cell? ⟨w.heap.size, 4, none⟩ = some (.slice (some ⟨g, off, none⟩) n cap) := later_cell7 R1.out rfl
          clear hg hc hCk hcl HNX fin
          go_wp2_with fail
          have ne1 := Later.ne wr
          refine wp_region_latertail 10 (by kernel_rfl) (by kernel_rfl) ?_
          simp only [List.take_succ_cons, List.take_zero, List.drop_succ_cons, List.drop_zero]
          go_big_quiet_step (rfl)
          go_big_quiet_step (rfl)
          go_big_quiet_step (rfl)
          go_big_quiet_step (rfl)
          refine qlE (E := ClaE) ClaOk rfl _ rfl g (off + k * 5) rfl cur ty fr (claV c u') rfl (later_block k1) H1.out ?_
          simp only [Act.put, List.setIfInBounds_toArray, List.set_cons_succ, List.set_cons_zero]
          go_big_quiet_step (rfl)
          go_big_quiet_step (rfl)
          go_big_quiet_step (rfl)
          go_big_quiet_step (rfl)
          go_big_quiet_want; go_big_quiet_op
          refine ⟨_, fun u => Calls.later_of (CC.out u.world u.below), ?_⟩
          go_big_quiet_on
          refine wpQuiet_nil ?_
          rintro w' ⟨v, rfl⟩
          have q0 : Hid (v.world.heap[G]? = some (.cells (fltV (ruleF x k)) 94 (0, 0))) := later_block R0.out _ ⟨v, rfl⟩
          have q1 : Hid (v.world.heap[w.heap.size]? = some (.cells (rawV x (.slice (some ⟨g, off, none⟩) n cap)) 92 (0, 0))) := later_block R1.out _ ⟨v, rfl⟩
          have q2 : Hid (v.world.heap[w.heap.size + 1]? = some (.cells #[.int .i64 0, .int .i64 0] 94 (0, 0))) := later_block R2.out _ ⟨v, rfl⟩
          have BV : Hid (Below w.heap.size w v.world) := HB.out.trans (v.below.mono HB.out.size)
          obtain ⟨W2, hW2⟩ : ∃ W2, W2 = v.world := ⟨_, rfl⟩
          rw [← hW2] at q0 q1 q2 BV ⊢
          clear hW2 l4 ne1 k1 R0 R1 R2 f0 f4
          go_wp2_with (first
            | (refine wl_storeE (E := FltE) FltOk rfl _ _ rfl G (fltV (ruleF x (k + 1))) (flt_fits _) rfl rfl _ q0.out rfl _ rfl ?_))
          go_roundw
          case rel => exact ⟨k + 1, by omega, by go_num, setRow_heap _ _ _ _ _ _ q0.out, (setRow_other _ _ _ _ (by omega)).trans q1.out, (setRow_other _ _ _ _ (by omega)).trans q2.out, below_setRow BV.out (by omega) _⟩
          case measure => simp [intOf]; omega
        · have hz' : ((ruleF x k).1 == 0) = false := by simp [hz]
          have hfin : Hid (lineF x = ruleF x k) := by rw [HL.out]; exact ST.out k hz
          clear hz fin
          go_wp2_with (first
            | (refine wl_loadE (E := FltE) FltOk rfl _ rfl G 0 rfl _ _ _ (fltV (ruleF x k)) rfl R0.out (own_cells _ _) ?_)
            | (refine wl_storeE (E := FltE) FltOk rfl _ _ rfl (w.heap.size + 1) (fltV (ruleF x k)) (flt_fits _) rfl rfl _ R2.out rfl _ rfl ?_))
          refine retE (E := FltE) FltOk rfl rfl (w.heap.size + 1) rfl (fltV (ruleF x k)) rfl (setRow_heap _ _ _ _ _ _ R2.out) ?_
          exact ⟨by rw [hfin.out], below_setRow HB.out (by omega) _⟩
      · have hlt' : ¬ (k : Int) < (n : Int) := by omega
        have hlt2 : decide ((k : Int) < (n : Int)) = false := by simp; omega
        obtain rfl : k = n := by omega
        clear hlt fin
        go_wp2_with (first
          | (refine wl_loadE (E := FltE) FltOk rfl _ rfl G 0 rfl _ _ _ (fltV (ruleF x k)) rfl R0.out (own_cells _ _) ?_)
          | (refine wl_storeE (E := FltE) FltOk rfl _ _ rfl (w.heap.size + 1) (fltV (ruleF x k)) (flt_fits _) rfl rfl _ R2.out rfl _ rfl ?_))
        refine retE (E := FltE) FltOk rfl rfl (w.heap.size + 1) rfl (fltV (ruleF x k)) rfl (setRow_heap _ _ _ _ _ _ R2.out) ?_
        exact ⟨by rw [HL.out], below_setRow HB.out (by omega) _⟩
end Go.Proofs.YtnbklmmampdbfaaGreatDoor
namespace Go.Proofs.YtnbklmmampdbfaaGreatDoor
open Go Go.RowKit
set_option maxRecDepth 20000

theorem nth_q {c : Cla} {k : Nat} {f : Fig} (h : c.nums[k]? = some f) : nth c k = f.n := by unfold nth; rw [List.getD_eq_getElem?_getD, h]; rfl
def preN (c : Cla) : Nat → Int
  | 0 => 0
  | k + 1 => preN c k * 256 + nth c k
theorem preN_bd (c : Cla) (h : ∀ k, k < 4 → 0 ≤ nth c k ∧ nth c k ≤ 255) : ∀ k, k ≤ 4 → 0 ≤ preN c k ∧ preN c k < 256 ^ k
  | 0, _ => by simp [preN]
  | k + 1, hk => by
    have := preN_bd c h k (by omega)
    have h2 := h k (by omega)
    simp only [preN, Int.pow_succ]
    omega
theorem preN_four (c : Cla) : preN c 4 = (preC c).1 := by
  unfold preC
  simp only [preN]
  omega
theorem slice_four (b off n cap : Nat) (hk : 4 ≤ cap) (_hm : cap ≤ 2 ^ 63 - 1) (W : World) : (Instr.sliceAt 127 (.slice (some ⟨b, off, none⟩) n cap) none (some (.int .i64 4)) none).run Tryz.prog W = .ok (.slice (some ⟨b, off, none⟩) 4 cap) W := by
  simp [go_sem, Tryz.underlying127]
  omega
set_option maxHeartbeats 4000000 in
theorem prefix_any (c : Cla) (u : Value) (w : World) (hu : FigsAt w c u) (hl : c.nums.length = if c.slash then 5 else 4) (hb4 : ∀ k, k < 4 → 0 ≤ nth c k ∧ nth c k ≤ 255) :
    Calls Tryz.prog 76 #[.agg (claV c u)] w fun x w' => x = .returned (.tuple #[.int .u32 (preC c).1, .int .i64 (preC c).2]) ∧ Below w.heap.size w w' := by
  obtain ⟨o, cap, rfl, hc1, hc2⟩ := GSl.slice hu
  obtain ⟨n, hn⟩ : ∃ n, n = c.nums.length := ⟨_, rfl⟩
  have h4n : 4 ≤ n := by rw [hn, hl]; split <;> omega
  rw [← hn] at hu hc1 hl ⊢
  have HU : Hid (FigsAt w c (.slice o n cap)) := hu
  obtain ⟨g, off, cur, ty, fr, f0, rfl, hg, -, -⟩ := hu.at 0 (by omega)
  have HG : Hid (w.heap[g]? = some (.cells cur ty fr)) := hg
  unfold maxLen at hc2
  have hsl := fun W => slice_four g off n cap (by omega) hc2 W
  have BD : Hid (∀ k, k ≤ 4 → 0 ≤ preN c k ∧ preN c k < 256 ^ k) := preN_bd c hb4
  have H4 : Hid (∀ k, k < 4 → 0 ≤ nth c k ∧ nth c k ≤ 255) := hb4
  have b1 : Hid ((w.alloc (.cells (claV c (.slice (some ⟨g, off, none⟩) n cap)) 129)).heap[w.heap.size]? = some (.cells (claV c (.slice (some ⟨g, off, none⟩) n cap)) 129 (0, 0))) := heap_new _ _ _ rfl
  have c2 := (cla_f b1.out).2.2.1
  have HE : Hid (preN c 4 = (preC c).1) := preN_four c
  have HS : Hid ((preC c).2 = if c.slash then nth c 4 else 32) := rfl
  have HNL : Hid (n = if c.slash then 5 else 4) := hl
  clear hu hg hn hb4 hl
  go_enter Tryz.func76, Tryz.ntmps76
  go_wp2_with fail
  clear c2
  go_loopw [4, 11] (fun v i wr => ∃ k : Nat, k ≤ 4 ∧ i = .int .i64 (k : Int) ∧ v = .int .u32 (preN c k) ∧ wr.heap[w.heap.size]? = some (.cells (claV c (.slice (some ⟨g, off, none⟩) n cap)) 129 (0, 0)) ∧ Below w.heap.size w wr) (fun _ i _ => 4 - (intOf i).toNat)
  case atStart => exact ⟨0, Nat.zero_le _, rfl, rfl, b1.out, (Below.refl _ _).alloc (Nat.le_refl _) _⟩
  case round =>
    clear b1
    obtain ⟨k, hk, rfl, rfl, hr1, hb⟩ := hrel
    have R1 : Hid (wr.heap[w.heap.size]? = some (.cells (claV c (.slice (some ⟨g, off, none⟩) n cap)) 129 (0, 0))) := hr1
    have HB : Hid (Below w.heap.size w wr) := hb
    clear hr1 hb
    by_cases hlt : k < 4
    · obtain ⟨g', off', cur', ty', fr', f, e0, hg, hc, hFj⟩ := HU.out.at k (by omega)
      simp only [Option.some.injEq, Addr.mk.injEq, and_true] at e0
      obtain ⟨rfl, rfl⟩ := e0
      have K1 : Hid (wr.heap[g]? = some (.cells cur' ty' fr')) := (HB.out.block g (Array.getElem?_eq_some_iff.1 hg).1).trans hg
      have H1 : Hid (∀ q, q < 2 → cur'[off + k * 2 + q]? = (figV f)[q]?) := hc
      have hnk := nth_q hFj
      have hx := H4.out k hlt
      rw [hnk] at hx
      have HST : Hid (preN c (k + 1) = preN c k * 256 + f.n) := by rw [← hnk]; exact rfl
      have hp := BD.out k (by omega)
      have hp24 : preN c k < 16777216 := by
        have : (256 : Int) ^ k ≤ 256 ^ 3 := by
          rcases (show k = 0 ∨ k = 1 ∨ k = 2 ∨ k = 3 by omega) with h | h | h | h <;> subst h <;> decide
        have h2 : (256 : Int) ^ 3 = 16777216 := by decide
        omega
      have HOR : Hid (bits .or .u32 (preN c k * 256) f.n = preN c k * 256 + f.n) := by
        have h := or_byte (preN c k) f.n hp.1 hp24 hx.1 (by omega)
        rw [show preN c k * 256 % 4294967296 = preN c k * 256 by omega, show f.n % 4294967296 = f.n by omega] at h
        exact h
      obtain ⟨pk, hpk⟩ : ∃ pk, pk = preN c k := ⟨_, rfl⟩
      rw [← hpk] at HST HOR hp24 ⊢
      have hp0 : 0 ≤ pk := by rw [hpk]; exact hp.1
      have n0 : (wr.alloc (.cells (figV f) 89)).cell? ⟨wr.heap.size, 0, none⟩ = some (.int .i64 f.n) := by rw [cell_of_row _ _ _ _ _ _ (heap_new wr (.cells (figV f) 89) _ rfl)]; rfl
      have hlt' : (k : Int) < 4 := by omega
      have hx0 := hx.1
      have hx1 : f.n < 256 := by omega
      clear hg hc hFj hnk hp hpk hx
      go_wp2_with (first
        | (refine wl_loadE (E := FigE) FigOk rfl _ rfl g (off + k * 2) rfl cur' ty' fr' (figV f) rfl K1.out H1.out ?_)
        | (refine wl_storeE (E := FigE) FigOk rfl _ _ rfl wr.heap.size (figV f) (fig_fits _) rfl rfl _ (heap_new _ _ _ rfl) rfl _ (setRow_new _ _ _ _ _ rfl) ?_))
      go_roundw
      case rel =>
        refine ⟨k + 1, by omega, by go_num, ?_, heap_past _ _ _ _ R1.out, HB.out.alloc HB.out.size _⟩
        rw [HST.out, HOR.out]
      case measure => simp [intOf]; omega
    · obtain rfl : k = 4 := by omega
      have hlt' : ¬ (4 : Int) < 4 := by omega
      have c3 := (cla_f R1.out).2.2.2.1
      cases hs : c.slash with
      | false =>
        rw [hs] at c3 HS
        have hend : ¬ (((4 : Nat) : Int) < 4) := by omega
        clear hlt
        go_wp2_with fail
        go_ret2
        refine ⟨?_, HB.out⟩
        rw [HE.out, HS.out]
        rfl
      | true =>
        rw [hs] at c3 HS HNL
        have h5 : n = 5 := HNL.out
        obtain ⟨g', off', cur', ty', fr', f, e0, hg, hc, hFj⟩ := HU.out.at 4 (by omega)
        simp only [Option.some.injEq, Addr.mk.injEq, and_true] at e0
        obtain ⟨rfl, rfl⟩ := e0
        have l2 : ∀ u : Later wr, u.world.cell? ⟨w.heap.size, 2, none⟩ = some (.slice (some ⟨g, off, none⟩) n cap) := later_cell7 R1.out rfl
        have lg : ∀ u : Later wr, u.world.cell? ⟨g, off + 8, none⟩ = some (.int .i64 f.n) := by
          have hh : wr.heap[g]? = some (.cells cur' ty' fr') := (HB.out.block g (Array.getElem?_eq_some_iff.1 hg).1).trans hg
          refine later_cell7 hh ?_
          have := hc 0 (by decide)
          exact this
        have hnk := nth_q hFj
        have hS2 : (preC c).2 = f.n := by rw [HS.out, if_pos rfl, hnk]
        have HS2 : Hid ((preC c).2 = f.n) := hS2
        subst h5
        clear hlt hg hc hFj hnk hS2
        go_wp2_with fail
        have ne1 := Later.ne wr
        refine wp_region_later (by kernel_rfl) (by kernel_rfl) ?_
        repeat go_big_quiet_step (rfl)
        refine wpQuiet_nil ?_
        rintro w' ⟨v, rfl⟩
        go_wp2_with fail
        go_ret2
        refine ⟨?_, HB.out.trans (v.below.mono HB.out.size)⟩
        rw [HE.out, HS2.out]
        rfl

set_option maxHeartbeats 4000000 in
theorem ports7_any (c : Cla) (u : Value) (w : World) (hu : FigsAt w c u) (hl : 0 < c.nums.length) :
    Calls Tryz.prog 77 #[.agg (claV c u)] w fun x w' => x = .returned (.tuple #[.int .i64 (porC c).1, .int .i64 (porC c).2]) ∧ Below w.heap.size w w' := by
  obtain ⟨o, cap, rfl, hc1, hc2⟩ := GSl.slice hu
  unfold porC
  obtain ⟨n, hn⟩ : ∃ n, n = c.nums.length := ⟨_, rfl⟩
  rw [← hn] at hu hc1 hl ⊢
  obtain ⟨g, off, cur, ty, fr, f, rfl, hg, hc, hF⟩ := hu.at 0 hl
  obtain ⟨g', off', cur', ty', fr', f', e0, hg', hc', hF'⟩ := hu.at (n - 1) (by omega)
  simp only [Option.some.injEq, Addr.mk.injEq, and_true] at e0
  obtain ⟨rfl, rfl⟩ := e0
  rw [nth_q hF, nth_q hF']
  unfold maxLen at hc2
  obtain ⟨Wa, hWa⟩ : ∃ Wa, Wa = w.alloc (.cells (claV c (.slice (some ⟨g, off, none⟩) n cap)) 129) := ⟨_, rfl⟩
  have b1 : Wa.heap[w.heap.size]? = some (.cells (claV c (.slice (some ⟨g, off, none⟩) n cap)) 129 (0, 0)) := by rw [hWa]; exact heap_new _ _ _ rfl
  have BA : Hid (Below w.heap.size w Wa) := by rw [hWa]; exact (Below.refl _ _).alloc (Nat.le_refl _) _
  have l2 : ∀ u : Later Wa, u.world.cell? ⟨w.heap.size, 2, none⟩ = some (.slice (some ⟨g, off, none⟩) n cap) := later_cell7 b1 rfl
  have lg : ∀ u : Later Wa, u.world.cell? ⟨g, off, none⟩ = some (.int .i64 f.n) := later_cell7 (by rw [hWa]; exact heap_past _ _ _ _ hg) (by
    have := hc 0 (by decide)
    rw [show off + 0 * FigE.size + 0 = off by simp] at this
    exact this)
  have lg' : ∀ u : Later Wa, u.world.cell? ⟨g, off + (n - 1) * 2, none⟩ = some (.int .i64 f'.n) := later_cell7 (by rw [hWa]; exact heap_past _ _ _ _ hg') (by
    have := hc' 0 (by decide)
    exact this)
  have hn1 : ((n : Int) - 1).toNat = n - 1 := by omega
  have hp1 : (0 : Int) ≤ (n : Int) - 1 := by omega
  have hp2 : (n : Int) - 1 < (n : Int) := by omega
  have hp0 : (0 : Int) < (n : Int) := by omega
  have hix : ∀ W, (Instr.indexAt 127 (.slice (some ⟨g, off, none⟩) n cap) (.int .i64 ((n : Int) - 1))).run Tryz.prog W = .ok (.pointer (some ⟨g, off + (n - 1) * 2, none⟩)) W := fun W => by
    simp [go_sem, Tryz.underlying127]
    omega
  clear hu hg hc hF hg' hc' hF' hn b1
  go_enter Tryz.func77, Tryz.ntmps77
  go_wp2_with fail
  rw [← hWa]
  have ne1 := Later.ne Wa
  refine wp_region_later (by kernel_rfl) (by kernel_rfl) ?_
  repeat go_big_quiet_step (rfl)
  refine wpQuiet_nil ?_
  rintro w' ⟨v, rfl⟩
  go_wp2_with fail
  go_ret2
  exact ⟨rfl, BA.out.trans (v.below.mono BA.out.size)⟩
end Go.Proofs.YtnbklmmampdbfaaGreatDoor
namespace Go.Proofs.YtnbklmmampdbfaaGreatDoor
open Go Go.RowKit
set_option maxRecDepth 20000

theorem retB {e : Ending} {c q : Nat} (h : Fault e c q) : e = .panicked [{ v := faultV c q, recovered := false }] := h
set_option maxHeartbeats 2000000 in
theorem figure_any (W0 w : World) (g E : Nat) (T : List Tok) (h : Rd W0 w g E T) :
    Calls Tryz.prog 96 #[.pointer (some ⟨g, 0, none⟩)] w fun e w' => Took W0 w g E (fun _ f v => v = .agg (figV f)) (takeF E T) e w' := by
  have C1 : Hid (∀ W, Below w.heap.size w W → Calls Tryz.prog 71 #[.pointer (some ⟨g, 0, none⟩), .int .i64 2] W fun e w' => Took W0 W g E (fun _ t v => v = .agg (encT t)) (takeK E 2 T) e w') := fun W hb => take_any W0 W g E 2 (by decide) T (h.below hb)
  have hgl := h.size
  unfold takeF
  cases hK : takeK E 2 T with
  | error x =>
    obtain ⟨c, q⟩ := x
    rw [hK] at C1
    clear hK
    go_enter Tryz.func96, Tryz.ntmps96
    go_wp2_with fail
    refine (C1.out _ ?_).mono ?_
    · exact (Below.refl _ _).alloc (Nat.le_refl _) _
    rintro e w1 ⟨hg1, rfl⟩
    have G1 := grown_trans (gb_alloc (gb_refl w g) _) hg1
    go_wp2_with fail
    exact ⟨rfl, G1, rfl⟩
  | ok x =>
    obtain ⟨t, T'⟩ := x
    rw [hK] at C1
    clear hK
    go_enter Tryz.func96, Tryz.ntmps96
    go_wp2_with fail
    refine (C1.out _ ?_).mono ?_
    · exact (Below.refl _ _).alloc (Nat.le_refl _) _
    rintro e w1 ⟨hg1, ⟨v, rfl, rfl⟩, R1⟩
    have z1 : w.heap.size < w1.heap.size := by have := hg1.size; simp at this; omega
    have G1 := grown_trans (gb_alloc (gb_refl w g) _) hg1
    obtain ⟨t0, t1, t2, t3⟩ := tok_cells (heap_new w1 (.cells (encT t) 117) _ rfl)
    have hr1 : Hid ((w1.alloc (.cells (encT t) 117)).heap[w.heap.size]? = some (.cells (figV ⟨0, 0⟩) 89 (0, 0))) := (heap_past _ _ _ _ ((hg1.block _ (by simp) (by simp; omega)).trans (heap_new _ _ _ rfl)))
    have HR : Hid (Rd W0 w1 g E T') := R1
    have HG : Hid (w.grownBy w1 (some g)) := G1
    clear hg1 R1 G1
    go_wp2_with (first
      | (refine wl_storeE (E := TokE) TokOk rfl _ _ rfl w1.heap.size (encT t) (tv_fits _ _ _ _) rfl rfl _ (heap_new _ _ _ rfl) rfl _ (setRow_new _ _ _ _ _ rfl) ?_)
      | (refine wl_storeE (E := FigE) FigOk rfl _ _ rfl w.heap.size (figV ⟨(t.num : Int), (t.pos : Int)⟩) (fig_fits _) rfl rfl _ hr1.out rfl _ rfl ?_))
    refine retE (E := FigE) FigOk rfl rfl w.heap.size rfl (figV ⟨(t.num : Int), (t.pos : Int)⟩) rfl (setRow_heap _ _ _ _ _ _ hr1.out) ?_
    exact ⟨gb_setRow (gb_alloc HG.out _) (.inr (Nat.le_refl _)) _, ⟨_, rfl, rfl⟩, rd_setRow (HR.out.alloc _) (by omega) (by omega) _⟩

/-- Whether a token of a kind follows; then it is taken. -/
def follT (E k : Nat) (T : List Tok) : Res (Bool × List Tok) := if (hd E T).kind = k then .ok (true, T.tail) else .ok (false, T)
set_option maxHeartbeats 2000000 in
theorem follows_any (W0 w : World) (g E k : Nat) (hk : k ≠ 0) (T : List Tok) (h : Rd W0 w g E T) :
    Calls Tryz.prog 123 #[.pointer (some ⟨g, 0, none⟩), .int .i64 (k : Int)] w fun e w' => Took W0 w g E (fun _ b v => v = .bool b) (follT E k T) e w' := by
  have C1 : Hid (∀ W, Below w.heap.size w W → Calls Tryz.prog 70 #[.pointer (some ⟨g, 0, none⟩)] W fun e w' => e = .returned (.agg (encT (hd E T))) ∧ Below W.heap.size W w') := fun W hb => peek_any W0 W g E T (h.below hb)
  have C2 : Hid (∀ W, Below w.heap.size w W → Calls Tryz.prog 71 #[.pointer (some ⟨g, 0, none⟩), .int .i64 (k : Int)] W fun e w' => Took W0 W g E (fun _ t v => v = .agg (encT t)) (takeK E k T) e w') := fun W hb => take_any W0 W g E k hk T (h.below hb)
  have H : Hid (Rd W0 w g E T) := h
  unfold follT
  by_cases hc : (hd E T).kind = k
  · rw [if_pos hc]
    obtain ⟨T', hT, hR⟩ := takeK_yes hk hc
    rw [hR] at C2
    have hT2 : T.tail = T' := by rw [hT]; rfl
    rw [hT2]
    have hne : (((hd E T).kind : Int) != (k : Int)) = false := by simp; omega
    clear hc hR hT2 h
    obtain ⟨t, ht⟩ : ∃ t, t = hd E T := ⟨_, rfl⟩
    rw [← ht] at C1 C2 hne
    clear ht hT
    have hf0 := tok_f0 t
    go_enter Tryz.func123, Tryz.ntmps123
    go_wp2_with fail
    refine (C1.out _ (Below.refl _ _)).mono ?_
    rintro e w1 ⟨rfl, hb1⟩
    go_wp2_with fail
    refine (C2.out _ hb1).mono ?_
    rintro e w2 ⟨hg2, ⟨v, rfl, rfl⟩, R2⟩
    go_wp2_with fail
    go_ret
    exact ⟨grown_trans (grown_below hb1) hg2, ⟨_, rfl, rfl⟩, R2⟩
  · rw [if_neg hc]
    have hne : (((hd E T).kind : Int) != (k : Int)) = true := by simp; omega
    clear hc C2 h
    obtain ⟨t, ht⟩ : ∃ t, t = hd E T := ⟨_, rfl⟩
    rw [← ht] at C1 hne
    clear ht
    have hf0 := tok_f0 t
    go_enter Tryz.func123, Tryz.ntmps123
    go_wp2_with fail
    refine (C1.out _ (Below.refl _ _)).mono ?_
    rintro e w1 ⟨rfl, hb1⟩
    go_wp2_with fail
    go_ret
    exact ⟨grown_below hb1, ⟨_, rfl, rfl⟩, H.out.below hb1⟩

/-- An address: four numbers with a Dot between. -/
def addrT (E : Nat) (T : List Tok) : Res (List Fig × List Tok) := (takeF E T).bind fun x => (takeD E 3 x.2).map fun y => (x.1 :: y.1, y.2)
def FigsOwn (B : Nat) (w : World) (F : List Fig) (v : Value) : Prop := w.ownsRow B 89 2 v F.length (gcells figV F)
set_option maxHeartbeats 4000000 in
theorem address_any (W0 w : World) (g E : Nat) (T : List Tok) (h : Rd W0 w g E T) :
    Calls Tryz.prog 122 #[.pointer (some ⟨g, 0, none⟩)] w fun e w' => Took W0 w g E (FigsOwn w.heap.size) (addrT E T) e w' := by
  have CF : Hid (∀ W T, Rd W0 W g E T → Calls Tryz.prog 96 #[.pointer (some ⟨g, 0, none⟩)] W fun e w' => Took W0 W g E (fun _ f v => v = .agg (figV f)) (takeF E T) e w') := fun W T h => figure_any W0 W g E T h
  have CK : Hid (∀ W T, Rd W0 W g E T → Calls Tryz.prog 71 #[.pointer (some ⟨g, 0, none⟩), .int .i64 3] W fun e w' => Took W0 W g E (fun _ t v => v = .agg (encT t)) (takeK E 3 T) e w') := fun W T h => take_any W0 W g E 3 (by decide) T h
  have hgl := h.size
  have H : Hid (Rd W0 w g E T) := h
  obtain ⟨A, hA⟩ : ∃ A, A = addrT E T := ⟨_, rfl⟩
  rw [← hA]
  unfold addrT at hA
  clear h
  go_enter Tryz.func122, Tryz.ntmps122
  go_wp2_with fail
  refine (CF.out _ T H.out).mono ?_
  cases hF : takeF E T with
  | error x =>
    obtain ⟨c, q⟩ := x
    have HA : Hid (A = .error (c, q)) := by rw [hA, hF]; rfl
    clear hA hF
    rintro e w1 ⟨hg1, rfl⟩
    go_wp2_with fail
    rw [HA.out]
    exact ⟨rfl, hg1, rfl⟩
  | ok x =>
    obtain ⟨f, T1⟩ := x
    have HA : Hid (A = (takeD E 3 T1).map fun y => (f :: y.1, y.2)) := by rw [hA, hF]; rfl
    clear hA hF
    rintro e w1 ⟨hg1, ⟨v, rfl, rfl⟩, R1⟩
    have z1 := hg1.size
    have n1 := heap_new w1 (.cells (figV f) 89) _ rfl
    go_wp2_with (first
      | (refine wl_buildE (E := FigE) FigOk rfl _ rfl (figV f) rfl rfl ?_))
    go_loopw [3] (fun out wr => ∃ (n : Nat) (F : List Fig) (T2 : List Tok), n ≤ 3 ∧ F.length = 4 - n ∧ Hid (A = (takeD E n T2).map fun y => (F ++ y.1, y.2)) ∧ w.grownBy wr (some g) ∧ Rd W0 wr g E T2 ∧ wr.ownsRow w.heap.size 89 2 out F.length (gcells figV F)) (fun out _ => 4 - (match out with | .slice _ n _ => n | _ => 0))
    case atStart => exact ⟨3, [f], T1, Nat.le_refl _, rfl, HA, gb_alloc hg1 _, R1.alloc _, ⟨rfl, Or.inr ⟨w1.heap.size, 1, figV f, rfl, z1, n1, Nat.le_refl 1, by decide, rfl, rfl⟩⟩⟩
    case round =>
      obtain ⟨n, F, T2, hn, hFl, HA2, hg, R2, hown⟩ := hrel
      clear HA n1 R1 hg1 z1
      obtain ⟨o, cap, rfl⟩ := gown_slice hown
      obtain ⟨L, hL⟩ : ∃ L, L = F.length := ⟨_, rfl⟩
      have HL : Hid (L = F.length) := hL
      rw [← hL] at hown ⊢
      have HOWN : Hid (wr.ownsRow w.heap.size 89 2 (.slice o L cap) F.length (gcells figV F)) := by rw [← hL]; exact hown
      have HG : Hid (w.grownBy wr (some g)) := hg
      have HR2 : Hid (Rd W0 wr g E T2) := R2
      clear hown hg R2
      cases n with
      | zero =>
        have h4 : (4 : Int) ≤ (L : Int) := by omega
        have hA : A = .ok (F, T2) := by rw [HA2.out]; simp [takeD, Except.map]
        have HA3 : Hid (A = .ok (F, T2)) := hA
        clear hA HA2 hL
        go_wp2_with fail
        go_ret
        rw [HA3.out]
        exact ⟨HG.out, ⟨_, rfl, HOWN.out⟩, HR2.out⟩
      | succ n =>
        have h4 : (L : Int) < 4 := by omega
        have hl3 : L ≤ 3 := by omega
        clear hL
        go_wp2_with fail
        refine (CK.out _ T2 HR2.out).mono ?_
        cases hK : takeK E 3 T2 with
        | error x =>
          obtain ⟨c, q⟩ := x
          have HA3 : Hid (A = .error (c, q)) := by show _ = _; rw [HA2.out, takeD, hK]; rfl
          clear hK
          rintro e w3 ⟨hg3, rfl⟩
          go_wp2_with fail
          rw [HA3.out]
          exact ⟨rfl, grown_trans HG.out hg3, rfl⟩
        | ok x =>
          obtain ⟨t, T3⟩ := x
          rintro e w3 ⟨hg3, ⟨v, rfl, rfl⟩, R3⟩
          have HG3 : Hid (w.grownBy w3 (some g)) := grown_trans HG.out hg3
          have HOWN3 : Hid (w3.ownsRow w.heap.size 89 2 (.slice o L cap) F.length (gcells figV F)) := own_by hg3 hgl.2 HOWN.out
          have HR3 : Hid (Rd W0 w3 g E T3) := R3
          clear hg3 R3
          go_wp2_with fail
          refine (CF.out _ T3 HR3.out).mono ?_
          cases hF : takeF E T3 with
          | error x =>
            obtain ⟨c, q⟩ := x
            have HA3 : Hid (A = .error (c, q)) := by show _ = _; rw [HA2.out, takeD, hK]; show ((takeF E T3).bind _).map _ = _; rw [hF]; rfl
            clear hK hF
            rintro e w4 ⟨hg4, rfl⟩
            go_wp2_with fail
            rw [HA3.out]
            exact ⟨rfl, grown_trans HG3.out hg4, rfl⟩
          | ok x =>
            obtain ⟨f2, T4⟩ := x
            have HA3 : Hid (A = (takeD E n T4).map fun y => (F ++ [f2] ++ y.1, y.2)) := by
              show _ = _
              rw [HA2.out, takeD, hK]
              show ((takeF E T3).bind _).map _ = _
              rw [hF]
              show ((takeD E n T4).map _).map _ = _
              cases takeD E n T4 with
              | error x => rfl
              | ok x => simp [Except.map]
            clear hK hF
            rintro e w4 ⟨hg4, ⟨v, rfl, rfl⟩, R4⟩
            have HG4 : Hid (w.grownBy w4 (some g)) := grown_trans HG3.out hg4
            have HOWN4 : Hid (w4.ownsRow w.heap.size 89 2 (.slice o L cap) F.length (gcells figV F)) := own_by hg4 hgl.2 HOWN3.out
            have HR4 : Hid (Rd W0 w4 g E T4) := R4
            clear hg4 R4
            go_wp2_with (first
              | (refine wl_buildE (E := FigE) FigOk rfl _ rfl (figV f2) rfl rfl ?_)
              | (at_builtin; refine of_stopT ?_))
            unfold StopT
            have HO5 : Hid ((w4.alloc (.cells (figV f2) 89)).ownsRow w.heap.size 89 2 (.slice o L cap) F.length (gcells figV F)) := HOWN4.out.alloc _
            refine wl_appendE (E := FigE) FigOk figV rfl _ _ rfl w.heap.size _ F f2 (fig_fits _) rfl HO5.out _ 1 rfl (heap_new _ _ _ rfl) (by omega) (by have := HG4.out.size; simp; omega) ?_
            intro v' w5 hown5 hgr5 _
            have HG5 : Hid (w.grownBy w5 (some g)) := gb_own (gb_alloc HG4.out _) hgr5 fun k hk => (HO5.out.lt k hk).1
            have HR5 : Hid (Rd W0 w5 g E T4) := rd_own (HR4.out.alloc _) hgr5 fun k hk => Nat.lt_of_lt_of_le hgl.2 (HO5.out.lt k hk).1
            have HOWN5 : Hid (w5.ownsRow w.heap.size 89 2 v' (F ++ [f2]).length (gcells figV (F ++ [f2]))) := hown5
            obtain ⟨o5, cap5, rfl⟩ := gown_slice hown5
            clear hown5 hgr5
            simp only [Act.put, List.setIfInBounds_toArray, List.set_cons_succ, List.set_cons_zero]
            go_wp2_with fail
            go_roundw
            case rel => exact ⟨n, F ++ [f2], T4, by omega, by simp; omega, HA3, HG5.out, HR5.out, HOWN5.out⟩
            case measure => have := HL.out; simp; omega
end Go.Proofs.YtnbklmmampdbfaaGreatDoor
namespace Go.Proofs.YtnbklmmampdbfaaGreatDoor
open Go Go.RowKit
set_option maxRecDepth 20000

theorem takeA_eq (E : Nat) (T : List Tok) : takeA E T = (takeK E 1 T).bind fun x => if x.1.text = wDrop then .ok ((true, ⟨0, 0⟩), x.2) else if x.1.text = wPort then (takeF E x.2).map (fun y => ((false, y.1), y.2)) else .error (8, x.1.pos) := by
  cases T with
  | nil => rfl
  | cons t T =>
    unfold takeA takeK
    by_cases h : t.kind = 1
    · simp only [h, true_and, if_true]
      rfl
    · simp only [h, false_and, if_false]
      rfl
def ActV (v : Value) (a : Bool × Fig) : Prop := v = .tuple #[.bool a.1, .agg (figV a.2)]

set_option maxHeartbeats 2000000 in
theorem action_any (W0 w : World) (g E : Nat) (T : List Tok) (h : Rd W0 w g E T) :
    Calls Tryz.prog 98 #[.pointer (some ⟨g, 0, none⟩)] w fun e w' => Took W0 w g E (fun _ a v => ActV v a) (takeA E T) e w' := by
  have CF : Hid (∀ W T, Rd W0 W g E T → Calls Tryz.prog 96 #[.pointer (some ⟨g, 0, none⟩)] W fun e w' => Took W0 W g E (fun _ f v => v = .agg (figV f)) (takeF E T) e w') := fun W T h => figure_any W0 W g E T h
  have CK : Hid (∀ W T, Rd W0 W g E T → Calls Tryz.prog 71 #[.pointer (some ⟨g, 0, none⟩), .int .i64 1] W fun e w' => Took W0 W g E (fun _ t v => v = .agg (encT t)) (takeK E 1 T) e w') := fun W T h => take_any W0 W g E 1 (by decide) T h
  have hgl := h.size
  have H : Hid (Rd W0 w g E T) := h
  obtain ⟨A, hA⟩ : ∃ A, A = takeA E T := ⟨_, rfl⟩
  rw [← hA]
  rw [takeA_eq] at hA
  clear h
  go_enter Tryz.func98, Tryz.ntmps98
  go_wp2_with fail
  refine (CK.out _ T (H.out.alloc _)).mono ?_
  cases hK : takeK E 1 T with
  | error x =>
    obtain ⟨c, q⟩ := x
    have HA : Hid (A = .error (c, q)) := by rw [hA, hK]; rfl
    clear hA hK
    rintro e w1 ⟨hg1, rfl⟩
    go_wp2_with fail
    rw [HA.out]
    exact ⟨rfl, grown_trans (gb_alloc (gb_refl w g) _) hg1, rfl⟩
  | ok x =>
    obtain ⟨t, T1⟩ := x
    have HA : Hid (A = if t.text = wDrop then .ok ((true, ⟨0, 0⟩), T1) else if t.text = wPort then (takeF E T1).map (fun y => ((false, y.1), y.2)) else .error (8, t.pos)) := by rw [hA, hK]; rfl
    clear hA hK
    rintro e w1 ⟨hg1, ⟨v, rfl, rfl⟩, R1⟩
    have z1 : w.heap.size < w1.heap.size := by have := hg1.size; simp at this; omega
    have HG1 : Hid (w.grownBy w1 (some g)) := grown_trans (gb_alloc (gb_refl w g) _) hg1
    obtain ⟨t0, t1, t2, t3⟩ := tok_cells (heap_new w1 (.cells (encT t) 117) _ rfl)
    have hr1 : Hid ((w1.alloc (.cells (encT t) 117)).heap[w.heap.size]? = some (.cells (figV ⟨0, 0⟩) 89 (0, 0))) := (heap_past _ _ _ _ ((hg1.block _ (by simp) (by simp; omega)).trans (heap_new _ _ _ rfl)))
    have HR1 : Hid (Rd W0 w1 g E T1) := R1
    clear hg1 R1
    by_cases d1 : t.text = wDrop
    · rw [if_pos d1] at HA
      have e1 : (t.text == [100, 114, 111, 112]) = true := by rw [d1]; rfl
      clear d1
      go_wp2_with (first
        | (refine wl_storeE (E := TokE) TokOk rfl _ _ rfl w1.heap.size (encT t) (tv_fits _ _ _ _) rfl rfl _ (heap_new _ _ _ rfl) rfl _ (setRow_new _ _ _ _ _ rfl) ?_)
        | (refine wl_storeE (E := FigE) FigOk rfl _ _ rfl w.heap.size (figV ⟨0, 0⟩) (fig_fits _) rfl rfl _ hr1.out rfl _ rfl ?_))
      refine retBE (E := FigE) FigOk rfl rfl w.heap.size rfl (figV ⟨0, 0⟩) rfl (setRow_heap _ _ _ _ _ _ hr1.out) _ rfl ?_
      rw [HA.out]
      exact ⟨gb_setRow (gb_alloc HG1.out _) (.inr (Nat.le_refl _)) _, ⟨_, rfl, rfl⟩, rd_setRow (HR1.out.alloc _) (by omega) (by omega) _⟩
    · rw [if_neg d1] at HA
      have e1 : (t.text == [100, 114, 111, 112]) = false := by rw [beq_eq_false_iff_ne]; exact d1
      clear d1
      by_cases d2 : t.text = wPort
      · rw [if_pos d2] at HA
        have e2 : (t.text == [112, 111, 114, 116]) = true := by rw [d2]; rfl
        clear d2
        go_wp2_with (first
          | (refine wl_storeE (E := TokE) TokOk rfl _ _ rfl w1.heap.size (encT t) (tv_fits _ _ _ _) rfl rfl _ (heap_new _ _ _ rfl) rfl _ (setRow_new _ _ _ _ _ rfl) ?_))
        refine (CF.out _ T1 (HR1.out.alloc _)).mono ?_
        cases hF : takeF E T1 with
        | error x =>
          obtain ⟨c, q⟩ := x
          rw [hF] at HA
          clear hF
          rintro e w2 ⟨hg2, rfl⟩
          go_wp2_with fail
          rw [HA.out]
          exact ⟨rfl, grown_trans (gb_alloc HG1.out _) hg2, rfl⟩
        | ok x =>
          obtain ⟨f, T2⟩ := x
          rw [hF] at HA
          clear hF
          rintro e w2 ⟨hg2, ⟨v, rfl, rfl⟩, R2⟩
          have hr2 : Hid (w2.heap[w.heap.size]? = some (.cells (figV ⟨0, 0⟩) 89 (0, 0))) := (hg2.block _ (by simp; omega) (by simp; omega)).trans hr1.out
          have HG2 : Hid (w.grownBy w2 (some g)) := grown_trans (gb_alloc HG1.out _) hg2
          have HR2 : Hid (Rd W0 w2 g E T2) := R2
          clear hg2 R2 t0 t1 t2 t3
          go_wp2_with (first
            | (refine wl_storeE (E := FigE) FigOk rfl _ _ rfl w.heap.size (figV f) (fig_fits _) rfl rfl _ hr2.out rfl _ rfl ?_))
          refine retBE (E := FigE) FigOk rfl rfl w.heap.size rfl (figV f) rfl (setRow_heap _ _ _ _ _ _ hr2.out) _ rfl ?_
          rw [HA.out]
          exact ⟨gb_setRow HG2.out (.inr (Nat.le_refl _)) _, ⟨_, rfl, rfl⟩, rd_setRow HR2.out (by omega) (by omega) _⟩
      · rw [if_neg d2] at HA
        have e2 : (t.text == [112, 111, 114, 116]) = false := by rw [beq_eq_false_iff_ne]; exact d2
        clear d2
        go_wp2_with (first
          | (refine wl_storeE (E := TokE) TokOk rfl _ _ rfl w1.heap.size (encT t) (tv_fits _ _ _ _) rfl rfl _ (heap_new _ _ _ rfl) rfl _ (setRow_new _ _ _ _ _ rfl) ?_))
        rw [HA.out]
        exact ⟨rfl, gb_alloc HG1.out _, rfl⟩
end Go.Proofs.YtnbklmmampdbfaaGreatDoor
namespace Go.Proofs.YtnbklmmampdbfaaGreatDoor
open Go Go.RowKit
set_option maxRecDepth 20000

/-- One operation of a drawn region, by the laws for a list of them. -/
theorem wpOp_of_list {P : Program} {ops : Array Oper} {Q : Exit → Act → World → Prop} {i : Nat} {o : Oper} {K : Act → World → Prop} {a : Act} {w : World} (hi : ops[i]? = some o)
    (h : wpList P ops (fun e a' w' => match e with | .normal => K a' w' | e => Q e a' w') [o] a w) : wpOp P ops Q i K a w := by
  unfold Go.wpOp
  simp only [hi]
  unfold wpList at h
  by_cases hw : Region.wanted o (yielded ops a.tmps) = true
  · rw [if_pos hw] at h ⊢
    rcases h with h | h
    · refine .inl ?_
      unfold Oper.wp at h ⊢
      revert h
      generalize (execOp a.eval o).run P w = r
      intro h
      unfold Oper.upon at h ⊢
      split at h
      · exact h
      · exact h
      · exact h
      · refine h.mono ?_
        intro e w1 h1
        cases e <;> exact h1
      · exact h
      · exact h
      · exact h.elim
    · exact .inr h
  · rw [if_neg hw] at h ⊢
    exact h
theorem eval_put (a : Act) (k j : Nat) (v : Value) (hk : k < a.tmps.size) : (a.put (some k) v).eval (.tmp j) = if j = k then v else a.eval (.tmp j) := by
  simp only [Act.eval, Act.put, Array.getElem?_setIfInBounds, Array.getD_eq_getD_getElem?]
  by_cases h : j = k
  · subst h; simp [hk]
  · simp [h, Ne.symm h]
theorem size_put (a : Act) (d : Option Tmp) (v : Value) : (a.put d v).tmps.size = a.tmps.size := by
  cases d <;> simp [Act.put]
theorem w_set_heap (w : World) : w.drew.heap = w.heap := rfl
theorem gb_drew (w : World) (g : Nat) : w.grownBy w.drew (some g) := ⟨rfl, rfl, rfl, Nat.le_refl _, fun _ _ _ => rfl⟩
theorem load_cell {ty e : TypeId} (hu : Tryz.prog.underlying ty = some (.slice e)) (W : World) (ad : Addr) (v : Value) (h : W.cell? ad = some v) : (Instr.loadAt ty (.pointer (some ad))).run Tryz.prog W = .ok v W := by
  have ha : (isAgg ty).run Tryz.prog W = .ok false W := by unfold isAgg; rw [Sem.run_bind, run_underlying hu W]; simp [go_sem]
  simp [Instr.loadAt, Instr.sureAddr, loadVar, Sem.run_bind, ha, go_sem, h]
theorem store_cell {ty : TypeId} (hsz : ∀ W, (sizeOf ty).run Tryz.prog W = .ok 1 W) (W : World) (ad : Addr) (v u : Value) (hv : ∃ o n c, v = .slice o n c) (h : W.cell? ad = some u) (hz : W.frozen? ad = false) : (Instr.storeAt ty (.pointer (some ad)) v).run Tryz.prog W = .ok () (W.setCell ad v) := by
  obtain ⟨o, n, c, rfl⟩ := hv
  simp [Instr.storeAt, Instr.sureAddr, storeVar, Sem.run_bind, hsz, go_sem, h, hz]
/-- One operation whose value is known. -/
theorem wpOp_val {ops : Array Oper} {Q : Exit → Act → World → Prop} {i : Nat} {o : Oper} {K : Act → World → Prop} {a : Act} {w w' : World} (hi : ops[i]? = some o) (hw : Region.wanted o (yielded ops a.tmps) = true) (v : Value)
    (hx : (execOp a.eval o).run Tryz.prog w = .ok (.value v) w') (d : Option Tmp) (hd : o.dst = d) (hK : K (a.put d v) w') : wpOp Tryz.prog ops Q i K a w := by
  subst hd
  refine wpOp_wanted hi hw ?_
  unfold Oper.wp
  rw [hx]
  exact hK
theorem wpOp_skip6 {ops : Array Oper} {Q : Exit → Act → World → Prop} {i : Nat} {o : Oper} {K : Act → World → Prop} {a : Act} {w w' : World} (hi : ops[i]? = some o) (hw : Region.wanted o (yielded ops a.tmps) = true)
    (hx : (execOp a.eval o).run Tryz.prog w = .ok .skip w') (d : Option Tmp) (hd : o.dst = d) (hK : K (a.put d undef) w') : wpOp Tryz.prog ops Q i K a w := by
  subst hd
  refine wpOp_wanted hi hw ?_
  unfold Oper.wp
  rw [hx]
  exact hK
theorem wpOp_skip0 {ops : Array Oper} {Q : Exit → Act → World → Prop} {i : Nat} {o : Oper} {K : Act → World → Prop} {a : Act} {w w' : World} (hi : ops[i]? = some o) (hw : Region.wanted o (yielded ops a.tmps) = true)
    (hx : (execOp a.eval o).run Tryz.prog w = .ok .skip w') (hd : o.dst = none) (hK : K a w') : wpOp Tryz.prog ops Q i K a w :=
  wpOp_skip6 hi hw hx none hd hK
theorem wpOp_callQ {ops : Array Oper} {Q : Exit → Act → World → Prop} {i : Nat} {o : Oper} {K : Act → World → Prop} {a : Act} {w : World} (hi : ops[i]? = some o) (hw : Region.wanted o (yielded ops a.tmps) = true) (f : FuncId) (vs : Array Value)
    (hf : (execOp a.eval o).run Tryz.prog w = .ok (.enter f vs) w) (D : Ending → World → Prop) (h : Calls Tryz.prog f vs w D) (d : Option Tmp) (hd : o.dst = d) (hK : ∀ v w', D (.returned v) w' → K (a.put d v) w') (hP : ∀ ch w', D (.panicked ch) w' → Q (.panic ch) a w') (hO : ∀ w', ¬ D .outgrown w') : wpOp Tryz.prog ops Q i K a w := by
  subst hd
  refine wpOp_wanted hi hw ?_
  unfold Oper.wp
  rw [hf]
  refine h.mono ?_
  intro e w' hD
  cases e with
  | returned v => exact hK v w' hD
  | panicked ch => exact hP ch w' hD
  | outgrown => exact absurd hD (hO w')

theorem run_fieldOp {o : Oper} {t i : Nat} {x : Operand} (ho : o.op = .fieldAddr t x i) (a : Act) (W : World) (v : Value) (h : (Instr.fieldAt t (a.eval x) i).run Tryz.prog W = .ok v W) : (execOp a.eval o).run Tryz.prog W = .ok (.value v) W := by
  unfold execOp
  simp only [ho, Sem.run_bind, h, Result.andThen_ok, Sem.run_pure]
theorem run_moveOp {o : Oper} {x : Operand} (ho : o.op = .move x) (a : Act) (W : World) (v : Value) (h : a.eval x = v) : (execOp a.eval o).run Tryz.prog W = .ok (.value v) W := by
  unfold execOp
  simp only [ho, Sem.run_pure, h]
theorem run_loadOp {o : Oper} {t : Nat} {x : Operand} (ho : o.op = .load t x) (a : Act) (W : World) (u v : Value) (hu : a.eval x = u) (h : (Instr.loadAt t u).run Tryz.prog W = .ok v W) : (execOp a.eval o).run Tryz.prog W = .ok (.value v) W := by
  unfold execOp
  simp only [ho, Sem.run_bind, hu, h, Result.andThen_ok, Sem.run_pure]
theorem run_storeOp {o : Oper} {t : Nat} {x y : Operand} (ho : o.op = .store t x y) (a : Act) (W W' : World) (u v : Value) (hu : a.eval x = u) (hv : a.eval y = v) (h : (Instr.storeAt t u v).run Tryz.prog W = .ok () W') : (execOp a.eval o).run Tryz.prog W = .ok .skip W' := by
  unfold execOp
  simp only [ho, Sem.run_bind, hu, hv, h, Result.andThen_ok, Sem.run_pure]
theorem run_callOp {o : Oper} {f : Nat} {x : Operand} {ts : Array TypeId} (ho : o.op = .call { callee := .value (.func f), args := #[x], argTypes := ts }) (hf : ∀ vs W, (callFunc f vs).run Tryz.prog W = .ok (.enter f vs) W) (a : Act) (W : World) (v : Value) (h : a.eval x = v) : (execOp a.eval o).run Tryz.prog W = .ok (.enter f #[v]) W := by
  unfold execOp
  have hef : a.eval (.func f) = .func (.func f) #[] #[] := rfl
  simp only [ho, resolve, hef, List.map_toArray, List.map_cons, List.map_nil, h]
  simp [go_sem, hf]
end Go.Proofs.YtnbklmmampdbfaaGreatDoor
namespace Go.Proofs.YtnbklmmampdbfaaGreatDoor
open Go Go.RowKit
set_option maxRecDepth 20000

/-- What holds at each moment of a drawn region: all that has come up has a value as is told; all other slots are as they were. -/
structure InvR (ops : Array Oper) (V : Nat → Value → World → Prop) (D : List Nat) (a0 : Act) (w0 : World) (listed : Array Bool) (a : Act) (w : World) : Prop where
  below : Below w0.heap.size w0 w
  size : a.tmps.size = a0.tmps.size
  defers : a.defers = a0.defers
  other : ∀ d, d ∉ D → a.eval (.tmp d) = a0.eval (.tmp d)
  has : ∀ j o d, ops[j]? = some o → o.dst = some d → listed.getD j false = true → V j (a.eval (.tmp d)) w
/-- What an operation finds when it comes up. -/
structure AtOp (ops : Array Oper) (V : Nat → Value → World → Prop) (D : List Nat) (a0 : Act) (w0 : World) (o : Oper) (a : Act) (w : World) : Prop where
  below : Below w0.heap.size w0 w
  size : a.tmps.size = a0.tmps.size
  defers : a.defers = a0.defers
  other : ∀ d, d ∉ D → a.eval (.tmp d) = a0.eval (.tmp d)
  has : ∀ e ∈ o.after, Region.binds .any e = true → ∀ oj d, ops[e.on]? = some oj → oj.dst = some d → V e.on (a.eval (.tmp d)) w
theorem dst_apart {ops : Array Oper} {D : List Nat} (hD : (ops.toList.filterMap (·.dst)) = D) (hnd : D.Nodup) {i j : Nat} {oi oj : Oper} {d : Nat} (hi : ops[i]? = some oi) (hj : ops[j]? = some oj) (di : oi.dst = some d) (dj : oj.dst = some d) : i = j := by
  subst hD
  rw [List.nodup_iff_pairwise_ne, List.pairwise_filterMap] at hnd
  rw [← Array.getElem?_toList] at hi hj
  obtain ⟨hi1, hi2⟩ := List.getElem?_eq_some_iff.1 hi
  obtain ⟨hj1, hj2⟩ := List.getElem?_eq_some_iff.1 hj
  rw [List.pairwise_iff_getElem] at hnd
  rcases Nat.lt_trichotomy i j with h | h | h
  · exact absurd rfl (hnd i j hi1 hj1 h d (by rw [hi2]; exact di) d (by rw [hj2]; exact dj))
  · exact h
  · exact absurd rfl (hnd j i hj1 hi1 h d (by rw [hj2]; exact dj) d (by rw [hi2]; exact di))
theorem falses_set (l : Array Bool) (i : Nat) (h : l.getD i true = false) : (l.setIfInBounds i true).toList.count false + 1 = l.toList.count false := by
  have hi : i < l.size := by
    rw [Array.getD_eq_getD_getElem?] at h
    rcases Nat.lt_or_ge i l.size with h1 | h1
    · exact h1
    · rw [Array.getElem?_eq_none h1] at h; simp at h
  have hv : l[i] = false := by
    rw [Array.getD_eq_getD_getElem?, Array.getElem?_eq_getElem hi] at h
    simpa using h
  rw [Array.toList_setIfInBounds]
  have hi' : i < l.toList.length := by simpa using hi
  have e : l.toList = l.toList.take i ++ false :: l.toList.drop (i + 1) := by
    have := List.drop_eq_getElem_cons hi'
    rw [show l.toList[i] = false by simpa using hv] at this
    rw [← this, List.take_append_drop]
  rw [List.set_eq_take_append_cons_drop, if_pos hi', e]
  have e2 : (l.toList.take i ++ false :: l.toList.drop (i + 1)).take i = l.toList.take i := by rw [← e]
  have e3 : (l.toList.take i ++ false :: l.toList.drop (i + 1)).drop (i + 1) = l.toList.drop (i + 1) := by rw [← e]
  rw [e2, e3, List.count_append, List.count_append, List.count_cons, List.count_cons]
  simp
  omega
theorem ready_none {md : Region.Mode} {ops : Array Oper} {l : Array Bool} (h : l.toList.count false = 0) : Region.ready md ops l = [] := by
  rw [List.eq_nil_iff_forall_not_mem]
  intro j hj
  have h1 := (mem_ready.1 hj).1
  rw [Array.getD_eq_getD_getElem?] at h1
  rcases Nat.lt_or_ge j l.size with h2 | h2
  · rw [Array.getElem?_eq_getElem h2] at h1
    have h3 : l[j] = false := by simpa using h1
    have : false ∈ l.toList := by rw [← h3]; exact Array.mem_toList_iff.2 (Array.getElem_mem h2)
    have := List.count_pos_iff.2 this
    omega
  · rw [Array.getElem?_eq_none h2] at h1; simp at h1
theorem getD_tf {l : Array Bool} {j : Nat} (h : l.getD j true = false) : l.getD j false = false := by
  rw [Array.getD_eq_getD_getElem?] at h ⊢
  rcases Nat.lt_or_ge j l.size with h2 | h2
  · rw [Array.getElem?_eq_getElem h2] at h ⊢; simpa using h
  · rw [Array.getElem?_eq_none h2]; rfl
theorem getD_set_ne' {l : Array Bool} {i j : Nat} (h : i ≠ j) (b c : Bool) : (l.setIfInBounds i b).getD j c = l.getD j c := by
  rw [Array.getD_eq_getD_getElem?, Array.getD_eq_getD_getElem?, Array.getElem?_setIfInBounds_ne h]
theorem ready_some {ops : Array Oper} {l : Array Bool} (hs : l.size = ops.size) (hdag : ∀ (i : Nat) (o : Oper), ops[i]? = some o → ∀ e ∈ o.after, e.on < i) : ∀ j, l.getD j true = false → Region.ready .any ops l ≠ [] := by
  intro j
  induction j using Nat.strongRecOn with
  | ind j ih =>
    intro hj hr
    have hjl : j < l.size := by
      rw [Array.getD_eq_getD_getElem?] at hj
      rcases Nat.lt_or_ge j l.size with h1 | h1
      · exact h1
      · rw [Array.getElem?_eq_none h1] at hj; simp at hj
    have ho : ops[j]? = some (ops[j]'(by omega)) := Array.getElem?_eq_getElem (by omega)
    by_cases hall : ∀ e ∈ (ops[j]'(by omega)).after, Region.binds .any e = true → l.getD e.on false = true
    · have : j ∈ Region.ready .any ops l := mem_ready.2 ⟨hj, _, ho, hall⟩
      rw [hr] at this
      simp at this
    · simp only [Classical.not_forall] at hall
      obtain ⟨e, he, hb, hl⟩ := hall
      have hlt := hdag j _ ho e he
      refine ih e.on hlt ?_ hr
      rw [Array.getD_eq_getD_getElem?, Array.getElem?_eq_getElem (by omega)] at hl ⊢
      simpa using hl
/-- A drawn region whose last operation waits for all others, and whose others make memory at most: in whatever order they come up, each finds what it waits for. -/
theorem region_inv {P : Program} {id : Nat} {Q : Exit → Act → World → Prop} {a0 : Act} {w0 : World} {lo : List Oper} (n : Nat) (V : Nat → Value → World → Prop) (D : List Nat) (hm : P.follows .mixedOrders = true)
    (hn : lo.length = n + 1) (hD : (lo.filterMap (·.dst)) = D) (hnd : D.Nodup) (hsz : ∀ d ∈ D, d < a0.tmps.size) (hdag : (lo.zipIdx.all fun x => x.1.after.all fun e => decide (e.on < x.2)) = true)
    (hlast : (lo[n]?).map (fun o => (List.range n).all fun j => o.after.any fun e => e.on == j && Region.binds .any e) = some true)
    (hV : ∀ j v w w', V j v w → Below w.heap.size w w' → V j v w')
    (hop : ∀ i o, lo[i]? = some o → i < n → ∀ a w, AtOp lo.toArray V D a0 w0.drew o a w → wpOp P lo.toArray Q i (fun a' w' => ∃ v, a' = a.put o.dst v ∧ Below w.heap.size w w' ∧ ∀ d, o.dst = some d → V i v w') a w)
    (hend : ∀ a w, Below w0.heap.size w0 w → a.tmps.size = a0.tmps.size → a.defers = a0.defers → (∀ d, d ∉ D → a.eval (.tmp d) = a0.eval (.tmp d)) → (∀ j o d, j < n → lo[j]? = some o → o.dst = some d → V j (a.eval (.tmp d)) w) → wpOp P lo.toArray Q n (fun a' w' => Q .normal a' w') a w) : (Code.region id lo.toArray true).wp P Q a0 w0 := by
  refine wp_region_any hm ?_
  have hdag' : ∀ (i : Nat) (o : Oper), lo.toArray[i]? = some o → ∀ e ∈ o.after, e.on < i := fun i o ho e he => by
    rw [List.all_eq_true] at hdag
    have ho' : lo[i]? = some o := by simpa using ho
    obtain ⟨hi, rfl⟩ := List.getElem?_eq_some_iff.1 ho'
    have := hdag (lo[i], i) (List.mem_zipIdx_iff_getElem?.2 (List.getElem?_eq_getElem hi))
    simp only [Array.all_eq_true_iff_forall_mem] at this
    simpa using this e he
  have hnd' := hnd
  have hDa : (lo.toArray.toList.filterMap (·.dst)) = D := by simpa using hD
  have inD : ∀ (i : Nat) (o : Oper) (d : Nat), lo.toArray[i]? = some o → o.dst = some d → d ∈ D := fun i o d ho hd => by
    rw [← hD, List.mem_filterMap]
    exact ⟨o, List.mem_of_getElem? (by simpa using ho), hd⟩
  have key : ∀ (f : Nat) (listed : Array Bool) (a : Act) (w : World), listed.toList.count false = f → listed.size = n + 1 → listed.getD n true = false → InvR lo.toArray V D a0 w0.drew listed a w → wpAny P .any lo.toArray Q f listed a w := by
    intro f
    induction f with
    | zero =>
      intro listed a w hc hs hln inv
      exfalso
      have : false ∈ listed.toList := by
        rw [Array.getD_eq_getD_getElem?, Array.getElem?_eq_getElem (by omega)] at hln
        have h3 : listed[n]'(by omega) = false := by simpa using hln
        rw [← h3]; exact Array.mem_toList_iff.2 (Array.getElem_mem (by omega))
      have := List.count_pos_iff.2 this
      omega
    | succ f ih =>
      intro listed a w hc hs hln inv
      refine ⟨fun hr => absurd hr (ready_some (by simpa [hn] using hs) hdag' n hln), fun i hi => ?_⟩
      obtain ⟨hiu, o, ho, hdeps⟩ := mem_ready.1 hi
      have hil : i < listed.size := by
        rw [Array.getD_eq_getD_getElem?] at hiu
        rcases Nat.lt_or_ge i listed.size with h1 | h1
        · exact h1
        · rw [Array.getElem?_eq_none h1] at hiu; simp at hiu
      have hcnt := falses_set listed i hiu
      by_cases hin : i = n
      · subst hin
        have hol : lo[i]? = some o := by simpa using ho
        have hall : ∀ j, j < i → listed.getD j false = true := fun j hj => by
          rw [hol] at hlast
          simp only [Option.map_some, Option.some.injEq, List.all_eq_true, List.mem_range] at hlast
          have := hlast j hj
          rw [Array.any_eq_true'] at this
          obtain ⟨e, he, hb⟩ := this
          simp only [Bool.and_eq_true, beq_iff_eq] at hb
          rw [← hb.1]
          exact hdeps e he hb.2
        refine wpOp_mono (fun a' w' hQ => ?_) (hend a w ((Below.refl _ _).drew.trans inv.below) inv.size inv.defers inv.other (fun j oj d hj hoj hd => inv.has j oj d (by simpa using hoj) hd (hall j hj)))
        have h0 : (listed.setIfInBounds i true).toList.count false = 0 := by
          rw [List.count_eq_zero]
          intro hmem
          obtain ⟨j, hj, hje⟩ := List.mem_iff_getElem.1 hmem
          rw [Array.getElem_toList] at hje
          have hj' : j < listed.size := by simpa using hj
          by_cases hji : i = j
          · subst hji
            rw [Array.getElem_setIfInBounds_self] at hje
            simp at hje
          · rw [Array.getElem_setIfInBounds_ne hj' hji] at hje
            have := hall j (by omega)
            rw [Array.getD_eq_getD_getElem?, Array.getElem?_eq_getElem hj'] at this
            simp [hje] at this
        obtain rfl : f = 0 := by omega
        exact ⟨ready_none h0, hQ⟩
      · have hlt : i < n := by omega
        have hol : lo[i]? = some o := by simpa using ho
        refine wpOp_mono (fun a' w' hK => ?_) (hop i o hol hlt a w ⟨inv.below, inv.size, inv.defers, inv.other, fun e he hb oj d hoj hd => inv.has e.on oj d hoj hd (hdeps e he hb)⟩)
        obtain ⟨v, rfl, hbw, hv⟩ := hK
        refine ih _ _ _ (by omega) (by simpa using hs) (by rw [getD_set_ne' hin]; exact hln) ⟨inv.below.trans (hbw.mono inv.below.size), by rw [size_put]; exact inv.size, ?_, fun d hd => ?_, fun j oj d hoj hd hlj => ?_⟩
        · have : (a.put o.dst v).defers = a.defers := by cases o.dst <;> rfl
          rw [this]; exact inv.defers
        · cases hdo : o.dst with
          | none => exact inv.other d hd
          | some k =>
            rw [eval_put _ _ _ _ (by rw [inv.size]; exact hsz k (inD i o k ho hdo)), if_neg (fun h : d = k => hd (by rw [h]; exact inD i o k ho hdo))]
            exact inv.other d hd
        · by_cases hji : j = i
          · subst hji
            obtain rfl : oj = o := Option.some.inj (hoj.symm.trans ho)
            rw [hd, eval_put _ _ _ _ (by rw [inv.size]; exact hsz d (inD j oj d ho hd)), if_pos rfl]
            exact hv d hd
          · rw [getD_set_ne' (Ne.symm hji)] at hlj
            have h1 := hV _ _ _ _ (inv.has j oj d hoj hd hlj) hbw
            cases hdo : o.dst with
            | none => exact h1
            | some k =>
              have hkd : ¬ d = k := fun h => hji (dst_apart hDa hnd' hoj ho hd (by rw [h]; exact hdo))
              rw [eval_put _ _ _ _ (by rw [inv.size]; exact hsz k (inD i o k ho hdo)), if_neg hkd]
              exact h1
  have hrep : (Array.replicate lo.toArray.size false).toList.count false = lo.toArray.size := by simp
  refine key _ _ _ _ hrep (by simp [hn]) ?_ ⟨Below.refl _ _, rfl, rfl, fun _ _ => rfl, fun j o d _ _ hl => ?_⟩
  · rw [Array.getD_eq_getD_getElem?, Array.getElem?_eq_getElem (by simp [hn])]
    simp
  · exfalso
    rw [Array.getD_eq_getD_getElem?] at hl
    rcases Nat.lt_or_ge j (Array.replicate lo.toArray.size false).size with h1 | h1
    · rw [Array.getElem?_eq_getElem h1] at hl; simp at hl
    · rw [Array.getElem?_eq_none h1] at hl; simp at hl
/-! Steps of such a region. -/
theorem iv_val {ops : Array Oper} {Q : Exit → Act → World → Prop} {V : Nat → Value → World → Prop} {i : Nat} {o : Oper} {a : Act} {w : World} (hi : ops[i]? = some o) (hw : Region.wanted o (yielded ops a.tmps) = true) (v : Value)
    (hx : (execOp a.eval o).run Tryz.prog w = .ok (.value v) w) (hv : V i v w) : wpOp Tryz.prog ops Q i (fun a' w' => ∃ v, a' = a.put o.dst v ∧ Below w.heap.size w w' ∧ ∀ d, o.dst = some d → V i v w') a w :=
  wpOp_val hi hw v hx o.dst rfl ⟨v, rfl, Below.refl _ _, fun _ _ => hv⟩
theorem iv_not {ops : Array Oper} {Q : Exit → Act → World → Prop} {V : Nat → Value → World → Prop} {i : Nat} {o : Oper} {a : Act} {w : World} (hi : ops[i]? = some o) (hw : Region.wanted o (yielded ops a.tmps) = false) (hv : V i undef w) :
    wpOp Tryz.prog ops Q i (fun a' w' => ∃ v, a' = a.put o.dst v ∧ Below w.heap.size w w' ∧ ∀ d, o.dst = some d → V i v w') a w := by
  unfold Go.wpOp
  simp only [hi, hw]
  exact ⟨undef, rfl, Below.refl _ _, fun _ _ => hv⟩
theorem iv_call {ops : Array Oper} {Q : Exit → Act → World → Prop} {V : Nat → Value → World → Prop} {i : Nat} {o : Oper} {a : Act} {w : World} (hi : ops[i]? = some o) (hw : Region.wanted o (yielded ops a.tmps) = true) (f : FuncId) (vs : Array Value)
    (hf : (execOp a.eval o).run Tryz.prog w = .ok (.enter f vs) w) (h : Calls Tryz.prog f vs w fun e w' => ∃ v, e = .returned v ∧ Below w.heap.size w w' ∧ V i v w') : wpOp Tryz.prog ops Q i (fun a' w' => ∃ v, a' = a.put o.dst v ∧ Below w.heap.size w w' ∧ ∀ d, o.dst = some d → V i v w') a w :=
  wpOp_callQ hi hw f vs hf _ h o.dst rfl (fun v w' hD => by
    obtain ⟨u, hu, hb, hv⟩ := hD
    obtain rfl : v = u := by simpa using hu
    exact ⟨v, rfl, hb, fun _ _ => hv⟩) (fun ch w' hD => by obtain ⟨u, hu, _⟩ := hD; cases hu) (fun w' hD => by obtain ⟨u, hu, _⟩ := hD; cases hu)
theorem iv_list {ops : Array Oper} {Q : Exit → Act → World → Prop} {V : Nat → Value → World → Prop} {i : Nat} {o : Oper} {a : Act} {w : World} (hi : ops[i]? = some o)
    (h : wpList Tryz.prog ops (fun e a' w' => match e with | .normal => (∃ v, a' = a.put o.dst v ∧ Below w.heap.size w w' ∧ ∀ d, o.dst = some d → V i v w') | e => Q e a' w') [o] a w) : wpOp Tryz.prog ops Q i (fun a' w' => ∃ v, a' = a.put o.dst v ∧ Below w.heap.size w w' ∧ ∀ d, o.dst = some d → V i v w') a w :=
  wpOp_of_list hi h
theorem run_callOps {o : Oper} {f : Nat} {xs : Array Operand} {ts : Array TypeId} (ho : o.op = .call { callee := .value (.func f), args := xs, argTypes := ts }) (hf : ∀ vs W, (callFunc f vs).run Tryz.prog W = .ok (.enter f vs) W) (a : Act) (W : World) (vs : Array Value) (h : xs.map a.eval = vs) : (execOp a.eval o).run Tryz.prog W = .ok (.enter f vs) W := by
  unfold execOp
  have hef : a.eval (.func f) = .func (.func f) #[] #[] := rfl
  simp only [ho, resolve, hef, h]
  simp [go_sem, hf]
theorem run_pickOp {o : Oper} {x y z : Operand} (ho : o.op = .pick x y z) (a : Act) (W : World) (b : Bool) (hb : a.eval x = .bool b) (v : Value) (hv : (if b then a.eval y else a.eval z) = v) : (execOp a.eval o).run Tryz.prog W = .ok (.value v) W := by
  unfold execOp
  simp only [ho, hb, ← hv]
  cases b <;> simp [go_sem]
theorem iv_alloc {E : El} (H : E.Ok) {ops : Array Oper} {Q : Exit → Act → World → Prop} {V : Nat → Value → World → Prop} {i : Nat} {o : Oper} {a : Act} {w : World} (hi : ops[i]? = some o) (hw : Region.wanted o (yielded ops a.tmps) = true) (ho : o.op = .alloc E.elem)
    (hv : V i (.pointer (some ⟨w.heap.size, 0, none⟩)) (w.alloc (.cells E.zero E.elem))) : wpOp Tryz.prog ops Q i (fun a' w' => ∃ v, a' = a.put o.dst v ∧ Below w.heap.size w w' ∧ ∀ d, o.dst = some d → V i v w') a w := by
  obtain ⟨ie, h1, h2, _, _⟩ := H.info
  have hx : (execOp a.eval o).run Tryz.prog w = .ok (.value (.pointer (some ⟨w.heap.size, 0, none⟩))) (w.alloc (.cells E.zero E.elem)) := by
    unfold execOp
    simp only [ho]
    simp [go_sem, Instr.alloc, zeroValue, typeInfo, h1, h2, Value.cells]
  exact wpOp_val hi hw _ hx o.dst rfl ⟨_, rfl, (Below.refl _ _).alloc (Nat.le_refl _) _, fun _ _ => hv⟩
/-- The frame behind such a region: the slots that it wrote, one by one. -/
def putsD (D : List Nat) (y : Nat → Value) (a : Act) : Act := D.foldl (fun b d => b.put (some d) (y d)) a
theorem putsD_size (y : Nat → Value) : ∀ (D : List Nat) (a : Act), (putsD D y a).tmps.size = a.tmps.size ∧ (putsD D y a).defers = a.defers
  | [], a => ⟨rfl, rfl⟩
  | d :: D, a => by
    have := putsD_size y D (a.put (some d) (y d))
    exact ⟨this.1.trans (size_put _ _ _), this.2.trans rfl⟩
theorem putsD_eval (y : Nat → Value) : ∀ (D : List Nat) (a : Act), (∀ d ∈ D, d < a.tmps.size) → ∀ k, (putsD D y a).eval (.tmp k) = if k ∈ D then y k else a.eval (.tmp k)
  | [], a, _, k => by simp [putsD]
  | d :: D, a, h, k => by
    show (putsD D y (a.put (some d) (y d))).eval (.tmp k) = _
    rw [putsD_eval y D _ (fun e he => by rw [size_put]; exact h e (by simp [he])) k]
    by_cases hk : k ∈ D
    · rw [if_pos hk, if_pos (by simp [hk])]
    · rw [if_neg hk, eval_put _ _ _ _ (h d (by simp))]
      by_cases hkd : k = d
      · rw [if_pos hkd, if_pos (by simp [hkd]), hkd]
      · rw [if_neg hkd, if_neg (by simp [hk, hkd])]
theorem act_ext {a b : Act} (hs : a.tmps.size = b.tmps.size) (hd : a.defers = b.defers) (he : ∀ k, a.eval (.tmp k) = b.eval (.tmp k)) : a = b := by
  obtain ⟨ta, da⟩ := a
  obtain ⟨tb, db⟩ := b
  simp only at hs hd
  subst hd
  congr 1
  refine Array.ext hs fun k h1 h2 => ?_
  have := he k
  simp only [Act.eval, Array.getD_eq_getD_getElem?] at this
  rw [Array.getElem?_eq_getElem h1, Array.getElem?_eq_getElem h2] at this
  simpa using this
theorem puts_form {D : List Nat} {a a0 : Act} (hs : a.tmps.size = a0.tmps.size) (hd : a.defers = a0.defers) (ho : ∀ d, d ∉ D → a.eval (.tmp d) = a0.eval (.tmp d)) (hD : ∀ d ∈ D, d < a0.tmps.size) : a = putsD D (fun d => a.eval (.tmp d)) a0 := by
  obtain ⟨h1, h2⟩ := putsD_size (fun d => a.eval (.tmp d)) D a0
  refine act_ext (hs.trans h1.symm) (hd.trans h2.symm) fun k => ?_
  rw [putsD_eval _ _ _ hD]
  split
  · rfl
  · rename_i h; exact ho k h
end Go.Proofs.YtnbklmmampdbfaaGreatDoor
namespace Go.Proofs.YtnbklmmampdbfaaGreatDoor
open Go Go.RowKit
set_option maxRecDepth 20000

def chk6_ops : List Oper := [
  { dst := some 19, op := .move (.tmp 9), type := 3, pos := "sense.go:25", after := #[], guard := none },
  { dst := some 20, op := .binOp .geq 3 (.tmp 19) (.const (.int .i64 64)) 3, type := 4, pos := "sense.go:25", after := #[{ on := 0, ground := .data }], guard := none },
  { dst := some 21, op := .fieldAddr 92 (.tmp 10) 0, type := 0, pos := "sense.go:25", after := #[], guard := none },
  { dst := some 22, op := .load 3 (.tmp 21), type := 3, pos := "sense.go:25", after := #[{ on := 2, ground := .data }], guard := none },
  { dst := some 23, op := .call { callee := .value (.func 46), args := #[.tmp 20, .const (.int .i64 4), .tmp 22], argTypes := #[4, 25, 3] }, type := 94, pos := "sense.go:26", after := #[{ on := 1, ground := .data }, { on := 3, ground := .data }], guard := none },
  { dst := some 24, op := .move (.tmp 8), type := 4, pos := "sense.go:25", after := #[], guard := none },
  { dst := some 25, op := .move (.tmp 24), type := 4, pos := "sense.go:25", after := #[{ on := 5, ground := .data }, { on := 4, ground := .chain }], guard := none },
  { dst := some 26, op := .fieldAddr 92 (.tmp 10) 1, type := 0, pos := "sense.go:25", after := #[{ on := 6, ground := .guard }], guard := some (6, true) },
  { dst := some 27, op := .load 4 (.tmp 26), type := 4, pos := "sense.go:25", after := #[{ on := 7, ground := .data }, { on := 6, ground := .guard }], guard := some (6, true) },
  { dst := some 28, op := .pick (.tmp 25) (.tmp 27) (.const (.bool false)), type := 4, pos := "sense.go:25", after := #[{ on := 6, ground := .data }, { on := 8, ground := .data }], guard := none },
  { dst := some 29, op := .fieldAddr 92 (.tmp 10) 0, type := 0, pos := "sense.go:25", after := #[], guard := none },
  { dst := some 30, op := .load 3 (.tmp 29), type := 3, pos := "sense.go:25", after := #[{ on := 10, ground := .data }], guard := none },
  { dst := some 31, op := .call { callee := .value (.func 46), args := #[.tmp 28, .const (.int .i64 9), .tmp 30], argTypes := #[4, 25, 3] }, type := 94, pos := "sense.go:27", after := #[{ on := 9, ground := .data }, { on := 11, ground := .data }, { on := 6, ground := .chain }], guard := none },
  { dst := some 32, op := .load 92 (.tmp 10), type := 92, pos := "sense.go:25", after := #[], guard := none },
  { dst := some 33, op := .call { callee := .value (.func 47), args := #[.tmp 32], argTypes := #[92] }, type := 94, pos := "sense.go:28", after := #[{ on := 13, ground := .data }, { on := 12, ground := .chain }], guard := none },
  { dst := some 34, op := .load 92 (.tmp 10), type := 92, pos := "sense.go:25", after := #[], guard := none },
  { dst := some 35, op := .call { callee := .value (.func 48), args := #[.tmp 34], argTypes := #[92] }, type := 94, pos := "sense.go:29", after := #[{ on := 15, ground := .data }, { on := 14, ground := .chain }], guard := none },
  { dst := some 36, op := .buildSlice 124 4 #[(0, .tmp 23), (1, .tmp 31), (2, .tmp 33), (3, .tmp 35)], type := 124, pos := "sense.go:25", after := #[{ on := 4, ground := .data }, { on := 12, ground := .data }, { on := 14, ground := .data }, { on := 16, ground := .data }], guard := none },
  { dst := some 37, op := .call { callee := .value (.func 45), args := #[.tmp 36], argTypes := #[124] }, type := 94, pos := "sense.go:25", after := #[{ on := 17, ground := .data }, { on := 16, ground := .chain }], guard := none },
  { dst := some 11, op := .alloc 94, type := 0, pos := "sense.go:25", after := #[], guard := none },
  { dst := none, op := .store 94 (.tmp 11) (.tmp 37), type := 0, pos := "sense.go:25", after := #[{ on := 19, ground := .data }, { on := 18, ground := .data }, { on := 18, ground := .chain }, { on := 0, ground := .phase }, { on := 1, ground := .phase }, { on := 2, ground := .phase }, { on := 3, ground := .phase }, { on := 4, ground := .phase }, { on := 5, ground := .phase }, { on := 6, ground := .phase }, { on := 7, ground := .phase }, { on := 8, ground := .phase }, { on := 9, ground := .phase }, { on := 10, ground := .phase }, { on := 11, ground := .phase }, { on := 12, ground := .phase }, { on := 13, ground := .phase }, { on := 14, ground := .phase }, { on := 15, ground := .phase }, { on := 16, ground := .phase }, { on := 17, ground := .phase }, { on := 18, ground := .phase }, { on := 19, ground := .phase }], guard := none }]
def chk6_D : List Nat := [19, 20, 21, 22, 23, 24, 25, 26, 27, 28, 29, 30, 31, 32, 33, 34, 35, 36, 37, 11]
/-- What each operation comes to. -/
def chk6_V (k p B : Nat) (had : Bool) (r : Raw) (u : Value) (i : Nat) (v : Value) (w : World) : Prop :=
  match i with
  | 0 => v = .int .i64 (k : Int)
  | 1 => v = .bool (decide (64 ≤ k))
  | 2 => v = .pointer (some ⟨p, 0, none⟩)
  | 3 => v = .int .i64 r.pos
  | 4 => v = .agg (fltV (whenF (decide (64 ≤ k)) 4 r.pos))
  | 5 => v = .bool had
  | 6 => v = .bool had
  | 7 => had = true → v = .pointer (some ⟨p, 1, none⟩)
  | 8 => had = true → v = .bool r.dflt
  | 9 => v = .bool (had && r.dflt)
  | 10 => v = .pointer (some ⟨p, 0, none⟩)
  | 11 => v = .int .i64 r.pos
  | 12 => v = .agg (fltV (whenF (had && r.dflt) 9 r.pos))
  | 13 => v = .agg (rawV r u)
  | 14 => v = .agg (fltV (lineF r))
  | 15 => v = .agg (rawV r u)
  | 16 => v = .agg (fltV (actF r))
  | 17 => GSl FltE fltV w v [whenF (decide (64 ≤ k)) 4 r.pos, whenF (had && r.dflt) 9 r.pos, lineF r, actF r]
  | 18 => v = .agg (fltV (rowF k had r))
  | 19 => ∃ g, v = .pointer (some ⟨g, 0, none⟩) ∧ B ≤ g ∧ w.heap[g]? = some (.cells FltE.zero FltE.elem (0, 0))
  | _ => True
theorem chk6_mono (k p B : Nat) (had : Bool) (r : Raw) (u : Value) : ∀ j v w w', chk6_V k p B had r u j v w → Below w.heap.size w w' → chk6_V k p B had r u j v w' := by
  intro j v w w' h hb
  revert h
  unfold chk6_V
  split <;> intro h <;> first
    | exact h
    | exact GSl.below h hb
    | (obtain ⟨g, h1, h2, h3⟩ := h
       exact ⟨g, h1, h2, (hb.block g (Array.getElem?_eq_some_iff.1 h3).1).trans h3⟩)
theorem rowF_four (k : Nat) (had : Bool) (r : Raw) : firstF [whenF (decide (64 ≤ k)) 4 r.pos, whenF (had && r.dflt) 9 r.pos, lineF r, actF r] = rowF k had r := by
  unfold rowF orF whenF
  simp only [firstF]
  by_cases h : 64 ≤ k <;> simp [h]
theorem run_binOp {o : Oper} {op : BinOp} {t z : Nat} {x y : Operand} (ho : o.op = .binOp op t x y z) (a : Act) (W : World) (vx vy : Value) (hx : a.eval x = vx) (hy : a.eval y = vy) (v : Value) (hg : (eqGuard op t x y vx vy).run Tryz.prog W = .ok () W) (h : (binOp op t vx vy).run Tryz.prog W = .ok v W) : (execOp a.eval o).run Tryz.prog W = .ok (.value v) W := by
  unfold execOp
  simp only [ho, Sem.run_bind, hx, hy, hg, h, Result.andThen_ok, Sem.run_pure]
theorem load_raw (W : World) (p : Nat) (r : Raw) (u : Value) (h : W.heap[p]? = some (.cells (rawV r u) 92 (0, 0))) : (Instr.loadAt 92 (.pointer (some ⟨p, 0, none⟩))).run Tryz.prog W = .ok (.agg (rawV r u)) W := by
  simp only [Instr.loadAt, Instr.sureAddr, Sem.run_bind, Sem.run_pure, Result.andThen_ok]
  exact RawOk.load W p 0 _ _ _ (rawV r u) rfl h (own_cells _ _)
theorem load_int (W : World) (ad : Addr) (n : Int) (h : W.cell? ad = some (.int .i64 n)) : (Instr.loadAt 3 (.pointer (some ad))).run Tryz.prog W = .ok (.int .i64 n) W := by
  simp [go_sem, h]
theorem load_bool (W : World) (ad : Addr) (b : Bool) (h : W.cell? ad = some (.bool b)) : (Instr.loadAt 4 (.pointer (some ad))).run Tryz.prog W = .ok (.bool b) W := by
  simp [go_sem, h]

theorem yielded6 (a : Act) (b : Bool) (h : a.eval (.tmp 25) = .bool b) (hs : 25 < a.tmps.size) : yielded chk6_ops.toArray a.tmps 6 = some b := by
  have h' : a.tmps[25]? = some (.bool b) := by
    simp only [Act.eval, Array.getD_eq_getD_getElem?, Array.getElem?_eq_getElem hs, Option.getD_some] at h
    rw [Array.getElem?_eq_getElem hs, h]
  unfold yielded
  have e : ((chk6_ops.toArray[6]?).bind (·.dst)) = some 25 := rfl
  rw [e]
  simp only [Option.bind_some, h']
set_option maxHeartbeats 4000000 in
theorem chk6_region {id : Nat} {Q : Exit → Act → World → Prop} {a0 : Act} {w0 : World} (hs : 60 ≤ a0.tmps.size) (k p : Nat) (had : Bool) (r : Raw) (u : Value) (h8 : a0.eval (.tmp 8) = .bool had) (h9 : a0.eval (.tmp 9) = .int .i64 (k : Int)) (h10 : a0.eval (.tmp 10) = .pointer (some ⟨p, 0, none⟩))
    (hp : w0.heap[p]? = some (.cells (rawV r u) 92 (0, 0))) (hu : ClasAt w0 r u)
    (hK : ∀ y w' g, y 11 = .pointer (some ⟨g, 0, none⟩) → w0.heap.size ≤ g → Below w0.heap.size w0 w' → w'.heap[g]? = some (.cells (fltV (rowF k had r)) 94 (0, 0)) → Q .normal (putsD chk6_D y a0) w') : (Code.region id chk6_ops.toArray true).wp Tryz.prog Q a0 w0 := by
  have hDs : ∀ d ∈ chk6_D, d < a0.tmps.size := fun d hd => by
    have : d < 60 := by
      revert hd; unfold chk6_D; intro hd
      simp only [List.mem_cons, List.not_mem_nil, or_false] at hd
      omega
    omega
  have hul : ∃ o n m, u = .slice o n m := by obtain ⟨o, cap, rfl, _⟩ := NSl.slice hu; exact ⟨_, _, _, rfl⟩
  refine region_inv 20 (chk6_V k p w0.heap.size had r u) chk6_D (by kernel_rfl) rfl (by kernel_rfl) (by decide) hDs (by kernel_rfl) (by kernel_rfl) (chk6_mono k p w0.heap.size had r u) ?_ ?_
  · intro i o ho hi a w h
    have B : Below w0.heap.size w0 w := (Below.refl _ _).drew.trans h.below
    have e8 : a.eval (.tmp 8) = .bool had := (h.other 8 (by decide)).trans h8
    have e9 : a.eval (.tmp 9) = .int .i64 (k : Int) := (h.other 9 (by decide)).trans h9
    have e10 : a.eval (.tmp 10) = .pointer (some ⟨p, 0, none⟩) := (h.other 10 (by decide)).trans h10
    have bp : w.heap[p]? = some (.cells (rawV r u) 92 (0, 0)) := (B.block p (Array.getElem?_eq_some_iff.1 hp).1).trans hp
    have c := raw_f bp
    have fa : ∀ j, j < 2 → (Instr.fieldAt 92 (.pointer (some ⟨p, 0, none⟩)) j).run Tryz.prog w = .ok (.pointer (some ⟨p, j, none⟩)) w := fun j hj => by
      rcases (show j = 0 ∨ j = 1 by omega) with rfl | rfl <;> simp [go_sem]
    have cw : ∀ vs W, (callFunc 46 vs).run Tryz.prog W = .ok (.enter 46 vs) W := fun vs W => by have hf := Tryz.func46; simp [go_sem]
    have cr : ∀ vs W, (callFunc 47 vs).run Tryz.prog W = .ok (.enter 47 vs) W := fun vs W => by have hf := Tryz.func47; simp [go_sem]
    have ca : ∀ vs W, (callFunc 48 vs).run Tryz.prog W = .ok (.enter 48 vs) W := fun vs W => by have hf := Tryz.func48; simp [go_sem]
    have cf : ∀ vs W, (callFunc 45 vs).run Tryz.prog W = .ok (.enter 45 vs) W := fun vs W => by have hf := Tryz.func45; simp [go_sem]
    rcases (show i = 0 ∨ i = 1 ∨ i = 2 ∨ i = 3 ∨ i = 4 ∨ i = 5 ∨ i = 6 ∨ i = 7 ∨ i = 8 ∨ i = 9 ∨ i = 10 ∨ i = 11 ∨ i = 12 ∨ i = 13 ∨ i = 14 ∨ i = 15 ∨ i = 16 ∨ i = 17 ∨ i = 18 ∨ i = 19 by omega) with rfl | rfl | rfl | rfl | rfl | rfl | rfl | rfl | rfl | rfl | rfl | rfl | rfl | rfl | rfl | rfl | rfl | rfl | rfl | rfl
    · obtain rfl := Option.some.inj ho
      exact iv_val rfl rfl _ (run_moveOp rfl _ _ _ e9) rfl
    · obtain rfl := Option.some.inj ho
      have f0 : a.eval (.tmp 19) = .int .i64 (k : Int) := h.has ⟨0, .data⟩ (by simp) rfl _ 19 rfl rfl
      refine iv_val rfl rfl (.bool (decide (64 ≤ k))) (run_binOp rfl _ _ _ _ f0 rfl _ (by simp [go_sem]) ?_) rfl
      simp [go_sem]
      omega
    · obtain rfl := Option.some.inj ho
      exact iv_val rfl rfl _ (run_fieldOp rfl _ _ _ ((congrArg (fun y => (Instr.fieldAt 92 y 0).run Tryz.prog w) e10).trans (fa 0 (by decide)))) rfl
    · obtain rfl := Option.some.inj ho
      have f2 : a.eval (.tmp 21) = .pointer (some ⟨p, 0, none⟩) := h.has ⟨2, .data⟩ (by simp) rfl _ 21 rfl rfl
      exact iv_val rfl rfl _ (run_loadOp rfl _ _ _ _ f2 (load_int _ _ _ c.1)) rfl
    · obtain rfl := Option.some.inj ho
      have f1 : a.eval (.tmp 20) = .bool (decide (64 ≤ k)) := h.has ⟨1, .data⟩ (by simp) rfl _ 20 rfl rfl
      have f3 : a.eval (.tmp 22) = .int .i64 r.pos := h.has ⟨3, .data⟩ (by simp) rfl _ 22 rfl rfl
      exact iv_call rfl rfl 46 #[.bool (decide (64 ≤ k)), .int .i64 4, .int .i64 r.pos] (run_callOps rfl cw _ _ _ (by simp only [List.map_toArray, List.map_cons, List.map_nil, f1, f3]; rfl)) ((whenF_any _ _ _ w).mono fun e w' h => ⟨_, h.1, h.2, rfl⟩)
    · obtain rfl := Option.some.inj ho
      exact iv_val rfl rfl _ (run_moveOp rfl _ _ _ e8) rfl
    · obtain rfl := Option.some.inj ho
      have f5 : a.eval (.tmp 24) = .bool had := h.has ⟨5, .data⟩ (by simp) rfl _ 24 rfl rfl
      exact iv_val rfl rfl _ (run_moveOp rfl _ _ _ f5) rfl
    · obtain rfl := Option.some.inj ho
      have f6 : a.eval (.tmp 25) = .bool had := h.has ⟨6, .guard⟩ (by simp) rfl _ 25 rfl rfl
      have hy := yielded6 a had f6 (by rw [h.size]; omega)
      cases had with
      | true => exact iv_val rfl (by unfold Region.wanted; simp only [hy]; rfl) _ (run_fieldOp rfl _ _ _ ((congrArg (fun y => (Instr.fieldAt 92 y 1).run Tryz.prog w) e10).trans (fa 1 (by decide)))) (fun _ => rfl)
      | false => exact iv_not rfl (by unfold Region.wanted; simp only [hy]; rfl) (fun hh => by cases hh)
    · obtain rfl := Option.some.inj ho
      have f6 : a.eval (.tmp 25) = .bool had := h.has ⟨6, .guard⟩ (by simp) rfl _ 25 rfl rfl
      have f7 : had = true → a.eval (.tmp 26) = .pointer (some ⟨p, 1, none⟩) := h.has ⟨7, .data⟩ (by simp) rfl _ 26 rfl rfl
      have hy := yielded6 a had f6 (by rw [h.size]; omega)
      cases had with
      | true => exact iv_val rfl (by unfold Region.wanted; simp only [hy]; rfl) _ (run_loadOp rfl _ _ _ _ (f7 rfl) (load_bool _ _ _ c.2.1)) (fun _ => rfl)
      | false => exact iv_not rfl (by unfold Region.wanted; simp only [hy]; rfl) (fun hh => by cases hh)
    · obtain rfl := Option.some.inj ho
      have f6 : a.eval (.tmp 25) = .bool had := h.has ⟨6, .data⟩ (by simp) rfl _ 25 rfl rfl
      have f8 : had = true → a.eval (.tmp 27) = .bool r.dflt := h.has ⟨8, .data⟩ (by simp) rfl _ 27 rfl rfl
      refine iv_val rfl rfl (.bool (had && r.dflt)) (run_pickOp rfl _ _ had f6 _ ?_) rfl
      cases had with
      | true => exact f8 rfl
      | false => rfl
    · obtain rfl := Option.some.inj ho
      exact iv_val rfl rfl _ (run_fieldOp rfl _ _ _ ((congrArg (fun y => (Instr.fieldAt 92 y 0).run Tryz.prog w) e10).trans (fa 0 (by decide)))) rfl
    · obtain rfl := Option.some.inj ho
      have f2 : a.eval (.tmp 29) = .pointer (some ⟨p, 0, none⟩) := h.has ⟨10, .data⟩ (by simp) rfl _ 29 rfl rfl
      exact iv_val rfl rfl _ (run_loadOp rfl _ _ _ _ f2 (load_int _ _ _ c.1)) rfl
    · obtain rfl := Option.some.inj ho
      have f1 : a.eval (.tmp 28) = .bool (had && r.dflt) := h.has ⟨9, .data⟩ (by simp) rfl _ 28 rfl rfl
      have f3 : a.eval (.tmp 30) = .int .i64 r.pos := h.has ⟨11, .data⟩ (by simp) rfl _ 30 rfl rfl
      exact iv_call rfl rfl 46 #[.bool (had && r.dflt), .int .i64 9, .int .i64 r.pos] (run_callOps rfl cw _ _ _ (by simp only [List.map_toArray, List.map_cons, List.map_nil, f1, f3]; rfl)) ((whenF_any _ _ _ w).mono fun e w' h => ⟨_, h.1, h.2, rfl⟩)
    · obtain rfl := Option.some.inj ho
      exact iv_val rfl rfl _ (run_loadOp rfl _ _ _ _ e10 (load_raw _ _ _ _ bp)) rfl
    · obtain rfl := Option.some.inj ho
      have f1 : a.eval (.tmp 32) = .agg (rawV r u) := h.has ⟨13, .data⟩ (by simp) rfl _ 32 rfl rfl
      exact iv_call rfl rfl 47 #[.agg (rawV r u)] (run_callOps rfl cr _ _ _ (by simp [f1])) ((ruleF_any r u w (clas_below _ _ _ _ B hu)).mono fun e w' h => ⟨_, h.1, h.2, rfl⟩)
    · obtain rfl := Option.some.inj ho
      exact iv_val rfl rfl _ (run_loadOp rfl _ _ _ _ e10 (load_raw _ _ _ _ bp)) rfl
    · obtain rfl := Option.some.inj ho
      have f1 : a.eval (.tmp 34) = .agg (rawV r u) := h.has ⟨15, .data⟩ (by simp) rfl _ 34 rfl rfl
      exact iv_call rfl rfl 48 #[.agg (rawV r u)] (run_callOps rfl ca _ _ _ (by simp [f1])) ((actionF_any r u hul w).mono fun e w' h => ⟨_, h.1, h.2, rfl⟩)
    · obtain rfl := Option.some.inj ho
      have f1 : a.eval (.tmp 23) = .agg (fltV (whenF (decide (64 ≤ k)) 4 r.pos)) := h.has ⟨4, .data⟩ (by simp) rfl _ 23 rfl rfl
      have f2 : a.eval (.tmp 31) = .agg (fltV (whenF (had && r.dflt) 9 r.pos)) := h.has ⟨12, .data⟩ (by simp) rfl _ 31 rfl rfl
      have f3 : a.eval (.tmp 33) = .agg (fltV (lineF r)) := h.has ⟨14, .data⟩ (by simp) rfl _ 33 rfl rfl
      have f4 : a.eval (.tmp 35) = .agg (fltV (actF r)) := h.has ⟨16, .data⟩ (by simp) rfl _ 35 rfl rfl
      refine iv_list rfl ?_
      refine wl_build4F rfl _ _ _ _ rfl _ _ _ _ f1 f2 f3 f4 ?_
      exact ⟨_, rfl, (Below.refl _ _).alloc (Nat.le_refl _) _, fun _ _ => gsl_row (E := FltE) (C := [whenF (decide (64 ≤ k)) 4 r.pos, whenF (had && r.dflt) 9 r.pos, lineF r, actF r]) (fun _ => rfl) (heap_new _ _ _ rfl) (by show 4 ≤ _; decide)⟩
    · obtain rfl := Option.some.inj ho
      have f1 : GSl FltE fltV w (a.eval (.tmp 36)) [whenF (decide (64 ≤ k)) 4 r.pos, whenF (had && r.dflt) 9 r.pos, lineF r, actF r] := h.has ⟨17, .data⟩ (by simp) rfl _ 36 rfl rfl
      refine iv_call rfl rfl 45 #[a.eval (.tmp 36)] (run_callOps rfl cf _ _ _ (by simp)) ((first7_any _ _ w f1).mono fun e w' h => ⟨_, h.1, h.2, ?_⟩)
      show _ = _
      rw [rowF_four]
    · obtain rfl := Option.some.inj ho
      exact iv_alloc FltOk rfl rfl rfl ⟨_, rfl, B.size, heap_new _ _ _ rfl⟩
  · intro a w hb hsz hdf hot hh
    obtain ⟨g, f1, hg, hz⟩ : ∃ g, a.eval (.tmp 11) = .pointer (some ⟨g, 0, none⟩) ∧ w0.heap.size ≤ g ∧ w.heap[g]? = some (.cells FltE.zero FltE.elem (0, 0)) := hh 19 _ 11 (by decide) rfl rfl
    have f2 : a.eval (.tmp 37) = .agg (fltV (rowF k had r)) := hh 18 _ 37 (by decide) rfl rfl
    refine wpOp_of_list rfl ?_
    refine wl_storeE (E := FltE) FltOk rfl _ _ rfl g (fltV (rowF k had r)) (flt_fits _) f1 f2 _ hz rfl _ rfl ?_
    show Q .normal a _
    rw [puts_form hsz hdf hot hDs]
    exact hK _ _ g f1 hg (below_setRow hb hg _) (setRow_heap _ _ _ _ _ _ hz)
end Go.Proofs.YtnbklmmampdbfaaGreatDoor
namespace Go.Proofs.YtnbklmmampdbfaaGreatDoor
open Go Go.RowKit
set_option maxRecDepth 20000

/-- An entry as it lies in memory. -/
def entV (x : Ent) : Array Value := #[.bool x.dflt, .int .i64 x.prio, .int .u32 x.src, .int .i64 x.srcBits, .int .u32 x.dst, .int .i64 x.dstBits, .int .i64 x.slow, .int .i64 x.shigh, .int .i64 x.dlow, .int .i64 x.dhigh, .int .i64 x.proto, .int .i64 x.action]
def EntE : El := ⟨35, 22, 12, 96, #[.bool false, .int .i64 0, .int .u32 0, .int .i64 0, .int .u32 0, .int .i64 0, .int .i64 0, .int .i64 0, .int .i64 0, .int .i64 0, .int .i64 0, .int .i64 0]⟩
theorem EntOk : EntE.Ok := ⟨Tryz.underlying22, ⟨_, Tryz.underlying35, rfl⟩, by kernel_rfl, rfl, by decide, by decide, by decide⟩
theorem ent_fits (x : Ent) : Fits EntE (entV x) := ⟨rfl, by simp [entV, Value.oneCell']⟩

def mean3_ops : List Oper := [
  { dst := some 11, op := .fieldAddr 92 (.tmp 1) 2, type := 0, pos := "sense.go:57", after := #[], guard := none },
  { dst := some 12, op := .fieldAddr 89 (.tmp 11) 0, type := 0, pos := "sense.go:57", after := #[{ on := 0, ground := .data }], guard := none },
  { dst := some 13, op := .load 3 (.tmp 12), type := 3, pos := "sense.go:57", after := #[{ on := 1, ground := .data }], guard := none },
  { dst := some 14, op := .load 92 (.tmp 1), type := 92, pos := "sense.go:57", after := #[], guard := none },
  { dst := some 15, op := .call { callee := .value (.func 75), args := #[.tmp 14], argTypes := #[92] }, type := 3, pos := "sense.go:57", after := #[{ on := 3, ground := .data }], guard := none },
  { dst := some 16, op := .build 35 #[(1, .tmp 13), (7, .const (.int .i64 65535)), (9, .const (.int .i64 65535)), (10, .const (.int .i64 (-1))), (11, .tmp 15)], type := 35, pos := "sense.go:57", after := #[{ on := 2, ground := .data }, { on := 4, ground := .data }], guard := none },
  { dst := some 3, op := .alloc 35, type := 0, pos := "sense.go:57", after := #[], guard := none },
  { dst := none, op := .store 35 (.tmp 3) (.tmp 16), type := 0, pos := "sense.go:57", after := #[{ on := 6, ground := .data }, { on := 5, ground := .data }, { on := 4, ground := .chain }, { on := 0, ground := .phase }, { on := 1, ground := .phase }, { on := 2, ground := .phase }, { on := 3, ground := .phase }, { on := 4, ground := .phase }, { on := 5, ground := .phase }, { on := 6, ground := .phase }], guard := none }]
def mean3_D : List Nat := [11, 12, 13, 14, 15, 16, 3]
def mean3_V (p B : Nat) (r : Raw) (u : Value) (i : Nat) (v : Value) (w : World) : Prop :=
  match i with
  | 0 => v = .pointer (some ⟨p, 2, none⟩)
  | 1 => v = .pointer (some ⟨p, 2, none⟩)
  | 2 => v = .int .i64 r.prio.n
  | 3 => v = .agg (rawV r u)
  | 4 => v = .int .i64 (actOf r)
  | 5 => v = .agg (entV (ent0 r))
  | 6 => ∃ g, v = .pointer (some ⟨g, 0, none⟩) ∧ B ≤ g ∧ w.heap[g]? = some (.cells EntE.zero EntE.elem (0, 0))
  | _ => True
theorem mean3_mono (p B : Nat) (r : Raw) (u : Value) : ∀ j v w w', mean3_V p B r u j v w → Below w.heap.size w w' → mean3_V p B r u j v w' := by
  intro j v w w' h hb
  revert h
  unfold mean3_V
  split <;> intro h <;> first
    | exact h
    | (obtain ⟨g, h1, h2, h3⟩ := h
       exact ⟨g, h1, h2, (hb.block g (Array.getElem?_eq_some_iff.1 h3).1).trans h3⟩)
theorem run_buildOp {o : Oper} {t : Nat} {ps : Array (Nat × Operand)} (ho : o.op = .build t ps) (a : Act) (W : World) (qs : Array (Nat × Value)) (hq : (ps.map fun (i, x) => (i, a.eval x)) = qs) (v : Value) (h : (Instr.build t qs).run Tryz.prog W = .ok v W) : (execOp a.eval o).run Tryz.prog W = .ok (.value v) W := by
  unfold execOp
  simp only [ho, Sem.run_bind, hq, h, Result.andThen_ok, Sem.run_pure]

set_option maxHeartbeats 4000000 in
theorem mean3_region {id : Nat} {Q : Exit → Act → World → Prop} {a0 : Act} {w0 : World} (hs : 72 ≤ a0.tmps.size) (p : Nat) (r : Raw) (u : Value) (h1 : a0.eval (.tmp 1) = .pointer (some ⟨p, 0, none⟩))
    (hp : w0.heap[p]? = some (.cells (rawV r u) 92 (0, 0))) (hul : ∃ o n m, u = .slice o n m)
    (hK : ∀ y w' g, y 3 = .pointer (some ⟨g, 0, none⟩) → w0.heap.size ≤ g → Below w0.heap.size w0 w' → w'.heap[g]? = some (.cells (entV (ent0 r)) 35 (0, 0)) → Q .normal (putsD mean3_D y a0) w') : (Code.region id mean3_ops.toArray true).wp Tryz.prog Q a0 w0 := by
  have hDs : ∀ d ∈ mean3_D, d < a0.tmps.size := fun d hd => by
    have : d < 72 := by
      revert hd; unfold mean3_D; intro hd
      simp only [List.mem_cons, List.not_mem_nil, or_false] at hd
      omega
    omega
  refine region_inv 7 (mean3_V p w0.heap.size r u) mean3_D (by kernel_rfl) rfl (by kernel_rfl) (by decide) hDs (by kernel_rfl) (by kernel_rfl) (mean3_mono p w0.heap.size r u) ?_ ?_
  · intro i o ho hi a w h
    have B : Below w0.heap.size w0 w := (Below.refl _ _).drew.trans h.below
    have e1 : a.eval (.tmp 1) = .pointer (some ⟨p, 0, none⟩) := (h.other 1 (by decide)).trans h1
    have bp : w.heap[p]? = some (.cells (rawV r u) 92 (0, 0)) := (B.block p (Array.getElem?_eq_some_iff.1 hp).1).trans hp
    have c := raw_f bp
    have ca : ∀ vs W, (callFunc 75 vs).run Tryz.prog W = .ok (.enter 75 vs) W := fun vs W => by have hf := Tryz.func75; simp [go_sem]
    rcases (show i = 0 ∨ i = 1 ∨ i = 2 ∨ i = 3 ∨ i = 4 ∨ i = 5 ∨ i = 6 by omega) with rfl | rfl | rfl | rfl | rfl | rfl | rfl
    · obtain rfl := Option.some.inj ho
      exact iv_val rfl rfl _ (run_fieldOp rfl _ _ _ ((congrArg (fun y => (Instr.fieldAt 92 y 2).run Tryz.prog w) e1).trans (show _ = Result.ok (.pointer (some ⟨p, 2, none⟩)) w by simp [go_sem]))) rfl
    · obtain rfl := Option.some.inj ho
      have f0 : a.eval (.tmp 11) = .pointer (some ⟨p, 2, none⟩) := h.has ⟨0, .data⟩ (by simp) rfl _ 11 rfl rfl
      exact iv_val rfl rfl _ (run_fieldOp rfl _ _ _ ((congrArg (fun y => (Instr.fieldAt 89 y 0).run Tryz.prog w) f0).trans (show _ = Result.ok (.pointer (some ⟨p, 2, none⟩)) w by simp [go_sem]))) rfl
    · obtain rfl := Option.some.inj ho
      have f1 : a.eval (.tmp 12) = .pointer (some ⟨p, 2, none⟩) := h.has ⟨1, .data⟩ (by simp) rfl _ 12 rfl rfl
      exact iv_val rfl rfl _ (run_loadOp rfl _ _ _ _ f1 (load_int _ _ _ c.2.2.1)) rfl
    · obtain rfl := Option.some.inj ho
      exact iv_val rfl rfl _ (run_loadOp rfl _ _ _ _ e1 (load_raw _ _ _ _ bp)) rfl
    · obtain rfl := Option.some.inj ho
      have f1 : a.eval (.tmp 14) = .agg (rawV r u) := h.has ⟨3, .data⟩ (by simp) rfl _ 14 rfl rfl
      exact iv_call rfl rfl 75 #[.agg (rawV r u)] (run_callOps rfl ca _ _ _ (by simp [f1])) ((action7_any r u hul w).mono fun e w' h => ⟨_, h.1, h.2, rfl⟩)
    · obtain rfl := Option.some.inj ho
      have f1 : a.eval (.tmp 13) = .int .i64 r.prio.n := h.has ⟨2, .data⟩ (by simp) rfl _ 13 rfl rfl
      have f2 : a.eval (.tmp 15) = .int .i64 (actOf r) := h.has ⟨4, .data⟩ (by simp) rfl _ 15 rfl rfl
      refine iv_val rfl rfl (.agg (entV (ent0 r))) (run_buildOp rfl _ _ #[(1, .int .i64 r.prio.n), (7, .int .i64 65535), (9, .int .i64 65535), (10, .int .i64 (-1)), (11, .int .i64 (actOf r))] (by simp only [List.map_toArray, List.map_cons, List.map_nil, f1, f2]; rfl) _ ?_) rfl
      kernel_rfl
    · obtain rfl := Option.some.inj ho
      exact iv_alloc EntOk rfl rfl rfl ⟨_, rfl, B.size, heap_new _ _ _ rfl⟩
  · intro a w hb hsz hdf hot hh
    obtain ⟨g, f1, hg, hz⟩ : ∃ g, a.eval (.tmp 3) = .pointer (some ⟨g, 0, none⟩) ∧ w0.heap.size ≤ g ∧ w.heap[g]? = some (.cells EntE.zero EntE.elem (0, 0)) := hh 6 _ 3 (by decide) rfl rfl
    have f2 : a.eval (.tmp 16) = .agg (entV (ent0 r)) := hh 5 _ 16 (by decide) rfl rfl
    refine wpOp_of_list rfl ?_
    refine wl_storeE (E := EntE) EntOk rfl _ _ rfl g (entV (ent0 r)) (ent_fits _) f1 f2 _ hz rfl _ rfl ?_
    show Q .normal a _
    rw [puts_form hsz hdf hot hDs]
    exact hK _ _ g f1 hg (below_setRow hb hg _) (setRow_heap _ _ _ _ _ _ hz)
end Go.Proofs.YtnbklmmampdbfaaGreatDoor
namespace Go.Proofs.YtnbklmmampdbfaaGreatDoor
open Go Go.Shelf Go.RowKit Go.Lib Go.Sort
set_option maxRecDepth 20000

def cmpI (a b : Int) : Int := if a < b then -1 else if b < a then 1 else 0
theorem nan_any (x : Int) (w : World) : Calls Tryz.prog 51 #[.int .i64 x] w fun e w' => e = .returned (.bool false) ∧ w' = w := by
  go_enter Tryz.func51, Tryz.ntmps51
  go_wp2
  go_ret
  exact ⟨by simp, rfl⟩
theorem compare_any (x y : Int) (w : World) : Calls Tryz.prog 28 #[.int .i64 x, .int .i64 y] w fun e w' => e = .returned (.int .i64 (cmpI x y)) ∧ w' = w := by
  have HN : Hid (∀ x W, Calls Tryz.prog 51 #[.int .i64 x] W fun e w' => e = .returned (.bool false) ∧ w' = W) := nan_any
  by_cases h1 : x < y
  · have HV : Hid (cmpI x y = -1) := by show _ = _; unfold cmpI; rw [if_pos h1]
    go_enter Tryz.func28, Tryz.ntmps28
    go_wp2_with (go_at_call 51; refine (HN.out _ _).mono ?_; rintro e w' ⟨rfl, rfl⟩)
    go_ret
    exact ⟨by rw [HV.out]; rfl, rfl⟩
  · by_cases h2 : y < x
    · have HV : Hid (cmpI x y = 1) := by show _ = _; unfold cmpI; rw [if_neg h1, if_pos h2]
      go_enter Tryz.func28, Tryz.ntmps28
      go_wp2_with (go_at_call 51; refine (HN.out _ _).mono ?_; rintro e w' ⟨rfl, rfl⟩)
      go_ret
      exact ⟨by rw [HV.out]; rfl, rfl⟩
    · have HV : Hid (cmpI x y = 0) := by show _ = _; unfold cmpI; rw [if_neg h1, if_neg h2]
      go_enter Tryz.func28, Tryz.ntmps28
      go_wp2_with (go_at_call 51; refine (HN.out _ _).mono ?_; rintro e w' ⟨rfl, rfl⟩)
      go_ret
      exact ⟨by rw [HV.out]; rfl, rfl⟩
def prioF (x y : Ent) : Int := cmpI y.prio x.prio
theorem prioF_lt (x y : Ent) : prioF x y < 0 ↔ y.prio < x.prio := by
  unfold prioF cmpI
  split
  · simp; assumption
  · split <;> simp <;> omega
theorem closure_any (x y : Ent) (w : World) : Calls Tryz.prog 27 #[.agg (entV x), .agg (entV y)] w fun e w' => e = .returned (.int .i64 (prioF x y)) ∧ ∃ q os', w' = grow (w.drewN q) os' := by
  have HC : Hid (∀ a b W, Calls Tryz.prog 28 #[.int .i64 a, .int .i64 b] W fun e w' => e = .returned (.int .i64 (cmpI a b)) ∧ w' = W) := compare_any
  obtain ⟨r, hr⟩ : ∃ r, r = prioF x y := ⟨_, rfl⟩
  have HR : Hid (cmpI y.prio x.prio = r) := hr.symm
  rw [← hr]
  clear hr
  unfold entV
  go_enter Tryz.func27, Tryz.ntmps27
  go_wp2_with (go_at_call 28; refine (HC.out _ _ _).mono ?_; rintro e w' ⟨rfl, rfl⟩)
  go_ret
  exact ⟨by rw [HR.out]; rfl, 0, _, by rw [alloc_eq_grow, alloc_eq_grow, grow_grow]; rfl⟩
theorem lays_any [Inhabited Ent] (blk off size : Nat) (w : World) : CmpLays Tryz.prog 27 #[] (fun x => (entV x).toList) 12 prioF blk off size w := fun _ _ _ _ x y => by
  have := closure_any x y
  simpa using this _

/-- Sorted by the falling priority, those of one in their order. -/
structure Sorted8 (m m' : List Ent) : Prop where
  len : m'.length = m.length
  desc : Desc (·.prio) m'
  alike : Alike (·.prio) m' m
set_option maxHeartbeats 4000000 in
set_option maxRecDepth 1000000 in
theorem sortStable_any (B : Nat) (m : List Ent) (v : Value) (w : World) (hown : w.ownsRow B 35 12 v m.length (gcells entV m)) (hm : m.length ≤ 1000000) :
    Calls Tryz.prog 26 #[v, .func (.func 27) #[] #[]] w fun e w' => e = .returned (.tuple #[]) ∧ ∃ m', Sorted8 m m' ∧ w'.ownsRow B 35 12 v m'.length (gcells entV m') ∧ w.grownBy w' v.ownBlock := by
  letI : Inhabited Ent := ⟨⟨false, 0, 0, 0, 0, 0, 0, 0, 0, 0, 0, 0⟩⟩
  obtain ⟨h1, ⟨rfl, h2⟩ | ⟨g, cap, cur, rfl, hB, hcur, h5, h6, h7, h4⟩⟩ := hown
  · have hm0 : m = [] := List.eq_nil_of_length_eq_zero h2
    subst hm0
    have HS : Hid (∀ W, Calls Tryz.prog 50 #[.slice none 0 0, .int .i64 0, .func (.func 27) #[] #[]] W fun e w' => e = .returned (.tuple #[]) ∧ w' = W) := fun W => by
      have HI : Hid (∀ W, Calls Tryz.prog 78 #[.slice none 0 0, .int .i64 0, .int .i64 0, .func (.func 27) #[] #[]] W fun e w' => e = .returned (.tuple #[]) ∧ w' = W) := fun W => by
        go_enter Tryz.func78, Tryz.ntmps78
        go_wp2
        go_loopg [8] 0 (fun kx s wr => s = .int .i64 1 ∧ wr = W)
        case atStart => exact ⟨rfl, rfl⟩
        case round =>
          obtain ⟨rfl, rfl⟩ := hrel
          go_wp2
          go_end0
          exact ⟨rfl, rfl⟩
      go_enter Tryz.func50, Tryz.ntmps50
      go_wp2
      go_loopg [7, 8] 0 (fun kx s7 s8 wr => s7 = .int .i64 0 ∧ s8 = .int .i64 20 ∧ wr = W)
      case atStart => exact ⟨rfl, rfl, rfl⟩
      case round =>
        obtain ⟨rfl, rfl, rfl⟩ := hrel
        go_wp2_with (go_at_call 78; refine (HI.out _).mono ?_; rintro e w' ⟨rfl, rfl⟩)
        go_loopg [6, 7, 8, 9] 0 (fun kx s6 s7 s8 s9 wr2 => ∃ a b c : Value, s6 = .int .i64 20 ∧ s7 = a ∧ s8 = b ∧ s9 = c ∧ wr2 = w')
        case atStart => exact ⟨_, _, _, rfl, rfl, rfl, rfl, rfl⟩
        case round =>
          obtain ⟨a, b, c, rfl, rfl, rfl, rfl, rfl⟩ := hrel
          go_wp2
          go_end0
          exact ⟨rfl, rfl⟩
    go_enter Tryz.func26, Tryz.ntmps26
    go_wp2_with (go_at_call 50; refine (HS.out _).mono ?_; rintro e w' ⟨rfl, rfl⟩)
    go_end0
    exact ⟨rfl, [], ⟨rfl, List.Pairwise.nil, Alike.refl _ _⟩, World.ownsRow_nil _ _ _ _, ⟨rfl, rfl, rfl, Nat.le_refl _, fun k _ _ => rfl⟩⟩
  · have hc := stable_any stP (fun x => (entV x).toList) (fun x => x.prio) prioF prioF_lt 27 #[] g 0 cap m.toArray w (enters_of Tryz.func27 (by kernel_rfl) rfl) (lays_any _ _ _ _) ⟨fun _ => rfl, fun x u hu => by simp [entV] at hu; rcases hu with h | h | h | h | h | h | h | h | h | h | h | h <;> (rw [h]; rfl), holds_of_own (enc := entV) (k := 12) (fun _ => rfl) hcur h4, (Array.getElem?_eq_some_iff.1 hcur).1⟩ (by simp; omega)
    have HC : Hid (∀ W, W = w → Calls Tryz.prog 50 #[.slice (some ⟨g, 0, none⟩) m.length cap, .int .i64 m.length, .func (.func 27) #[] #[]] W fun e w' => e = .returned (.tuple #[]) ∧ ∃ d', d'.size = m.length ∧ SWK (fun x => (entV x).toList) 12 w g 0 d' w' ∧ DescF (·.prio) (arrF d') 0 m.length ∧ Alike (·.prio) (segF (arrF d') 0 m.length) (segF (arrF m.toArray) 0 m.length)) := fun W hW => by
      subst hW
      simpa using hc
    have FIN : Hid (∀ w' (d' : Array Ent), d'.size = m.length → SWK (fun x => (entV x).toList) 12 w g 0 d' w' → DescF (·.prio) (arrF d') 0 m.length → Alike (·.prio) (segF (arrF d') 0 m.length) (segF (arrF m.toArray) 0 m.length) → ∃ m', Sorted8 m m' ∧ w'.ownsRow B 35 12 (.slice (some ⟨g, 0, none⟩) m.length cap) m'.length (gcells entV m') ∧ w.grownBy w' (some g)) := fun w' d' q1 q2 q3 q4 => by
      obtain ⟨cur', c1, c2, c3⟩ := own_of_swk (enc := entV) (k := 12) (fun _ => rfl) q2 hcur (by rw [q1, h7]; exact Nat.mul_le_mul_right _ h5)
      have e1 := segF_all d'
      rw [q1] at e1
      have e2 := segF_all m.toArray
      simp only [List.size_toArray] at e2
      rw [e1, e2] at q4
      refine ⟨d'.toList, ⟨by simpa using q1, ?_, by simpa using q4⟩, ⟨by rw [gcells_len (k := 12) (fun _ => rfl)], .inr ⟨g, cap, cur', by simp [q1], hB, c1, by simpa [q1] using h5, h6, by rw [c2, h7], by simpa [q1] using c3⟩⟩, SWK.grownBy q2⟩
      have := DescF.seg (p := fun x : Ent => x.prio) (f := arrF d') (a := 0) (n := m.length) (by rw [Nat.zero_add]; exact q3)
      rw [e1] at this
      exact this
    clear hc hcur h4 h1 hB
    obtain ⟨n, hn⟩ : ∃ n, n = m.length := ⟨_, rfl⟩
    rw [← hn] at HC FIN hm h5 ⊢
    clear hn
    go_enter Tryz.func26, Tryz.ntmps26
    go_wp2_with (go_at_call 50; refine (HC.out _ rfl).mono ?_; rintro e w' ⟨rfl, d', q1, q2, q3, q4⟩)
    go_end0
    exact ⟨rfl, FIN.out _ _ q1 q2 q3 q4⟩
end Go.Proofs.YtnbklmmampdbfaaGreatDoor
namespace Go.Proofs.YtnbklmmampdbfaaGreatDoor
open Go Go.RowKit
set_option maxRecDepth 20000

theorem addr_facts {c : Cla} (h : goodC c) (hw : isAddrW c.word = true) (hp : isPortW c.word = false) (ho : (c.word == wProto) = false) : (c.nums.length = if c.slash then 5 else 4) ∧ ∀ k, k < 4 → 0 ≤ nth c k ∧ nth c k ≤ 255 := by
  have hm : mustN c = if c.slash then 5 else 4 := by unfold mustN; rw [if_pos hw]
  refine ⟨by rw [h.2.1, hm], fun k hk => ?_⟩
  have := nth_in h (k := k) (by rw [hm]; split <;> omega)
  have e : mostN c.word k = 255 := by
    unfold mostN
    rw [hp, ho, if_neg (by decide), if_neg]
    simp only [Bool.and_eq_true, beq_iff_eq]
    omega
  rw [e] at this
  exact ⟨this.1, this.2.1⟩
theorem good_pos {c : Cla} (h : goodC c) : 0 < c.nums.length := by
  have := h.1
  rw [h.2.1]
  omega
/-- The meaning of a line's first clauses. -/
def meanK (x : Raw) (k : Nat) : Ent := (x.clauses.take k).foldl setC (ent0 x)
theorem meanK_next {x : Raw} {k : Nat} {c : Cla} (h : x.clauses[k]? = some c) : meanK x (k + 1) = setC (meanK x k) c := by
  obtain ⟨hk, rfl⟩ := List.getElem?_eq_some_iff.1 h
  unfold meanK
  rw [List.take_succ_eq_append_getElem hk, List.foldl_append]
  rfl
theorem setC_src {x : Ent} {c : Cla} (h : c.word = wSrc) : entV (setC x c) = ((entV x).setIfInBounds 2 (.int .u32 (preC c).1)).setIfInBounds 3 (.int .i64 (preC c).2) := by
  unfold setC; rw [if_pos h]; rfl
theorem setC_dst {x : Ent} {c : Cla} (h : c.word = wDst) : entV (setC x c) = ((entV x).setIfInBounds 4 (.int .u32 (preC c).1)).setIfInBounds 5 (.int .i64 (preC c).2) := by
  unfold setC; rw [if_neg (by rw [h]; decide), if_pos h]; rfl
theorem setC_sport {x : Ent} {c : Cla} (h : c.word = wSport) : entV (setC x c) = ((entV x).setIfInBounds 6 (.int .i64 (porC c).1)).setIfInBounds 7 (.int .i64 (porC c).2) := by
  unfold setC; rw [if_neg (by rw [h]; decide), if_neg (by rw [h]; decide), if_pos h]; rfl
theorem setC_dport {x : Ent} {c : Cla} (h : c.word = wDport) : entV (setC x c) = ((entV x).setIfInBounds 8 (.int .i64 (porC c).1)).setIfInBounds 9 (.int .i64 (porC c).2) := by
  unfold setC; rw [if_neg (by rw [h]; decide), if_neg (by rw [h]; decide), if_neg (by rw [h]; decide), if_pos h]; rfl
theorem setC_proto {x : Ent} {c : Cla} (h : c.word = wProto) : entV (setC x c) = (entV x).setIfInBounds 10 (.int .i64 (nth c 0)) := by
  unfold setC; rw [if_neg (by rw [h]; decide), if_neg (by rw [h]; decide), if_neg (by rw [h]; decide), if_neg (by rw [h]; decide), if_pos h]; rfl
theorem tc_cell {w : World} {g k : Nat} {cs : Array Value} {t : TypeId} {fr : Nat × Nat} (h : w.heap[g]? = some (.cells cs t fr)) (hf : fr = (0, 0)) (i : Nat) (v : Value) (j : Nat) (hj : k ≠ j) (y : Value) (hy : cs[j]? = some y) : (w.setCell ⟨g, k, none⟩ v).cell? ⟨g, j, none⟩ = some y ∧ (w.setCell ⟨g, k, none⟩ v).frozen? ⟨g, i, none⟩ = false := by
  refine ⟨?_, tc_frozen (tc_row h v) hf⟩
  rw [cell_of_row _ _ _ _ _ _ (tc_row h v), Array.getElem?_setIfInBounds_ne hj]
  exact hy
theorem good_word {c : Cla} (h : goodC c) : c.word = wSrc ∨ c.word = wDst ∨ c.word = wSport ∨ c.word = wDport ∨ c.word = wProto := by
  rcases word_cases c.word with h1 | h1 | h1 | h1 | h1 | ⟨e0, e1, e2, e3, e4⟩
  · exact .inl h1
  · exact .inr (.inl h1)
  · exact .inr (.inr (.inl h1))
  · exact .inr (.inr (.inr (.inl h1)))
  · exact .inr (.inr (.inr (.inr h1)))
  · exfalso
    refine h.1 ?_
    unfold mustN isAddrW isPortW wSrc wDst wSport wDport wProto
    simp only [e0, e1, e2, e3, e4]
    rfl

set_option maxHeartbeats 16000000 in
set_option maxRecDepth 100000 in
theorem meaning_any (x : Raw) (u : Value) (w : World) (hu : ClasAt w x u) (hr : x.dflt = false → faultR x = .ok ()) :
    Calls Tryz.prog 49 #[.agg (rawV x u)] w fun e w' => e = .returned (.agg (entV (meaning x))) ∧ Below w.heap.size w w' := by
  have PF : Hid (∀ (c : Cla) (u : Value) W, FigsAt W c u → goodC c → isAddrW c.word = true → isPortW c.word = false → (c.word == wProto) = false → Calls Tryz.prog 76 #[.agg (claV c u)] W fun x w' => x = .returned (.tuple #[.int .u32 (preC c).1, .int .i64 (preC c).2]) ∧ Below W.heap.size W w') := fun c u W h1 h2 h3 h4 h5 => prefix_any c u W h1 (addr_facts h2 h3 h4 h5).1 (addr_facts h2 h3 h4 h5).2
  have PO : Hid (∀ (c : Cla) (u : Value) W, FigsAt W c u → goodC c → Calls Tryz.prog 77 #[.agg (claV c u)] W fun x w' => x = .returned (.tuple #[.int .i64 (porC c).1, .int .i64 (porC c).2]) ∧ Below W.heap.size W w') := fun c u W h1 h2 => ports7_any c u W h1 (good_pos h2)
  obtain ⟨o, cap, rfl, hc1, hc2⟩ := NSl.slice hu
  have AC : Hid (∀ W, Calls Tryz.prog 75 #[.agg (rawV x (.slice o x.clauses.length cap))] W fun e w' => e = .returned (.int .i64 (actOf x)) ∧ Below W.heap.size W w') := fun W => action7_any x _ ⟨_, _, _, rfl⟩ W
  obtain ⟨n, hn⟩ : ∃ n, n = x.clauses.length := ⟨_, rfl⟩
  have HN : Hid (n = x.clauses.length) := hn
  rw [← hn] at hu hc1 AC ⊢
  have HU : Hid (ClasAt w x (.slice o n cap)) := hu
  unfold maxLen at hc2
  have b1 : Hid (((w.alloc (.cells (rawV x (.slice o n cap)) 92)).alloc (.cells EntE.zero 35)).heap[w.heap.size]? = some (.cells (rawV x (.slice o n cap)) 92 (0, 0))) := heap_past _ _ _ _ (heap_new _ _ _ rfl)
  have b2 : Hid (((w.alloc (.cells (rawV x (.slice o n cap)) 92)).alloc (.cells EntE.zero 35)).heap[w.heap.size + 1]? = some (.cells EntE.zero 35 (0, 0))) := heap_new _ _ _ (by simp)
  have B0 : Hid (Below w.heap.size w ((w.alloc (.cells (rawV x (.slice o n cap)) 92)).alloc (.cells EntE.zero 35))) := below2 _ _ _
  have c1 := (raw_f b1.out).2.1
  unfold EntE at c1
  simp only at c1
  clear hu hn
  cases hd : x.dflt with
  | true =>
    have hm : entV (meaning x) = #[.bool true, .int .i64 0, .int .u32 0, .int .i64 0, .int .u32 0, .int .i64 0, .int .i64 0, .int .i64 0, .int .i64 0, .int .i64 0, .int .i64 0, .int .i64 (actOf x)] := by unfold meaning; rw [hd]; rfl
    rw [hm]
    rw [hd] at c1
    clear hm
    go_enter Tryz.func49, Tryz.ntmps49
    go_wp2_with (first
      | (refine wl_loadE (E := RawE) RawOk rfl _ rfl w.heap.size 0 rfl _ _ _ (rawV x (.slice o n cap)) rfl b1.out (own_cells _ _) ?_))
    refine (AC.out _).mono ?_
    rintro e w1 ⟨rfl, hb1⟩
    have k2 : Hid (w1.heap[w.heap.size + 1]? = some (.cells EntE.zero 35 (0, 0))) := (hb1.block _ (by simp)).trans b2.out
    have B1 : Hid (Below w.heap.size w w1) := B0.out.trans (hb1.mono (by simp; omega))
    clear hb1
    go_wp2_with (first
      | (refine wl_storeE (E := EntE) EntOk rfl _ _ rfl (w.heap.size + 1) #[.bool true, .int .i64 0, .int .u32 0, .int .i64 0, .int .u32 0, .int .i64 0, .int .i64 0, .int .i64 0, .int .i64 0, .int .i64 0, .int .i64 0, .int .i64 (actOf x)] ⟨rfl, by simp [Value.oneCell']⟩ rfl rfl _ k2.out rfl _ rfl ?_))
    refine retE (E := EntE) EntOk rfl rfl (w.heap.size + 1) rfl _ rfl (setRow_heap _ _ _ _ _ _ k2.out) ?_
    exact ⟨rfl, below_setRow B1.out (by omega) _⟩
  | false =>
    have hf := hr hd
    have hcs : faultCs [] x.clauses = .ok () := by
      unfold faultR at hf
      split at hf
      · cases hf
      · exact hf
    have GD : Hid (∀ c ∈ x.clauses, goodC c) := faultCs_in _ _ hcs
    have HM : Hid (meanK x n = meaning x) := by
      show _ = _
      unfold meanK
      rw [HN.out, List.take_length]
      exact mean_fold x hd hf
    have HD : Hid (x.dflt = false) := hd
    rw [hd] at c1
    clear hf hcs hd hr
    go_enter Tryz.func49, Tryz.ntmps49
    go_wp2_with fail
    refine mean3_region (by simp) w.heap.size x (.slice o n cap) rfl b1.out ⟨_, _, _, rfl⟩ ?_
    intro y w1 G hy hG hb1 hg1
    simp only [putsD, mean3_D, List.foldl_cons, List.foldl_nil, hy, Act.put, List.setIfInBounds_toArray, List.set_cons_succ, List.set_cons_zero]
    have hG' : w.heap.size + 1 < G := by simp at hG; omega
    have K0 : Hid (w1.heap[G]? = some (.cells (entV (meanK x 0)) 35 (0, 0))) := hg1
    have K1 : Hid (w1.heap[w.heap.size]? = some (.cells (rawV x (.slice o n cap)) 92 (0, 0))) := (hb1.block _ (by simp; omega)).trans b1.out
    have K2 : Hid (w1.heap[w.heap.size + 1]? = some (.cells EntE.zero 35 (0, 0))) := (hb1.block _ (by simp)).trans b2.out
    have B1 : Hid (Below w.heap.size w w1) := B0.out.trans (hb1.mono (by simp; omega))
    have c4 := (raw_f K1.out).2.2.2.1
    clear hb1 hg1 hG hy b1 b2 B0 c1
    go_wp2_with fail
    clear c4
    go_loopw [20] (fun i wr => ∃ k : Nat, k ≤ n ∧ i = .int .i64 (k : Int) ∧ wr.heap[G]? = some (.cells (entV (meanK x k)) 35 (0, 0)) ∧ wr.heap[w.heap.size + 1]? = some (.cells EntE.zero 35 (0, 0)) ∧ Below w.heap.size w wr) (fun i _ => n - (intOf i).toNat)
    case atStart => exact ⟨0, Nat.zero_le _, rfl, K0.out, K2.out, B1.out⟩
    case round =>
      clear K0 K1 K2 B1
      obtain ⟨k, hk, rfl, hr0, hr2, hb⟩ := hrel
      have R0 : Hid (wr.heap[G]? = some (.cells (entV (meanK x k)) 35 (0, 0))) := hr0
      have R2 : Hid (wr.heap[w.heap.size + 1]? = some (.cells EntE.zero 35 (0, 0))) := hr2
      have HB : Hid (Below w.heap.size w wr) := hb
      clear hr0 hr2 hb
      by_cases hlt : k < n
      · have hlt' : (k : Int) < (n : Int) := by omega
        obtain ⟨g, off, cur, ty, fr, c, u', rfl, hg, hc, hCk, hcl⟩ := NSl.at (NSl.below figs_below HU.out HB.out) k hlt
        have hgood := GD.out c (List.mem_of_getElem? hCk)
        have HG0 : Hid (goodC c) := hgood
        have HX : Hid (meanK x (k + 1) = setC (meanK x k) c) := meanK_next hCk
        have K1 : Hid (wr.heap[g]? = some (.cells cur ty fr)) := hg
        have H1 : Hid (∀ i, i < 5 → cur[off + k * 5 + i]? = (claV c u')[i]?) := hc
        have HF : Hid (FigsAt wr c u') := hcl
        have hGr : G < wr.heap.size := (Array.getElem?_eq_some_iff.1 R0.out).1
        obtain ⟨o1, cap1, rfl, hca1, hcb1⟩ := GSl.slice hcl
        obtain ⟨n1, hn1⟩ : ∃ n1, n1 = c.nums.length := ⟨_, rfl⟩
        rw [← hn1] at H1 HF hca1
        have hn0 : 0 < n1 := by rw [hn1]; exact good_pos hgood
        have HN1 : Hid (n1 = c.nums.length) := hn1
        unfold maxLen at hcb1
        have KN : Hid ((wr.alloc (.cells (claV c (.slice o1 n1 cap1)) 129)).heap[wr.heap.size]? = some (.cells (claV c (.slice o1 n1 cap1)) 129 (0, 0))) := heap_new _ _ _ rfl
        have n0 := (cla_f KN.out).1
        have BN : Hid (Below wr.heap.size wr (wr.alloc (.cells (claV c (.slice o1 n1 cap1)) 129))) := (Below.refl _ _).alloc (Nat.le_refl _) _
        have hw := good_word hgood
        clear hg hc hCk hcl hgood hn1
        rcases hw with hw | hw | hw | hw | hw
        · have HW : Hid (c.word = wSrc) := hw
          rw [hw] at n0
          have HS : Hid (entV (meanK x (k + 1)) = ((entV (meanK x k)).setIfInBounds 2 (.int .u32 (preC c).1)).setIfInBounds 3 (.int .i64 (preC c).2)) := by show _ = _; rw [HX.out]; exact setC_src hw
          clear hw
          unfold wSrc at n0
          go_wp2_with (first
          | (refine wl_loadE (E := ClaE) ClaOk rfl _ rfl g (off + k * 5) rfl cur ty fr (claV c (.slice o1 n1 cap1)) rfl K1.out H1.out ?_)
          | (refine wl_storeE (E := ClaE) ClaOk rfl _ _ rfl wr.heap.size (claV c (.slice o1 n1 cap1)) ⟨rfl, by simp [claV, Value.oneCell']⟩ rfl rfl _ (heap_new _ _ _ rfl) rfl _ (setRow_new _ _ _ _ _ rfl) ?_)
            | (refine wl_loadE (E := ClaE) ClaOk rfl _ rfl wr.heap.size 0 rfl _ _ _ (claV c (.slice o1 n1 cap1)) rfl KN.out (own_cells _ _) ?_))
          refine (PF.out c _ _ (figs_below _ _ _ _ BN.out HF.out) HG0.out (by rw [HW.out]; decide) (by rw [HW.out]; decide) (by rw [HW.out]; decide)).mono ?_
          rintro e w2 ⟨rfl, hb2⟩
          have B2 : Hid (Below wr.heap.size wr w2) := BN.out.trans (hb2.mono BN.out.size)
          have g2 : w2.heap[G]? = some (.cells (entV (meanK x k)) 35 (0, 0)) := (B2.out.block G hGr).trans R0.out
          have q1 : w2.cell? ⟨G, 2, none⟩ = some (.int .u32 (meanK x k).src) := by rw [cell_of_row _ _ _ _ _ _ g2]; rfl
          have z1 : w2.frozen? ⟨G, 2, none⟩ = false := tc_frozen g2 rfl
          obtain ⟨q2, z2⟩ := tc_cell (k := 2) g2 rfl 3 (.int .u32 (preC c).1) 3 (by decide) (.int .i64 (meanK x k).srcBits) rfl
          have G3 : Hid (((w2.setCell ⟨G, 2, none⟩ (.int .u32 (preC c).1)).setCell ⟨G, 3, none⟩ (.int .i64 (preC c).2)).heap[G]? = some (.cells (entV (meanK x (k + 1))) 35 (0, 0))) := by show _ = _; rw [HS.out]; exact tc_row (tc_row g2 _) _
          have R3 : Hid (((w2.setCell ⟨G, 2, none⟩ (.int .u32 (preC c).1)).setCell ⟨G, 3, none⟩ (.int .i64 (preC c).2)).heap[w.heap.size + 1]? = some (.cells EntE.zero 35 (0, 0))) := (tc_far (by omega) _).trans ((tc_far (by omega) _).trans ((B2.out.block _ (by omega)).trans R2.out))
          have B3 : Hid (Below w.heap.size w ((w2.setCell ⟨G, 2, none⟩ (.int .u32 (preC c).1)).setCell ⟨G, 3, none⟩ (.int .i64 (preC c).2))) := tc_below (tc_below (HB.out.trans (B2.out.mono HB.out.size)) (by omega) _ _) (by omega) _ _
          clear hb2 g2 n0
          go_wp2_with fail
          go_roundw
          case rel => exact ⟨k + 1, by omega, by go_num, G3.out, R3.out, B3.out⟩
          case measure => simp [intOf]; omega
        · have HW : Hid (c.word = wDst) := hw
          rw [hw] at n0
          have HS : Hid (entV (meanK x (k + 1)) = ((entV (meanK x k)).setIfInBounds 4 (.int .u32 (preC c).1)).setIfInBounds 5 (.int .i64 (preC c).2)) := by show _ = _; rw [HX.out]; exact setC_dst hw
          clear hw
          unfold wDst at n0
          go_wp2_with (first
          | (refine wl_loadE (E := ClaE) ClaOk rfl _ rfl g (off + k * 5) rfl cur ty fr (claV c (.slice o1 n1 cap1)) rfl K1.out H1.out ?_)
          | (refine wl_storeE (E := ClaE) ClaOk rfl _ _ rfl wr.heap.size (claV c (.slice o1 n1 cap1)) ⟨rfl, by simp [claV, Value.oneCell']⟩ rfl rfl _ (heap_new _ _ _ rfl) rfl _ (setRow_new _ _ _ _ _ rfl) ?_)
            | (refine wl_loadE (E := ClaE) ClaOk rfl _ rfl wr.heap.size 0 rfl _ _ _ (claV c (.slice o1 n1 cap1)) rfl KN.out (own_cells _ _) ?_))
          refine (PF.out c _ _ (figs_below _ _ _ _ BN.out HF.out) HG0.out (by rw [HW.out]; decide) (by rw [HW.out]; decide) (by rw [HW.out]; decide)).mono ?_
          rintro e w2 ⟨rfl, hb2⟩
          have B2 : Hid (Below wr.heap.size wr w2) := BN.out.trans (hb2.mono BN.out.size)
          have g2 : w2.heap[G]? = some (.cells (entV (meanK x k)) 35 (0, 0)) := (B2.out.block G hGr).trans R0.out
          have q1 : w2.cell? ⟨G, 4, none⟩ = some (.int .u32 (meanK x k).dst) := by rw [cell_of_row _ _ _ _ _ _ g2]; rfl
          have z1 : w2.frozen? ⟨G, 4, none⟩ = false := tc_frozen g2 rfl
          obtain ⟨q2, z2⟩ := tc_cell (k := 4) g2 rfl 5 (.int .u32 (preC c).1) 5 (by decide) (.int .i64 (meanK x k).dstBits) rfl
          have G3 : Hid (((w2.setCell ⟨G, 4, none⟩ (.int .u32 (preC c).1)).setCell ⟨G, 5, none⟩ (.int .i64 (preC c).2)).heap[G]? = some (.cells (entV (meanK x (k + 1))) 35 (0, 0))) := by show _ = _; rw [HS.out]; exact tc_row (tc_row g2 _) _
          have R3 : Hid (((w2.setCell ⟨G, 4, none⟩ (.int .u32 (preC c).1)).setCell ⟨G, 5, none⟩ (.int .i64 (preC c).2)).heap[w.heap.size + 1]? = some (.cells EntE.zero 35 (0, 0))) := (tc_far (by omega) _).trans ((tc_far (by omega) _).trans ((B2.out.block _ (by omega)).trans R2.out))
          have B3 : Hid (Below w.heap.size w ((w2.setCell ⟨G, 4, none⟩ (.int .u32 (preC c).1)).setCell ⟨G, 5, none⟩ (.int .i64 (preC c).2))) := tc_below (tc_below (HB.out.trans (B2.out.mono HB.out.size)) (by omega) _ _) (by omega) _ _
          clear hb2 g2 n0
          go_wp2_with fail
          go_roundw
          case rel => exact ⟨k + 1, by omega, by go_num, G3.out, R3.out, B3.out⟩
          case measure => simp [intOf]; omega
        · have HW : Hid (c.word = wSport) := hw
          rw [hw] at n0
          have HS : Hid (entV (meanK x (k + 1)) = ((entV (meanK x k)).setIfInBounds 6 (.int .i64 (porC c).1)).setIfInBounds 7 (.int .i64 (porC c).2)) := by show _ = _; rw [HX.out]; exact setC_sport hw
          clear hw
          unfold wSport at n0
          go_wp2_with (first
          | (refine wl_loadE (E := ClaE) ClaOk rfl _ rfl g (off + k * 5) rfl cur ty fr (claV c (.slice o1 n1 cap1)) rfl K1.out H1.out ?_)
          | (refine wl_storeE (E := ClaE) ClaOk rfl _ _ rfl wr.heap.size (claV c (.slice o1 n1 cap1)) ⟨rfl, by simp [claV, Value.oneCell']⟩ rfl rfl _ (heap_new _ _ _ rfl) rfl _ (setRow_new _ _ _ _ _ rfl) ?_)
            | (refine wl_loadE (E := ClaE) ClaOk rfl _ rfl wr.heap.size 0 rfl _ _ _ (claV c (.slice o1 n1 cap1)) rfl KN.out (own_cells _ _) ?_))
          refine (PO.out c _ _ (figs_below _ _ _ _ BN.out HF.out) HG0.out).mono ?_
          rintro e w2 ⟨rfl, hb2⟩
          have B2 : Hid (Below wr.heap.size wr w2) := BN.out.trans (hb2.mono BN.out.size)
          have g2 : w2.heap[G]? = some (.cells (entV (meanK x k)) 35 (0, 0)) := (B2.out.block G hGr).trans R0.out
          have q1 : w2.cell? ⟨G, 6, none⟩ = some (.int .i64 (meanK x k).slow) := by rw [cell_of_row _ _ _ _ _ _ g2]; rfl
          have z1 : w2.frozen? ⟨G, 6, none⟩ = false := tc_frozen g2 rfl
          obtain ⟨q2, z2⟩ := tc_cell (k := 6) g2 rfl 7 (.int .i64 (porC c).1) 7 (by decide) (.int .i64 (meanK x k).shigh) rfl
          have G3 : Hid (((w2.setCell ⟨G, 6, none⟩ (.int .i64 (porC c).1)).setCell ⟨G, 7, none⟩ (.int .i64 (porC c).2)).heap[G]? = some (.cells (entV (meanK x (k + 1))) 35 (0, 0))) := by show _ = _; rw [HS.out]; exact tc_row (tc_row g2 _) _
          have R3 : Hid (((w2.setCell ⟨G, 6, none⟩ (.int .i64 (porC c).1)).setCell ⟨G, 7, none⟩ (.int .i64 (porC c).2)).heap[w.heap.size + 1]? = some (.cells EntE.zero 35 (0, 0))) := (tc_far (by omega) _).trans ((tc_far (by omega) _).trans ((B2.out.block _ (by omega)).trans R2.out))
          have B3 : Hid (Below w.heap.size w ((w2.setCell ⟨G, 6, none⟩ (.int .i64 (porC c).1)).setCell ⟨G, 7, none⟩ (.int .i64 (porC c).2))) := tc_below (tc_below (HB.out.trans (B2.out.mono HB.out.size)) (by omega) _ _) (by omega) _ _
          clear hb2 g2 n0
          go_wp2_with fail
          go_roundw
          case rel => exact ⟨k + 1, by omega, by go_num, G3.out, R3.out, B3.out⟩
          case measure => simp [intOf]; omega
        · have HW : Hid (c.word = wDport) := hw
          rw [hw] at n0
          have HS : Hid (entV (meanK x (k + 1)) = ((entV (meanK x k)).setIfInBounds 8 (.int .i64 (porC c).1)).setIfInBounds 9 (.int .i64 (porC c).2)) := by show _ = _; rw [HX.out]; exact setC_dport hw
          clear hw
          unfold wDport at n0
          go_wp2_with (first
          | (refine wl_loadE (E := ClaE) ClaOk rfl _ rfl g (off + k * 5) rfl cur ty fr (claV c (.slice o1 n1 cap1)) rfl K1.out H1.out ?_)
          | (refine wl_storeE (E := ClaE) ClaOk rfl _ _ rfl wr.heap.size (claV c (.slice o1 n1 cap1)) ⟨rfl, by simp [claV, Value.oneCell']⟩ rfl rfl _ (heap_new _ _ _ rfl) rfl _ (setRow_new _ _ _ _ _ rfl) ?_)
            | (refine wl_loadE (E := ClaE) ClaOk rfl _ rfl wr.heap.size 0 rfl _ _ _ (claV c (.slice o1 n1 cap1)) rfl KN.out (own_cells _ _) ?_))
          refine (PO.out c _ _ (figs_below _ _ _ _ BN.out HF.out) HG0.out).mono ?_
          rintro e w2 ⟨rfl, hb2⟩
          have B2 : Hid (Below wr.heap.size wr w2) := BN.out.trans (hb2.mono BN.out.size)
          have g2 : w2.heap[G]? = some (.cells (entV (meanK x k)) 35 (0, 0)) := (B2.out.block G hGr).trans R0.out
          have q1 : w2.cell? ⟨G, 8, none⟩ = some (.int .i64 (meanK x k).dlow) := by rw [cell_of_row _ _ _ _ _ _ g2]; rfl
          have z1 : w2.frozen? ⟨G, 8, none⟩ = false := tc_frozen g2 rfl
          obtain ⟨q2, z2⟩ := tc_cell (k := 8) g2 rfl 9 (.int .i64 (porC c).1) 9 (by decide) (.int .i64 (meanK x k).dhigh) rfl
          have G3 : Hid (((w2.setCell ⟨G, 8, none⟩ (.int .i64 (porC c).1)).setCell ⟨G, 9, none⟩ (.int .i64 (porC c).2)).heap[G]? = some (.cells (entV (meanK x (k + 1))) 35 (0, 0))) := by show _ = _; rw [HS.out]; exact tc_row (tc_row g2 _) _
          have R3 : Hid (((w2.setCell ⟨G, 8, none⟩ (.int .i64 (porC c).1)).setCell ⟨G, 9, none⟩ (.int .i64 (porC c).2)).heap[w.heap.size + 1]? = some (.cells EntE.zero 35 (0, 0))) := (tc_far (by omega) _).trans ((tc_far (by omega) _).trans ((B2.out.block _ (by omega)).trans R2.out))
          have B3 : Hid (Below w.heap.size w ((w2.setCell ⟨G, 8, none⟩ (.int .i64 (porC c).1)).setCell ⟨G, 9, none⟩ (.int .i64 (porC c).2))) := tc_below (tc_below (HB.out.trans (B2.out.mono HB.out.size)) (by omega) _ _) (by omega) _ _
          clear hb2 g2 n0
          go_wp2_with fail
          go_roundw
          case rel => exact ⟨k + 1, by omega, by go_num, G3.out, R3.out, B3.out⟩
          case measure => simp [intOf]; omega
        · have HS : Hid (entV (meanK x (k + 1)) = (entV (meanK x k)).setIfInBounds 10 (.int .i64 (nth c 0))) := by show _ = _; rw [HX.out]; exact setC_proto hw
          rw [hw] at n0
          clear hw
          unfold wProto at n0
          obtain ⟨g1, off1, cur1, ty1, fr1, f, rfl, hg1, hc1', hf1⟩ := HF.out.at 0 hn0
          have hnf := nth_q hf1
          have cg : (wr.alloc (.cells (claV c (.slice (some ⟨g1, off1, none⟩) n1 cap1)) 129)).cell? ⟨g1, off1, none⟩ = some (.int .i64 (nth c 0)) := by
            rw [cell_of_row _ _ _ _ _ _ (heap_past _ _ _ _ hg1), hnf]
            have := hc1' 0 (by decide)
            rw [show off1 + 0 * FigE.size + 0 = off1 by simp] at this
            exact this
          have n2 := (cla_f KN.out).2.2.1
          have g2 : (wr.alloc (.cells (claV c (.slice (some ⟨g1, off1, none⟩) n1 cap1)) 129)).heap[G]? = some (.cells (entV (meanK x k)) 35 (0, 0)) := (BN.out.block G hGr).trans R0.out
          have q1 : (wr.alloc (.cells (claV c (.slice (some ⟨g1, off1, none⟩) n1 cap1)) 129)).cell? ⟨G, 10, none⟩ = some (.int .i64 (meanK x k).proto) := by rw [cell_of_row _ _ _ _ _ _ g2]; rfl
          have z1 : (wr.alloc (.cells (claV c (.slice (some ⟨g1, off1, none⟩) n1 cap1)) 129)).frozen? ⟨G, 10, none⟩ = false := tc_frozen g2 rfl
          have hp0 : (0 : Int) < (n1 : Int) := by omega
          obtain ⟨N, hN⟩ : ∃ N, N = nth c 0 := ⟨_, rfl⟩
          rw [← hN] at cg HS
          have G3 : Hid (((wr.setCell ⟨G, 10, none⟩ (.int .i64 N)).alloc (.cells (claV c (.slice (some ⟨g1, off1, none⟩) n1 cap1)) 129)).heap[G]? = some (.cells (entV (meanK x (k + 1))) 35 (0, 0))) := by show _ = _; rw [HS.out]; exact heap_past _ _ _ _ (tc_row R0.out _)
          have R3 : Hid (((wr.setCell ⟨G, 10, none⟩ (.int .i64 N)).alloc (.cells (claV c (.slice (some ⟨g1, off1, none⟩) n1 cap1)) 129)).heap[w.heap.size + 1]? = some (.cells EntE.zero 35 (0, 0))) := heap_past _ _ _ _ ((tc_far (by omega) _).trans R2.out)
          have B3 : Hid (Below w.heap.size w ((wr.setCell ⟨G, 10, none⟩ (.int .i64 N)).alloc (.cells (claV c (.slice (some ⟨g1, off1, none⟩) n1 cap1)) 129))) := (tc_below HB.out (by omega) _ _).alloc (tc_below HB.out (by omega) _ _).size _
          clear hg1 hc1' hf1 hnf g2 hN
          go_wp2_with (first
          | (refine wl_loadE (E := ClaE) ClaOk rfl _ rfl g (off + k * 5) rfl cur ty fr (claV c (.slice (some ⟨g1, off1, none⟩) n1 cap1)) rfl K1.out H1.out ?_)
          | (refine wl_storeE (E := ClaE) ClaOk rfl _ _ rfl wr.heap.size (claV c (.slice (some ⟨g1, off1, none⟩) n1 cap1)) ⟨rfl, by simp [claV, Value.oneCell']⟩ rfl rfl _ (heap_new _ _ _ rfl) rfl _ (setRow_new _ _ _ _ _ rfl) ?_)
            | fail)
          go_roundw
          case rel => exact ⟨k + 1, by omega, by go_num, G3.out, R3.out, B3.out⟩
          case measure => simp [intOf]; omega
      · have hlt' : (n : Int) ≤ (k : Int) := by omega
        obtain rfl : k = n := by omega
        clear hlt
        go_wp2_with (first
          | (refine wl_loadE (E := EntE) EntOk rfl _ rfl G 0 rfl _ _ _ (entV (meanK x k)) rfl R0.out (own_cells _ _) ?_)
          | (refine wl_storeE (E := EntE) EntOk rfl _ _ rfl (w.heap.size + 1) (entV (meanK x k)) (ent_fits _) rfl rfl _ R2.out rfl _ rfl ?_))
        refine retE (E := EntE) EntOk rfl rfl (w.heap.size + 1) rfl (entV (meanK x k)) rfl (setRow_heap _ _ _ _ _ _ R2.out) ?_
        exact ⟨by rw [HM.out], below_setRow HB.out (by omega) _⟩
end Go.Proofs.YtnbklmmampdbfaaGreatDoor
namespace Go.Proofs.YtnbklmmampdbfaaGreatDoor
open Go Go.RowKit
set_option maxRecDepth 20000

/-- What a check comes to: entries, error, place. -/
def outC : ResI (List Ent) → List Ent × Int × Int
  | .ok m => (m, 0, 0)
  | .error x => ([], (x.1 : Int), x.2)
def checkP (size : Int) (l : List Raw) : List Ent × Int × Int := outC (checkGo size 0 false l)
theorem map_app {m : List Ent} {x : ResI (List Ent)} {r : Ent} : ((x.map fun y => r :: y).map fun y => m ++ y) = x.map fun y => (m ++ [r]) ++ y := by
  cases x <;> simp [Except.map]
theorem map_nil' {x : ResI (List Ent)} : (x.map fun y => [] ++ y) = x := by
  cases x <;> simp [Except.map]
def EntsOwn (B : Nat) (w : World) (m : List Ent) (v : Value) : Prop := w.ownsRow B 35 12 v m.length (gcells entV m)
def EntsAt (w : World) (v : Value) (m : List Ent) : Prop := GSl EntE entV w v m
theorem ents_sl {B : Nat} {w : World} {m : List Ent} {v : Value} (h : EntsOwn B w m v) : EntsAt w v m := gsl_of (E := EntE) h fun _ _ => rfl
theorem pos_err {a : Int} {x : Int × Int} (h : x.1 ≠ 0) : x.1 = a → a ≠ 0 := fun e => e ▸ h

set_option maxHeartbeats 16000000 in
set_option maxRecDepth 100000 in
theorem check_any (l : List Raw) (vl : Value) (size : Int) (w : World) (hl : RawsAt w vl l) :
    Calls Tryz.prog 25 #[vl, .int .i64 size] w fun e w' => ∃ v, e = .returned (.tuple #[v, .int .i64 (checkP size l).2.1, .int .i64 (checkP size l).2.2]) ∧ EntsOwn w.heap.size w' (checkP size l).1 v ∧ Below w.heap.size w w' := by
  have ME : Hid (∀ (x : Raw) (u : Value) W, ClasAt W x u → rightR x → Calls Tryz.prog 49 #[.agg (rawV x u)] W fun e w' => e = .returned (.agg (entV (meaning x))) ∧ Below W.heap.size W w') := fun x u W h1 h2 => meaning_any x u W h1 h2.rule
  obtain ⟨o, cap, rfl, hc1, hc2⟩ := NSl.slice hl
  obtain ⟨n, hn⟩ : ∃ n, n = l.length := ⟨_, rfl⟩
  have HN : Hid (n = l.length) := hn
  rw [← hn] at hl hc1 ⊢
  have HL : Hid (RawsAt w (.slice o n cap) l) := hl
  unfold maxLen at hc2
  obtain ⟨P, hP⟩ : ∃ P, P = checkP size l := ⟨_, rfl⟩
  have HP : Hid (P = outC (checkGo size 0 false l)) := hP
  rw [← hP]
  clear hl hn hP
  go_enter Tryz.func25, Tryz.ntmps25
  go_wp2_with fail
  go_loopw [7, 8, 14] (fun v b i wr => ∃ (k : Nat) (had : Bool) (m : List Ent), k ≤ n ∧ k ≤ 64 ∧ i = .int .i64 (k : Int) ∧ b = .bool had ∧ m.length = k ∧ Hid (checkGo size 0 false l = (checkGo size k had (l.drop k)).map fun y => m ++ y) ∧ EntsOwn w.heap.size wr m v ∧ Below w.heap.size w wr) (fun _ _ i _ => n - (intOf i).toNat)
  case atStart => exact ⟨0, false, [], Nat.zero_le _, Nat.zero_le _, rfl, rfl, rfl, (by show _ = _; rw [List.drop_zero, map_nil']), World.ownsRow_nil _ _ _ _, Below.refl _ _⟩
  case round =>
    obtain ⟨k, had, m, hk, hk64, rfl, rfl, hm, HC, hown, hb⟩ := hrel
    have HO : Hid (EntsOwn w.heap.size wr m u7) := hown
    have HB : Hid (Below w.heap.size w wr) := hb
    have HM : Hid (m.length = k) := hm
    clear hown hb hm
    by_cases hlt : k < n
    · have hlt' : (k : Int) < (n : Int) := by omega
      obtain ⟨g, off, cur, ty, fr, r, u', rfl, hg, hc, hCk, hcl⟩ := NSl.at (NSl.below clas_below HL.out HB.out) k hlt
      have HD : Hid (l.drop k = r :: l.drop (k + 1)) := by
        obtain ⟨hk', rfl⟩ := List.getElem?_eq_some_iff.1 hCk
        exact List.drop_eq_getElem_cons hk'
      have K1 : Hid (wr.heap[g]? = some (.cells cur ty fr)) := hg
      have H1 : Hid (∀ i, i < 8 → cur[off + k * 8 + i]? = (rawV r u')[i]?) := hc
      have HF : Hid (ClasAt wr r u') := hcl
      obtain ⟨o1, cap1, rfl, -, -⟩ := NSl.slice hcl
      have BN : Hid (Below wr.heap.size wr (wr.alloc (.cells (rawV r (.slice o1 r.clauses.length cap1)) 92))) := (Below.refl _ _).alloc (Nat.le_refl _) _
      have KN : Hid ((wr.alloc (.cells (rawV r (.slice o1 r.clauses.length cap1)) 92)).heap[wr.heap.size]? = some (.cells (rawV r (.slice o1 r.clauses.length cap1)) 92 (0, 0))) := heap_new _ _ _ rfl
      have HFN : Hid (ClasAt (wr.alloc (.cells (rawV r (.slice o1 r.clauses.length cap1)) 92)) r (.slice o1 r.clauses.length cap1)) := clas_below _ _ _ _ BN.out HF.out
      clear hg hc hCk hcl
      go_wp2_with (first
        | (refine wl_loadE (E := RawE) RawOk rfl _ rfl g (off + k * 8) rfl cur ty fr (rawV r (.slice o1 r.clauses.length cap1)) rfl K1.out H1.out ?_)
        | (refine wl_storeE (E := RawE) RawOk rfl _ _ rfl wr.heap.size (rawV r (.slice o1 r.clauses.length cap1)) ⟨rfl, by simp [rawV, Value.oneCell']⟩ rfl rfl _ (heap_new _ _ _ rfl) rfl _ (setRow_new _ _ _ _ _ rfl) ?_))
      refine chk6_region (by exact Nat.le_refl _) k wr.heap.size had r (.slice o1 r.clauses.length cap1) rfl rfl rfl KN.out HFN.out ?_
      intro y w1 G hy hG hb1 hg1
      simp only [putsD, chk6_D, List.foldl_cons, List.foldl_nil, hy, Act.put, List.setIfInBounds_toArray, List.set_cons_succ, List.set_cons_zero]
      have B1 : Hid (Below wr.heap.size wr w1) := BN.out.trans (hb1.mono BN.out.size)
      have KR : Hid (w1.heap[wr.heap.size]? = some (.cells (rawV r (.slice o1 r.clauses.length cap1)) 92 (0, 0))) := (hb1.block _ (by simp)).trans KN.out
      have HF1 : Hid (ClasAt w1 r (.slice o1 r.clauses.length cap1)) := clas_below _ _ _ _ B1.out HF.out
      have HO1 : Hid (EntsOwn w.heap.size w1 m u7) := gown_below HO.out B1.out
      have BW : Hid (Below w.heap.size w w1) := HB.out.trans (B1.out.mono HB.out.size)
      have G0 : Hid (w1.heap[G]? = some (.cells (fltV (rowF k had r)) 94 (0, 0))) := hg1
      have f0 : w1.cell? ⟨G, 0, none⟩ = some (.int .i64 (rowF k had r).1) := by rw [cell_of_row _ _ _ _ _ _ G0.out]; rfl
      clear hy hG hb1 hg1 BN KN HFN K1 H1
      by_cases hz : (rowF k had r).1 = 0
      · have hz' : ((rowF k had r).1 != 0) = false := by simp [hz]
        obtain ⟨hgo, hright, h64⟩ := check_good size k had r (l.drop (k + 1)) hz
        have HRT : Hid (rightR r) := hright
        have HC2 : Hid (checkGo size 0 false l = (checkGo size (k + 1) (had || r.dflt) (l.drop (k + 1))).map fun y => (m ++ [meaning r]) ++ y) := by
          show _ = _
          rw [HC.out, HD.out, hgo, map_app]
        have hd1 := (raw_f KR.out).2.1
        clear hgo hright hz
        have step : ∀ (w2 : World), Below w1.heap.size w1 w2 → True := fun _ _ => trivial
        clear step
        cases had with
        | false =>
          go_wp2_with (first
            | (refine wl_loadE (E := RawE) RawOk rfl _ rfl wr.heap.size 0 rfl _ _ _ (rawV r (.slice o1 r.clauses.length cap1)) rfl KR.out (own_cells _ _) ?_))
          refine (ME.out _ _ _ HF1.out HRT.out).mono ?_
          rintro e w2 ⟨rfl, hb2⟩
          have B2 : Hid (Below w.heap.size w w2) := BW.out.trans (hb2.mono BW.out.size)
          have HO2 : Hid (EntsOwn w.heap.size (w2.alloc (.cells (entV (meaning r)) 35)) m u7) := (gown_below HO1.out hb2).alloc _
          clear hb2 hd1 f0
          go_wp2_with (first
            | (refine wl_buildE (E := EntE) EntOk rfl _ rfl (entV (meaning r)) rfl rfl ?_)
            | (at_builtin; refine of_stopT ?_))
          unfold StopT
          refine wl_appendE (E := EntE) EntOk entV rfl _ _ rfl w.heap.size u7 m (meaning r) (ent_fits _) rfl HO2.out w2.heap.size 1 rfl (heap_new _ _ _ rfl) (by have := HM.out; omega) (by have := B2.out.size; simp; omega) ?_
          intro v' w3 hown3 hgr3 _
          have B3 : Hid (Below w.heap.size w w3) := (B2.out.alloc B2.out.size _).trans ((Below.refl _ _).grown hgr3 (B2.out.alloc B2.out.size _).size fun k hk => (HO2.out.lt k hk).1)
          have HO3 : Hid (EntsOwn w.heap.size w3 (m ++ [meaning r]) v') := hown3
          clear hown3 hgr3
          simp only [Act.put, List.setIfInBounds_toArray, List.set_cons_succ, List.set_cons_zero]
          go_wp2_with fail
          go_roundw
          case rel => exact ⟨k + 1, r.dflt, m ++ [meaning r], by omega, by omega, by go_num, by simp, by rw [List.length_append, HM.out]; rfl, (by have := HC2.out; rw [Bool.false_or] at this; exact this), HO3.out, B3.out⟩
          case measure => simp [intOf]; omega
        | true =>
          go_wp2_with (first
            | (refine wl_loadE (E := RawE) RawOk rfl _ rfl wr.heap.size 0 rfl _ _ _ (rawV r (.slice o1 r.clauses.length cap1)) rfl KR.out (own_cells _ _) ?_))
          refine (ME.out _ _ _ HF1.out HRT.out).mono ?_
          rintro e w2 ⟨rfl, hb2⟩
          have B2 : Hid (Below w.heap.size w w2) := BW.out.trans (hb2.mono BW.out.size)
          have HO2 : Hid (EntsOwn w.heap.size (w2.alloc (.cells (entV (meaning r)) 35)) m u7) := (gown_below HO1.out hb2).alloc _
          clear hb2 hd1 f0
          go_wp2_with (first
            | (refine wl_buildE (E := EntE) EntOk rfl _ rfl (entV (meaning r)) rfl rfl ?_)
            | (at_builtin; refine of_stopT ?_))
          unfold StopT
          refine wl_appendE (E := EntE) EntOk entV rfl _ _ rfl w.heap.size u7 m (meaning r) (ent_fits _) rfl HO2.out w2.heap.size 1 rfl (heap_new _ _ _ rfl) (by have := HM.out; omega) (by have := B2.out.size; simp; omega) ?_
          intro v' w3 hown3 hgr3 _
          have B3 : Hid (Below w.heap.size w w3) := (B2.out.alloc B2.out.size _).trans ((Below.refl _ _).grown hgr3 (B2.out.alloc B2.out.size _).size fun k hk => (HO2.out.lt k hk).1)
          have HO3 : Hid (EntsOwn w.heap.size w3 (m ++ [meaning r]) v') := hown3
          clear hown3 hgr3
          simp only [Act.put, List.setIfInBounds_toArray, List.set_cons_succ, List.set_cons_zero]
          go_wp2_with fail
          go_roundw
          case rel => exact ⟨k + 1, true, m ++ [meaning r], by omega, by omega, by go_num, by simp, by rw [List.length_append, HM.out]; rfl, (by have := HC2.out; rw [Bool.true_or] at this; exact this), HO3.out, B3.out⟩
          case measure => simp [intOf]; omega
      · have hz' : ((rowF k had r).1 != 0) = true := by simp [hz]
        obtain ⟨e0, hgo, he0⟩ := check_bad size k had r (l.drop (k + 1)) hz
        have HPE : Hid (P = ([], (rowF k had r).1, (rowF k had r).2)) := by
          show _ = _
          rw [HP.out, HC.out, HD.out, hgo, he0]
          rfl
        have l0 : ∀ u : Later w1, u.world.cell? ⟨G, 0, none⟩ = some (.int .i64 (rowF k had r).1) := later_cell7 G0.out rfl
        have l1 : ∀ u : Later w1, u.world.cell? ⟨G, 1, none⟩ = some (.int .i64 (rowF k had r).2) := later_cell7 G0.out rfl
        clear hgo he0 hz
        go_wp2_with fail
        have ne1 := Later.ne w1
        refine wp_region_later (by kernel_rfl) (by kernel_rfl) ?_
        repeat go_big_quiet_step (rfl)
        refine wpQuiet_nil ?_
        rintro w' ⟨v, rfl⟩
        go_wp2_with fail
        go_ret3
        rw [HPE.out]
        exact ⟨_, rfl, World.ownsRow_nil _ _ _ _, BW.out.trans (v.below.mono BW.out.size)⟩
    · have hlt' : (n : Int) ≤ (k : Int) := by omega
      have hdrop : l.drop k = [] := List.drop_of_length_le (by have := HN.out; omega)
      have HC3 : Hid (checkGo size 0 false l = (checkGo size k had []).map fun y => m ++ y) := by rw [← hdrop]; exact HC.out
      clear hlt hdrop
      cases had with
      | true =>
        have HPE : Hid (P = (m, 0, 0)) := by
          show _ = _
          rw [HP.out, HC3.out]
          simp [checkGo, Except.map, outC]
        go_wp2_with fail
        go_ret3
        rw [HPE.out]
        exact ⟨_, rfl, HO.out, HB.out⟩
      | false =>
        have HPE : Hid (P = ([], 11, size)) := by
          show _ = _
          rw [HP.out, HC3.out]
          simp [checkGo, Except.map, outC]
        go_wp2_with fail
        go_ret3
        rw [HPE.out]
        exact ⟨_, rfl, World.ownsRow_nil _ _ _ _, HB.out⟩
end Go.Proofs.YtnbklmmampdbfaaGreatDoor
namespace Go.Proofs.YtnbklmmampdbfaaGreatDoor
open Go
set_option maxRecDepth 20000

/-- The best so far with one entry more. -/
def stepB (ap : Ent → Bool) (b : Option (Nat × Int)) (i : Nat) (x : Ent) : Option (Nat × Int) := if !x.dflt && ap x && beats x.prio b then some (i, x.prio) else b
theorem bestGo_snoc (ap : Ent → Bool) (x : Ent) : ∀ (l : List Ent) (i : Nat) (b : Option (Nat × Int)), bestGo ap i b (l ++ [x]) = stepB ap (bestGo ap i b l) (i + l.length) x
  | [], i, b => rfl
  | y :: l, i, b => by
    rw [List.cons_append, bestGo, bestGo, bestGo_snoc ap x l (i + 1)]
    rw [show i + 1 + l.length = i + (y :: l).length by simp; omega]
theorem firstD_snoc (x : Ent) : ∀ (l : List Ent) (i : Nat), firstD i (l ++ [x]) = (firstD i l).or (if x.dflt then some (i + l.length) else none)
  | [], i => by simp [firstD]
  | y :: l, i => by
    rw [List.cons_append, firstD, firstD]
    split
    · rfl
    · rw [firstD_snoc x l (i + 1), show i + 1 + l.length = i + (y :: l).length by simp; omega]
def bestK (ap : Ent → Bool) (l : List Ent) (k : Nat) : Option (Nat × Int) := bestGo ap 0 none (l.take k)
def restK (l : List Ent) (k : Nat) : Option Nat := firstD 0 (l.take k)
theorem bestK_next (ap : Ent → Bool) {l : List Ent} {k : Nat} {x : Ent} (h : l[k]? = some x) : bestK ap l (k + 1) = stepB ap (bestK ap l k) k x := by
  obtain ⟨hk, rfl⟩ := List.getElem?_eq_some_iff.1 h
  unfold bestK
  rw [List.take_succ_eq_append_getElem hk, bestGo_snoc, List.length_take, Nat.min_eq_left (Nat.le_of_lt hk), Nat.zero_add]
theorem restK_next {l : List Ent} {k : Nat} {x : Ent} (h : l[k]? = some x) : restK l (k + 1) = (restK l k).or (if x.dflt then some k else none) := by
  obtain ⟨hk, rfl⟩ := List.getElem?_eq_some_iff.1 h
  unfold restK
  rw [List.take_succ_eq_append_getElem hk, firstD_snoc, List.length_take, Nat.min_eq_left (Nat.le_of_lt hk), Nat.zero_add]
theorem bestK_in (ap : Ent → Bool) {l : List Ent} {k j : Nat} {p : Int} (h : bestK ap l k = some (j, p)) : ∃ x, l[j]? = some x ∧ x.prio = p ∧ x.dflt = false ∧ ap x = true ∧ j < k := by
  unfold bestK at h
  obtain ⟨x, h1, h2, h3, h4⟩ := bestGo_in ap (l.take k) (l.take k) 0 none (fun k => by rw [Nat.zero_add]) (fun j p hjp => by cases hjp) j p h
  have hj : j < k := by
    have := (List.getElem?_eq_some_iff.1 h1).1
    rw [List.length_take] at this
    omega
  rw [List.getElem?_take_of_lt hj] at h1
  exact ⟨x, h1, h2, h3, h4, hj⟩
/-- A place, or -1. -/
def atW : Option Nat → Int
  | none => -1
  | some i => (i : Int)
def bestI (b : Option (Nat × Int)) : Int := atW (b.map (·.1))
def whichI (ap : Ent → Bool) (l : List Ent) : Int := atW (whichT ap l)
theorem whichI_eq (ap : Ent → Bool) (l : List Ent) : whichI ap l = if bestI (bestK ap l l.length) < 0 then atW (restK l l.length) else bestI (bestK ap l l.length) := by
  unfold whichI whichT bestK restK
  rw [List.take_length]
  cases bestGo ap 0 none l with
  | none => rfl
  | some b =>
    obtain ⟨i, p⟩ := b
    rw [if_neg (by show ¬ ((i : Int) < 0); omega)]
    rfl
theorem atW_lt (o : Option Nat) : decide (atW o < 0) = o.isNone := by
  cases o with
  | none => rfl
  | some i => exact decide_eq_false (by show ¬ ((i : Int) < 0); omega)
theorem firstD_lt : ∀ (l : List Ent) (i j : Nat), firstD i l = some j → i ≤ j ∧ ∃ x, l[j - i]? = some x ∧ x.dflt = true
  | [], i, j, h => by simp [firstD] at h
  | y :: l, i, j, h => by
    rw [firstD] at h
    split at h
    · rename_i hy
      obtain rfl := Option.some.inj h
      exact ⟨Nat.le_refl _, y, by rw [Nat.sub_self]; rfl, hy⟩
    · obtain ⟨h1, x, h2, h3⟩ := firstD_lt l (i + 1) j h
      refine ⟨by omega, x, ?_, h3⟩
      rw [show j - i = (j - (i + 1)) + 1 by omega, List.getElem?_cons_succ]
      exact h2
theorem whichT_in {ap : Ent → Bool} {l : List Ent} {i : Nat} (h : whichT ap l = some i) : ∃ x, l[i]? = some x := by
  unfold whichT at h
  cases hb : bestGo ap 0 none l with
  | none =>
    rw [hb] at h
    obtain ⟨_, x, h2, _⟩ := firstD_lt l 0 i h
    exact ⟨x, h2⟩
  | some b =>
    obtain ⟨j, p⟩ := b
    rw [hb] at h
    obtain rfl := Option.some.inj h
    obtain ⟨x, h1, _⟩ := bestGo_in ap l l 0 none (fun k => by rw [Nat.zero_add]) (fun j p hjp => by cases hjp) _ _ hb
    exact ⟨x, h1⟩
/-- What a list says. -/
def saysT (ap : Ent → Bool) (l : List Ent) : Int × Bool := match whichT ap l with
  | none => (0, false)
  | some i => ((l.getD i ⟨false, 0, 0, 0, 0, 0, 0, 0, 0, 0, 0, 0⟩).action, true)
/-- No entry beats the best one. -/
def lessB (b : Option (Nat × Int)) (i : Nat) (p : Int) : Prop := match b with
  | none => False
  | some (j, q) => p < q ∨ p = q ∧ j ≤ i
theorem bestK_most (ap : Ent → Bool) (l : List Ent) : ∀ (k : Nat), k ≤ l.length → ∀ (i : Nat) (x : Ent), i < k → l[i]? = some x → x.dflt = false → ap x = true → lessB (bestK ap l k) i x.prio
  | 0, _, i, x, h, _, _, _ => by omega
  | k + 1, hk, i, x, hi, hx, hd, ha => by
    have hy : l[k]? = some l[k] := List.getElem?_eq_getElem (by omega)
    rw [bestK_next ap hy]
    obtain ⟨y, hye⟩ : ∃ y, y = l[k] := ⟨_, rfl⟩
    rw [← hye] at hy ⊢
    unfold stepB
    by_cases hik : i = k
    · subst hik
      obtain rfl : x = y := Option.some.inj (hx.symm.trans hy)
      rw [hd, ha]
      simp only [Bool.not_false, Bool.true_and]
      cases hb : bestK ap l i with
      | none => rw [if_pos (show beats x.prio none = true from rfl)]; exact .inr ⟨rfl, Nat.le_refl _⟩
      | some b =>
        obtain ⟨j, q⟩ := b
        obtain ⟨_, _, _, _, _, hj⟩ := bestK_in ap hb
        by_cases hq : q < x.prio
        · rw [if_pos (by simp [beats, hq])]; exact .inr ⟨rfl, Nat.le_refl _⟩
        · rw [if_neg (by simp [beats, hq])]
          show x.prio < q ∨ x.prio = q ∧ j ≤ i
          omega
    · have ih := bestK_most ap l k (by omega) i x (by omega) hx hd ha
      cases hb : bestK ap l k with
      | none => rw [hb] at ih; exact ih.elim
      | some b =>
        obtain ⟨j, q⟩ := b
        rw [hb] at ih
        have ih' : x.prio < q ∨ x.prio = q ∧ j ≤ i := ih
        split
        · rename_i hc
          simp only [Bool.and_eq_true, beats, decide_eq_true_eq] at hc
          show x.prio < y.prio ∨ x.prio = y.prio ∧ k ≤ i
          omega
        · exact ih'
/-- What is asked of the entries that apply, against the one that says something. -/
theorem which_most (ap : Ent → Bool) (l : List Ent) {i k : Nat} {y x : Ent} (hw : whichT ap l = some i) (hy : l[i]? = some y) (hx : l[k]? = some x) (hd : x.dflt = false) (ha : ap x = true) : y.dflt = false ∧ ¬ y.prio < x.prio ∧ ¬ (x.prio = y.prio ∧ k < i) := by
  have hk := (List.getElem?_eq_some_iff.1 hx).1
  have h1 := bestK_most ap l l.length (Nat.le_refl _) k x hk hx hd ha
  cases hb : bestK ap l l.length with
  | none => rw [hb] at h1; exact h1.elim
  | some b =>
    obtain ⟨j, q⟩ := b
    obtain ⟨z, hz, hq, hzd, _, _⟩ := bestK_in ap hb
    have hw2 : whichT ap l = some j := by
      unfold whichT
      unfold bestK at hb
      rw [List.take_length] at hb
      rw [hb]
    rw [hw] at hw2
    obtain rfl := Option.some.inj hw2
    obtain rfl : y = z := Option.some.inj (hy.symm.trans hz)
    rw [hb] at h1
    have h2 : x.prio < q ∨ x.prio = q ∧ i ≤ k := h1
    refine ⟨hzd, ?_, ?_⟩ <;> omega

/-! First bits. -/
def clB (n : Int) : Nat := (min (max n 0) 32).toNat
def beginsM (a b n : Int) : Bool := a / 2 ^ (32 - clB n) == b / 2 ^ (32 - clB n)
theorem begins_zero (a b : Int) (ha : 0 ≤ a ∧ a < 4294967296) (hb : 0 ≤ b ∧ b < 4294967296) : a / 2 ^ 32 = b / 2 ^ 32 := by
  have e : (2 : Int) ^ 32 = 4294967296 := by decide
  rw [e]; omega
theorem begins_step (a b : Int) (k : Nat) (hk : k < 32) (h : a / 2 ^ (32 - k) = b / 2 ^ (32 - k)) : (a / 2 ^ (32 - (k + 1)) = b / 2 ^ (32 - (k + 1))) ↔ a / 2 ^ (31 - k) % 2 = b / 2 ^ (31 - k) % 2 := by
  rw [show 32 - (k + 1) = 31 - k by omega]
  have e : ∀ x : Int, x / 2 ^ (32 - k) = x / 2 ^ (31 - k) / 2 := fun x => by
    rw [show 32 - k = (31 - k) + 1 by omega, Int.pow_succ, ← Int.ediv_ediv_of_nonneg (Int.pow_nonneg (by decide))]
  rw [e, e] at h
  constructor
  · intro hh; rw [hh]
  · intro hh; omega
theorem begins_more (a b : Int) (k m : Nat) (hkm : k ≤ m) (hm : m ≤ 32) (h : ¬ a / 2 ^ (32 - k) = b / 2 ^ (32 - k)) : ¬ a / 2 ^ (32 - m) = b / 2 ^ (32 - m) := by
  intro hh
  apply h
  have e : ∀ x : Int, x / 2 ^ (32 - k) = x / 2 ^ (32 - m) / 2 ^ (m - k) := fun x => by
    rw [Int.ediv_ediv_of_nonneg (Int.pow_nonneg (by decide)), ← Int.pow_add, show 32 - m + (m - k) = 32 - k by omega]
  rw [e, e, hh]
end Go.Proofs.YtnbklmmampdbfaaGreatDoor
