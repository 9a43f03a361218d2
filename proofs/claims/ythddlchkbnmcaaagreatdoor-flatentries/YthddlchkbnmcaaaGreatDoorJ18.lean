import Derived.Test.YthddlchkbnmcaaaGreatDoorJ14
import Derived.Test.YthddlchkbnmcaaaGreatDoorJ11
import Derived.Test.YthddlchkbnmcaaaGreatDoorJ1
import Derived.StillTail
import Derived.Test.YthddlchkbnmcaaaGreatDoorJ9
namespace Go.Proofs.YthddlchkbnmcaaaGreatDoor
open Go Go.RowKit
set_option maxRecDepth 20000

/-- A fault: an error and its place. -/
def fltV (p : Int × Int) : Array Value := #[.int .i64 p.1, .int .i64 p.2]
def FltE : El := ⟨94, 124, 2, 16, #[.int .i64 0, .int .i64 0]⟩
theorem FltOk : FltE.Ok := ⟨Tryz.underlying124, ⟨_, Tryz.underlying94, rfl⟩, by kernel_rfl, rfl, by decide, by decide, by decide⟩
theorem flt_fits (p : Int × Int) : Fits FltE (fltV p) := ⟨rfl, by simp [fltV, Value.oneCell']⟩
theorem below2 (w : World) (a b : Obj) : Below w.heap.size w ((w.alloc a).alloc b) := ((Below.refl _ _).alloc (Nat.le_refl _) _).alloc (by simp) _

set_option maxHeartbeats 1000000 in
theorem when_any (b : Bool) (e p : Int) (w : World) :
    Calls Tryz.prog 46 #[.bool b, .int .i64 e, .int .i64 p] w fun x w' => x = .returned (.agg (fltV (if b then (e, p) else (0, 0)))) ∧ Below w.heap.size w w' := by
  cases b
  · go_enter Tryz.func46, Tryz.ntmps46
    go_wp2_with (first
      | (refine wl_storeE (E := FltE) FltOk rfl _ _ rfl w.heap.size (fltV (0, 0)) (flt_fits _) rfl rfl _ (heap_new _ _ _ rfl) rfl _ (setRow_new _ _ _ _ _ rfl) ?_))
    refine retE (E := FltE) FltOk rfl rfl w.heap.size rfl (fltV (0, 0)) rfl (heap_new _ _ _ rfl) ?_
    exact ⟨rfl, (Below.refl _ _).alloc (Nat.le_refl _) _⟩
  · go_enter Tryz.func46, Tryz.ntmps46
    go_wp2_with (first
      | (refine wl_storeE (E := FltE) FltOk rfl _ _ rfl w.heap.size (fltV (e, p)) (flt_fits _) rfl rfl _ (heap_new _ _ _ rfl) rfl _ (setRow_new _ _ _ _ _ rfl) ?_))
    refine retE (E := FltE) FltOk rfl rfl w.heap.size rfl (fltV (e, p)) rfl (heap_new _ _ _ rfl) ?_
    exact ⟨rfl, (Below.refl _ _).alloc (Nat.le_refl _) _⟩

def firstF : List (Int × Int) → Int × Int
  | [] => (0, 0)
  | f :: l => if f.1 = 0 then firstF l else f
set_option maxHeartbeats 2000000 in
theorem first7_any (F : List (Int × Int)) (v : Value) (w : World) (h : GSl FltE fltV w v F) :
    Calls Tryz.prog 45 #[v] w fun e w' => e = .returned (.agg (fltV (firstF F))) ∧ Below w.heap.size w w' := by
  obtain ⟨o, cap, rfl, hc1, hc2⟩ := h.slice
  obtain ⟨n, hn⟩ : ∃ n, n = F.length := ⟨_, rfl⟩
  have HN : Hid (n = F.length) := hn
  rw [← hn] at h hc1 ⊢
  unfold maxLen at hc2
  have H : Hid (GSl FltE fltV w (.slice o n cap) F) := h
  clear h hn
  go_enter Tryz.func45, Tryz.ntmps45
  go_wp2_with fail
  go_loopw [7] (fun x wr => ∃ j : Nat, j ≤ n ∧ x = .int .i64 (j : Int) ∧ Hid (firstF F = firstF (F.drop j)) ∧ wr.heap[w.heap.size]? = some (.cells (fltV (0, 0)) 94 (0, 0)) ∧ Below w.heap.size w wr) (fun x _ => n - (intOf x).toNat)
  case atStart => exact ⟨0, Nat.zero_le _, rfl, rfl, heap_new _ _ _ rfl, (Below.refl _ _).alloc (Nat.le_refl _) _⟩
  case round =>
    obtain ⟨j, hj, rfl, HJ, hr, hb⟩ := hrel
    have HR : Hid (wr.heap[w.heap.size]? = some (.cells (fltV (0, 0)) 94 (0, 0))) := hr
    have HB : Hid (Below w.heap.size w wr) := hb
    clear hr hb
    by_cases hlt : j < n
    · obtain ⟨g, off, cur, ty, fr, f, rfl, hg, hc, hFj⟩ := H.out.at j hlt
      have K1 : Hid (wr.heap[g]? = some (.cells cur ty fr)) := (HB.out.block g (Array.getElem?_eq_some_iff.1 hg).1).trans hg
      have H1 : Hid (∀ q, q < 2 → cur[off + j * 2 + q]? = (fltV f)[q]?) := hc
      have HD : Hid (F.drop j = f :: F.drop (j + 1)) := by
        obtain ⟨hk, rfl⟩ := List.getElem?_eq_some_iff.1 hFj
        exact List.drop_eq_getElem_cons hk
      have KN : Hid ((wr.alloc (.cells (fltV f) 94)).heap[wr.heap.size]? = some (.cells (fltV f) 94 (0, 0))) := heap_new _ _ _ rfl
      have n0 : (wr.alloc (.cells (fltV f) 94)).cell? ⟨wr.heap.size, 0, none⟩ = some (.int .i64 f.1) := by rw [cell_of_row _ _ _ _ _ _ KN.out]; rfl
      have hlt' : (j : Int) < (n : Int) := by omega
      clear hg hc hFj
      by_cases hz : f.1 = 0
      · have hz' : (f.1 != 0) = false := by simp [hz]
        have HE : Hid (firstF F = firstF (F.drop (j + 1))) := by
          show _ = _
          rw [HJ.out, HD.out, firstF, if_pos hz]
        clear hz
        go_wp2_with (first
          | (refine wl_loadE (E := FltE) FltOk rfl _ rfl g (off + j * 2) rfl cur ty fr (fltV f) rfl K1.out H1.out ?_)
          | (refine wl_storeE (E := FltE) FltOk rfl _ _ rfl wr.heap.size (fltV f) (flt_fits _) rfl rfl _ (heap_new _ _ _ rfl) rfl _ (setRow_new _ _ _ _ _ rfl) ?_))
        go_roundw
        case rel => exact ⟨j + 1, by omega, by go_num, HE, heap_past _ _ _ _ HR.out, HB.out.alloc HB.out.size _⟩
        case measure => simp [intOf]; omega
      · have hz' : (f.1 != 0) = true := by simp [hz]
        have HE : Hid (firstF F = f) := by
          show _ = _
          rw [HJ.out, HD.out, firstF, if_neg hz]
        clear hz
        go_wp2_with (first
          | (refine wl_loadE (E := FltE) FltOk rfl _ rfl g (off + j * 2) rfl cur ty fr (fltV f) rfl K1.out H1.out ?_)
          | (refine wl_storeE (E := FltE) FltOk rfl _ _ rfl wr.heap.size (fltV f) (flt_fits _) rfl rfl _ (heap_new _ _ _ rfl) rfl _ (setRow_new _ _ _ _ _ rfl) ?_)
          | (refine wl_loadE (E := FltE) FltOk rfl _ rfl wr.heap.size 0 rfl _ _ _ (fltV f) rfl KN.out (own_cells _ _) ?_)
          | (refine wl_storeE (E := FltE) FltOk rfl _ _ rfl w.heap.size (fltV f) (flt_fits _) rfl rfl _ (heap_past _ _ _ _ HR.out) rfl _ rfl ?_))
        refine retE (E := FltE) FltOk rfl rfl w.heap.size rfl (fltV f) rfl (setRow_heap _ _ _ _ _ _ (heap_past _ _ _ _ HR.out)) ?_
        exact ⟨by rw [HE.out], below_setRow (HB.out.alloc HB.out.size _) (Nat.le_refl _) _⟩
    · have hlt' : (n : Int) ≤ (j : Int) := by omega
      have HE : Hid (firstF F = (0, 0)) := by
        show _ = _
        rw [HJ.out, List.drop_of_length_le (by have := HN.out; omega)]
        rfl
      clear hlt
      go_wp2_with (first
        | (refine wl_storeE (E := FltE) FltOk rfl _ _ rfl w.heap.size (fltV (0, 0)) (flt_fits _) rfl rfl _ HR.out rfl _ rfl ?_))
      refine retE (E := FltE) FltOk rfl rfl w.heap.size rfl (fltV (0, 0)) rfl (setRow_heap _ _ _ _ _ _ HR.out) ?_
      exact ⟨by rw [HE.out], below_setRow HB.out (Nat.le_refl _) _⟩

/-- A number that isn't from low to high. -/
def outF (f : Fig) (low high : Int) : Int × Int := if decide (f.n < low) || decide (high < f.n) then (10, f.pos) else (0, 0)
set_option maxHeartbeats 2000000 in
theorem outside_any (f : Fig) (low high : Int) (w : World) :
    Calls Tryz.prog 73 #[.agg (figV f), .int .i64 low, .int .i64 high] w fun x w' => x = .returned (.agg (fltV (outF f low high))) ∧ Below w.heap.size w w' := by
  have WH : Hid (∀ b e p W, Calls Tryz.prog 46 #[.bool b, .int .i64 e, .int .i64 p] W fun x w' => x = .returned (.agg (fltV (if b then (e, p) else (0, 0)))) ∧ Below W.heap.size W w') := when_any
  obtain ⟨W2, hW2⟩ : ∃ W2, W2 = (w.alloc (.cells (figV f) 89)).alloc (.cells #[.int .i64 0, .int .i64 0] 94) := ⟨_, rfl⟩
  have c0 : ((w.alloc (.cells (figV f) 89)).alloc (.cells #[.int .i64 0, .int .i64 0] 94)).cell? ⟨w.heap.size, 0, none⟩ = some (.int .i64 f.n) := by rw [cell_of_row _ _ _ _ _ _ (heap_past _ _ _ _ (heap_new w (.cells (figV f) 89) _ rfl))]; rfl
  have c1 : ((w.alloc (.cells (figV f) 89)).alloc (.cells #[.int .i64 0, .int .i64 0] 94)).cell? ⟨w.heap.size, 1, none⟩ = some (.int .i64 f.pos) := by rw [cell_of_row _ _ _ _ _ _ (heap_past _ _ _ _ (heap_new w (.cells (figV f) 89) _ rfl))]; rfl
  have HR : Hid (W2.heap[w.heap.size + 1]? = some (.cells #[.int .i64 0, .int .i64 0] 94 (0, 0)) ∧ Below w.heap.size w W2) := by rw [hW2]; exact ⟨heap_new _ _ _ (by simp), below2 _ _ _⟩
  have HW : Hid (W2 = (w.alloc (.cells (figV f) 89)).alloc (.cells #[.int .i64 0, .int .i64 0] 94)) := hW2
  clear hW2
  have fin : ∀ (F : Int × Int) w1, Below W2.heap.size W2 w1 → w1.heap[w.heap.size + 1]? = some (.cells #[.int .i64 0, .int .i64 0] 94 (0, 0)) ∧ Below w.heap.size w w1 := fun F w1 hb => ⟨(hb.block _ (Array.getElem?_eq_some_iff.1 HR.out.1).1).trans HR.out.1, HR.out.2.trans (hb.mono HR.out.2.size)⟩
  have FIN : Hid (∀ w1, Below W2.heap.size W2 w1 → w1.heap[w.heap.size + 1]? = some (.cells #[.int .i64 0, .int .i64 0] 94 (0, 0)) ∧ Below w.heap.size w w1) := fin (0, 0)
  clear fin
  by_cases h1 : f.n < low
  · have e : outF f low high = (10, f.pos) := by unfold outF; simp [h1]
    rw [e]
    clear e
    go_enter Tryz.func73, Tryz.ntmps73
    go_wp2_with fail
    refine (WH.out _ _ _ _).mono ?_
    rintro x w1 ⟨rfl, hb1⟩
    rw [← HW.out] at hb1
    have K := FIN.out w1 hb1
    have KR : Hid _ := K.1
    have KB := K.2
    clear K hb1
    go_wp2_with (first
      | (refine wl_storeE (E := FltE) FltOk rfl _ _ rfl (w.heap.size + 1) (fltV (10, f.pos)) (flt_fits _) rfl rfl _ KR.out rfl _ rfl ?_))
    refine retE (E := FltE) FltOk rfl rfl (w.heap.size + 1) rfl (fltV (10, f.pos)) rfl (setRow_heap _ _ _ _ _ _ KR.out) ?_
    exact ⟨rfl, below_setRow KB (by omega) _⟩
  · by_cases h2 : high < f.n
    · have e : outF f low high = (10, f.pos) := by unfold outF; simp [h2]
      rw [e]
      have h2' : f.n > high := h2
      clear e h2
      go_enter Tryz.func73, Tryz.ntmps73
      go_wp2_with fail
      refine (WH.out _ _ _ _).mono ?_
      rintro x w1 ⟨rfl, hb1⟩
      rw [← HW.out] at hb1
      have K := FIN.out w1 hb1
      have KR : Hid _ := K.1
      have KB := K.2
      clear K hb1
      go_wp2_with (first
        | (refine wl_storeE (E := FltE) FltOk rfl _ _ rfl (w.heap.size + 1) (fltV (10, f.pos)) (flt_fits _) rfl rfl _ KR.out rfl _ rfl ?_))
      refine retE (E := FltE) FltOk rfl rfl (w.heap.size + 1) rfl (fltV (10, f.pos)) rfl (setRow_heap _ _ _ _ _ _ KR.out) ?_
      exact ⟨rfl, below_setRow KB (by omega) _⟩
    · have e : outF f low high = (0, 0) := by unfold outF; simp [h1, h2]
      rw [e]
      have h2' : ¬ f.n > high := h2
      clear e h2
      go_enter Tryz.func73, Tryz.ntmps73
      go_wp2_with fail
      refine (WH.out _ _ _ _).mono ?_
      rintro x w1 ⟨rfl, hb1⟩
      rw [← HW.out] at hb1
      have K := FIN.out w1 hb1
      have KR : Hid _ := K.1
      have KB := K.2
      clear K hb1
      go_wp2_with (first
        | (refine wl_storeE (E := FltE) FltOk rfl _ _ rfl (w.heap.size + 1) (fltV (0, 0)) (flt_fits _) rfl rfl _ KR.out rfl _ rfl ?_))
      refine retE (E := FltE) FltOk rfl rfl (w.heap.size + 1) rfl (fltV (0, 0)) rfl (setRow_heap _ _ _ _ _ _ KR.out) ?_
      exact ⟨rfl, below_setRow KB (by omega) _⟩
end Go.Proofs.YthddlchkbnmcaaaGreatDoor
namespace Go.Proofs.YthddlchkbnmcaaaGreatDoor
open Go Go.RowKit
set_option maxRecDepth 20000

def manyI (c : Cla) : Int := if mustN c = 0 then -1 else (mustN c : Int)
theorem cla_row (w : World) (c : Cla) (u : Value) : (w.alloc (.cells (claV c u) 129)).heap[w.heap.size]? = some (.cells (claV c u) 129 (0, 0)) := heap_new _ _ _ rfl
theorem cla_f {w : World} {b : Nat} {c : Cla} {u : Value} {ty : TypeId} {fr : Nat × Nat} (h : w.heap[b]? = some (.cells (claV c u) ty fr)) :
    w.cell? ⟨b, 0, none⟩ = some (.string ⟨c.word.toArray⟩) ∧ w.cell? ⟨b, 1, none⟩ = some (.int .i64 c.pos) ∧ w.cell? ⟨b, 2, none⟩ = some u ∧ w.cell? ⟨b, 3, none⟩ = some (.bool c.slash) ∧ w.cell? ⟨b, 4, none⟩ = some (.bool c.dash) := by
  refine ⟨?_, ?_, ?_, ?_, ?_⟩ <;> (rw [cell_of_row _ _ _ _ _ _ h]; rfl)
/-- The five words, and all others. -/
theorem word_cases (x : List UInt8) : x = wSrc ∨ x = wDst ∨ x = wSport ∨ x = wDport ∨ x = wProto ∨ ((x == [115, 114, 99]) = false ∧ (x == [100, 115, 116]) = false ∧ (x == [115, 112, 111, 114, 116]) = false ∧ (x == [100, 112, 111, 114, 116]) = false ∧ (x == [112, 114, 111, 116, 111]) = false) := by
  by_cases h1 : x = wSrc
  · exact .inl h1
  by_cases h2 : x = wDst
  · exact .inr (.inl h2)
  by_cases h3 : x = wSport
  · exact .inr (.inr (.inl h3))
  by_cases h4 : x = wDport
  · exact .inr (.inr (.inr (.inl h4)))
  by_cases h5 : x = wProto
  · exact .inr (.inr (.inr (.inr (.inl h5))))
  refine .inr (.inr (.inr (.inr (.inr ⟨?_, ?_, ?_, ?_, ?_⟩)))) <;> (rw [beq_eq_false_iff_ne]; assumption)

set_option maxHeartbeats 2000000 in
theorem many7_any (c : Cla) (u : Value) (hu : ∃ o n m, u = .slice o n m) (w : World) :
    Calls Tryz.prog 101 #[.agg (claV c u)] w fun x w' => x = .returned (.int .i64 (manyI c)) ∧ Below w.heap.size w w' := by
  obtain ⟨o, n, m, rfl⟩ := hu
  have q := cla_f (cla_row w c (.slice o n m))
  obtain ⟨c0, -, -, c3, c4⟩ := q
  have HB : Hid (Below w.heap.size w (w.alloc (.cells (claV c (.slice o n m)) 129))) := (Below.refl _ _).alloc (Nat.le_refl _) _
  obtain ⟨word, pos, nums, slash, dash⟩ := c
  simp only at c0 c3 c4
  rcases word_cases word with rfl | rfl | rfl | rfl | rfl | ⟨e0, e1, e2, e3, e4⟩
  · cases slash
    · rw [show manyI ⟨wSrc, pos, nums, false, dash⟩ = 4 from rfl]
      go_enter Tryz.func101, Tryz.ntmps101
      go_wp2_with fail
      go_ret
      exact ⟨rfl, HB.out⟩
    · rw [show manyI ⟨wSrc, pos, nums, true, dash⟩ = 5 from rfl]
      go_enter Tryz.func101, Tryz.ntmps101
      go_wp2_with fail
      go_ret
      exact ⟨rfl, HB.out⟩
  · cases slash
    · rw [show manyI ⟨wDst, pos, nums, false, dash⟩ = 4 from rfl]
      go_enter Tryz.func101, Tryz.ntmps101
      go_wp2_with fail
      go_ret
      exact ⟨rfl, HB.out⟩
    · rw [show manyI ⟨wDst, pos, nums, true, dash⟩ = 5 from rfl]
      go_enter Tryz.func101, Tryz.ntmps101
      go_wp2_with fail
      go_ret
      exact ⟨rfl, HB.out⟩
  · cases dash
    · rw [show manyI ⟨wSport, pos, nums, slash, false⟩ = 1 from rfl]
      go_enter Tryz.func101, Tryz.ntmps101
      go_wp2_with fail
      go_ret
      exact ⟨rfl, HB.out⟩
    · rw [show manyI ⟨wSport, pos, nums, slash, true⟩ = 2 from rfl]
      go_enter Tryz.func101, Tryz.ntmps101
      go_wp2_with fail
      go_ret
      exact ⟨rfl, HB.out⟩
  · cases dash
    · rw [show manyI ⟨wDport, pos, nums, slash, false⟩ = 1 from rfl]
      go_enter Tryz.func101, Tryz.ntmps101
      go_wp2_with fail
      go_ret
      exact ⟨rfl, HB.out⟩
    · rw [show manyI ⟨wDport, pos, nums, slash, true⟩ = 2 from rfl]
      go_enter Tryz.func101, Tryz.ntmps101
      go_wp2_with fail
      go_ret
      exact ⟨rfl, HB.out⟩
  · rw [show manyI ⟨wProto, pos, nums, slash, dash⟩ = 1 from rfl]
    go_enter Tryz.func101, Tryz.ntmps101
    go_wp2_with fail
    go_ret
    exact ⟨rfl, HB.out⟩
  · have hm : manyI ⟨word, pos, nums, slash, dash⟩ = -1 := by
      unfold manyI mustN isAddrW isPortW wSrc wDst wSport wDport wProto
      simp only [e0, e1, e2, e3, e4]
      rfl
    rw [hm]
    clear hm
    go_enter Tryz.func101, Tryz.ntmps101
    go_wp2_with fail
    go_ret
    exact ⟨rfl, HB.out⟩
theorem many_ne (c : Cla) : (((c.nums.length : Int)) != manyI c) = (mustN c == 0 || c.nums.length != mustN c) := by
  unfold manyI
  by_cases h : mustN c = 0
  · rw [if_pos h, h]
    have : ((c.nums.length : Int) != -1) = true := by rw [bne_iff_ne]; omega
    rw [this]; rfl
  · rw [if_neg h]
    have e : (mustN c == 0) = false := by simpa using h
    rw [e, Bool.false_or, Bool.eq_iff_iff, bne_iff_ne, bne_iff_ne]
    omega

set_option maxHeartbeats 4000000 in
theorem bounds_any (c : Cla) (u : Value) (i : Nat) (w : World) (hu : FigsAt w c u) (hi : i < c.nums.length) :
    Calls Tryz.prog 117 #[.agg (claV c u), .int .i64 (i : Int)] w fun x w' => x = .returned (.tuple #[.int .i64 (lowN c i), .int .i64 (mostN c.word i)]) ∧ Below w.heap.size w w' := by
  obtain ⟨o, m, rfl, hm1, hm2⟩ := hu.slice
  have q := cla_f (cla_row w c (.slice o c.nums.length m))
  obtain ⟨c0, -, c2, -, -⟩ := q
  have HB : Hid (Below w.heap.size w (w.alloc (.cells (claV c (.slice o c.nums.length m)) 129))) := (Below.refl _ _).alloc (Nat.le_refl _) _
  obtain ⟨g, off, cur, ty, fr, f, rfl, hg, hc, hf⟩ := hu.at 0 (by omega)
  have hn : nth c 0 = f.n := by unfold nth; rw [List.getD_eq_getElem?_getD, hf]; rfl
  have cg : (w.alloc (.cells (claV c (.slice (some ⟨g, off, none⟩) c.nums.length m)) 129)).cell? ⟨g, off, none⟩ = some (.int .i64 f.n) := by
    rw [cell_of_row _ _ _ _ _ _ (heap_past _ _ _ _ hg)]
    have := hc 0 (by decide)
    rw [show off + 0 * FigE.size + 0 = off by simp] at this
    exact this
  obtain ⟨n, hnn⟩ : ∃ n, n = c.nums.length := ⟨_, rfl⟩
  rw [← hnn] at hi hm1 c0 c2 cg HB ⊢
  have hpos : (0 : Int) < (n : Int) := by omega
  have hposn : 0 < n := by omega
  unfold maxLen at hm2
  clear hu hg hc hf hnn
  obtain ⟨word, pos, nums, slash, dash⟩ := c
  simp only at c0 c2
  rcases word_cases word with rfl | rfl | rfl | rfl | rfl | ⟨e0, e1, e2, e3, e4⟩
  · by_cases h4 : i = 4
    · subst h4
      rw [show lowN ⟨wSrc, pos, nums, slash, dash⟩ 4 = 0 from rfl, show mostN wSrc 4 = 32 from rfl]
      clear hn
      go_enter Tryz.func117, Tryz.ntmps117
      go_wp2_with fail
      go_ret2
      exact ⟨rfl, HB.out⟩
    · have h4' : ((i : Int) == 4) = false := by simp; omega
      rw [show lowN ⟨wSrc, pos, nums, slash, dash⟩ i = 0 from rfl, show mostN wSrc i = 255 by unfold mostN; simp [h4]; decide]
      clear hn h4
      go_enter Tryz.func117, Tryz.ntmps117
      go_wp2_with fail
      go_ret2
      exact ⟨rfl, HB.out⟩
  · by_cases h4 : i = 4
    · subst h4
      rw [show lowN ⟨wDst, pos, nums, slash, dash⟩ 4 = 0 from rfl, show mostN wDst 4 = 32 from rfl]
      clear hn
      go_enter Tryz.func117, Tryz.ntmps117
      go_wp2_with fail
      go_ret2
      exact ⟨rfl, HB.out⟩
    · have h4' : ((i : Int) == 4) = false := by simp; omega
      rw [show lowN ⟨wDst, pos, nums, slash, dash⟩ i = 0 from rfl, show mostN wDst i = 255 by unfold mostN; simp [h4]; decide]
      clear hn h4
      go_enter Tryz.func117, Tryz.ntmps117
      go_wp2_with fail
      go_ret2
      exact ⟨rfl, HB.out⟩
  · by_cases h0 : 0 < i
    · have h0' : (i : Int) > 0 := by omega
      have hl : lowN ⟨wSport, pos, nums, slash, dash⟩ i = f.n := by rw [← hn]; unfold lowN; rw [decide_eq_true h0]; rfl
      rw [hl, show mostN wSport i = 65535 from rfl]
      clear hn hl h0
      go_enter Tryz.func117, Tryz.ntmps117
      go_wp2_with fail
      go_ret2
      exact ⟨rfl, HB.out⟩
    · have h0' : ¬ (i : Int) > 0 := by omega
      have hl : lowN ⟨wSport, pos, nums, slash, dash⟩ i = 0 := by unfold lowN; rw [decide_eq_false h0]; rfl
      rw [hl, show mostN wSport i = 65535 from rfl]
      clear hn hl h0
      go_enter Tryz.func117, Tryz.ntmps117
      go_wp2_with fail
      go_ret2
      exact ⟨rfl, HB.out⟩
  · by_cases h0 : 0 < i
    · have h0' : (i : Int) > 0 := by omega
      have hl : lowN ⟨wDport, pos, nums, slash, dash⟩ i = f.n := by rw [← hn]; unfold lowN; rw [decide_eq_true h0]; rfl
      rw [hl, show mostN wDport i = 65535 from rfl]
      clear hn hl h0
      go_enter Tryz.func117, Tryz.ntmps117
      go_wp2_with fail
      go_ret2
      exact ⟨rfl, HB.out⟩
    · have h0' : ¬ (i : Int) > 0 := by omega
      have hl : lowN ⟨wDport, pos, nums, slash, dash⟩ i = 0 := by unfold lowN; rw [decide_eq_false h0]; rfl
      rw [hl, show mostN wDport i = 65535 from rfl]
      clear hn hl h0
      go_enter Tryz.func117, Tryz.ntmps117
      go_wp2_with fail
      go_ret2
      exact ⟨rfl, HB.out⟩
  · rw [show lowN ⟨wProto, pos, nums, slash, dash⟩ i = 0 from rfl, show mostN wProto i = 255 from rfl]
    clear hn
    go_enter Tryz.func117, Tryz.ntmps117
    go_wp2_with fail
    go_ret2
    exact ⟨rfl, HB.out⟩
  · have hp : isPortW word = false := by unfold isPortW wSport wDport; rw [e2, e3]; rfl
    have hl : lowN ⟨word, pos, nums, slash, dash⟩ i = 0 := by unfold lowN; rw [hp]; rfl
    have ho : (word == wProto) = false := e4
    by_cases h4 : i = 4
    · subst h4
      have hm : mostN word 4 = 32 := by unfold mostN; rw [hp, ho]; rfl
      rw [hl, hm]
      clear hn hl hm hp ho
      go_enter Tryz.func117, Tryz.ntmps117
      go_wp2_with fail
      go_ret2
      exact ⟨rfl, HB.out⟩
    · have h4' : ((i : Int) == 4) = false := by simp; omega
      have hm : mostN word i = 255 := by unfold mostN; rw [hp, ho]; simp [h4]
      rw [hl, hm]
      clear hn hl hm hp ho h4
      go_enter Tryz.func117, Tryz.ntmps117
      go_wp2_with fail
      go_ret2
      exact ⟨rfl, HB.out⟩
end Go.Proofs.YthddlchkbnmcaaaGreatDoor
