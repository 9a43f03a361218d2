import Derived.Test.YtbdbjbmjnemknaaDoorJ5
import Derived.Deep.CutRange
import Derived.Test.YtbdbjbmjnemknaaDoorJ1
import Derived.Shelf.Strings.Builder1
import Derived.Shelf.Strconv.AppendIntPublic10
import Derived.Lib.AppendStr
import Derived.Lib.ItoaLen
import Derived.Lib.OthersKept
import Derived.Laws.IdiomStrings
import Derived.Test.YtbdbjbmjnemknaaDoorJ3
import Derived.Test.YtbdbjbmjnemknaaDoorJ2
namespace Go.Proofs.YtbdbjbmjnemknaaDoor
open Go Go.RowKit
set_option maxRecDepth 20000

/-- The line that is written, but for its clauses. -/
def rawW (x : Ent) (p : Int) : Raw := ⟨0, x.dflt, fig0 p, [], decide (x.action = 0), fig0 x.action⟩
/-- A line made new. -/
def RawN (B : Nat) (w : World) (x : Ent) (e : Ending) : Prop := ∃ v P, e = .returned (.agg (rawV (rawW x (if x.dflt then 0 else x.prio)) v)) ∧ RowW B w v P ∧ P.map (·.1) = (lineOf x).clauses
/-- How things stand between two of its statements. -/
structure WrS (p1 : Nat) (x : Ent) (w0 w : World) (C : List Cla) : Prop where
  below : Below p1 w0 w
  size : p1 + 3 ≤ w.heap.size
  ent : w.heap[p1]? = some (.cells (entV x) 45 (0, 0))
  res : w.heap[p1 + 1]? = some (.cells RawE.zero 55 (0, 0))
  raw : ∃ v P, w.heap[p1 + 2]? = some (.cells (rawV (rawW x x.prio) v) 55 (0, 0)) ∧ RowW (p1 + 3) w v P ∧ P.map (·.1) = C ∧ P.length ≤ 5
theorem own_setRow8 {B : Nat} {w : World} {e : TypeId} {s n : Nat} {v : Value} {xs : List Value} {g : Nat} {cs : Array Value} (h : w.ownsRow B e s v n xs) (hg : g < B) : (w.setRow g cs).ownsRow B e s v n xs := by
  obtain ⟨h1, h2 | ⟨g', cap, cur, rfl, hB, hcur, h3⟩⟩ := h
  · exact ⟨h1, .inl h2⟩
  · exact ⟨h1, .inr ⟨g', cap, cur, rfl, hB, (setRow_other _ _ _ _ (by omega)).trans hcur, h3⟩⟩
theorem WrS.next {p1 : Nat} {x : Ent} {w0 wc w' : World} {C : List Cla} (h : WrS p1 x w0 wc C) {v v' : Value} {P : List (Cla × Value)} {c : Cla} {u : Value} (hC : P.map (·.1) = C) (hP : P.length ≤ 4) (hk : KeptW (p1 + 3) p1 (p1 + 2) x (rawV (rawW x x.prio) v) P wc w')
    (hr : w'.ownsRow (p1 + 3) 76 5 v' (P ++ [(c, u)]).length (gcells claP2 (P ++ [(c, u)]))) (hf : FigsOwn (p1 + 3) w' c.nums u) : WrS p1 x w0 (w'.setCell ⟨p1 + 2, 4, none⟩ v') (C ++ [c]) := by
  have hsz := hk.below.size
  have hs0 := h.size
  refine ⟨tc_below (h.below.trans (hk.below.mono (by omega))) (by omega) _ _, by rw [tc_size]; omega, (tc_far (by omega) _).trans hk.ent, (tc_far (by omega) _).trans ((hk.below.block _ (by omega)).trans h.res), v', P ++ [(c, u)], ?_, ⟨own_set hr hk.raw (by decide) _, ?_⟩, by simp [hC], by simp; omega⟩
  · rw [tc_row hk.raw]
    rfl
  · intro q hq
    rcases List.mem_append.1 hq with hq | hq
    · exact own_set (hk.figs q hq) hk.raw (by decide) _
    · simp only [List.mem_singleton] at hq
      subst hq
      exact own_set hf hk.raw (by decide) _
theorem WrS.cells {p1 : Nat} {x : Ent} {w0 w : World} {C : List Cla} (h : WrS p1 x w0 w C) (k : Nat) (y : Value) (hy : (entV x)[k]? = some y) : w.cell? ⟨p1, k, none⟩ = some y := by rw [cell_of_row _ _ _ _ _ _ h.ent]; exact hy

set_option maxHeartbeats 16000000 in
set_option maxRecDepth 100000 in
theorem written_any (x : Ent) (hx : ent32 x) (w : World) :
    Calls Tryd.prog 15 #[.agg (entV x)] w fun e w' => RawN w.heap.size w' x e ∧ Below w.heap.size w w' := by
  have b1 : Hid (((w.alloc (.cells (entV x) 45)).alloc (.cells RawE.zero 55)).heap[w.heap.size]? = some (.cells (entV x) 45 (0, 0))) := heap_past _ _ _ _ (heap_new _ _ _ rfl)
  have b2 : Hid (((w.alloc (.cells (entV x) 45)).alloc (.cells RawE.zero 55)).heap[w.heap.size + 1]? = some (.cells RawE.zero 55 (0, 0))) := heap_new _ _ _ (by simp)
  have B2 : Hid (Below w.heap.size w ((w.alloc (.cells (entV x) 45)).alloc (.cells RawE.zero 55))) := below2 _ _ _
  have e0 : ((w.alloc (.cells (entV x) 45)).alloc (.cells RawE.zero 55)).cell? ⟨w.heap.size, 0, none⟩ = some (.bool x.dflt) := by rw [cell_of_row _ _ _ _ _ _ b1.out]; rfl
  have e11 : ((w.alloc (.cells (entV x) 45)).alloc (.cells RawE.zero 55)).cell? ⟨w.heap.size, 11, none⟩ = some (.int .i64 x.action) := by rw [cell_of_row _ _ _ _ _ _ b1.out]; rfl
  have g0 : ∀ z, (((w.alloc (.cells (entV x) 45)).alloc (.cells RawE.zero 55)).alloc z).cell? ⟨w.heap.size, 0, none⟩ = some (.bool x.dflt) := fun z => by rw [cell_of_row _ _ _ _ _ _ (heap_past _ _ _ _ b1.out)]; rfl
  have g1 : ∀ z, (((w.alloc (.cells (entV x) 45)).alloc (.cells RawE.zero 55)).alloc z).cell? ⟨w.heap.size, 1, none⟩ = some (.int .i64 x.prio) := fun z => by rw [cell_of_row _ _ _ _ _ _ (heap_past _ _ _ _ b1.out)]; rfl
  unfold RawE at e0 e11 g0 g1
  simp only at e0 e11 g0 g1
  cases hd : x.dflt with
  | true =>
    rw [hd] at e0 g0
    have HD : Hid (x.dflt = true) := hd
    have hw3 : (((w.alloc (.cells (entV x) 45)).alloc (.cells RawE.zero 55)).alloc (.cells (rawV (rawW x 0) (.slice none 0 0)) 55)) = (((w.alloc (.cells (entV x) 45)).alloc (.cells #[.int .i64 0, .bool false, .int .i64 0, .int .i64 0, .slice none 0 0, .bool false, .int .i64 0, .int .i64 0] 55)).alloc (.cells #[.int .i64 0, .bool true, .int .i64 0, .int .i64 0, .slice none 0 0, .bool (x.action == 0), .int .i64 x.action, .int .i64 0] 55)) := by
      unfold rawW rawV
      rw [hd]
      rfl
    have K3 : Hid ((((w.alloc (.cells (entV x) 45)).alloc (.cells #[.int .i64 0, .bool false, .int .i64 0, .int .i64 0, .slice none 0 0, .bool false, .int .i64 0, .int .i64 0] 55)).alloc (.cells #[.int .i64 0, .bool true, .int .i64 0, .int .i64 0, .slice none 0 0, .bool (x.action == 0), .int .i64 x.action, .int .i64 0] 55)).heap[w.heap.size + 2]? = some (.cells (rawV (rawW x 0) (.slice none 0 0)) 55 (0, 0))) := by rw [← hw3]; exact heap_new _ _ _ (by simp)
    have K2 : Hid ((((w.alloc (.cells (entV x) 45)).alloc (.cells #[.int .i64 0, .bool false, .int .i64 0, .int .i64 0, .slice none 0 0, .bool false, .int .i64 0, .int .i64 0] 55)).alloc (.cells #[.int .i64 0, .bool true, .int .i64 0, .int .i64 0, .slice none 0 0, .bool (x.action == 0), .int .i64 x.action, .int .i64 0] 55)).heap[w.heap.size + 1]? = some (.cells RawE.zero 55 (0, 0))) := by rw [← hw3]; exact heap_past _ _ _ _ b2.out
    have BW : Hid (Below w.heap.size w (((w.alloc (.cells (entV x) 45)).alloc (.cells #[.int .i64 0, .bool false, .int .i64 0, .int .i64 0, .slice none 0 0, .bool false, .int .i64 0, .int .i64 0] 55)).alloc (.cells #[.int .i64 0, .bool true, .int .i64 0, .int .i64 0, .slice none 0 0, .bool (x.action == 0), .int .i64 x.action, .int .i64 0] 55))) := B2.out.alloc B2.out.size _
    clear hw3 hd
    go_enter Tryd.func15, Tryd.ntmps15
    go_wp2_with (first
      | ((with_reducible refine wl_atL _ rfl rfl ?_); refine wl_loadE (E := RawE) RawOk rfl _ rfl (w.heap.size + 2) 0 rfl _ _ _ (rawV (rawW x 0) (.slice none 0 0)) rfl K3.out (own_cells _ _) ?_)
      | (refine wl_storeE (E := RawE) RawOk rfl _ _ rfl (w.heap.size + 1) (rawV (rawW x 0) (.slice none 0 0)) ⟨rfl, by simp [rawV, Value.oneCell']⟩ rfl rfl _ K2.out rfl _ rfl ?_))
    refine retE (E := RawE) RawOk rfl rfl (w.heap.size + 1) rfl (rawV (rawW x 0) (.slice none 0 0)) rfl (setRow_heap _ _ _ _ _ _ K2.out) ?_
    refine ⟨⟨_, [], by rw [HD.out]; rfl, ⟨World.ownsRow_nil _ _ _ _, fun q hq => by simp at hq⟩, ?_⟩, below_setRow BW.out (by omega) _⟩
    unfold lineOf
    rw [HD.out]
    rfl
  | false =>
    rw [hd] at e0 g0
    go_enter Tryd.func15, Tryd.ntmps15
    have hw3 : Hid ((((w.alloc (.cells (entV x) 45)).alloc (.cells RawE.zero 55)).alloc (.cells (rawV (rawW x x.prio) (.slice none 0 0)) 55)) = (((w.alloc (.cells (entV x) 45)).alloc (.cells #[.int .i64 0, .bool false, .int .i64 0, .int .i64 0, .slice none 0 0, .bool false, .int .i64 0, .int .i64 0] 55)).alloc (.cells #[.int .i64 0, .bool false, .int .i64 x.prio, .int .i64 0, .slice none 0 0, .bool (x.action == 0), .int .i64 x.action, .int .i64 0] 55))) := by
      show _ = _
      unfold rawW rawV
      rw [hd]
      rfl
    have S0 : WrS w.heap.size x w (((w.alloc (.cells (entV x) 45)).alloc (.cells RawE.zero 55)).alloc (.cells (rawV (rawW x x.prio) (.slice none 0 0)) 55)) [] :=
      ⟨B2.out.alloc B2.out.size _, by simp, heap_past _ _ _ _ b1.out, heap_past _ _ _ _ b2.out, _, [], heap_new _ _ _ (by simp), ⟨World.ownsRow_nil _ _ _ _, fun q hq => by simp at hq⟩, rfl, by simp⟩
    rw [hw3.out] at S0
    obtain ⟨C0, hC0⟩ : ∃ C : List Cla, C = [] := ⟨_, rfl⟩
    rw [← hC0] at S0
    have S : Hid (WrS w.heap.size x w _ C0) := S0
    have HL0 : Hid (C0.length ≤ 0) := by rw [hC0]; exact Nat.le_refl _
    have HC0 : Hid (C0 = []) := hC0
    clear hC0
    clear S0
    go_upto_region 5 with fail
    clear e0 e11 g0 g1
    go_cut [27] from 20 to 27 (fun c wx => c = .bool (!decide (x.src = 0 ∧ x.srcBits = 0)) ∧ WrS w.heap.size x w wx C0)
    case first =>
      have c1 := S.out.cells 2 (.int .u32 x.src) rfl
      have c2 := S.out.cells 3 (.int .i64 x.srcBits) rfl
      by_cases h1 : x.src = 0
      · have h1' : (x.src != 0) = false := by simp [h1]
        by_cases h2 : x.srcBits = 0
        · have h2' : (x.srcBits != 0) = false := by simp [h2]
          have HV : Hid ((!decide (x.src = 0 ∧ x.srcBits = 0)) = false) := by show _ = _; simp [h1, h2]
          clear h1 h2
          go_wp2_with fail
          go_meet
          case rel => exact ⟨by rw [HV.out], S.out⟩
        · have h2' : (x.srcBits != 0) = true := by simp [h2]
          have HV : Hid ((!decide (x.src = 0 ∧ x.srcBits = 0)) = true) := by show _ = _; simp [h2]
          clear h1 h2
          go_wp2_with fail
          go_meet
          case rel => exact ⟨by rw [HV.out], S.out⟩
      · have h1' : (x.src != 0) = true := by simp [h1]
        have HV : Hid ((!decide (x.src = 0 ∧ x.srcBits = 0)) = true) := by show _ = _; simp [h1]
        clear h1
        go_wp2_with fail
        go_meet
        case rel => exact ⟨by rw [HV.out], S.out⟩
    case rest =>
      clear S
      obtain ⟨rfl, hS⟩ := hcut
      have S : Hid (WrS w.heap.size x w wc C0) := hS
      clear hS
      obtain ⟨b, hb⟩ : ∃ b, b = !decide (x.src = 0 ∧ x.srcBits = 0) := ⟨_, rfl⟩
      rw [← hb]
      have HB : Hid (b = !decide (x.src = 0 ∧ x.srcBits = 0)) := hb
      clear hb
      go_upto_if 27 with fail
      go_cut [] from 28 to 37 (fun wx => WrS w.heap.size x w wx (C0 ++ partA wSrc x.src x.srcBits))
      case first =>
        cases b with
        | true =>
          have HP : Hid (partA wSrc x.src x.srcBits = [addrC7 wSrc x.src x.srcBits]) := by
            have := HB.out
            show _ = _
            unfold partA
            rw [if_neg (fun h => by simp [h] at this)]
          go_wp2_with fail
          obtain ⟨v, P, hraw, hrow, hC, hP⟩ := S.out.raw
          refine wr6_region (by exact Nat.le_of_eq rfl) w.heap.size (w.heap.size + 2) (w.heap.size + 3) x hx v (rawV (rawW x x.prio) v) P rfl rfl S.out.ent hraw rfl S.out.size hrow (by omega) ?_
          intro y w' v' u hk hr hf
          have N : Hid (WrS w.heap.size x w (w'.setCell ⟨w.heap.size + 2, 4, none⟩ v') (C0 ++ partA wSrc x.src x.srcBits)) := by rw [HP.out]; exact S.out.next hC (by have h5 := congrArg List.length hC; rw [List.length_map] at h5; have h6 := HL0.out; omega) hk hr hf
          clear hk hr hf hraw hrow
          simp only [putsD, wr6_D, List.foldl_cons, List.foldl_nil, Act.put, List.setIfInBounds_toArray, List.set_cons_succ, List.set_cons_zero]
          go_wp2_with fail
          go_meet
          case rel => exact N.out
        | false =>
          have HP : Hid (partA wSrc x.src x.srcBits = []) := by
            have := HB.out
            show _ = _
            unfold partA
            rw [if_pos (by simpa using this)]
          go_wp2_with fail
          go_meet
          case rel => rw [HP.out, List.append_nil]; exact S.out
      case rest =>
        clear S
        obtain ⟨C1, hC1⟩ : ∃ C, C = C0 ++ partA wSrc x.src x.srcBits := ⟨_, rfl⟩
        rw [← hC1] at hcut
        have S : Hid (WrS w.heap.size x w wc C1) := hcut
        have HL1 : Hid (C1.length ≤ 1) := by have h6 := HL0.out; have h7 : (partA wSrc x.src x.srcBits).length ≤ 1 := (by unfold partA; split <;> simp); show _ ≤ _; rw [hC1, List.length_append]; omega
        have HC1 : Hid (C1 = C0 ++ partA wSrc x.src x.srcBits) := hC1
        clear hcut HB hC1
        go_upto_region 7 with fail
        go_cut [45] from 38 to 45 (fun c wx => c = .bool (!decide (x.dst = 0 ∧ x.dstBits = 0)) ∧ WrS w.heap.size x w wx C1)
        case first =>
          have c1 := S.out.cells 4 (.int .u32 x.dst) rfl
          have c2 := S.out.cells 5 (.int .i64 x.dstBits) rfl
          by_cases h1 : x.dst = 0
          · have h1' : (x.dst != 0) = false := by simp [h1]
            by_cases h2 : x.dstBits = 0
            · have h2' : (x.dstBits != 0) = false := by simp [h2]
              have HV : Hid ((!decide (x.dst = 0 ∧ x.dstBits = 0)) = false) := by show _ = _; simp [h1, h2]
              clear h1 h2
              go_wp2_with fail
              go_meet
              case rel => exact ⟨by rw [HV.out], S.out⟩
            · have h2' : (x.dstBits != 0) = true := by simp [h2]
              have HV : Hid ((!decide (x.dst = 0 ∧ x.dstBits = 0)) = true) := by show _ = _; simp [h2]
              clear h1 h2
              go_wp2_with fail
              go_meet
              case rel => exact ⟨by rw [HV.out], S.out⟩
          · have h1' : (x.dst != 0) = true := by simp [h1]
            have HV : Hid ((!decide (x.dst = 0 ∧ x.dstBits = 0)) = true) := by show _ = _; simp [h1]
            clear h1
            go_wp2_with fail
            go_meet
            case rel => exact ⟨by rw [HV.out], S.out⟩
        case rest =>
          clear S
          obtain ⟨rfl, hS⟩ := hcut
          have S : Hid (WrS w.heap.size x w wc C1) := hS
          clear hS
          obtain ⟨b, hb⟩ : ∃ b, b = !decide (x.dst = 0 ∧ x.dstBits = 0) := ⟨_, rfl⟩
          rw [← hb]
          have HB : Hid (b = !decide (x.dst = 0 ∧ x.dstBits = 0)) := hb
          clear hb
          go_upto_if 45 with fail
          go_cut [] from 46 to 55 (fun wx => WrS w.heap.size x w wx (C1 ++ partA wDst x.dst x.dstBits))
          case first =>
            cases b with
            | true =>
              have HP : Hid (partA wDst x.dst x.dstBits = [addrC7 wDst x.dst x.dstBits]) := by
                have := HB.out
                show _ = _
                unfold partA
                rw [if_neg (fun h => by simp [h] at this)]
              go_wp2_with fail
              obtain ⟨v, P, hraw, hrow, hC, hP⟩ := S.out.raw
              refine wr8_region (by exact Nat.le_of_eq rfl) w.heap.size (w.heap.size + 2) (w.heap.size + 3) x hx v (rawV (rawW x x.prio) v) P rfl rfl S.out.ent hraw rfl S.out.size hrow (by omega) ?_
              intro y w' v' u hk hr hf
              have N : Hid (WrS w.heap.size x w (w'.setCell ⟨w.heap.size + 2, 4, none⟩ v') (C1 ++ partA wDst x.dst x.dstBits)) := by rw [HP.out]; exact S.out.next hC (by have h5 := congrArg List.length hC; rw [List.length_map] at h5; have h6 := HL1.out; omega) hk hr hf
              clear hk hr hf hraw hrow
              simp only [putsD, wr8_D, List.foldl_cons, List.foldl_nil, Act.put, List.setIfInBounds_toArray, List.set_cons_succ, List.set_cons_zero]
              go_wp2_with fail
              go_meet
              case rel => exact N.out
            | false =>
              have HP : Hid (partA wDst x.dst x.dstBits = []) := by
                have := HB.out
                show _ = _
                unfold partA
                rw [if_pos (by simpa using this)]
              go_wp2_with fail
              go_meet
              case rel => rw [HP.out, List.append_nil]; exact S.out
          case rest =>
            clear S
            obtain ⟨C2, hC2⟩ : ∃ C, C = C1 ++ partA wDst x.dst x.dstBits := ⟨_, rfl⟩
            rw [← hC2] at hcut
            have S : Hid (WrS w.heap.size x w wc C2) := hcut
            have HL2 : Hid (C2.length ≤ 2) := by have h6 := HL1.out; have h7 : (partA wDst x.dst x.dstBits).length ≤ 1 := (by unfold partA; split <;> simp); show _ ≤ _; rw [hC2, List.length_append]; omega
            have HC2 : Hid (C2 = C1 ++ partA wDst x.dst x.dstBits) := hC2
            clear hcut HB hC2
            go_upto_region 9 with fail
            go_cut [63] from 56 to 63 (fun c wx => c = .bool (!decide (x.slow = 0 ∧ x.shigh = 65535)) ∧ WrS w.heap.size x w wx C2)
            case first =>
              have c1 := S.out.cells 6 (.int .i64 x.slow) rfl
              have c2 := S.out.cells 7 (.int .i64 x.shigh) rfl
              by_cases h1 : x.slow = 0
              · have h1' : (x.slow != 0) = false := by simp [h1]
                by_cases h2 : x.shigh = 65535
                · have h2' : (x.shigh != 65535) = false := by simp [h2]
                  have HV : Hid ((!decide (x.slow = 0 ∧ x.shigh = 65535)) = false) := by show _ = _; simp [h1, h2]
                  clear h1 h2
                  go_wp2_with fail
                  go_meet
                  case rel => exact ⟨by rw [HV.out], S.out⟩
                · have h2' : (x.shigh != 65535) = true := by simp [h2]
                  have HV : Hid ((!decide (x.slow = 0 ∧ x.shigh = 65535)) = true) := by show _ = _; simp [h2]
                  clear h1 h2
                  go_wp2_with fail
                  go_meet
                  case rel => exact ⟨by rw [HV.out], S.out⟩
              · have h1' : (x.slow != 0) = true := by simp [h1]
                have HV : Hid ((!decide (x.slow = 0 ∧ x.shigh = 65535)) = true) := by show _ = _; simp [h1]
                clear h1
                go_wp2_with fail
                go_meet
                case rel => exact ⟨by rw [HV.out], S.out⟩
            case rest =>
              clear S
              obtain ⟨rfl, hS⟩ := hcut
              have S : Hid (WrS w.heap.size x w wc C2) := hS
              clear hS
              obtain ⟨b, hb⟩ : ∃ b, b = !decide (x.slow = 0 ∧ x.shigh = 65535) := ⟨_, rfl⟩
              rw [← hb]
              have HB : Hid (b = !decide (x.slow = 0 ∧ x.shigh = 65535)) := hb
              clear hb
              go_upto_if 63 with fail
              go_cut [] from 64 to 73 (fun wx => WrS w.heap.size x w wx (C2 ++ partP wSport x.slow x.shigh))
              case first =>
                cases b with
                | true =>
                  have HP : Hid (partP wSport x.slow x.shigh = [portC7 wSport x.slow x.shigh]) := by
                    have := HB.out
                    show _ = _
                    unfold partP
                    rw [if_neg (fun h => by simp [h] at this)]
                  go_wp2_with fail
                  obtain ⟨v, P, hraw, hrow, hC, hP⟩ := S.out.raw
                  refine wr10_region (by exact Nat.le_of_eq rfl) w.heap.size (w.heap.size + 2) (w.heap.size + 3) x hx v (rawV (rawW x x.prio) v) P rfl rfl S.out.ent hraw rfl S.out.size hrow (by omega) ?_
                  intro y w' v' u hk hr hf
                  have N : Hid (WrS w.heap.size x w (w'.setCell ⟨w.heap.size + 2, 4, none⟩ v') (C2 ++ partP wSport x.slow x.shigh)) := by rw [HP.out]; exact S.out.next hC (by have h5 := congrArg List.length hC; rw [List.length_map] at h5; have h6 := HL2.out; omega) hk hr hf
                  clear hk hr hf hraw hrow
                  simp only [putsD, wr10_D, List.foldl_cons, List.foldl_nil, Act.put, List.setIfInBounds_toArray, List.set_cons_succ, List.set_cons_zero]
                  go_wp2_with fail
                  go_meet
                  case rel => exact N.out
                | false =>
                  have HP : Hid (partP wSport x.slow x.shigh = []) := by
                    have := HB.out
                    show _ = _
                    unfold partP
                    rw [if_pos (by simpa using this)]
                  go_wp2_with fail
                  go_meet
                  case rel => rw [HP.out, List.append_nil]; exact S.out
              case rest =>
                clear S
                obtain ⟨C3, hC3⟩ : ∃ C, C = C2 ++ partP wSport x.slow x.shigh := ⟨_, rfl⟩
                rw [← hC3] at hcut
                have S : Hid (WrS w.heap.size x w wc C3) := hcut
                have HL3 : Hid (C3.length ≤ 3) := by have h6 := HL2.out; have h7 : (partP wSport x.slow x.shigh).length ≤ 1 := (by unfold partP; split <;> simp); show _ ≤ _; rw [hC3, List.length_append]; omega
                have HC3 : Hid (C3 = C2 ++ partP wSport x.slow x.shigh) := hC3
                clear hcut HB hC3
                go_upto_region 11 with fail
                go_cut [81] from 74 to 81 (fun c wx => c = .bool (!decide (x.dlow = 0 ∧ x.dhigh = 65535)) ∧ WrS w.heap.size x w wx C3)
                case first =>
                  have c1 := S.out.cells 8 (.int .i64 x.dlow) rfl
                  have c2 := S.out.cells 9 (.int .i64 x.dhigh) rfl
                  by_cases h1 : x.dlow = 0
                  · have h1' : (x.dlow != 0) = false := by simp [h1]
                    by_cases h2 : x.dhigh = 65535
                    · have h2' : (x.dhigh != 65535) = false := by simp [h2]
                      have HV : Hid ((!decide (x.dlow = 0 ∧ x.dhigh = 65535)) = false) := by show _ = _; simp [h1, h2]
                      clear h1 h2
                      go_wp2_with fail
                      go_meet
                      case rel => exact ⟨by rw [HV.out], S.out⟩
                    · have h2' : (x.dhigh != 65535) = true := by simp [h2]
                      have HV : Hid ((!decide (x.dlow = 0 ∧ x.dhigh = 65535)) = true) := by show _ = _; simp [h2]
                      clear h1 h2
                      go_wp2_with fail
                      go_meet
                      case rel => exact ⟨by rw [HV.out], S.out⟩
                  · have h1' : (x.dlow != 0) = true := by simp [h1]
                    have HV : Hid ((!decide (x.dlow = 0 ∧ x.dhigh = 65535)) = true) := by show _ = _; simp [h1]
                    clear h1
                    go_wp2_with fail
                    go_meet
                    case rel => exact ⟨by rw [HV.out], S.out⟩
                case rest =>
                  clear S
                  obtain ⟨rfl, hS⟩ := hcut
                  have S : Hid (WrS w.heap.size x w wc C3) := hS
                  clear hS
                  obtain ⟨b, hb⟩ : ∃ b, b = !decide (x.dlow = 0 ∧ x.dhigh = 65535) := ⟨_, rfl⟩
                  rw [← hb]
                  have HB : Hid (b = !decide (x.dlow = 0 ∧ x.dhigh = 65535)) := hb
                  clear hb
                  go_upto_if 81 with fail
                  go_cut [] from 82 to 91 (fun wx => WrS w.heap.size x w wx (C3 ++ partP wDport x.dlow x.dhigh))
                  case first =>
                    cases b with
                    | true =>
                      have HP : Hid (partP wDport x.dlow x.dhigh = [portC7 wDport x.dlow x.dhigh]) := by
                        have := HB.out
                        show _ = _
                        unfold partP
                        rw [if_neg (fun h => by simp [h] at this)]
                      go_wp2_with fail
                      obtain ⟨v, P, hraw, hrow, hC, hP⟩ := S.out.raw
                      refine wr12_region (by exact Nat.le_of_eq rfl) w.heap.size (w.heap.size + 2) (w.heap.size + 3) x hx v (rawV (rawW x x.prio) v) P rfl rfl S.out.ent hraw rfl S.out.size hrow (by omega) ?_
                      intro y w' v' u hk hr hf
                      have N : Hid (WrS w.heap.size x w (w'.setCell ⟨w.heap.size + 2, 4, none⟩ v') (C3 ++ partP wDport x.dlow x.dhigh)) := by rw [HP.out]; exact S.out.next hC (by have h5 := congrArg List.length hC; rw [List.length_map] at h5; have h6 := HL3.out; omega) hk hr hf
                      clear hk hr hf hraw hrow
                      simp only [putsD, wr12_D, List.foldl_cons, List.foldl_nil, Act.put, List.setIfInBounds_toArray, List.set_cons_succ, List.set_cons_zero]
                      go_wp2_with fail
                      go_meet
                      case rel => exact N.out
                    | false =>
                      have HP : Hid (partP wDport x.dlow x.dhigh = []) := by
                        have := HB.out
                        show _ = _
                        unfold partP
                        rw [if_pos (by simpa using this)]
                      go_wp2_with fail
                      go_meet
                      case rel => rw [HP.out, List.append_nil]; exact S.out
                  case rest =>
                    clear S
                    obtain ⟨C4, hC4⟩ : ∃ C, C = C3 ++ partP wDport x.dlow x.dhigh := ⟨_, rfl⟩
                    rw [← hC4] at hcut
                    have S : Hid (WrS w.heap.size x w wc C4) := hcut
                    have HL4 : Hid (C4.length ≤ 4) := by have h6 := HL3.out; have h7 : (partP wDport x.dlow x.dhigh).length ≤ 1 := (by unfold partP; split <;> simp); show _ ≤ _; rw [hC4, List.length_append]; omega
                    have HC4 : Hid (C4 = C3 ++ partP wDport x.dlow x.dhigh) := hC4
                    clear hcut HB hC4
                    go_upto_region 13 with fail
                    go_cut [94] from 92 to 94 (fun c wx => c = .bool (!decide (x.proto = -1)) ∧ WrS w.heap.size x w wx C4)
                    case first =>
                      have c1 := S.out.cells 10 (.int .i64 x.proto) rfl
                      by_cases h1 : x.proto = -1
                      · have h1' : (x.proto != -1) = false := by simp [h1]
                        have HV : Hid ((!decide (x.proto = -1)) = false) := by show _ = _; simp [h1]
                        clear h1
                        go_wp2_with fail
                        go_meet
                        case rel => exact ⟨by rw [HV.out], S.out⟩
                      · have h1' : (x.proto != -1) = true := by simp [h1]
                        have HV : Hid ((!decide (x.proto = -1)) = true) := by show _ = _; simp [h1]
                        clear h1
                        go_wp2_with fail
                        go_meet
                        case rel => exact ⟨by rw [HV.out], S.out⟩
                    case rest =>
                      clear S
                      obtain ⟨rfl, hS⟩ := hcut
                      have S : Hid (WrS w.heap.size x w wc C4) := hS
                      clear hS
                      obtain ⟨b, hb⟩ : ∃ b, b = !decide (x.proto = -1) := ⟨_, rfl⟩
                      rw [← hb]
                      have HB : Hid (b = !decide (x.proto = -1)) := hb
                      clear hb
                      go_upto_if 94 with fail
                      go_cut [] from 95 to 104 (fun wx => WrS w.heap.size x w wx (C4 ++ partO x.proto))
                      case first =>
                        cases b with
                        | true =>
                          have HP : Hid (partO x.proto = [protC7 x.proto]) := by
                            have := HB.out
                            show _ = _
                            unfold partO
                            rw [if_neg (fun h => by simp [h] at this)]
                            rfl
                          go_wp2_with fail
                          obtain ⟨v, P, hraw, hrow, hC, hP⟩ := S.out.raw
                          refine wr14_region (by exact Nat.le_of_eq rfl) w.heap.size (w.heap.size + 2) (w.heap.size + 3) x hx v (rawV (rawW x x.prio) v) P rfl rfl S.out.ent hraw rfl S.out.size hrow (by omega) ?_
                          intro y w' v' u hk hr hf
                          have N : Hid (WrS w.heap.size x w (w'.setCell ⟨w.heap.size + 2, 4, none⟩ v') (C4 ++ partO x.proto)) := by rw [HP.out]; exact S.out.next hC (by have h5 := congrArg List.length hC; rw [List.length_map] at h5; have h6 := HL4.out; omega) hk hr hf
                          clear hk hr hf hraw hrow
                          simp only [putsD, wr14_D, List.foldl_cons, List.foldl_nil, Act.put, List.setIfInBounds_toArray, List.set_cons_succ, List.set_cons_zero]
                          go_wp2_with fail
                          go_meet
                          case rel => exact N.out
                        | false =>
                          have HP : Hid (partO x.proto = []) := by
                            have := HB.out
                            show _ = _
                            unfold partO
                            rw [if_pos (by simpa using this)]
                          go_wp2_with fail
                          go_meet
                          case rel => rw [HP.out, List.append_nil]; exact S.out
                      case rest =>
                        clear S
                        have hS : WrS w.heap.size x w wc (C4 ++ partO x.proto) := hcut
                        obtain ⟨v, P, hraw, hrow, hC, hP⟩ := hS.raw
                        have HRW : Hid (RowW (w.heap.size + 3) wc v P ∧ P.map (·.1) = (lineOf x).clauses) := by
                          refine ⟨hrow, ?_⟩
                          rw [hC, HC4.out, HC3.out, HC2.out, HC1.out, HC0.out]
                          unfold lineOf
                          rw [hd]
                          simp
                        have K3 : Hid (wc.heap[w.heap.size + 2]? = some (.cells (rawV (rawW x x.prio) v) 55 (0, 0))) := hraw
                        have K2 : Hid (wc.heap[w.heap.size + 1]? = some (.cells RawE.zero 55 (0, 0))) := hS.res
                        have BW : Hid (Below w.heap.size w wc) := hS.below
                        have HD : Hid (x.dflt = false) := hd
                        obtain ⟨o9, c9, rfl⟩ := gown_slice hrow.1
                        clear hS hcut HB hraw hrow hC hP hd
                        go_wp2_with (first
                          | ((with_reducible refine wl_atL _ rfl rfl ?_); refine wl_loadE (E := RawE) RawOk rfl _ rfl (w.heap.size + 2) 0 rfl _ _ _ (rawV (rawW x x.prio) (.slice o9 P.length c9)) rfl K3.out (own_cells _ _) ?_)
                          | (refine wl_storeE (E := RawE) RawOk rfl _ _ rfl (w.heap.size + 1) (rawV (rawW x x.prio) (.slice o9 P.length c9)) ⟨rfl, by simp [rawV, Value.oneCell']⟩ rfl rfl _ K2.out rfl _ rfl ?_))
                        refine retE (E := RawE) RawOk rfl rfl (w.heap.size + 1) rfl (rawV (rawW x x.prio) (.slice o9 P.length c9)) rfl (setRow_heap _ _ _ _ _ _ K2.out) ?_
                        refine ⟨⟨_, P, by rw [HD.out]; rfl, ⟨gown_base (own_setRow8 HRW.out.1.1 (by omega)) (by omega), fun q hq => gown_base (own_setRow8 (HRW.out.1.2 q hq) (by omega)) (by omega)⟩, HRW.out.2⟩, below_setRow BW.out (by omega) _⟩
end Go.Proofs.YtbdbjbmjnemknaaDoor
/-
  The library's contracts of strings.Builder, laid at this seat's program.
-/
namespace Go.Proofs
open Go.Shelf Go.RowKit
set_option maxRecDepth 20000
def Tryd.lays166_ren : Go.Shelf.Ren := ⟨fun | 166 => 13 | 240 => 28 | 276 => 48 | n => n, fun | 5 => 5 | 37 => 40 | 70 => 39 | 72 => 42 | 75 => 47 | 80 => 57 | 164 => 102 | 127 => 80 | n => n, fun | n => n⟩
theorem Tryd.lays166 : Go.Proofs.Lays.n166 Tryd.prog Tryd.lays166_ren := {
  mixed := by kernel_rfl
  f166 := Tryd.func13.trans (congrArg some (by kernel_rfl))
  f240 := Tryd.func28.trans (congrArg some (by kernel_rfl))
  f276 := Tryd.func48.trans (congrArg some (by kernel_rfl))
  t0 := Tryd.underlying0
  a0 := Tryd.isAgg0
  z0 := Tryd.sizeOf0
  v0 := Tryd.zeroValue0
  t3 := Tryd.underlying3
  a3 := Tryd.isAgg3
  z3 := Tryd.sizeOf3
  v3 := Tryd.zeroValue3
  t4 := Tryd.underlying4
  a4 := Tryd.isAgg4
  z4 := Tryd.sizeOf4
  v4 := Tryd.zeroValue4
  t9 := Tryd.underlying9
  a9 := Tryd.isAgg9
  z9 := Tryd.sizeOf9
  v9 := Tryd.zeroValue9
  t20 := Tryd.underlying20
  a20 := Tryd.isAgg20
  z20 := Tryd.sizeOf20
  v20 := Tryd.zeroValue20
  t37 := Tryd.underlying40
  a37 := Tryd.isAgg40
  z37 := Tryd.sizeOf40
  v37 := Tryd.zeroValue40
  t70 := Tryd.underlying39
  a70 := Tryd.isAgg39
  z70 := Tryd.sizeOf39
  v70 := Tryd.zeroValue39
  t72 := Tryd.underlying42
  a72 := Tryd.isAgg42
  z72 := Tryd.sizeOf42
  v72 := Tryd.zeroValue42
  t75 := Tryd.underlying47
  a75 := Tryd.isAgg47
  z75 := Tryd.sizeOf47
  v75 := Tryd.zeroValue47
  t164 := Tryd.underlying102
  a164 := Tryd.isAgg102
  z164 := Tryd.sizeOf102
  v164 := Tryd.zeroValue102 }
def Tryd.lays169_ren : Go.Shelf.Ren := ⟨fun | 169 => 16 | n => n, fun | 5 => 5 | 37 => 40 | 70 => 39 | 72 => 42 | 75 => 47 | 80 => 57 | 164 => 102 | 127 => 80 | n => n, fun | n => n⟩
theorem Tryd.lays169 : Go.Proofs.Lays.n169 Tryd.prog Tryd.lays169_ren := {
  mixed := by kernel_rfl
  f169 := Tryd.func16.trans (congrArg some (by kernel_rfl))
  t0 := Tryd.underlying0
  a0 := Tryd.isAgg0
  z0 := Tryd.sizeOf0
  v0 := Tryd.zeroValue0
  t3 := Tryd.underlying3
  a3 := Tryd.isAgg3
  z3 := Tryd.sizeOf3
  v3 := Tryd.zeroValue3
  t9 := Tryd.underlying9
  a9 := Tryd.isAgg9
  z9 := Tryd.sizeOf9
  v9 := Tryd.zeroValue9
  t37 := Tryd.underlying40
  a37 := Tryd.isAgg40
  z37 := Tryd.sizeOf40
  v37 := Tryd.zeroValue40
  t70 := Tryd.underlying39
  a70 := Tryd.isAgg39
  z70 := Tryd.sizeOf39
  v70 := Tryd.zeroValue39
  t72 := Tryd.underlying42
  a72 := Tryd.isAgg42
  z72 := Tryd.sizeOf42
  v72 := Tryd.zeroValue42
  t127 := Tryd.underlying80
  a127 := Tryd.isAgg80
  z127 := Tryd.sizeOf80
  v127 := Tryd.zeroValue80 }
theorem Tryd.extra166 : Builder.Extra Tryd.prog Tryd.lays166_ren where
  sizeBuilder := by kernel_rfl
  liesBuilder := by kernel_rfl
  t5 := Tryd.underlying5
  a5 := Tryd.isAgg5
  z5 := Tryd.sizeOf5
  v5 := Tryd.zeroValue5
  infoByte := by kernel_rfl
  cellsByte := by kernel_rfl
  sizeByte := by kernel_rfl
  neB5 := by decide
theorem Tryd.extra169 : Builder.Extra Tryd.prog Tryd.lays169_ren where
  sizeBuilder := by kernel_rfl
  liesBuilder := by kernel_rfl
  t5 := Tryd.underlying5
  a5 := Tryd.isAgg5
  z5 := Tryd.sizeOf5
  v5 := Tryd.zeroValue5
  infoByte := by kernel_rfl
  cellsByte := by kernel_rfl
  sizeByte := by kernel_rfl
  neB5 := by decide
theorem Tryd.writeString_any (B b : Nat) (bs : List Value) (s : ByteArray) (w : World) (h : Lib.IsBuilder 42 5 B b bs w) (hlen : bs.length + s.size ≤ 140737488355328) (hBw : B ≤ w.heap.size) :
    Calls Tryd.prog 13 #[.pointer (some ⟨b, 0, none⟩), .string s] w fun e w' => e = .returned (.tuple #[.int .i64 s.size, .nilIface]) ∧ (Lib.BuilderAt 42 5 B b (.pointer (some ⟨b, 0, none⟩)) (bs ++ Lib.strCells s) w' ∧ Below B w w') := Any.Builder_WriteString Tryd.lays166 Tryd.extra166 B b bs s w h hlen hBw
theorem Tryd.string_any (B b : Nat) (l : List UInt8) (w : World) (h : Lib.IsBuilder 42 5 B b (Lib.byteCells l) w) (hBw : B ≤ w.heap.size) :
    Calls Tryd.prog 16 #[.pointer (some ⟨b, 0, none⟩)] w fun e w' => e = .returned (.string ⟨l.toArray⟩) ∧ Below B w w' := Any.Builder_String_any Tryd.lays169 Tryd.extra169 B b l w h hBw
end Go.Proofs
/-
  The library's contract of strconv.AppendInt at base 10, laid at this seat's program.
-/
namespace Go.Proofs
open Go.Shelf
set_option maxRecDepth 20000
def Tryd.lays176_ren : Go.Shelf.Ren := ⟨fun | 176 => 66 | 249 => 76 | 288 => 83 | 283 => 84 | 284 => 85 | 285 => 86 | 286 => 87 | 129 => 89 | 317 => 88 | 318 => 90 | 319 => 91 | 320 => 92 | 337 => 93 | 338 => 94 | n => n, fun | 37 => 40 | 53 => 137 | 171 => 142 | 173 => 145 | 212 => 149 | 51 => 43 | 213 => 150 | 46 => 106 | 232 => 153 | 233 => 154 | n => n, fun | 17 => 2 | 18 => 3 | 19 => 4 | n => n⟩
theorem Tryd.lays176 : Go.Proofs.LaysM.n176 Tryd.prog Tryd.lays176_ren := {
  mixed := by kernel_rfl
  f129 := Tryd.func89.trans (congrArg some (by kernel_rfl))
  f176 := Tryd.func66.trans (congrArg some (by kernel_rfl))
  f249 := Tryd.func76.trans (congrArg some (by kernel_rfl))
  f283 := Tryd.func84.trans (congrArg some (by kernel_rfl))
  f284 := Tryd.func85.trans (congrArg some (by kernel_rfl))
  f285 := Tryd.func86.trans (congrArg some (by kernel_rfl))
  f286 := Tryd.func87.trans (congrArg some (by kernel_rfl))
  f288 := Tryd.func83.trans (congrArg some (by kernel_rfl))
  f317 := Tryd.func88.trans (congrArg some (by kernel_rfl))
  f318 := Tryd.func90.trans (congrArg some (by kernel_rfl))
  f319 := Tryd.func91.trans (congrArg some (by kernel_rfl))
  f320 := Tryd.func92.trans (congrArg some (by kernel_rfl))
  f337 := Tryd.func93.trans (congrArg some (by kernel_rfl))
  f338 := Tryd.func94.trans (congrArg some (by kernel_rfl))
  t0 := Tryd.underlying0
  a0 := Tryd.isAgg0
  z0 := Tryd.sizeOf0
  v0 := Tryd.zeroValue0
  t2 := Tryd.underlying2
  a2 := Tryd.isAgg2
  z2 := Tryd.sizeOf2
  v2 := Tryd.zeroValue2
  t3 := Tryd.underlying3
  a3 := Tryd.isAgg3
  z3 := Tryd.sizeOf3
  v3 := Tryd.zeroValue3
  t4 := Tryd.underlying4
  a4 := Tryd.isAgg4
  z4 := Tryd.sizeOf4
  v4 := Tryd.zeroValue4
  t5 := Tryd.underlying5
  a5 := Tryd.isAgg5
  z5 := Tryd.sizeOf5
  v5 := Tryd.zeroValue5
  t9 := Tryd.underlying9
  a9 := Tryd.isAgg9
  z9 := Tryd.sizeOf9
  v9 := Tryd.zeroValue9
  t20 := Tryd.underlying20
  a20 := Tryd.isAgg20
  z20 := Tryd.sizeOf20
  v20 := Tryd.zeroValue20
  t37 := Tryd.underlying40
  a37 := Tryd.isAgg40
  z37 := Tryd.sizeOf40
  v37 := Tryd.zeroValue40
  t46 := Tryd.underlying106
  a46 := Tryd.isAgg106
  z46 := Tryd.sizeOf106
  v46 := Tryd.zeroValue106
  t51 := Tryd.underlying43
  a51 := Tryd.isAgg43
  z51 := Tryd.sizeOf43
  v51 := Tryd.zeroValue43
  t53 := Tryd.underlying137
  a53 := Tryd.isAgg137
  z53 := Tryd.sizeOf137
  v53 := Tryd.zeroValue137
  t171 := Tryd.underlying142
  a171 := Tryd.isAgg142
  z171 := Tryd.sizeOf142
  v171 := Tryd.zeroValue142
  t173 := Tryd.underlying145
  a173 := Tryd.isAgg145
  z173 := Tryd.sizeOf145
  v173 := Tryd.zeroValue145
  t212 := Tryd.underlying149
  a212 := Tryd.isAgg149
  z212 := Tryd.sizeOf149
  v212 := Tryd.zeroValue149
  t213 := Tryd.underlying150
  a213 := Tryd.isAgg150
  z213 := Tryd.sizeOf150
  t232 := Tryd.underlying153
  a232 := Tryd.isAgg153
  z232 := Tryd.sizeOf153
  v232 := Tryd.zeroValue153
  t233 := Tryd.underlying154
  a233 := Tryd.isAgg154
  z233 := Tryd.sizeOf154
  v233 := Tryd.zeroValue154
  g17 := by kernel_rfl
  g18 := by kernel_rfl
  g19 := by kernel_rfl
  i0 := by kernel_rfl
  i2 := by kernel_rfl
  i3 := by kernel_rfl
  i4 := by kernel_rfl
  i5 := by kernel_rfl
  i9 := by kernel_rfl
  i20 := by kernel_rfl
  i37 := by kernel_rfl
  i46 := by kernel_rfl
  i51 := by kernel_rfl
  i53 := by kernel_rfl
  i171 := by kernel_rfl
  i173 := by kernel_rfl
  i212 := by kernel_rfl
  i232 := by kernel_rfl
  i233 := by kernel_rfl
  m17 := by kernel_rfl
  m18 := by kernel_rfl
  m19 := by kernel_rfl }
namespace YtbdbjbmjnemknaaDoor
open Go Go.RowKit
theorem appendInt_any (B n : Nat) (i : Int) (h0 : -9223372036854775808 ≤ i) (h1 : i ≤ 9223372036854775807) (sv : Value) (xs : List Value) (w : World) (hown : w.ownsRow B 5 1 sv n xs) (hBw : B ≤ w.heap.size) (hlim : n + 21 ≤ 140737488355328)
    (htab : Lib.TabBelow Tryd.prog B w "internal/strconv.uint64pow10" .u64 Lib.pow10Tab) :
    Calls Tryd.prog 66 #[sv, .int .i64 i, .int .i64 10] w fun e w' => ∃ v', e = .returned v' ∧ w'.ownsRow B 5 1 v' (n + (Lib.itoa i).length) (xs ++ Lib.byteCells (Lib.itoa i)) ∧ Below B w w' ∧ Lib.OthersKept 5 none w w' := Any.strconv_AppendInt_10 Tryd.lays176 B n i h0 h1 sv xs w hown hBw hlim htab
end YtbdbjbmjnemknaaDoor
end Go.Proofs
namespace Go.Proofs.YtbdbjbmjnemknaaDoor
open Go
set_option maxRecDepth 20000

theorem decF_more : ∀ (f g n : Nat), n ≤ f → n ≤ g → decF f n = decF g n
  | 0, 0, _, _, _ => rfl
  | 0, g + 1, n, hf, _ => by
    obtain rfl : n = 0 := by omega
    rfl
  | f + 1, 0, n, _, hg => by
    obtain rfl : n = 0 := by omega
    rfl
  | f + 1, g + 1, n, hf, hg => by
    unfold decF
    split
    · rfl
    · rw [decF_more f g (n / 10) (by omega) (by omega)]
theorem dec_small {n : Nat} (h : n < 10) : dec n = [UInt8.ofNat (48 + n)] := by
  unfold dec
  cases n with
  | zero => rfl
  | succ n => rw [decF, if_pos h]
theorem dec_big {n : Nat} (h : 10 ≤ n) : dec n = dec (n / 10) ++ dec (n % 10) := by
  rw [dec_small (show n % 10 < 10 by omega)]
  unfold dec
  obtain ⟨m, rfl⟩ : ∃ m, n = m + 1 := ⟨n - 1, by omega⟩
  rw [decF, if_neg (by omega), decF_more m ((m + 1) / 10) _ (by omega) (Nat.le_refl _)]
/-- The four ways in which a number is printed. -/
theorem decI_digit {n : Int} (h0 : 0 ≤ n) (h : n < 10) : decI n = [UInt8.ofNat (48 + n.toNat)] := by
  unfold decI
  rw [if_pos h0, dec_small (by omega)]
theorem decI_ten {n : Int} (h : 10 ≤ n) : decI n = decI (n.tdiv 10) ++ decI (n.tmod 10) := by
  obtain ⟨m, rfl⟩ := Int.eq_ofNat_of_zero_le (show 0 ≤ n by omega)
  have e1 : (m : Int).tdiv 10 = ((m / 10 : Nat) : Int) := by rw [Int.tdiv_eq_ediv_of_nonneg (by omega)]; rfl
  have e2 : (m : Int).tmod 10 = ((m % 10 : Nat) : Int) := by rw [Int.tmod_eq_emod_of_nonneg (by omega)]; rfl
  rw [e1, e2]
  unfold decI
  rw [if_pos (by omega), if_pos (by omega), if_pos (by omega), Int.toNat_natCast, Int.toNat_natCast, Int.toNat_natCast, dec_big (by omega)]
theorem decI_minus {n : Int} (h0 : n < 0) : decI n = 45 :: decI (-n) := by
  unfold decI
  rw [if_neg (by omega), if_pos (by omega)]
theorem decI_minusten {n : Int} (h : n ≤ -10) : decI n = decI (n.tdiv 10) ++ decI (-(n.tmod 10)) := by
  have h1 : decI (-n) = decI ((-n).tdiv 10) ++ decI ((-n).tmod 10) := decI_ten (by omega)
  rw [Int.neg_tdiv, Int.neg_tmod] at h1
  have h3 : n.tdiv 10 < 0 := by
    have := Int.tdiv_eq_ediv_of_nonneg (a := -n) (b := 10) (by omega)
    rw [Int.neg_tdiv] at this
    omega
  rw [decI_minus (show n < 0 by omega), h1, decI_minus h3]
  rfl
theorem decF_len : ∀ (k f n : Nat), n < 10 ^ (k + 1) → (decF f n).length ≤ k + 1
  | _, 0, _, _ => by simp [decF]
  | 0, f + 1, n, h => by
    rw [decF, if_pos (by simpa using h)]; simp
  | k + 1, f + 1, n, h => by
    rw [decF]
    split
    · simp
    · rw [List.length_append]
      have := decF_len k f (n / 10) (by rw [Nat.pow_succ] at h; omega)
      simp; omega
theorem decI_len (n : Int) (h0 : -9223372036854775808 ≤ n) (h1 : n ≤ 9223372036854775807) : (decI n).length ≤ 20 := by
  unfold decI dec
  split
  · exact Nat.le_trans (decF_len 18 _ _ (by have e : (10 : Nat) ^ (18 + 1) = 10000000000000000000 := by decide
                                            omega)) (by decide)
  · have := decF_len 18 (-n).toNat (-n).toNat (by have e : (10 : Nat) ^ (18 + 1) = 10000000000000000000 := by decide
                                                  omega)
    simp only [List.length_cons]
    omega

/-- The sign ahead of number j, and what is printed of a clause's first numbers. -/
def signJ (c : Cla) (j : Nat) : UInt8 := if j + 1 = c.nums.length then lastSign c else 46
def numJ (c : Cla) (j : Nat) : List UInt8 := match c.nums[j]? with | some x => decI x.n | none => []
def numsTo (c : Cla) : Nat → List UInt8
  | 0 => []
  | j + 1 => numsTo c j ++ ((if j = 0 then [] else [signJ c j]) ++ numJ c j)
theorem numsP_snoc (s : UInt8) : ∀ (l : List Fig) (x : Fig), numsP s (l ++ [x]) = l.flatMap (fun y => 46 :: decI y.n) ++ s :: decI x.n
  | [], x => rfl
  | [y], x => by simp [numsP]
  | y :: z :: l, x => by
    have := numsP_snoc s (z :: l) x
    rw [List.cons_append, List.cons_append] at *
    rw [numsP, this]
    simp
theorem numsTo_dots (c : Cla) (x : Fig) (l : List Fig) (hc : c.nums = x :: l) : ∀ (j : Nat), j + 1 < c.nums.length → numsTo c (j + 1) = decI x.n ++ (l.take j).flatMap (fun y => 46 :: decI y.n)
  | 0, _ => by simp [numsTo, numJ, hc]
  | j + 1, h => by
    rw [numsTo, numsTo_dots c x l hc j (by omega), if_neg (by omega)]
    have hj : j < l.length := by rw [hc] at h; simp at h; omega
    have e1 : signJ c (j + 1) = 46 := by unfold signJ; rw [if_neg (by omega)]
    have e2 : numJ c (j + 1) = decI l[j].n := by unfold numJ; rw [hc, List.getElem?_cons_succ, List.getElem?_eq_getElem hj]
    rw [e1, e2, List.take_succ_eq_append_getElem hj, List.flatMap_append]
    simp only [List.flatMap_cons, List.flatMap_nil, List.append_nil, List.append_assoc, List.singleton_append]
/-- All of a clause's numbers. -/
theorem numsTo_all (c : Cla) : numsTo c c.nums.length = numsAll c := by
  unfold numsAll
  cases hc : c.nums with
  | nil => rfl
  | cons x l =>
    rcases List.eq_nil_or_concat l with rfl | ⟨l', y, rfl⟩
    · simp [numsTo, numJ, hc, numsP]
    · have hl : c.nums.length = l'.length + 2 := by rw [hc]; simp
      simp only [List.concat_eq_append] at hc ⊢
      rw [show (x :: (l' ++ [y])).length = (l'.length + 1) + 1 by simp, numsTo, numsTo_dots c x _ hc l'.length (by omega), if_neg (by omega), numsP_snoc]
      have e1 : signJ c (l'.length + 1) = lastSign c := by unfold signJ; rw [if_pos (by omega)]
      have e2 : numJ c (l'.length + 1) = decI y.n := by unfold numJ; rw [hc, List.getElem?_cons_succ, List.getElem?_append_right (Nat.le_refl _)]; simp
      rw [e1, e2, List.take_left]
      simp
/-- What is printed of a line's first clauses, and of the first lines. -/
theorem clas_take (l : List Cla) (k : Nat) (c : Cla) (h : l[k]? = some c) : (l.take (k + 1)).flatMap claP = (l.take k).flatMap claP ++ claP c := by
  obtain ⟨hk, rfl⟩ := List.getElem?_eq_some_iff.1 h
  rw [List.take_succ_eq_append_getElem hk, List.flatMap_append]
  simp
theorem print_take (l : List Raw) (k : Nat) (x : Raw) (h : l[k]? = some x) : printT (l.take (k + 1)) = printT (l.take k) ++ rowP x := by
  obtain ⟨hk, rfl⟩ := List.getElem?_eq_some_iff.1 h
  unfold printT
  rw [List.take_succ_eq_append_getElem hk, List.flatMap_append]
  simp
/-- How long it may be. -/
def okN (n : Int) : Prop := -9223372036854775808 ≤ n ∧ n ≤ 9223372036854775807
def okNs (x : Raw) : Prop := okN x.prio.n ∧ okN x.port.n ∧ ∀ c ∈ x.clauses, ∀ f ∈ c.nums, okN f.n
def wtC (c : Cla) : Nat := c.nums.length + c.word.length
def wtR (x : Raw) : Nat := 1 + (x.clauses.map fun c => 1 + wtC c).sum
theorem numsTo_len (c : Cla) (h : ∀ f ∈ c.nums, okN f.n) : ∀ j, (numsTo c j).length ≤ 21 * j
  | 0 => Nat.le_refl _
  | j + 1 => by
    have ih := numsTo_len c h j
    have hn : (numJ c j).length ≤ 20 := by
      unfold numJ
      cases hx : c.nums[j]? with
      | none => simp
      | some x =>
        have := h x (List.mem_of_getElem? hx)
        exact decI_len x.n this.1 this.2
    rw [numsTo, List.length_append, List.length_append]
    split
    · simp; omega
    · simp; omega
theorem claP_len (c : Cla) (h : ∀ f ∈ c.nums, okN f.n) : (claP c).length ≤ 21 * (1 + wtC c) := by
  unfold claP wtC
  rw [← numsTo_all]
  have := numsTo_len c h c.nums.length
  simp only [List.length_cons, List.length_append]
  omega
theorem clas_len : ∀ l : List Cla, (∀ c ∈ l, ∀ f ∈ c.nums, okN f.n) → (l.flatMap claP).length ≤ 21 * (l.map fun c => 1 + wtC c).sum
  | [], _ => by simp
  | c :: l, h => by
    have h1 := claP_len c (h c (by simp))
    have h2 := clas_len l fun d hd => h d (by simp [hd])
    rw [List.flatMap_cons, List.length_append, List.map_cons, List.sum_cons]
    omega
theorem rowP_len (x : Raw) (h : okNs x) : (rowP x).length ≤ 60 * wtR x := by
  obtain ⟨h1, h2, h3⟩ := h
  have e1 := decI_len _ h1.1 h1.2
  have e2 := decI_len _ h2.1 h2.2
  have e3 := clas_len x.clauses h3
  have e4 : (if x.dflt = true then wDefault else decI x.prio.n).length ≤ 20 := by
    split
    · decide
    · exact e1
  have e5 : (actP x).length ≤ 25 := by
    unfold actP
    split
    · decide
    · simp only [List.length_append, List.length_cons, show wPort.length = 4 from rfl]; omega
  unfold rowP headP wtR
  simp only [List.length_append, List.length_cons, List.length_nil]
  omega
theorem printT_len : ∀ l : List Raw, (∀ x ∈ l, okNs x) → (printT l).length ≤ 60 * (l.map wtR).sum
  | [], _ => by simp [printT]
  | x :: l, h => by
    have h1 := rowP_len x (h x (by simp))
    have h2 := printT_len l fun y hy => h y (by simp [hy])
    unfold printT at h2 ⊢
    rw [List.flatMap_cons, List.length_append, List.map_cons, List.sum_cons]
    omega
end Go.Proofs.YtbdbjbmjnemknaaDoor
namespace Go.Proofs.YtbdbjbmjnemknaaDoor
open Go Go.RowKit
set_option maxRecDepth 20000

theorem decDigits_dec (n : Nat) : Lib.decDigits n = dec n := by
  induction n using Nat.strongRecOn with
  | ind n ih =>
    by_cases h : n < 10
    · rw [Lib.decDigits_one h, dec_small h]
    · rw [Lib.decDigits, dif_neg h, ih (n / 10) (by omega), dec_big (n := n) (by omega), dec_small (show n % 10 < 10 by omega)]
theorem itoa_decI (n : Int) : Lib.itoa n = decI n := by
  unfold Lib.itoa decI
  by_cases h : n < 0
  · rw [if_pos h, if_neg (by omega), decDigits_dec, show n.natAbs = (-n).toNat by omega]
  · rw [if_neg h, if_pos (by omega), decDigits_dec]

/-- A buffer of bytes of one's own. -/
def Buf (B : Nat) (w : World) (v : Value) (bs : List UInt8) : Prop := w.ownsRow B 5 1 v bs.length (Lib.byteCells bs)
/-- What an append leaves: the buffer, all below it, and all blocks of other types. -/
structure Pt (B : Nat) (w w' : World) (v' : Value) (bs : List UInt8) : Prop where
  buf : Buf B w' v' bs
  below : Below B w w'
  kept : Lib.OthersKept 5 none w w'
theorem Pt.trans {B : Nat} {a b c : World} {v v' : Value} {bs bs' : List UInt8} (h : Pt B a b v bs) (h' : Pt B b c v' bs') : Pt B a c v' bs' := ⟨h'.buf, h.below.trans h'.below, h.kept.trans h'.kept⟩
theorem Pt.alloc {B : Nat} {w w' : World} {v : Value} {bs : List UInt8} (h : Pt B w w' v bs) (hB : B ≤ w'.heap.size) (o : Obj) : Pt B w (w'.alloc o) v bs :=
  ⟨h.buf.alloc o, h.below.alloc hB o, fun k x hk hb ho => heap_past _ _ _ _ (h.kept k x hk hb ho)⟩
theorem Pt.start {B : Nat} {w : World} {v : Value} {bs : List UInt8} (h : Buf B w v bs) : Pt B w w v bs := ⟨h, Below.refl _ _, Lib.OthersKept.refl _ _ _⟩
/-- A block of another type is kept. -/
theorem kept_row {w w' : World} (h : Lib.OthersKept 5 none w w') {k : Nat} {cs : Array Value} {ty : TypeId} {fr : Nat × Nat} (hk : w.heap[k]? = some (.cells cs ty fr)) (ht : ty ≠ 5) : w'.heap[k]? = some (.cells cs ty fr) :=
  h k _ hk (by simp) fun c fz hq => ht (by injection hq)
theorem kept_grown {w w' : World} {B n : Nat} {v : Value} {xs : List Value} (hown : w.ownsRow B 5 1 v n xs) (hgr : w.grownBy w' v.ownBlock) : Lib.OthersKept 5 none w w' := fun k o hk _ ho => by
  refine (hgr.block k (Array.getElem?_eq_some_iff.1 hk).1 fun hq => ?_).trans hk
  obtain ⟨_, ⟨rfl, _⟩ | ⟨g, cap, cur, rfl, _, h2, _⟩⟩ := hown
  · simp [Value.ownBlock] at hq
  · simp only [Value.ownBlock, Option.some.injEq] at hq
    subst hq
    rw [hk] at h2
    exact ho _ _ (Option.some.inj h2)
theorem infoByte : ∃ i, Tryd.prog.info? 5 = some i ∧ i.zero = some (.int .u8 0) ∧ i.size = 1 ∧ i.bytes = 1 := by
  have h : (Tryd.prog.info? 5).map (fun i => (i.zero, i.size, i.bytes)) = some (some (.int .u8 0), 1, 1) := by kernel_rfl
  cases hi : Tryd.prog.info? 5 with
  | none => rw [hi] at h; simp at h
  | some i =>
    rw [hi] at h
    simp only [Option.map_some, Option.some.injEq, Prod.mk.injEq] at h
    exact ⟨i, rfl, h.1, h.2.1, h.2.2⟩
/-- A string is appended. -/
theorem wl_appS {ops : Array Oper} {rest : List Oper} {o : Oper} {a : Act} {w : World} {Q : Exit → Act → World → Prop} (hgd : o.guard = none) (sl x : Operand) (ho : o.op = .call { callee := .builtin .append, args := #[sl, x], argTypes := #[40, 9] })
    (B : Nat) (v : Value) (bs : List UInt8) (hs : a.eval sl = v) (hb : Buf B w v bs) (s : ByteArray) (hx : a.eval x = .string s) (hn : bs.length + s.size ≤ 1000000) (hB : B ≤ w.heap.size)
    (h : ∀ v' w', Pt B w w' v' (bs ++ s.data.toList) → wpList Tryd.prog ops Q rest (a.put o.dst v') w') : wpList Tryd.prog ops Q (o :: rest) a w := by
  obtain ⟨i, hi, hz, h1, h2⟩ := infoByte
  refine Lib.wpList_append_own_string _ hgd sl x 40 9 ho B 5 i Tryd.underlying40 Tryd.underlying9 hi hz h1 h2 v _ _ hs hb s hx (by unfold maxLen; omega) (by omega) hB ?_
  intro v' w' hown hgr _
  refine h v' w' ⟨?_, ?_, kept_grown hb hgr⟩
  · have e : Lib.byteCells bs ++ Lib.strCells s = Lib.byteCells (bs ++ s.data.toList) := by simp [Lib.byteCells, Lib.strCells]
    have e2 : bs.length + s.size = (bs ++ s.data.toList).length := by rw [List.length_append, Lib.size_eq]
    rw [e, e2] at hown
    exact hown
  · exact (Below.refl _ _).grown hgr hB fun k hk => (hb.lt k hk).1
/-- A byte is appended: it lies in a new block of its own. -/
theorem wl_appB {ops : Array Oper} {rest : List Oper} {o : Oper} {a : Act} {w : World} {Q : Exit → Act → World → Prop} (hgd : o.guard = none) (sl x : Operand) (ho : o.op = .call { callee := .builtin .append, args := #[sl, x], argTypes := #[40, 40] })
    (B : Nat) (v : Value) (bs : List UInt8) (hs : a.eval sl = v) (hb : Buf B w v bs) (g : Nat) (c : UInt8) (hx : a.eval x = .slice (some ⟨g, 0, none⟩) 1 1) (hg : w.heap[g]? = some (.cells #[.int .u8 (c.toNat : Int)] 5 (0, 0))) (hn : bs.length ≤ 1000000) (hB : B ≤ w.heap.size)
    (h : ∀ v' w', Pt B w w' v' (bs ++ [c]) → wpList Tryd.prog ops Q rest (a.put o.dst v') w') : wpList Tryd.prog ops Q (o :: rest) a w := by
  obtain ⟨i, hi, hz, h1, h2⟩ := infoByte
  refine wpList_append_own _ hgd sl x 40 ho B 5 i (.int .u8 0) 1 1 Tryd.underlying40 hi hz h1 h2 rfl (by decide) v _ _ hs hb ⟨g, 0, none⟩ 1 1 [.int .u8 (c.toNat : Int)] hx rfl ?_ ?_ (by unfold maxLen; omega) (by omega) hB ?_
  · intro j u hj
    match j, hj with
    | 0, hj =>
      simp at hj
      subst hj
      show w.cell? ⟨g, 0, none⟩ = _
      rw [cell_of_row _ _ _ _ _ _ hg]
      rfl
  · intro u hu
    simp at hu
    subst hu
    rfl
  intro v' w' hown hgr _
  refine h v' w' ⟨?_, (Below.refl _ _).grown hgr hB fun k hk => (hb.lt k hk).1, kept_grown hb hgr⟩
  have e : Lib.byteCells bs ++ [Value.int .u8 (c.toNat : Int)] = Lib.byteCells (bs ++ [c]) := by simp [Lib.byteCells]
  have e2 : bs.length + 1 = (bs ++ [c]).length := by simp
  rw [e, e2] at hown
  exact hown

set_option maxHeartbeats 2000000 in
theorem printFigure_any (B : Nat) (f : Fig) (hf : okN f.n) (v : Value) (bs : List UInt8) (w : World) (hb : Buf B w v bs) (hB : B ≤ w.heap.size) (hn : bs.length ≤ 1000000) (htab : Lib.TabBelow Tryd.prog B w "internal/strconv.uint64pow10" .u64 Lib.pow10Tab) :
    Calls Tryd.prog 49 #[v, .agg (figV f)] w fun e w' => ∃ v', e = .returned v' ∧ Pt B w w' v' (bs ++ decI f.n) := by
  have CA : Hid (∀ W, Buf B W v bs → B ≤ W.heap.size → Lib.TabBelow Tryd.prog B W "internal/strconv.uint64pow10" .u64 Lib.pow10Tab → Calls Tryd.prog 66 #[v, .int .i64 f.n, .int .i64 10] W fun e w' => ∃ v', e = .returned v' ∧ Pt B W w' v' (bs ++ decI f.n)) := fun W hb hB ht => by
    refine (appendInt_any B bs.length f.n hf.1 hf.2 v _ W hb hB (by omega) ht).mono ?_
    rintro e w' ⟨v', rfl, h1, h2, h3⟩
    refine ⟨v', rfl, ?_, h2, h3⟩
    rw [itoa_decI] at h1
    have e : Lib.byteCells bs ++ Lib.byteCells (decI f.n) = Lib.byteCells (bs ++ decI f.n) := by simp [Lib.byteCells]
    rw [e, ← List.length_append] at h1
    exact h1
  have HB : Hid (Buf B w v bs) := hb
  have HT : Hid (Lib.TabBelow Tryd.prog B w "internal/strconv.uint64pow10" .u64 Lib.pow10Tab) := htab
  have n0 := heap_new w (.cells (figV f) 52) _ rfl
  have c0 : (w.alloc (.cells (figV f) 52)).cell? ⟨w.heap.size, 0, none⟩ = some (.int .i64 f.n) := by rw [cell_of_row _ _ _ _ _ _ n0]; rfl
  have bA : Below B w (w.alloc (.cells (figV f) 52)) := (Below.refl _ _).alloc hB _
  have HP : Hid (Pt B w (w.alloc (.cells (figV f) 52)) v bs) := (Pt.start hb).alloc hB _
  have HTA : Hid (Lib.TabBelow Tryd.prog B (w.alloc (.cells (figV f) 52)) "internal/strconv.uint64pow10" .u64 Lib.pow10Tab) := htab.on bA
  clear hb htab n0 bA hf
  go_enter Tryd.func49, Tryd.ntmps49
  go_wp2_with fail
  refine (CA.out _ HP.out.buf (by simp; omega) HTA.out).mono ?_
  rintro e w1 ⟨v', rfl, hp⟩
  go_wp2_with fail
  go_ret
  exact ⟨_, rfl, HP.out.trans hp⟩

set_option maxHeartbeats 2000000 in
theorem between_any (c : Cla) (u : Value) (hu : ∃ o m, u = .slice o c.nums.length m) (j : Nat) (hl : c.nums.length ≤ 1000000) (w : World) :
    Calls Tryd.prog 67 #[.agg (claV c u), .int .i64 (j : Int)] w fun e w' => e = .returned (.int .u8 ((signJ c j).toNat : Int)) ∧ Below w.heap.size w w' ∧ Lib.OthersKept 5 none w w' := by
  obtain ⟨o, m, rfl⟩ := hu
  obtain ⟨n, hn⟩ : ∃ n, n = c.nums.length := ⟨_, rfl⟩
  have HS : Hid (signJ c j = if j + 1 = n then (if c.slash then 47 else if c.dash then 45 else 46) else 46) := by show _ = _; unfold signJ lastSign; rw [hn]
  rw [← hn] at hl ⊢
  have n0 := heap_new w (.cells (claV c (.slice o n m)) 76) _ rfl
  have c2 : (w.alloc (.cells (claV c (.slice o n m)) 76)).cell? ⟨w.heap.size, 2, none⟩ = some (.slice o n m) := by rw [cell_of_row _ _ _ _ _ _ n0]; rfl
  have c3 : (w.alloc (.cells (claV c (.slice o n m)) 76)).cell? ⟨w.heap.size, 3, none⟩ = some (.bool c.slash) := by rw [cell_of_row _ _ _ _ _ _ n0]; rfl
  have c4 : (w.alloc (.cells (claV c (.slice o n m)) 76)).cell? ⟨w.heap.size, 4, none⟩ = some (.bool c.dash) := by rw [cell_of_row _ _ _ _ _ _ n0]; rfl
  have HB : Hid (Below w.heap.size w (w.alloc (.cells (claV c (.slice o n m)) 76)) ∧ Lib.OthersKept 5 none w (w.alloc (.cells (claV c (.slice o n m)) 76))) := ⟨(Below.refl _ _).alloc (Nat.le_refl _) _, fun k x hk _ _ => heap_past _ _ _ _ hk⟩
  clear n0 hn
  by_cases h1 : j + 1 = n
  · rw [if_pos h1] at HS
    have e1 : ((j : Int) == (n : Int) - 1) = true := by simp; omega
    clear h1
    by_cases h2 : c.slash = true
    · rw [if_pos h2] at HS
      rw [h2] at c3
      clear h2
      go_enter Tryd.func67, Tryd.ntmps67
      go_wp2_with fail
      go_ret
      rw [HS.out]
      exact ⟨rfl, HB.out⟩
    · rw [if_neg h2] at HS
      have h2' : c.slash = false := by simpa using h2
      rw [h2'] at c3
      clear h2 h2'
      by_cases h3 : c.dash = true
      · rw [if_pos h3] at HS
        rw [h3] at c4
        clear h3
        go_enter Tryd.func67, Tryd.ntmps67
        go_wp2_with fail
        go_ret
        rw [HS.out]
        exact ⟨rfl, HB.out⟩
      · rw [if_neg h3] at HS
        have h3' : c.dash = false := by simpa using h3
        rw [h3'] at c4
        clear h3 h3'
        go_enter Tryd.func67, Tryd.ntmps67
        go_wp2_with fail
        go_ret
        rw [HS.out]
        exact ⟨rfl, HB.out⟩
  · rw [if_neg h1] at HS
    have e1 : ((j : Int) == (n : Int) - 1) = false := by simp; omega
    clear h1
    go_enter Tryd.func67, Tryd.ntmps67
    go_wp2_with fail
    go_ret
    rw [HS.out]
    exact ⟨rfl, HB.out⟩
end Go.Proofs.YtbdbjbmjnemknaaDoor
namespace Go.Proofs.YtbdbjbmjnemknaaDoor
open Go Go.RowKit
set_option maxRecDepth 20000

theorem pt_size {B : Nat} {w w' : World} {v : Value} {bs : List UInt8} (h : Pt B w w' v bs) (hB : B ≤ w.heap.size) : B ≤ w'.heap.size := Nat.le_trans hB h.below.size
theorem numsTo_mono (c : Cla) (j : Nat) : ∀ k, (numsTo c j).length ≤ (numsTo c (j + k)).length
  | 0 => Nat.le_refl _
  | k + 1 => by
    have := numsTo_mono c j k
    rw [show j + (k + 1) = (j + k) + 1 from rfl, numsTo, List.length_append]
    omega
theorem pt_other {B : Nat} {w w' w'' : World} {v : Value} {bs : List UInt8} (h : Pt B w w' v bs) (hB : B ≤ w'.heap.size) (hb : Below w'.heap.size w' w'') : Pt B w w'' v bs :=
  ⟨gown_below h.buf hb, h.below.trans (hb.mono hB), fun k o hk hq ho => by
    have h1 := h.kept k o hk hq ho
    exact (hb.block k (Array.getElem?_eq_some_iff.1 h1).1).trans h1⟩
set_option maxHeartbeats 8000000 in
theorem printClause_any (B : Nat) (W0 : World) (hW0 : B = W0.heap.size) (c : Cla) (u : Value) (hu : FigsAt W0 c u) (hok : ∀ f ∈ c.nums, okN f.n) (v : Value) (bs : List UInt8) (w : World) (h0 : Below B W0 w) (hb : Buf B w v bs) (hn : bs.length + (claP c).length ≤ 900000) (hnl : c.nums.length ≤ 900000) (htab : Lib.TabBelow Tryd.prog B w "internal/strconv.uint64pow10" .u64 Lib.pow10Tab) :
    Calls Tryd.prog 50 #[v, .agg (claV c u)] w fun e w' => ∃ v', e = .returned v' ∧ Pt B w w' v' (bs ++ claP c) := by
  have CP : Hid (∀ (f : Fig) v bs W, okN f.n → Buf B W v bs → B ≤ W.heap.size → bs.length ≤ 1000000 → Lib.TabBelow Tryd.prog B W "internal/strconv.uint64pow10" .u64 Lib.pow10Tab → Calls Tryd.prog 49 #[v, .agg (figV f)] W fun e w' => ∃ v', e = .returned v' ∧ Pt B W w' v' (bs ++ decI f.n)) := fun f v bs W hf hb hB hn ht => printFigure_any B f hf v bs W hb hB hn ht
  have hB : B ≤ w.heap.size := by rw [hW0]; exact h0.size
  obtain ⟨o, cap, rfl, hc1, hc2⟩ := GSl.slice hu
  have CB : Hid (∀ j W, Calls Tryd.prog 67 #[.agg (claV c (.slice o c.nums.length cap)), .int .i64 ((j : Nat) : Int)] W fun e w' => e = .returned (.int .u8 ((signJ c j).toNat : Int)) ∧ Below W.heap.size W w' ∧ Lib.OthersKept 5 none W w') := fun j W => between_any c _ ⟨o, cap, rfl⟩ j (by omega) W
  obtain ⟨n, hnn⟩ : ∃ n, n = c.nums.length := ⟨_, rfl⟩
  have HN : Hid (n = c.nums.length) := hnn
  rw [← hnn] at hu hc1 hnl CB ⊢
  unfold maxLen at hc2
  have HU : Hid (GSl FigE figV W0 (.slice o n cap) c.nums) := hu
  have HOK : Hid (∀ f ∈ c.nums, okN f.n) := hok
  have HCP : Hid (claP c = [32] ++ c.word ++ [32] ++ numsTo c n) := by
    show _ = _
    rw [hnn, numsTo_all]
    unfold claP
    simp
  have HLEN : Hid (∀ j, j ≤ n → (numsTo c j).length ≤ 21 * j) := fun j _ => numsTo_len c hok j
  have hwl : bs.length + c.word.length + 2 ≤ 900000 := by rw [HCP.out] at hn; simp at hn; omega
  have hnl2 : Hid (bs.length + c.word.length + 2 + (numsTo c n).length ≤ 900000) := by show _ ≤ _; rw [HCP.out] at hn; simp at hn; omega
  have n0 := heap_new w (.cells (claV c (.slice o n cap)) 76) _ rfl
  have PA : Pt B w (w.alloc (.cells (claV c (.slice o n cap)) 76)) v bs := (Pt.start hb).alloc hB _
  obtain ⟨wA, hwA⟩ : ∃ wA, wA = w.alloc (.cells (claV c (.slice o n cap)) 76) := ⟨_, rfl⟩
  rw [← hwA] at n0 PA
  have HA : Hid (wA = w.alloc (.cells (claV c (.slice o n cap)) 76)) := hwA
  have HPA : Hid (Pt B w wA v bs) := PA
  have HN0 : Hid (wA.heap[w.heap.size]? = some (.cells (claV c (.slice o n cap)) 76 (0, 0))) := n0
  have H0 : Hid (Below B W0 w) := h0
  have HT : Hid (Lib.TabBelow Tryd.prog B w "internal/strconv.uint64pow10" .u64 Lib.pow10Tab) := htab
  have zA : B ≤ wA.heap.size := Nat.le_trans hB PA.below.size
  clear n0 PA hwA h0 htab hu hok hb hnn
  go_enter Tryd.func50, Tryd.ntmps50
  go_wp2_with (first | (at_builtin; refine of_stopT ?_))
  unfold StopT
  rw [← HA.out]
  refine wl_appB rfl _ _ rfl B v bs rfl ((HPA.out.alloc zA _).buf) (w.heap.size + 1) 32 rfl (heap_new _ _ _ (by rw [HA.out]; simp)) (by omega) (by simp; omega) ?_
  intro v1 w1 P1
  have HP1 : Hid (Pt B wA w1 v1 (bs ++ [32])) := ((Pt.start HPA.out.buf).alloc zA _).trans P1
  clear P1
  simp only [Act.put, List.setIfInBounds_toArray, List.set_cons_succ, List.set_cons_zero]
  have c0 : w1.cell? ⟨w.heap.size, 0, none⟩ = some (.string ⟨c.word.toArray⟩) := by rw [cell_of_row _ _ _ _ _ _ (kept_row HP1.out.kept HN0.out (by decide))]; rfl
  have z1 : B ≤ w1.heap.size := pt_size HP1.out zA
  have hwz : (⟨c.word.toArray⟩ : ByteArray).size = c.word.length := by rw [Lib.size_eq]
  have HWZ : Hid ((⟨c.word.toArray⟩ : ByteArray).size = c.word.length) := hwz
  clear hwz
  go_wp2_with (first | (at_builtin; refine of_stopT ?_))
  unfold StopT
  refine wl_appS rfl _ _ rfl B v1 _ rfl HP1.out.buf ⟨c.word.toArray⟩ rfl (by rw [HWZ.out]; simp; omega) z1 ?_
  intro v2 w2 P2
  have HP2 : Hid (Pt B wA w2 v2 (bs ++ [32] ++ c.word)) := HP1.out.trans P2
  have z2 : B ≤ w2.heap.size := pt_size HP2.out zA
  clear P2 c0 z1
  simp only [Act.put, List.setIfInBounds_toArray, List.set_cons_succ, List.set_cons_zero]
  go_wp2_with (first | (at_builtin; refine of_stopT ?_))
  unfold StopT
  refine wl_appB rfl _ _ rfl B v2 _ rfl ((HP2.out.alloc z2 _).buf) w2.heap.size 32 rfl (heap_new _ _ _ rfl) (by simp; omega) (by simp; omega) ?_
  intro v3 w3 P3
  have HP3 : Hid (Pt B wA w3 v3 (bs ++ [32] ++ c.word ++ [32])) := (HP2.out.alloc z2 _).trans P3
  clear P3 z2
  simp only [Act.put, List.setIfInBounds_toArray, List.set_cons_succ, List.set_cons_zero]
  have c2 : w3.cell? ⟨w.heap.size, 2, none⟩ = some (.slice o n cap) := by rw [cell_of_row _ _ _ _ _ _ (kept_row HP3.out.kept HN0.out (by decide))]; rfl
  go_wp2_with fail
  clear c2
  go_loopw [0, 20] (fun b x wr => ∃ j : Nat, j ≤ n ∧ x = .int .i64 (j : Int) ∧ Pt B wA wr b (bs ++ [32] ++ c.word ++ [32] ++ numsTo c j)) (fun _ x _ => n - (intOf x).toNat)
  case atStart => exact ⟨0, Nat.zero_le _, rfl, by have := HP3.out; simpa [numsTo] using this⟩
  case round =>
    obtain ⟨j, hj, rfl, PJ⟩ := hrel
    have HPJ : Hid (Pt B wA wr u0 (bs ++ [32] ++ c.word ++ [32] ++ numsTo c j)) := PJ
    have zj : B ≤ wr.heap.size := pt_size PJ zA
    have hlj := HLEN.out j hj
    clear PJ
    by_cases hlt : j < n
    · have B0 : Below B W0 wr := H0.out.trans (HPA.out.below.trans HPJ.out.below)
      obtain ⟨g, off, cur, ty, fr, f, rfl, hg, hc, hcj⟩ := (HU.out.below (hW0 ▸ B0)).at j hlt
      have hf : okN f.n := HOK.out f (List.mem_of_getElem? hcj)
      have HF : Hid (okN f.n) := hf
      have HNJ : Hid (numsTo c (j + 1) = numsTo c j ++ ((if j = 0 then [] else [signJ c j]) ++ decI f.n)) := by show _ = _; rw [numsTo]; unfold numJ; rw [hcj]
      have K1 : Hid (wr.heap[g]? = some (.cells cur ty fr)) := hg
      have H1 : Hid (∀ q, q < 2 → cur[off + j * 2 + q]? = (figV f)[q]?) := hc
      have hlt' : (j : Int) < (n : Int) := by omega
      have HAL : Hid (Pt B wA (wr.alloc (.cells (figV f) 52)) u0 (bs ++ [32] ++ c.word ++ [32] ++ numsTo c j)) := HPJ.out.alloc zj _
      have zj2 : B ≤ (wr.alloc (.cells (figV f) 52)).heap.size := by simp; omega
      have hbound : Hid ((bs ++ [32] ++ c.word ++ [32] ++ numsTo c j).length ≤ 950000) := by
        show _ ≤ _
        have h1 := numsTo_mono c j (n - j)
        rw [show j + (n - j) = n by omega] at h1
        have h2 := hnl2.out
        simp only [List.length_append, List.length_cons, List.length_nil]
        omega
      clear hg hc hcj hf B0
      have KF : Hid ((wr.alloc (.cells (figV f) 52)).heap[wr.heap.size]? = some (.cells (figV f) 52 (0, 0))) := heap_new _ _ _ rfl
      by_cases hj0 : j = 0
      · have hg0 : ¬ (j : Int) > 0 := by omega
        rw [if_pos hj0, List.nil_append] at HNJ
        clear hj0
        go_wp2_with (first
          | (refine wl_loadE (E := FigE) FigOk rfl _ rfl g (off + j * 2) rfl cur ty fr (figV f) rfl K1.out H1.out ?_)
          | (refine wl_storeE (E := FigE) FigOk rfl _ _ rfl wr.heap.size (figV f) (fig_fits _) rfl rfl _ (heap_new _ _ _ rfl) rfl _ (setRow_new _ _ _ _ _ rfl) ?_)
          | (refine wl_loadE (E := FigE) FigOk rfl _ rfl wr.heap.size 0 rfl _ _ _ (figV f) rfl KF.out (own_cells _ _) ?_))
        have HTB : Hid (Lib.TabBelow Tryd.prog B (wr.alloc (.cells (figV f) 52)) "internal/strconv.uint64pow10" .u64 Lib.pow10Tab) := HT.out.on (HPA.out.below.trans HAL.out.below)
        refine (CP.out f _ _ _ HF.out HAL.out.buf zj2 (by have := hbound.out; omega) HTB.out).mono ?_
        rintro e w6 ⟨v6, rfl, P6⟩
        have HP6 : Hid (Pt B wA w6 v6 (bs ++ [32] ++ c.word ++ [32] ++ numsTo c (j + 1))) := by
          have := HAL.out.trans P6
          show Pt _ _ _ _ _
          rw [HNJ.out, ← List.append_assoc]
          exact this
        clear P6
        go_wp2_with fail
        go_roundw
        case rel => exact ⟨j + 1, by omega, by go_num, HP6.out⟩
        case measure => simp [intOf]; omega
      · have hg0 : (j : Int) > 0 := by omega
        rw [if_neg hj0] at HNJ
        have KC : Hid ((wr.alloc (.cells (figV f) 52)).heap[w.heap.size]? = some (.cells (claV c (.slice (some ⟨g, off, none⟩) n cap)) 76 (0, 0))) := kept_row HAL.out.kept HN0.out (by decide)
        clear hj0
        go_wp2_with (first
          | (refine wl_loadE (E := FigE) FigOk rfl _ rfl g (off + j * 2) rfl cur ty fr (figV f) rfl K1.out H1.out ?_)
          | (refine wl_storeE (E := FigE) FigOk rfl _ _ rfl wr.heap.size (figV f) (fig_fits _) rfl rfl _ (heap_new _ _ _ rfl) rfl _ (setRow_new _ _ _ _ _ rfl) ?_)
          | (refine wl_loadE (E := ClaE) ClaOk rfl _ rfl w.heap.size 0 rfl _ _ _ (claV c (.slice (some ⟨g, off, none⟩) n cap)) rfl KC.out (own_cells _ _) ?_))
        refine (CB.out j _).mono ?_
        rintro e w4 ⟨rfl, hb4, hk4⟩
        have HP4 : Hid (Pt B wA w4 u0 (bs ++ [32] ++ c.word ++ [32] ++ numsTo c j)) := pt_other HAL.out zj2 hb4
        have KF4 : Hid (w4.heap[wr.heap.size]? = some (.cells (figV f) 52 (0, 0))) := (hb4.block _ (by simp)).trans KF.out
        have z4 : B ≤ w4.heap.size := pt_size HP4.out zA
        clear hb4 hk4
        go_wp2_with (first | (at_builtin; refine of_stopT ?_))
        unfold StopT
        refine wl_appB rfl _ _ rfl B u0 _ rfl ((HP4.out.alloc z4 _).buf) w4.heap.size (signJ c j) rfl (heap_new _ _ _ rfl) (by have := hbound.out; omega) (by simp; omega) ?_
        intro v5 w5 P5
        have HP5 : Hid (Pt B wA w5 v5 (bs ++ [32] ++ c.word ++ [32] ++ numsTo c j ++ [signJ c j])) := (HP4.out.alloc z4 _).trans P5
        have KF5 : Hid (w5.heap[wr.heap.size]? = some (.cells (figV f) 52 (0, 0))) := kept_row P5.kept (heap_past _ _ _ _ KF4.out) (by decide)
        have z5 : B ≤ w5.heap.size := pt_size HP5.out zA
        clear P5 z4
        simp only [Act.put, List.setIfInBounds_toArray, List.set_cons_succ, List.set_cons_zero]
        go_wp2_with (first
          | (refine wl_loadE (E := FigE) FigOk rfl _ rfl wr.heap.size 0 rfl _ _ _ (figV f) rfl KF5.out (own_cells _ _) ?_))
        have HTB : Hid (Lib.TabBelow Tryd.prog B w5 "internal/strconv.uint64pow10" .u64 Lib.pow10Tab) := HT.out.on (HPA.out.below.trans HP5.out.below)
        refine (CP.out f _ _ _ HF.out HP5.out.buf z5 (by have := hbound.out; simp only [List.length_append, List.length_cons, List.length_nil] at this ⊢; omega) HTB.out).mono ?_
        rintro e w6 ⟨v6, rfl, P6⟩
        have HP6 : Hid (Pt B wA w6 v6 (bs ++ [32] ++ c.word ++ [32] ++ numsTo c (j + 1))) := by
          have := HP5.out.trans P6
          show Pt _ _ _ _ _
          rw [HNJ.out, ← List.append_assoc, ← List.append_assoc]
          exact this
        clear P6
        go_wp2_with fail
        go_roundw
        case rel => exact ⟨j + 1, by omega, by go_num, HP6.out⟩
        case measure => simp [intOf]; omega
    · have hlt' : (n : Int) ≤ (j : Int) := by omega
      obtain rfl : j = n := by omega
      clear hlt
      go_wp2_with fail
      go_ret
      refine ⟨_, rfl, ?_⟩
      rw [HCP.out]
      have := HPA.out.trans HPJ.out
      simpa [List.append_assoc] using this
end Go.Proofs.YtbdbjbmjnemknaaDoor
namespace Go.Proofs.YtbdbjbmjnemknaaDoor
open Go Go.RowKit
set_option maxRecDepth 20000

theorem flat_take_le (l : List Cla) (k : Nat) : ((l.take k).flatMap claP).length ≤ (l.flatMap claP).length := by
  have h : l.flatMap claP = (l.take k).flatMap claP ++ (l.drop k).flatMap claP := by rw [← List.flatMap_append, List.take_append_drop]
  rw [h, List.length_append]
  omega
set_option maxHeartbeats 8000000 in
theorem printLine_any (B : Nat) (W0 : World) (hW0 : B = W0.heap.size) (x : Raw) (u : Value) (hu : ClasAt W0 x u) (hok : okNs x) (v : Value) (bs : List UInt8) (w : World) (h0 : Below B W0 w) (hb : Buf B w v bs) (hn : bs.length + (rowP x).length ≤ 800000) (hnl : ∀ c ∈ x.clauses, c.nums.length ≤ 900000) (htab : Lib.TabBelow Tryd.prog B w "internal/strconv.uint64pow10" .u64 Lib.pow10Tab) :
    Calls Tryd.prog 29 #[v, .agg (rawV x u)] w fun e w' => ∃ v', e = .returned v' ∧ Pt B w w' v' (bs ++ rowP x) := by
  have CP : Hid (∀ (f : Fig) v bs W, okN f.n → Buf B W v bs → B ≤ W.heap.size → bs.length ≤ 1000000 → Lib.TabBelow Tryd.prog B W "internal/strconv.uint64pow10" .u64 Lib.pow10Tab → Calls Tryd.prog 49 #[v, .agg (figV f)] W fun e w' => ∃ v', e = .returned v' ∧ Pt B W w' v' (bs ++ decI f.n)) := fun f v bs W hf hb hB hn ht => printFigure_any B f hf v bs W hb hB hn ht
  have CC : Hid (∀ (c : Cla) u v bs W, c ∈ x.clauses → FigsAt W0 c u → Below B W0 W → Buf B W v bs → bs.length + (claP c).length ≤ 900000 → Lib.TabBelow Tryd.prog B W "internal/strconv.uint64pow10" .u64 Lib.pow10Tab → Calls Tryd.prog 50 #[v, .agg (claV c u)] W fun e w' => ∃ v', e = .returned v' ∧ Pt B W w' v' (bs ++ claP c)) := fun c u v bs W hc hu h0 hb hn ht => printClause_any B W0 hW0 c u hu (hok.2.2 c hc) v bs W h0 hb hn (hnl c hc) ht
  have hB : B ≤ w.heap.size := by rw [hW0]; exact h0.size
  obtain ⟨o, cap, rfl, hc1, hc2⟩ := NSl.slice hu
  obtain ⟨n, hnn⟩ : ∃ n, n = x.clauses.length := ⟨_, rfl⟩
  have HN : Hid (n = x.clauses.length) := hnn
  rw [← hnn] at hu hc1 ⊢
  unfold maxLen at hc2
  have HU : Hid (NSl ClaE claV FigsAt W0 (.slice o n cap) x.clauses) := hu
  have HOK : Hid (okNs x) := hok
  have PA : Pt B w (w.alloc (.cells (rawV x (.slice o n cap)) 55)) v bs := (Pt.start hb).alloc hB _
  have n0 := heap_new w (.cells (rawV x (.slice o n cap)) 55) _ rfl
  obtain ⟨wA, hwA⟩ : ∃ wA, wA = w.alloc (.cells (rawV x (.slice o n cap)) 55) := ⟨_, rfl⟩
  rw [← hwA] at PA n0
  have HA : Hid (wA = w.alloc (.cells (rawV x (.slice o n cap)) 55)) := hwA
  have HPA : Hid (Pt B w wA v bs) := PA
  have HN0 : Hid (wA.heap[w.heap.size]? = some (.cells (rawV x (.slice o n cap)) 55 (0, 0))) := n0
  have H0 : Hid (Below B W0 w) := h0
  have HT : Hid (Lib.TabBelow Tryd.prog B w "internal/strconv.uint64pow10" .u64 Lib.pow10Tab) := htab
  have zA : B ≤ wA.heap.size := Nat.le_trans hB PA.below.size
  have q1 : (w.alloc (.cells (rawV x (.slice o n cap)) 55)).cell? ⟨w.heap.size, 1, none⟩ = some (.bool x.dflt) := by rw [← hwA, cell_of_row _ _ _ _ _ _ n0]; rfl
  have HROW : Hid (rowP x = (if x.dflt then wDefault else decI x.prio.n) ++ x.clauses.flatMap claP ++ ([32, 45, 62, 32] ++ (actP x ++ [10]))) := rfl
  have hlen : Hid (bs.length + (if x.dflt then wDefault else decI x.prio.n).length + (x.clauses.flatMap claP).length + (actP x).length + 5 ≤ 800000) := by
    show _ ≤ _
    rw [HROW.out] at hn
    simp only [List.length_append, List.length_cons, List.length_nil] at hn
    omega
  clear PA n0 hwA h0 htab hu hok hb hnn hn hnl
  by_cases hdf : x.dflt = true
  · have HFST : Hid ((if x.dflt then wDefault else decI x.prio.n) = wDefault) := if_pos hdf
    rw [hdf] at q1
    clear hdf
    go_enter Tryd.func29, Tryd.ntmps29
    go_wp2_with (first | (at_builtin; refine of_stopT ?_))
    unfold StopT
    rw [← HA.out]
    clear q1
    refine wl_appS rfl _ _ rfl B v _ rfl HPA.out.buf ⟨#[100, 101, 102, 97, 117, 108, 116]⟩ rfl (by have := hlen.out; show _ + 7 ≤ _; omega) zA ?_
    intro vh wh PH
    have HPH : Hid (Pt B wA wh vh (bs ++ wDefault)) := PH
    clear PH
    simp only [Act.put, List.setIfInBounds_toArray, List.set_cons_succ, List.set_cons_zero]
    have zh : B ≤ wh.heap.size := pt_size HPH.out zA
    have s4 : wh.cell? ⟨w.heap.size, 4, none⟩ = some (.slice o n cap) := by rw [cell_of_row _ _ _ _ _ _ (kept_row HPH.out.kept HN0.out (by decide))]; rfl
    go_wp2_with fail
    clear s4
    go_loopw [0, 18] (fun b i wr => ∃ k : Nat, k ≤ n ∧ i = .int .i64 (k : Int) ∧ Pt B wA wr b (bs ++ wDefault ++ (x.clauses.take k).flatMap claP)) (fun _ i _ => n - (intOf i).toNat)
    case atStart => exact ⟨0, Nat.zero_le _, rfl, by have := HPH.out; simpa using this⟩
    case round =>
      obtain ⟨k, hk, rfl, PJ⟩ := hrel
      have HPJ : Hid (Pt B wA wr u0 (bs ++ wDefault ++ (x.clauses.take k).flatMap claP)) := PJ
      have zj : B ≤ wr.heap.size := pt_size PJ zA
      clear PJ
      by_cases hlt : k < n
      · have B0 : Below B W0 wr := H0.out.trans (HPA.out.below.trans HPJ.out.below)
        obtain ⟨g, off, cur, ty, fr, c, u', rfl, hg, hc, hcj, hfig⟩ := NSl.at HU.out k hlt
        have hg' : wr.heap[g]? = some (.cells cur ty fr) := (B0.block g (by rw [hW0]; exact (Array.getElem?_eq_some_iff.1 hg).1)).trans hg
        obtain ⟨o', c', rfl, _, _⟩ := GSl.slice hfig
        have HFG : Hid (FigsAt W0 c (.slice o' c.nums.length c')) := hfig
        have HMC : Hid (c ∈ x.clauses) := List.mem_of_getElem? hcj
        have HTK : Hid ((x.clauses.take (k + 1)).flatMap claP = (x.clauses.take k).flatMap claP ++ claP c) := clas_take _ k c hcj
        have K1 : Hid (wr.heap[g]? = some (.cells cur ty fr)) := hg'
        have H1 : Hid (∀ q, q < 5 → cur[off + k * 5 + q]? = (claV c (.slice o' c.nums.length c'))[q]?) := hc
        have hlt' : (k : Int) < (n : Int) := by omega
        have HAL : Hid (Pt B wA (wr.alloc (.cells (claV c (.slice o' c.nums.length c')) 76)) u0 (bs ++ wDefault ++ (x.clauses.take k).flatMap claP)) := HPJ.out.alloc zj _
        have KF : Hid ((wr.alloc (.cells (claV c (.slice o' c.nums.length c')) 76)).heap[wr.heap.size]? = some (.cells (claV c (.slice o' c.nums.length c')) 76 (0, 0))) := heap_new _ _ _ rfl
        clear hg hg' hc hcj hfig B0
        go_wp2_with (first
          | (refine wl_loadE (E := ClaE) ClaOk rfl _ rfl g (off + k * 5) rfl cur ty fr (claV c (.slice o' c.nums.length c')) rfl K1.out H1.out ?_)
          | (refine wl_storeE (E := ClaE) ClaOk rfl _ _ rfl wr.heap.size (claV c (.slice o' c.nums.length c')) ⟨rfl, by simp [claV, Value.oneCell']⟩ rfl rfl _ (heap_new _ _ _ rfl) rfl _ (setRow_new _ _ _ _ _ rfl) ?_)
          | (refine wl_loadE (E := ClaE) ClaOk rfl _ rfl wr.heap.size 0 rfl _ _ _ (claV c (.slice o' c.nums.length c')) rfl KF.out (own_cells _ _) ?_))
        refine (CC.out c _ _ _ _ HMC.out HFG.out (H0.out.trans (HPA.out.below.trans HAL.out.below)) HAL.out.buf ?_ (HT.out.on (HPA.out.below.trans HAL.out.below))).mono ?_
        · have h1 := flat_take_le x.clauses (k + 1)
          rw [HTK.out] at h1
          have h2 := hlen.out
          rw [HFST.out] at h2
          simp only [List.length_append] at h1 h2 ⊢
          omega
        rintro e w6 ⟨v6, rfl, P6⟩
        have HP6 : Hid (Pt B wA w6 v6 (bs ++ wDefault ++ (x.clauses.take (k + 1)).flatMap claP)) := by
          have := HAL.out.trans P6
          show Pt _ _ _ _ _
          rw [HTK.out, ← List.append_assoc]
          exact this
        clear P6
        go_wp2_with fail
        go_roundw
        case rel => exact ⟨k + 1, by omega, by go_num, HP6.out⟩
        case measure => simp [intOf]; omega
      · have hlt' : (n : Int) ≤ (k : Int) := by omega
        have htk : x.clauses.take k = x.clauses := List.take_of_length_le (by have := HN.out; omega)
        rw [htk] at HPJ
        clear hlt htk
        go_wp2_with (first | (at_builtin; refine of_stopT ?_))
        unfold StopT
        refine wl_appS rfl _ _ rfl B u0 _ rfl HPJ.out.buf ⟨#[32, 45, 62, 32]⟩ rfl (by have := hlen.out; rw [HFST.out] at this; simp only [List.length_append] at this ⊢; show _ + 4 ≤ _; omega) zj ?_
        intro vs ws PS
        have HPS : Hid (Pt B wA ws vs (bs ++ wDefault ++ x.clauses.flatMap claP ++ [32, 45, 62, 32])) := HPJ.out.trans PS
        have zs : B ≤ ws.heap.size := pt_size HPS.out zA
        clear PS
        simp only [Act.put, List.setIfInBounds_toArray, List.set_cons_succ, List.set_cons_zero]
        by_cases hdr : x.drop = true
        · skip
          have HAC : Hid (actP x = wDrop) := by show _ = _; unfold actP; rw [if_pos hdr]
          have s5 : ws.cell? ⟨w.heap.size, 5, none⟩ = some (.bool true) := by rw [cell_of_row _ _ _ _ _ _ (kept_row HPS.out.kept HN0.out (by decide)), ← hdr]; rfl
          clear hdr
          go_wp2_with (first | (at_builtin; refine of_stopT ?_))
          unfold StopT
          refine wl_appS rfl _ _ rfl B vs _ rfl HPS.out.buf ⟨#[100, 114, 111, 112]⟩ rfl (by have := hlen.out; rw [HAC.out, HFST.out] at this; simp only [List.length_append, List.length_cons, List.length_nil] at this ⊢; show _ + 4 ≤ _; omega) zs ?_
          intro vt wt PT
          have HPT : Hid (Pt B wA wt vt (bs ++ wDefault ++ x.clauses.flatMap claP ++ [32, 45, 62, 32] ++ actP x)) := by have := HPS.out.trans PT; rw [HAC.out]; exact this
          clear PT s5
          simp only [Act.put, List.setIfInBounds_toArray, List.set_cons_succ, List.set_cons_zero]
          have zt : B ≤ wt.heap.size := pt_size HPT.out zA
          go_wp2_with (first | (at_builtin; refine of_stopT ?_))
          unfold StopT
          refine wl_appB rfl _ _ rfl B vt _ rfl ((HPT.out.alloc zt _).buf) wt.heap.size 10 rfl (heap_new _ _ _ rfl) (by have := hlen.out; simp only [List.length_append, List.length_cons, List.length_nil] at this ⊢; rw [HFST.out] at this; omega) (by simp; omega) ?_
          intro vz wz PZ
          have HPZ : Hid (Pt B wA wz vz (bs ++ wDefault ++ x.clauses.flatMap claP ++ [32, 45, 62, 32] ++ actP x ++ [10])) := (HPT.out.alloc zt _).trans PZ
          clear PZ
          simp only [Act.put, List.setIfInBounds_toArray, List.set_cons_succ, List.set_cons_zero]
          go_wp2_with fail
          go_ret
          refine ⟨_, rfl, ?_⟩
          rw [HROW.out, HFST.out]
          have := HPA.out.trans HPZ.out
          simpa [List.append_assoc] using this
        · skip
          have hdr' : x.drop = false := by simpa using hdr
          have HAC : Hid (actP x = wPort ++ (32 :: decI x.port.n)) := by show _ = _; unfold actP; rw [if_neg hdr]
          have s5 : ws.cell? ⟨w.heap.size, 5, none⟩ = some (.bool false) := by rw [cell_of_row _ _ _ _ _ _ (kept_row HPS.out.kept HN0.out (by decide)), ← hdr']; rfl
          clear hdr hdr'
          go_wp2_with (first | (at_builtin; refine of_stopT ?_))
          unfold StopT
          refine wl_appS rfl _ _ rfl B vs _ rfl HPS.out.buf ⟨#[112, 111, 114, 116, 32]⟩ rfl (by have := hlen.out; rw [HAC.out, HFST.out] at this; simp only [List.length_append, List.length_cons, List.length_nil] at this ⊢; show _ + 5 ≤ _; omega) zs ?_
          intro vq wq PQ
          have HPQ : Hid (Pt B wA wq vq (bs ++ wDefault ++ x.clauses.flatMap claP ++ [32, 45, 62, 32] ++ [112, 111, 114, 116, 32])) := HPS.out.trans PQ
          have zq : B ≤ wq.heap.size := pt_size HPQ.out zA
          have KQ : Hid (wq.heap[w.heap.size]? = some (.cells (rawV x (.slice o n cap)) 55 (0, 0))) := kept_row HPQ.out.kept HN0.out (by decide)
          clear PQ s5
          simp only [Act.put, List.setIfInBounds_toArray, List.set_cons_succ, List.set_cons_zero]
          go_wp2_with (first
            | (refine wl_loadE (E := FigE) FigOk rfl _ rfl w.heap.size 6 rfl _ _ _ (figV x.port) rfl KQ.out (by intro j hj; match j, hj with | 0, _ => rfl | 1, _ => rfl) ?_))
          have HTB : Hid (Lib.TabBelow Tryd.prog B wq "internal/strconv.uint64pow10" .u64 Lib.pow10Tab) := HT.out.on (HPA.out.below.trans HPQ.out.below)
          refine (CP.out x.port _ _ _ HOK.out.2.1 HPQ.out.buf zq (by have := hlen.out; rw [HAC.out, HFST.out] at this; simp only [List.length_append, List.length_cons, List.length_nil] at this ⊢; omega) HTB.out).mono ?_
          rintro e wt ⟨vt, rfl, PT⟩
          have HPT : Hid (Pt B wA wt vt (bs ++ wDefault ++ x.clauses.flatMap claP ++ [32, 45, 62, 32] ++ actP x)) := by
            have := HPQ.out.trans PT
            show Pt _ _ _ _ _
            rw [HAC.out, show wPort ++ (32 :: decI x.port.n) = [112, 111, 114, 116, 32] ++ decI x.port.n from rfl, ← List.append_assoc]
            exact this
          clear PT
          have zt : B ≤ wt.heap.size := pt_size HPT.out zA
          go_wp2_with (first | (at_builtin; refine of_stopT ?_))
          unfold StopT
          refine wl_appB rfl _ _ rfl B vt _ rfl ((HPT.out.alloc zt _).buf) wt.heap.size 10 rfl (heap_new _ _ _ rfl) (by have := hlen.out; simp only [List.length_append, List.length_cons, List.length_nil] at this ⊢; rw [HFST.out] at this; omega) (by simp; omega) ?_
          intro vz wz PZ
          have HPZ : Hid (Pt B wA wz vz (bs ++ wDefault ++ x.clauses.flatMap claP ++ [32, 45, 62, 32] ++ actP x ++ [10])) := (HPT.out.alloc zt _).trans PZ
          clear PZ
          simp only [Act.put, List.setIfInBounds_toArray, List.set_cons_succ, List.set_cons_zero]
          go_wp2_with fail
          go_ret
          refine ⟨_, rfl, ?_⟩
          rw [HROW.out, HFST.out]
          have := HPA.out.trans HPZ.out
          simpa [List.append_assoc] using this
  · have HFST : Hid ((if x.dflt then wDefault else decI x.prio.n) = decI x.prio.n) := if_neg hdf
    have hdf' : x.dflt = false := by simpa using hdf
    rw [hdf'] at q1
    clear hdf hdf'
    go_enter Tryd.func29, Tryd.ntmps29
    go_wp2_with (first
      | (refine wl_loadE (E := FigE) FigOk rfl _ rfl w.heap.size 2 rfl _ _ _ (figV x.prio) rfl (by rw [← HA.out]; exact HN0.out) (by intro j hj; match j, hj with | 0, _ => rfl | 1, _ => rfl) ?_))
    rw [← HA.out]
    clear q1
    refine (CP.out x.prio _ _ _ HOK.out.1 HPA.out.buf zA (by have := hlen.out; omega) (HT.out.on HPA.out.below)).mono ?_
    rintro e wh ⟨vh, rfl, PH⟩
    have HPH : Hid (Pt B wA wh vh (bs ++ decI x.prio.n)) := PH
    clear PH
    have zh : B ≤ wh.heap.size := pt_size HPH.out zA
    have s4 : wh.cell? ⟨w.heap.size, 4, none⟩ = some (.slice o n cap) := by rw [cell_of_row _ _ _ _ _ _ (kept_row HPH.out.kept HN0.out (by decide))]; rfl
    go_wp2_with fail
    clear s4
    go_loopw [0, 18] (fun b i wr => ∃ k : Nat, k ≤ n ∧ i = .int .i64 (k : Int) ∧ Pt B wA wr b (bs ++ decI x.prio.n ++ (x.clauses.take k).flatMap claP)) (fun _ i _ => n - (intOf i).toNat)
    case atStart => exact ⟨0, Nat.zero_le _, rfl, by have := HPH.out; simpa using this⟩
    case round =>
      obtain ⟨k, hk, rfl, PJ⟩ := hrel
      have HPJ : Hid (Pt B wA wr u0 (bs ++ decI x.prio.n ++ (x.clauses.take k).flatMap claP)) := PJ
      have zj : B ≤ wr.heap.size := pt_size PJ zA
      clear PJ
      by_cases hlt : k < n
      · have B0 : Below B W0 wr := H0.out.trans (HPA.out.below.trans HPJ.out.below)
        obtain ⟨g, off, cur, ty, fr, c, u', rfl, hg, hc, hcj, hfig⟩ := NSl.at HU.out k hlt
        have hg' : wr.heap[g]? = some (.cells cur ty fr) := (B0.block g (by rw [hW0]; exact (Array.getElem?_eq_some_iff.1 hg).1)).trans hg
        obtain ⟨o', c', rfl, _, _⟩ := GSl.slice hfig
        have HFG : Hid (FigsAt W0 c (.slice o' c.nums.length c')) := hfig
        have HMC : Hid (c ∈ x.clauses) := List.mem_of_getElem? hcj
        have HTK : Hid ((x.clauses.take (k + 1)).flatMap claP = (x.clauses.take k).flatMap claP ++ claP c) := clas_take _ k c hcj
        have K1 : Hid (wr.heap[g]? = some (.cells cur ty fr)) := hg'
        have H1 : Hid (∀ q, q < 5 → cur[off + k * 5 + q]? = (claV c (.slice o' c.nums.length c'))[q]?) := hc
        have hlt' : (k : Int) < (n : Int) := by omega
        have HAL : Hid (Pt B wA (wr.alloc (.cells (claV c (.slice o' c.nums.length c')) 76)) u0 (bs ++ decI x.prio.n ++ (x.clauses.take k).flatMap claP)) := HPJ.out.alloc zj _
        have KF : Hid ((wr.alloc (.cells (claV c (.slice o' c.nums.length c')) 76)).heap[wr.heap.size]? = some (.cells (claV c (.slice o' c.nums.length c')) 76 (0, 0))) := heap_new _ _ _ rfl
        clear hg hg' hc hcj hfig B0
        go_wp2_with (first
          | (refine wl_loadE (E := ClaE) ClaOk rfl _ rfl g (off + k * 5) rfl cur ty fr (claV c (.slice o' c.nums.length c')) rfl K1.out H1.out ?_)
          | (refine wl_storeE (E := ClaE) ClaOk rfl _ _ rfl wr.heap.size (claV c (.slice o' c.nums.length c')) ⟨rfl, by simp [claV, Value.oneCell']⟩ rfl rfl _ (heap_new _ _ _ rfl) rfl _ (setRow_new _ _ _ _ _ rfl) ?_)
          | (refine wl_loadE (E := ClaE) ClaOk rfl _ rfl wr.heap.size 0 rfl _ _ _ (claV c (.slice o' c.nums.length c')) rfl KF.out (own_cells _ _) ?_))
        refine (CC.out c _ _ _ _ HMC.out HFG.out (H0.out.trans (HPA.out.below.trans HAL.out.below)) HAL.out.buf ?_ (HT.out.on (HPA.out.below.trans HAL.out.below))).mono ?_
        · have h1 := flat_take_le x.clauses (k + 1)
          rw [HTK.out] at h1
          have h2 := hlen.out
          rw [HFST.out] at h2
          simp only [List.length_append] at h1 h2 ⊢
          omega
        rintro e w6 ⟨v6, rfl, P6⟩
        have HP6 : Hid (Pt B wA w6 v6 (bs ++ decI x.prio.n ++ (x.clauses.take (k + 1)).flatMap claP)) := by
          have := HAL.out.trans P6
          show Pt _ _ _ _ _
          rw [HTK.out, ← List.append_assoc]
          exact this
        clear P6
        go_wp2_with fail
        go_roundw
        case rel => exact ⟨k + 1, by omega, by go_num, HP6.out⟩
        case measure => simp [intOf]; omega
      · have hlt' : (n : Int) ≤ (k : Int) := by omega
        have htk : x.clauses.take k = x.clauses := List.take_of_length_le (by have := HN.out; omega)
        rw [htk] at HPJ
        clear hlt htk
        go_wp2_with (first | (at_builtin; refine of_stopT ?_))
        unfold StopT
        refine wl_appS rfl _ _ rfl B u0 _ rfl HPJ.out.buf ⟨#[32, 45, 62, 32]⟩ rfl (by have := hlen.out; rw [HFST.out] at this; simp only [List.length_append] at this ⊢; show _ + 4 ≤ _; omega) zj ?_
        intro vs ws PS
        have HPS : Hid (Pt B wA ws vs (bs ++ decI x.prio.n ++ x.clauses.flatMap claP ++ [32, 45, 62, 32])) := HPJ.out.trans PS
        have zs : B ≤ ws.heap.size := pt_size HPS.out zA
        clear PS
        simp only [Act.put, List.setIfInBounds_toArray, List.set_cons_succ, List.set_cons_zero]
        by_cases hdr : x.drop = true
        · skip
          have HAC : Hid (actP x = wDrop) := by show _ = _; unfold actP; rw [if_pos hdr]
          have s5 : ws.cell? ⟨w.heap.size, 5, none⟩ = some (.bool true) := by rw [cell_of_row _ _ _ _ _ _ (kept_row HPS.out.kept HN0.out (by decide)), ← hdr]; rfl
          clear hdr
          go_wp2_with (first | (at_builtin; refine of_stopT ?_))
          unfold StopT
          refine wl_appS rfl _ _ rfl B vs _ rfl HPS.out.buf ⟨#[100, 114, 111, 112]⟩ rfl (by have := hlen.out; rw [HAC.out, HFST.out] at this; simp only [List.length_append, List.length_cons, List.length_nil] at this ⊢; show _ + 4 ≤ _; omega) zs ?_
          intro vt wt PT
          have HPT : Hid (Pt B wA wt vt (bs ++ decI x.prio.n ++ x.clauses.flatMap claP ++ [32, 45, 62, 32] ++ actP x)) := by have := HPS.out.trans PT; rw [HAC.out]; exact this
          clear PT s5
          simp only [Act.put, List.setIfInBounds_toArray, List.set_cons_succ, List.set_cons_zero]
          have zt : B ≤ wt.heap.size := pt_size HPT.out zA
          go_wp2_with (first | (at_builtin; refine of_stopT ?_))
          unfold StopT
          refine wl_appB rfl _ _ rfl B vt _ rfl ((HPT.out.alloc zt _).buf) wt.heap.size 10 rfl (heap_new _ _ _ rfl) (by have := hlen.out; simp only [List.length_append, List.length_cons, List.length_nil] at this ⊢; rw [HFST.out] at this; omega) (by simp; omega) ?_
          intro vz wz PZ
          have HPZ : Hid (Pt B wA wz vz (bs ++ decI x.prio.n ++ x.clauses.flatMap claP ++ [32, 45, 62, 32] ++ actP x ++ [10])) := (HPT.out.alloc zt _).trans PZ
          clear PZ
          simp only [Act.put, List.setIfInBounds_toArray, List.set_cons_succ, List.set_cons_zero]
          go_wp2_with fail
          go_ret
          refine ⟨_, rfl, ?_⟩
          rw [HROW.out, HFST.out]
          have := HPA.out.trans HPZ.out
          simpa [List.append_assoc] using this
        · skip
          have hdr' : x.drop = false := by simpa using hdr
          have HAC : Hid (actP x = wPort ++ (32 :: decI x.port.n)) := by show _ = _; unfold actP; rw [if_neg hdr]
          have s5 : ws.cell? ⟨w.heap.size, 5, none⟩ = some (.bool false) := by rw [cell_of_row _ _ _ _ _ _ (kept_row HPS.out.kept HN0.out (by decide)), ← hdr']; rfl
          clear hdr hdr'
          go_wp2_with (first | (at_builtin; refine of_stopT ?_))
          unfold StopT
          refine wl_appS rfl _ _ rfl B vs _ rfl HPS.out.buf ⟨#[112, 111, 114, 116, 32]⟩ rfl (by have := hlen.out; rw [HAC.out, HFST.out] at this; simp only [List.length_append, List.length_cons, List.length_nil] at this ⊢; show _ + 5 ≤ _; omega) zs ?_
          intro vq wq PQ
          have HPQ : Hid (Pt B wA wq vq (bs ++ decI x.prio.n ++ x.clauses.flatMap claP ++ [32, 45, 62, 32] ++ [112, 111, 114, 116, 32])) := HPS.out.trans PQ
          have zq : B ≤ wq.heap.size := pt_size HPQ.out zA
          have KQ : Hid (wq.heap[w.heap.size]? = some (.cells (rawV x (.slice o n cap)) 55 (0, 0))) := kept_row HPQ.out.kept HN0.out (by decide)
          clear PQ s5
          simp only [Act.put, List.setIfInBounds_toArray, List.set_cons_succ, List.set_cons_zero]
          go_wp2_with (first
            | (refine wl_loadE (E := FigE) FigOk rfl _ rfl w.heap.size 6 rfl _ _ _ (figV x.port) rfl KQ.out (by intro j hj; match j, hj with | 0, _ => rfl | 1, _ => rfl) ?_))
          have HTB : Hid (Lib.TabBelow Tryd.prog B wq "internal/strconv.uint64pow10" .u64 Lib.pow10Tab) := HT.out.on (HPA.out.below.trans HPQ.out.below)
          refine (CP.out x.port _ _ _ HOK.out.2.1 HPQ.out.buf zq (by have := hlen.out; rw [HAC.out, HFST.out] at this; simp only [List.length_append, List.length_cons, List.length_nil] at this ⊢; omega) HTB.out).mono ?_
          rintro e wt ⟨vt, rfl, PT⟩
          have HPT : Hid (Pt B wA wt vt (bs ++ decI x.prio.n ++ x.clauses.flatMap claP ++ [32, 45, 62, 32] ++ actP x)) := by
            have := HPQ.out.trans PT
            show Pt _ _ _ _ _
            rw [HAC.out, show wPort ++ (32 :: decI x.port.n) = [112, 111, 114, 116, 32] ++ decI x.port.n from rfl, ← List.append_assoc]
            exact this
          clear PT
          have zt : B ≤ wt.heap.size := pt_size HPT.out zA
          go_wp2_with (first | (at_builtin; refine of_stopT ?_))
          unfold StopT
          refine wl_appB rfl _ _ rfl B vt _ rfl ((HPT.out.alloc zt _).buf) wt.heap.size 10 rfl (heap_new _ _ _ rfl) (by have := hlen.out; simp only [List.length_append, List.length_cons, List.length_nil] at this ⊢; rw [HFST.out] at this; omega) (by simp; omega) ?_
          intro vz wz PZ
          have HPZ : Hid (Pt B wA wz vz (bs ++ decI x.prio.n ++ x.clauses.flatMap claP ++ [32, 45, 62, 32] ++ actP x ++ [10])) := (HPT.out.alloc zt _).trans PZ
          clear PZ
          simp only [Act.put, List.setIfInBounds_toArray, List.set_cons_succ, List.set_cons_zero]
          go_wp2_with fail
          go_ret
          refine ⟨_, rfl, ?_⟩
          rw [HROW.out, HFST.out]
          have := HPA.out.trans HPZ.out
          simpa [List.append_assoc] using this
end Go.Proofs.YtbdbjbmjnemknaaDoor
namespace Go.Proofs.YtbdbjbmjnemknaaDoor
open Go Go.RowKit
set_option maxRecDepth 20000

theorem print_take_le (l : List Raw) (k : Nat) : (printT (l.take k)).length ≤ (printT l).length := by
  have h : printT l = printT (l.take k) ++ printT (l.drop k) := by unfold printT; rw [← List.flatMap_append, List.take_append_drop]
  rw [h, List.length_append]
  omega
theorem conv_buf {B : Nat} {w : World} {v : Value} {bs : List UInt8} (h : Buf B w v bs) : (convert 40 9 v).run Tryd.prog w = .ok (.string ⟨bs.toArray⟩) w := by
  rcases h.2 with ⟨rfl, h0⟩ | ⟨g, cap, cur, rfl, -, -, -, -, -, -⟩
  · obtain rfl : bs = [] := List.length_eq_zero_iff.1 h0
    kernel_rfl
  · exact run_convert_bytes_back (P := Tryd.prog) w 40 9 5 ⟨g, 0, none⟩ cap bs Tryd.underlying40 Tryd.underlying5 Tryd.underlying9 (fun j hj => h.cells (g := g) rfl j _ (by simp [Lib.byteCells, hj]))
set_option maxHeartbeats 8000000 in
set_option maxRecDepth 100000 in
theorem print_any (l : List Raw) (vl : Value) (w : World) (hl : RawsAt w vl l) (hok : ∀ x ∈ l, okNs x) (hnl : ∀ x ∈ l, ∀ c ∈ x.clauses, c.nums.length ≤ 900000) (hn : (printT l).length ≤ 700000) (htab : Lib.TabIs Tryd.prog w "internal/strconv.uint64pow10" .u64 Lib.pow10Tab) :
    Calls Tryd.prog 14 #[vl] w fun e w' => e = .returned (.string ⟨(printT l).toArray⟩) ∧ Below w.heap.size w w' := by
  have CL : Hid (∀ (x : Raw) u v bs W, x ∈ l → ClasAt w x u → Below w.heap.size w W → Buf w.heap.size W v bs → bs.length + (rowP x).length ≤ 800000 → Calls Tryd.prog 29 #[v, .agg (rawV x u)] W fun e w' => ∃ v', e = .returned v' ∧ Pt w.heap.size W w' v' (bs ++ rowP x)) := fun x u v bs W hx hu h0 hb hn => printLine_any w.heap.size w rfl x u hu (hok x hx) v bs W h0 hb hn (hnl x hx) ((Lib.tabBelow_of_tabIs htab).on h0)
  obtain ⟨o, cap, rfl, hc1, hc2⟩ := NSl.slice hl
  obtain ⟨n, hnn⟩ : ∃ n, n = l.length := ⟨_, rfl⟩
  have HN : Hid (n = l.length) := hnn
  rw [← hnn] at hl hc1 ⊢
  unfold maxLen at hc2
  have HL : Hid (RawsAt w (.slice o n cap) l) := hl
  have HC : Hid (∀ W v bs, Buf w.heap.size W v bs → (convert 40 9 v).run Tryd.prog W = .ok (.string ⟨bs.toArray⟩) W) := fun W v bs h => conv_buf h
  have HLEN : Hid ((printT l).length ≤ 700000) := hn
  obtain ⟨S, hS⟩ : ∃ S, S = printT l := ⟨_, rfl⟩
  rw [← hS]
  have HS : Hid (S = printT l) := hS
  clear hl hok hnl hn htab hnn hS
  go_enter Tryd.func14, Tryd.ntmps14
  go_wp2_with fail
  go_loopw [3, 8] (fun b i wr => ∃ k : Nat, k ≤ n ∧ i = .int .i64 (k : Int) ∧ Pt w.heap.size w wr b (printT (l.take k))) (fun _ i _ => n - (intOf i).toNat)
  case atStart => exact ⟨0, Nat.zero_le _, rfl, World.ownsRow_nil _ _ _ _, Below.refl _ _, Lib.OthersKept.refl _ _ _⟩
  case round =>
    obtain ⟨k, hk, rfl, PJ⟩ := hrel
    have HPJ : Hid (Pt w.heap.size w wr u3 (printT (l.take k))) := PJ
    have zj : w.heap.size ≤ wr.heap.size := PJ.below.size
    clear PJ
    by_cases hlt : k < n
    · obtain ⟨g, off, cur, ty, fr, x, u', rfl, hg, hc, hcj, hcl⟩ := NSl.at HL.out k hlt
      have hg' : wr.heap[g]? = some (.cells cur ty fr) := (HPJ.out.below.block g (Array.getElem?_eq_some_iff.1 hg).1).trans hg
      obtain ⟨o', c', rfl, _, _⟩ := NSl.slice hcl
      have HCX : Hid (ClasAt w x (.slice o' x.clauses.length c')) := hcl
      have HMX : Hid (x ∈ l) := List.mem_of_getElem? hcj
      have HTK : Hid (printT (l.take (k + 1)) = printT (l.take k) ++ rowP x) := print_take _ k x hcj
      have K1 : Hid (wr.heap[g]? = some (.cells cur ty fr)) := hg'
      have H1 : Hid (∀ q, q < 8 → cur[off + k * 8 + q]? = (rawV x (.slice o' x.clauses.length c'))[q]?) := hc
      have hlt' : (k : Int) < (n : Int) := by omega
      have HAL : Hid (Pt w.heap.size w (wr.alloc (.cells (rawV x (.slice o' x.clauses.length c')) 55)) u3 (printT (l.take k))) := HPJ.out.alloc zj _
      have KF : Hid ((wr.alloc (.cells (rawV x (.slice o' x.clauses.length c')) 55)).heap[wr.heap.size]? = some (.cells (rawV x (.slice o' x.clauses.length c')) 55 (0, 0))) := heap_new _ _ _ rfl
      clear hg hg' hc hcj hcl
      go_wp2_with (first
        | (refine wl_loadE (E := RawE) RawOk rfl _ rfl g (off + k * 8) rfl cur ty fr (rawV x (.slice o' x.clauses.length c')) rfl K1.out H1.out ?_)
        | (refine wl_storeE (E := RawE) RawOk rfl _ _ rfl wr.heap.size (rawV x (.slice o' x.clauses.length c')) ⟨rfl, by simp [rawV, Value.oneCell']⟩ rfl rfl _ (heap_new _ _ _ rfl) rfl _ (setRow_new _ _ _ _ _ rfl) ?_)
        | (refine wl_loadE (E := RawE) RawOk rfl _ rfl wr.heap.size 0 rfl _ _ _ (rawV x (.slice o' x.clauses.length c')) rfl KF.out (own_cells _ _) ?_))
      refine (CL.out x _ _ _ _ HMX.out HCX.out HAL.out.below HAL.out.buf ?_).mono ?_
      · have h1 := print_take_le l (k + 1)
        rw [HTK.out, List.length_append] at h1
        have h2 := HLEN.out
        omega
      rintro e w6 ⟨v6, rfl, P6⟩
      have HP6 : Hid (Pt w.heap.size w w6 v6 (printT (l.take (k + 1)))) := by show Pt _ _ _ _ _; rw [HTK.out]; exact HAL.out.trans P6
      clear P6
      go_wp2_with fail
      go_roundw
      case rel => exact ⟨k + 1, by omega, by go_num, HP6.out⟩
      case measure => simp [intOf]; omega
    · have hlt' : (n : Int) ≤ (k : Int) := by omega
      have htk : l.take k = l := List.take_of_length_le (by have := HN.out; omega)
      rw [htk, ← HS.out] at HPJ
      have hcv := HC.out wr u3 _ HPJ.out.buf
      clear hlt htk
      go_wp2_with fail
      go_ret
      exact ⟨rfl, HPJ.out.below⟩
end Go.Proofs.YtbdbjbmjnemknaaDoor
namespace Go.Proofs.YtbdbjbmjnemknaaDoor
open Go Go.RowKit
set_option maxRecDepth 20000

/-- The line that is written. -/
def rawL (x : Ent) : Raw := ⟨0, x.dflt, fig0 (if x.dflt then 0 else x.prio), (lineOf x).clauses, decide (x.action = 0), fig0 x.action⟩
theorem rowP_rawL (x : Ent) : rowP (rawL x) = rowP (lineOf x) := by
  unfold rowP headP actP rawL lineOf
  cases x.dflt <;> rfl
theorem rawL_v (x : Ent) (v : Value) : rawV (rawW x (if x.dflt then 0 else x.prio)) v = rawV (rawL x) v := rfl
theorem okN_small {n : Int} (h1 : -1000000 ≤ n) (h2 : n ≤ 4294967296) : okN n := ⟨by omega, by omega⟩
def okE7 (e : Ent) : Prop := okN e.prio ∧ okN e.srcBits ∧ okN e.dstBits ∧ okN e.slow ∧ okN e.shigh ∧ okN e.dlow ∧ okN e.dhigh ∧ okN e.proto ∧ okN e.action
theorem clause_lines (x : Ent) (h32 : ent32 x) (hw : okE7 x) : ∀ c ∈ (lineOf x).clauses, c.nums.length ≤ 5 ∧ c.word.length ≤ 5 ∧ ∀ f ∈ c.nums, okN f.n := by
  obtain ⟨w1, w2, w3, w4, w5, w6, w7, w8, w9⟩ := hw
  obtain ⟨⟨s1, s2⟩, ⟨d1, d2⟩⟩ := h32
  intro c hc
  have addr : ∀ (wd : List UInt8) (v n : Int), wd.length ≤ 5 → 0 ≤ v → v < 4294967296 → okN n → c ∈ partA wd v n → c.nums.length ≤ 5 ∧ c.word.length ≤ 5 ∧ ∀ f ∈ c.nums, okN f.n := fun wd v n hwd h1 h2 h3 hm => by
    unfold partA at hm
    split at hm
    · simp at hm
    · obtain rfl : c = addrC7 wd v n := by simpa using hm
      refine ⟨by simp [addrC7], hwd, fun f hf => ?_⟩
      simp only [addrC7, List.mem_cons, List.not_mem_nil, or_false] at hf
      rcases hf with rfl | rfl | rfl | rfl | rfl
      · exact okN_small (by simp only [fig0]; omega) (by simp only [fig0]; omega)
      · exact okN_small (by simp only [fig0]; omega) (by simp only [fig0]; omega)
      · exact okN_small (by simp only [fig0]; omega) (by simp only [fig0]; omega)
      · exact okN_small (by simp only [fig0]; omega) (by simp only [fig0]; omega)
      · exact h3
  have port : ∀ (wd : List UInt8) (a b : Int), wd.length ≤ 5 → okN a → okN b → c ∈ partP wd a b → c.nums.length ≤ 5 ∧ c.word.length ≤ 5 ∧ ∀ f ∈ c.nums, okN f.n := fun wd a b hwd h1 h2 hm => by
    unfold partP at hm
    split at hm
    · simp at hm
    · obtain rfl : c = portC7 wd a b := by simpa using hm
      unfold portC7
      split
      · refine ⟨by simp, hwd, fun f hf => ?_⟩
        obtain rfl : f = fig0 a := by simpa using hf
        exact h1
      · refine ⟨by simp, hwd, fun f hf => ?_⟩
        simp only [List.mem_cons, List.not_mem_nil, or_false] at hf
        rcases hf with rfl | rfl
        · exact h1
        · exact h2
  unfold lineOf at hc
  simp only at hc
  split at hc
  · simp at hc
  · simp only [List.mem_append] at hc
    rcases hc with hc | hc | hc | hc | hc
    · exact addr wSrc _ _ (by decide) s1 s2 w2 hc
    · exact addr wDst _ _ (by decide) d1 d2 w3 hc
    · exact port wSport _ _ (by decide) w4 w5 hc
    · exact port wDport _ _ (by decide) w6 w7 hc
    · unfold partO at hc
      split at hc
      · simp at hc
      · obtain rfl : c = ⟨wProto, 0, [fig0 x.proto], false, false⟩ := by simpa using hc
        refine ⟨by simp, (by decide : wProto.length ≤ 5), fun f hf => ?_⟩
        obtain rfl : f = fig0 x.proto := by simpa using hf
        exact w8
theorem lines_few (x : Ent) : (lineOf x).clauses.length ≤ 5 := by
  unfold lineOf
  simp only
  split
  · simp
  · have h1 : ∀ wd v n, (partA wd v n).length ≤ 1 := fun wd v n => by unfold partA; split <;> simp
    have h2 : ∀ wd a b, (partP wd a b).length ≤ 1 := fun wd a b => by unfold partP; split <;> simp
    have h3 : ∀ n, (partO n).length ≤ 1 := fun n => by unfold partO; split <;> simp
    have := h1 wSrc x.src x.srcBits
    have := h1 wDst x.dst x.dstBits
    have := h2 wSport x.slow x.shigh
    have := h2 wDport x.dlow x.dhigh
    have := h3 x.proto
    simp only [List.length_append]
    omega
theorem rawL_ok (x : Ent) (h32 : ent32 x) (hw : okE7 x) : okNs (rawL x) ∧ (∀ c ∈ (rawL x).clauses, c.nums.length ≤ 900000) ∧ (rowP (rawL x)).length ≤ 3360 := by
  have hc := clause_lines x h32 hw
  have h0 : okNs (rawL x) := by
    refine ⟨?_, hw.2.2.2.2.2.2.2.2, fun c h => (hc c h).2.2⟩
    unfold rawL fig0
    simp only
    split
    · exact ⟨by decide, by decide⟩
    · exact hw.1
  refine ⟨h0, fun c h => by have := (hc c h).1; omega, ?_⟩
  have h1 := rowP_len (rawL x) h0
  have hsum : ∀ l : List Cla, (∀ c ∈ l, c.nums.length ≤ 5 ∧ c.word.length ≤ 5) → (l.map fun c => 1 + wtC c).sum ≤ 11 * l.length := by
    intro l
    induction l with
    | nil => intro _; simp
    | cons c l ih =>
      intro hl
      have h1 := ih fun d hd => hl d (by simp [hd])
      have h2 := hl c (by simp)
      unfold wtC at h1 ⊢
      rw [List.map_cons, List.sum_cons, List.length_cons]
      omega
  have h2 := hsum (lineOf x).clauses fun c h => ⟨(hc c h).1, (hc c h).2.1⟩
  have h3 := lines_few x
  have h4 : wtR (rawL x) = 1 + ((lineOf x).clauses.map fun c => 1 + wtC c).sum := rfl
  omega
theorem printE_take (l : List Ent) (k : Nat) (x : Ent) (h : l[k]? = some x) : printE (l.take (k + 1)) = printE (l.take k) ++ rowP (rawL x) := by
  unfold printE
  rw [rowP_rawL, List.map_take, List.map_take, print_take _ k (lineOf x) (by rw [List.getElem?_map, h]; rfl)]
theorem printE_len (l : List Ent) (h32 : ∀ x ∈ l, ent32 x) (hw : ∀ x ∈ l, okE7 x) : ∀ k, (printE (l.take k)).length ≤ 3360 * k
  | 0 => by simp [printE, printT]
  | k + 1 => by
    have ih := printE_len l h32 hw k
    cases h : l[k]? with
    | none =>
      rw [List.take_of_length_le (by have := List.getElem?_eq_none_iff.1 h; omega)]
      rw [List.take_of_length_le (List.getElem?_eq_none_iff.1 h)] at ih
      omega
    | some x =>
      rw [printE_take l k x h, List.length_append]
      have hm := List.mem_of_getElem? h
      have := (rawL_ok x (h32 x hm) (hw x hm)).2.2
      omega
theorem raws_one {B : Nat} {w : World} {x : Ent} {v : Value} {P : List (Cla × Value)} {g cap : Nat} (hr : RowW B w v P) (hP : P.map (·.1) = (lineOf x).clauses) (hg : w.heap[g]? = some (.cells (rawV (rawL x) v) 55 (0, 0))) (hc : 1 ≤ cap) (hc2 : cap ≤ maxLen) : RawsAt w (.slice (some ⟨g, 0, none⟩) 1 cap) [rawL x] := by
  refine ⟨[(rawL x, v)], rfl, ⟨_, cap, rfl, by simpa using hc, hc2, fun i hi => ⟨g, 0, _, _, _, rfl, hg, fun j hj => ?_⟩⟩, fun p hp => ?_⟩
  · obtain rfl : i = 0 := by simp at hi; omega
    simp
  · obtain rfl : p = (rawL x, v) := by simpa using hp
    exact ⟨P, hP, gsl_of (E := ClaE) hr.1 fun c _ => rfl, fun r hrr => gsl_of (E := FigE) (hr.2 r hrr) fun c _ => rfl⟩
theorem builder_below {T e : TypeId} {B b : Nat} {bs : List Value} {w w' : World} (h : Lib.IsBuilder T e B b bs w) (hb : Below w.heap.size w w') : Lib.IsBuilder T e B b bs w' := by
  rcases h with ⟨h1, v, h2, h3, h4⟩ | ⟨h1, v, h2, h3, h4⟩
  · exact .inl ⟨h1, v, (hb.block b (Array.getElem?_eq_some_iff.1 h2).1).trans h2, gown_below h3 hb, h4⟩
  · exact .inr ⟨h1, v, (hb.block b (Array.getElem?_eq_some_iff.1 h2).1).trans h2, gown_below h3 hb, h4⟩

set_option maxHeartbeats 8000000 in
set_option maxRecDepth 100000 in
theorem sprint_any (l : List Ent) (vl : Value) (w : World) (hl : EntsAt w vl l) (h32 : ∀ x ∈ l, ent32 x) (hwf : ∀ x ∈ l, okE7 x) (hn : l.length ≤ 100000) (htab : Lib.TabIs Tryd.prog w "internal/strconv.uint64pow10" .u64 Lib.pow10Tab) :
    Calls Tryd.prog 7 #[vl] w fun e w' => e = .returned (.string ⟨(printE l).toArray⟩) ∧ Below w.heap.size w w' := by
  have WR : Hid (∀ (x : Ent) W, ent32 x → Calls Tryd.prog 15 #[.agg (entV x)] W fun e w' => RawN W.heap.size w' x e ∧ Below W.heap.size W w') := fun x W h => written_any x h W
  have PR : Hid (∀ (x : Ent) v W, ent32 x → okE7 x → RawsAt W v [rawL x] → Below w.heap.size w W → Calls Tryd.prog 14 #[v] W fun e w' => e = .returned (.string ⟨(rowP (rawL x)).toArray⟩) ∧ Below W.heap.size W w') := fun x v W h1 h2 h3 h4 => by
    obtain ⟨k1, k2, k3⟩ := rawL_ok x h1 h2
    have e : printT [rawL x] = rowP (rawL x) := by simp [printT]
    have := print_any [rawL x] v W h3 (fun y hy => (List.mem_singleton.1 hy) ▸ k1) (fun y hy => (List.mem_singleton.1 hy) ▸ k2) (by rw [e]; omega) ((Lib.tabBelow_of_tabIs htab) W h4)
    rw [e] at this
    exact this
  have WS : Hid (∀ (B b : Nat) (bs : List UInt8) (s : List UInt8) W, Lib.IsBuilder 42 5 B b (Lib.byteCells bs) W → bs.length + s.length ≤ 400000000 → B ≤ W.heap.size → Calls Tryd.prog 13 #[.pointer (some ⟨b, 0, none⟩), .string ⟨s.toArray⟩] W fun e w' => (∃ v, e = .returned (.tuple #[v, .nilIface])) ∧ Lib.IsBuilder 42 5 B b (Lib.byteCells (bs ++ s)) w' ∧ Below B W w') := fun B b bs s W h1 h2 h3 =>
    (Tryd.writeString_any B b _ ⟨s.toArray⟩ W h1 (by
      have : (ByteArray.mk s.toArray).size = s.length := by simp [ByteArray.size]
      rw [Lib.byteCells_length]; omega) h3).mono fun e w' h => ⟨⟨_, h.1⟩, .inr (by rw [Lib.byteCells_append]; exact h.2.1), h.2.2⟩
  have SS : Hid (∀ (B b : Nat) (bs : List UInt8) W, Lib.IsBuilder 42 5 B b (Lib.byteCells bs) W → B ≤ W.heap.size → Calls Tryd.prog 16 #[.pointer (some ⟨b, 0, none⟩)] W fun e w' => e = .returned (.string ⟨bs.toArray⟩) ∧ Below B W w') := fun B b bs W h1 h2 => Tryd.string_any B b bs W h1 h2
  obtain ⟨o, cap, rfl, hc1, hc2⟩ := GSl.slice hl
  obtain ⟨n, hn0⟩ : ∃ n, n = l.length := ⟨_, rfl⟩
  have HN : Hid (n = l.length) := hn0
  rw [← hn0] at hl hc1 hn ⊢
  have HL : Hid (EntsAt w (.slice o n cap) l) := hl
  unfold maxLen at hc2
  have H32 : Hid (∀ x ∈ l, ent32 x) := h32
  have HWF : Hid (∀ x ∈ l, okE7 x) := hwf
  have IB : Hid (Lib.IsBuilder 42 5 w.heap.size w.heap.size (Lib.byteCells (printE (l.take 0))) (w.alloc (.cells #[.pointer none, .slice none 0 0] 42)) ∧ Below w.heap.size w (w.alloc (.cells #[.pointer none, .slice none 0 0] 42))) := ⟨Lib.fresh_isBuilder _ _ _, (Below.refl _ _).alloc (Nat.le_refl _) _⟩
  clear hl hn0 h32 hwf htab
  go_enter Tryd.func7, Tryd.ntmps7
  go_wp2_with fail
  go_loopw [8] (fun i wr => ∃ k : Nat, k ≤ n ∧ i = .int .i64 (k : Int) ∧ Lib.IsBuilder 42 5 w.heap.size w.heap.size (Lib.byteCells (printE (l.take k))) wr ∧ Below w.heap.size w wr) (fun i _ => n - (intOf i).toNat)
  case atStart => exact ⟨0, Nat.zero_le _, rfl, IB.out.1, IB.out.2⟩
  case round =>
    clear IB
    obtain ⟨k, hk, rfl, hib, hb⟩ := hrel
    have IB : Hid (Lib.IsBuilder 42 5 w.heap.size w.heap.size (Lib.byteCells (printE (l.take k))) wr) := hib
    have HB : Hid (Below w.heap.size w wr) := hb
    clear hib hb
    by_cases hlt : k < n
    · have hlt' : (k : Int) < (n : Int) := by omega
      obtain ⟨g, off, cur, ty, fr, x, rfl, hg, hc, hxk⟩ := (GSl.below HL.out HB.out).at k hlt
      have K1 : Hid (wr.heap[g]? = some (.cells cur ty fr)) := hg
      have H1 : Hid (∀ j, j < 12 → cur[off + k * 12 + j]? = (entV x)[j]?) := hc
      have HX : Hid (ent32 x ∧ okE7 x) := ⟨H32.out x (List.mem_of_getElem? hxk), HWF.out x (List.mem_of_getElem? hxk)⟩
      have HT : Hid (printE (l.take (k + 1)) = printE (l.take k) ++ rowP (rawL x)) := printE_take l k x hxk
      have HLN : Hid ((printE (l.take k)).length + (rowP (rawL x)).length ≤ 400000000) := by
        have h1 := printE_len l H32.out HWF.out k
        have h2 := (rawL_ok x HX.out.1 HX.out.2).2.2
        show _ ≤ _
        omega
      have KN : Hid ((wr.alloc (.cells (entV x) 45)).heap[wr.heap.size]? = some (.cells (entV x) 45 (0, 0))) := heap_new _ _ _ rfl
      have BN : Hid (Below wr.heap.size wr (wr.alloc (.cells (entV x) 45))) := (Below.refl _ _).alloc (Nat.le_refl _) _
      clear hg hc hxk
      go_wp2_with (first
        | (refine wl_loadE (E := EntE) EntOk rfl _ rfl g (off + k * 12) rfl cur ty fr (entV x) rfl K1.out H1.out ?_)
        | (refine wl_loadE (E := EntE) EntOk rfl _ rfl wr.heap.size 0 rfl _ _ _ (entV x) rfl KN.out (own_cells _ _) ?_)
        | (refine wl_storeE (E := EntE) EntOk rfl _ _ rfl wr.heap.size (entV x) (ent_fits _) rfl rfl _ (heap_new _ _ _ rfl) rfl _ (setRow_new _ _ _ _ _ rfl) ?_))
      refine (WR.out x _ HX.out.1).mono ?_
      rintro e w1 ⟨⟨v, P, rfl, hrow, hP⟩, hb1⟩
      have B1 : Hid (Below wr.heap.size wr w1) := BN.out.trans (hb1.mono BN.out.size)
      have KR : Hid ((w1.alloc (.cells (rawV (rawL x) v) 55)).heap[w1.heap.size]? = some (.cells (rawV (rawL x) v) 55 (0, 0))) := heap_new _ _ _ rfl
      have B2 : Hid (Below wr.heap.size wr (w1.alloc (.cells (rawV (rawL x) v) 55))) := B1.out.alloc B1.out.size _
      have RS : Hid (RawsAt (w1.alloc (.cells (rawV (rawL x) v) 55)) (.slice (some ⟨w1.heap.size, 0, none⟩) 1 1) [rawL x]) :=
        raws_one (B := (wr.alloc (.cells (entV x) 45)).heap.size) ⟨hrow.1.alloc _, fun q hq => (hrow.2 q hq).alloc _⟩ hP KR.out (Nat.le_refl _) (by unfold maxLen; omega)
      have BW2 : Hid (Below w.heap.size w (w1.alloc (.cells (rawV (rawL x) v) 55))) := HB.out.trans (B2.out.mono HB.out.size)
      clear hrow hP hb1
      rw [rawL_v]
      go_wp2_with (refine wl_buildE (E := RawE) RawOk rfl _ rfl (rawV (rawL x) v) rfl rfl ?_)
      refine (PR.out x _ _ HX.out.1 HX.out.2 RS.out BW2.out).mono ?_
      rintro e w2 ⟨rfl, hb2⟩
      have B3 : Hid (Below wr.heap.size wr w2) := B2.out.trans (hb2.mono B2.out.size)
      have IB2 : Hid (Lib.IsBuilder 42 5 w.heap.size w.heap.size (Lib.byteCells (printE (l.take k))) w2) := builder_below IB.out B3.out
      have BW3 : Hid (Below w.heap.size w w2) := HB.out.trans (B3.out.mono HB.out.size)
      clear hb2
      go_wp2_with fail
      refine (WS.out _ _ _ _ _ IB2.out HLN.out BW3.out.size).mono ?_
      rintro e w3 ⟨⟨vv, rfl⟩, hib3, hb3⟩
      have IB3 : Hid (Lib.IsBuilder 42 5 w.heap.size w.heap.size (Lib.byteCells (printE (l.take (k + 1)))) w3) := by rw [HT.out]; exact hib3
      have BW4 : Hid (Below w.heap.size w w3) := BW3.out.trans hb3
      clear hib3 hb3
      go_wp2_with fail
      go_roundw
      case rel => exact ⟨k + 1, by omega, by go_num, IB3.out, BW4.out⟩
      case measure => simp [intOf]; omega
    · have hlt' : ¬ (k : Int) < (n : Int) := by omega
      have HE : Hid (printE (l.take k) = printE l) := by
        have e := HN.out
        have hkn : k = l.length := by omega
        show _ = _
        rw [hkn, List.take_length]
      go_wp2_with fail
      refine (SS.out _ _ _ _ IB.out HB.out.size).mono ?_
      rintro e w1 ⟨rfl, hb1⟩
      have B1 : Hid (Below w.heap.size w w1) := HB.out.trans hb1
      clear hb1
      rw [HE.out]
      go_wp2_with fail
      go_ret
      exact ⟨rfl, B1.out⟩
end Go.Proofs.YtbdbjbmjnemknaaDoor
namespace Go.Proofs.YtbdbjbmjnemknaaDoor
open Go Go.RowKit
set_option maxRecDepth 20000

theorem check_code (size : Int) : ∀ (l : List Raw) (i : Nat) (had : Bool) (e : Nat) (p : Int), checkGo size i had l = .error (e, p) → e ≠ 0
  | [], i, had, e, p, h => by
    rw [check_nil] at h
    split at h
    · cases h
    · simp only [Except.error.injEq, Prod.mk.injEq] at h; omega
  | r :: l, i, had, e, p, h => by
    by_cases hz : (rowF i had r).1 = 0
    · rw [(check_good size i had r l hz).1] at h
      cases hx : checkGo size (i + 1) (had || r.dflt) l with
      | ok m => rw [hx] at h; cases h
      | error y =>
        obtain ⟨e', p'⟩ := y
        rw [hx] at h
        simp only [Except.map, Except.error.injEq, Prod.mk.injEq] at h
        have := check_code size l _ _ e' p' hx
        omega
    · obtain ⟨e', h1, h2⟩ := check_bad size i had r l hz
      rw [h1] at h
      simp only [Except.error.injEq, Prod.mk.injEq] at h
      omega
theorem outC_cases (x : ResI (List Ent)) (hc : ∀ e p, x = .error (e, p) → e ≠ 0) : ((outC x).2.1 = 0 ∧ x = .ok (outC x).1 ∧ (outC x).2.2 = 0) ∨ ((outC x).2.1 ≠ 0 ∧ (outC x).1 = []) := by
  cases x with
  | ok m => exact .inl ⟨rfl, rfl, rfl⟩
  | error y =>
    obtain ⟨e, p⟩ := y
    refine .inr ⟨?_, rfl⟩
    have := hc e p rfl
    show (e : Int) ≠ 0
    omega
theorem readP_cases (S : List UInt8) : ((readP S).2.1 = 0 ∧ readT S = .ok (readP S).1 ∧ (readP S).2.2 = 0) ∨ ((readP S).2.1 ≠ 0 ∧ (readP S).1 = []) := by
  refine outC_cases (readT S) fun e p h => ?_
  by_cases hE : (parseP S).2.1 = 0
  · have := parseP_zero7 hE
    unfold readT at h
    rw [this] at h
    exact check_code _ _ _ _ _ _ h
  · have h1 := readP_bad hE
    unfold readP at h1
    rw [h] at h1
    have h2 : (e : Int) = ((parseP S).2.1 : Int) := congrArg (fun x => x.2.1) h1
    omega
theorem okE_32 {x : Ent} (h : okE x) : ent32 x := ⟨⟨h.src.1, h.src.2.1⟩, ⟨h.dst.1, h.dst.2.1⟩⟩
theorem ents32_of (S : List UInt8) : ∀ x ∈ (readP S).1, ent32 x := fun x hx => by
  rcases readP_cases S with ⟨_, h, _⟩ | ⟨_, h⟩
  · exact okE_32 ((read_in h).1 x hx)
  · rw [h] at hx; simp at hx
/-- What is said of a header. -/
theorem says_whole (S : List UInt8) (ap : Ent → Bool) : (saysT ap (readP S).1).2 = ((readP S).2.1 == 0) ∧ 0 ≤ (saysT ap (readP S).1).1 ∧ (saysT ap (readP S).1).1 ≤ 99 := by
  rcases readP_cases S with ⟨h0, h, _⟩ | ⟨h0, h⟩
  · obtain ⟨h1, h2, _⟩ := read_in h
    have hex : ∃ x ∈ (readP S).1, x.dflt = true := by
      have : 0 < ((readP S).1.filter fun x => x.dflt).length := by omega
      obtain ⟨x, hx⟩ := List.exists_mem_of_length_pos this
      rw [List.mem_filter] at hx
      exact ⟨x, hx.1, hx.2⟩
    obtain ⟨i, x, hw, hx⟩ := which_some ap (readP S).1 hex
    have e2 : saysT ap (readP S).1 = (x.action, true) := by unfold saysT; rw [hw]; simp only [List.getD_eq_getElem?_getD, hx]; rfl
    have ha := (h1 x (List.mem_of_getElem? hx)).act
    rw [e2, h0]
    exact ⟨rfl, ha.1, ha.2⟩
  · rw [h]
    have : saysT ap [] = (0, false) := rfl
    rw [this]
    refine ⟨?_, by decide, by decide⟩
    have : ((readP S).2.1 == 0) = false := by simpa using h0
    rw [this]

end Go.Proofs.YtbdbjbmjnemknaaDoor
namespace Go.Proofs.YtbdbjbmjnemknaaDoor
open Go Go.RowKit
set_option maxRecDepth 20000

theorem eqE_same (x : Ent) (w : World) : (Op.equalIn 10000 45 (.agg (entV x)) (.agg (entV x))).run Tryd.prog w = .ok true w := by
  have hh : (Op.equalIn 10000 45 (.agg (entV x)) (.agg (entV x))).run Tryd.prog w = .ok ((x.dflt == x.dflt) && ((x.prio == x.prio) && ((x.src == x.src) && ((x.srcBits == x.srcBits) && ((x.dst == x.dst) && ((x.dstBits == x.dstBits) && ((x.slow == x.slow) && ((x.shigh == x.shigh) && ((x.dlow == x.dlow) && ((x.dhigh == x.dhigh) && ((x.proto == x.proto) && ((x.action == x.action) && true)))))))))))) w := by
    rw [run_equalIn_struct w 9999 45 _ _ Tryd.underlying45 (by kernel_rfl)]
    have a3 : (isAgg 3).run Tryd.prog w = .ok false w := by kernel_rfl
    have a4 : (isAgg 4).run Tryd.prog w = .ok false w := by kernel_rfl
    have a0 : (isAgg 43).run Tryd.prog w = .ok false w := by kernel_rfl
    simp only [Program.fieldsOf, Tryd.underlying45]
    refine eqFields_step w (by decide) (part_cell w a4 rfl) (part_cell w a4 rfl) (run_equalIn_bool w _ 4 _ _ Tryd.underlying4) ?_
    refine eqFields_step w (by decide) (part_cell w a3 rfl) (part_cell w a3 rfl) (run_equalIn_int w _ 3 .i64 .i64 _ _ Tryd.underlying3) ?_
    refine eqFields_step w (by decide) (part_cell w a0 rfl) (part_cell w a0 rfl) (run_equalIn_int w _ 43 .u32 .u32 _ _ Tryd.underlying43) ?_
    refine eqFields_step w (by decide) (part_cell w a3 rfl) (part_cell w a3 rfl) (run_equalIn_int w _ 3 .i64 .i64 _ _ Tryd.underlying3) ?_
    refine eqFields_step w (by decide) (part_cell w a0 rfl) (part_cell w a0 rfl) (run_equalIn_int w _ 43 .u32 .u32 _ _ Tryd.underlying43) ?_
    refine eqFields_step w (by decide) (part_cell w a3 rfl) (part_cell w a3 rfl) (run_equalIn_int w _ 3 .i64 .i64 _ _ Tryd.underlying3) ?_
    refine eqFields_step w (by decide) (part_cell w a3 rfl) (part_cell w a3 rfl) (run_equalIn_int w _ 3 .i64 .i64 _ _ Tryd.underlying3) ?_
    refine eqFields_step w (by decide) (part_cell w a3 rfl) (part_cell w a3 rfl) (run_equalIn_int w _ 3 .i64 .i64 _ _ Tryd.underlying3) ?_
    refine eqFields_step w (by decide) (part_cell w a3 rfl) (part_cell w a3 rfl) (run_equalIn_int w _ 3 .i64 .i64 _ _ Tryd.underlying3) ?_
    refine eqFields_step w (by decide) (part_cell w a3 rfl) (part_cell w a3 rfl) (run_equalIn_int w _ 3 .i64 .i64 _ _ Tryd.underlying3) ?_
    refine eqFields_step w (by decide) (part_cell w a3 rfl) (part_cell w a3 rfl) (run_equalIn_int w _ 3 .i64 .i64 _ _ Tryd.underlying3) ?_
    refine eqFields_step w (by decide) (part_cell w a3 rfl) (part_cell w a3 rfl) (run_equalIn_int w _ 3 .i64 .i64 _ _ Tryd.underlying3) ?_
    rfl
  rw [hh]
  simp
theorem egE (op : BinOp) (x y : Operand) (xs ys : Array Value) (w : World) : (eqGuard op 45 x y (.agg xs) (.agg ys)).run Tryd.prog w = .ok () w :=
  run_eqGuard_agg w op 45 x y xs ys (by kernel_rfl)

set_option maxHeartbeats 8000000 in
theorem rsame_any (C : List Ent) (va vb : Value) (w : World) (ha : EntsAt w va C) (hb : EntsAt w vb C) :
    Calls Tryd.prog 8 #[va, vb] w fun e w' => e = .returned (.bool true) ∧ Below w.heap.size w w' := by
  obtain ⟨oa, capa, rfl, hca, hma⟩ := GSl.slice ha
  obtain ⟨ob, capb, rfl, hcb, hmb⟩ := GSl.slice hb
  obtain ⟨n, hn⟩ : ∃ n, n = C.length := ⟨_, rfl⟩
  rw [← hn] at ha hb hca hcb ⊢
  have HA : Hid (EntsAt w (.slice oa n capa) C) := ha
  have HBB : Hid (EntsAt w (.slice ob n capb) C) := hb
  unfold maxLen at hma hmb
  clear ha hb hn
  go_enter Tryd.func8, Tryd.ntmps8
  go_wp2_with fail
  go_loopw [5] (fun i wr => ∃ k : Nat, k ≤ n ∧ i = .int .i64 (k : Int) ∧ Below w.heap.size w wr) (fun i _ => n - (intOf i).toNat)
  case atStart => exact ⟨0, Nat.zero_le _, rfl, Below.refl _ _⟩
  case round =>
    obtain ⟨k, hk, rfl, hb⟩ := hrel
    have HB : Hid (Below w.heap.size w wr) := hb
    clear hb
    by_cases hlt : k < n
    · have hlt' : (k : Int) < (n : Int) := by omega
      obtain ⟨g, off, cur, ty, fr, x, rfl, hg, hc, hxk⟩ := (GSl.below HA.out HB.out).at k hlt
      obtain ⟨g2, off2, cur2, ty2, fr2, y, rfl, hg2, hc2, hyk⟩ := (GSl.below HBB.out HB.out).at k hlt
      rw [hxk] at hyk
      obtain rfl := Option.some.inj hyk
      have e1 : ∀ w, (Op.equalIn 10000 45 (.agg (entV x)) (.agg (entV x))).run Tryd.prog w = .ok true w := eqE_same x
      have e2 : ∀ op p q w, (eqGuard op 45 p q (.agg (entV x)) (.agg (entV x))).run Tryd.prog w = .ok () w := fun op p q w => egE op p q _ _ w
      have K1 : wr.heap[g]? = some (.cells cur ty fr) := hg
      have K2 : wr.heap[g2]? = some (.cells cur2 ty2 fr2) := hg2
      have H1 : Hid (∀ i, i < 12 → cur[off + k * 12 + i]? = (entV x)[i]?) := hc
      have H2 : Hid (∀ i, i < 12 → cur2[off2 + k * 12 + i]? = (entV x)[i]?) := hc2
      clear hg hg2 hc hc2 hxk
      go_wp2_with fail
      have ne1 := Later.ne wr
      refine wp_region_later (by kernel_rfl) (by kernel_rfl) ?_
      go_big_quiet_step (fail)
      go_big_quiet_step (fail)
      go_big_quiet_step (fail)
      refine qlE (E := EntE) EntOk rfl _ rfl g (off + k * 12) rfl cur ty fr (entV x) rfl (later_block K1) H1.out ?_
      simp only [Act.put, List.setIfInBounds_toArray, List.set_cons_succ, List.set_cons_zero]
      go_big_quiet_step (fail)
      go_big_quiet_step (fail)
      go_big_quiet_step (fail)
      refine qlE (E := EntE) EntOk rfl _ rfl g2 (off2 + k * 12) rfl cur2 ty2 fr2 (entV x) rfl (later_block K2) H2.out ?_
      simp only [Act.put, List.setIfInBounds_toArray, List.set_cons_succ, List.set_cons_zero]
      repeat go_big_quiet_step (fail)
      refine wpQuiet_nil ?_
      rintro w' ⟨v, rfl⟩
      clear K1 K2 H1 H2
      go_wp2_with fail
      go_roundw
      case rel => exact ⟨k + 1, by omega, by go_num, HB.out.trans (v.below.mono HB.out.size)⟩
      case measure => simp [intOf]; omega
    · have hlt' : ¬ (k : Int) < (n : Int) := by omega
      clear hlt
      go_wp2_with fail
      go_ret
      exact ⟨rfl, HB.out⟩
end Go.Proofs.YtbdbjbmjnemknaaDoor
namespace Go.Proofs.YtbdbjbmjnemknaaDoor
open Go Go.RowKit
set_option maxRecDepth 20000

theorem okE_7 {x : Ent} (h : okE x) : okE7 x := by
  have h1 := h.act; have h2 := h.prio; have h3 := h.src; have h4 := h.dst; have h5 := h.sp; have h6 := h.dp
  refine ⟨⟨?_, ?_⟩, ⟨?_, ?_⟩, ⟨?_, ?_⟩, ⟨?_, ?_⟩, ⟨?_, ?_⟩, ⟨?_, ?_⟩, ⟨?_, ?_⟩, ?_, ⟨?_, ?_⟩⟩
  all_goals first | omega | skip
  cases hd : x.dflt with
  | true => rw [h.zero hd]; exact (⟨by decide, by decide⟩ : okN 0)
  | false => have := h.proto hd; exact ⟨by omega, by omega⟩
theorem read_few {S : List UInt8} {l : List Ent} (h : readT S = .ok l) : l.length ≤ 64 := by
  unfold readT at h
  cases hp : parseT S with
  | error x => rw [hp] at h; cases h
  | ok R =>
    rw [hp] at h
    rcases check_lines _ 0 R 0 false l h with ⟨_, _, h3, h4⟩ | ⟨_, h5, _⟩
    · omega
    · cases h5

set_option maxHeartbeats 8000000 in
set_option maxRecDepth 100000 in
theorem lawSBack_any (s : ByteArray) (hs : s.size ≤ maxLen) (w : World) (hP : Places w) (htab : Lib.TabIs Tryd.prog w "internal/strconv.uint64pow10" .u64 Lib.pow10Tab) :
    Calls Tryd.prog 3 #[.string s] w fun e w' => e = .returned (.bool true) ∧ Below w.heap.size w w' := by
  have AW : Hid (Calls Tryd.prog 5 #[] w fun e w' => e = .returned (.bool true) ∧ Below w.heap.size w w') := awake7_any w hP
  have RD : Hid (∀ W, Calls Tryd.prog 6 #[.string s] W fun e w' => ∃ v, e = .returned (.tuple #[v, .int .i64 (readP s.data.toList).2.1, .int .i64 (readP s.data.toList).2.2]) ∧ EntsOwn W.heap.size w' (readP s.data.toList).1 v ∧ Below W.heap.size W w') := fun W => read_any s hs W
  have hcase := readP_cases s.data.toList
  obtain ⟨⟨l, e0, a0⟩, hX⟩ : ∃ X, X = readP s.data.toList := ⟨_, rfl⟩
  rw [← hX] at RD hcase
  simp only at RD hcase
  rcases hcase with ⟨he, hok, ha⟩ | ⟨he, hnil⟩
  · subst he
    subst ha
    have hE := (read_in hok).1
    have h64 := read_few hok
    have PR : Hid (∀ v W, EntsAt W v l → Below w.heap.size w W → Calls Tryd.prog 7 #[v] W fun e w' => e = .returned (.string ⟨(printE l).toArray⟩) ∧ Below W.heap.size W w') := fun v W h1 h2 => sprint_any l v W h1 (fun x hx => okE_32 (hE x hx)) (fun x hx => okE_7 (hE x hx)) (by omega) ((Lib.tabBelow_of_tabIs htab) W h2)
    have hbk := @sense_back s.data.toList l hok
    have hsz : (ByteArray.mk (printE l).toArray).size = (printE l).length := by simp [ByteArray.size]
    have hszl : (printE l).length ≤ 400000000 := by
      have := printE_len l (fun x hx => okE_32 (hE x hx)) (fun x hx => okE_7 (hE x hx)) l.length
      rw [List.take_length] at this
      omega
    have RD2 : Hid ((printE l).length ≤ 4096 → ∀ W, Calls Tryd.prog 6 #[.string ⟨(printE l).toArray⟩] W fun e w' => ∃ v, e = .returned (.tuple #[v, .int .i64 0, .int .i64 0]) ∧ EntsOwn W.heap.size w' l v ∧ Below W.heap.size W w') := fun h W => by
      have := read_any ⟨(printE l).toArray⟩ (by rw [hsz]; unfold maxLen; omega) W
      have e : readP (printE l) = (l, 0, 0) := by unfold readP; rw [hbk h]; rfl
      simp only [e] at this
      exact this
    have RS : Hid (∀ va vb W, EntsAt W va l → EntsAt W vb l → Calls Tryd.prog 8 #[va, vb] W fun e w' => e = .returned (.bool true) ∧ Below W.heap.size W w') := fun va vb W h1 h2 => rsame_any l va vb W h1 h2
    obtain ⟨T, hT⟩ : ∃ T, T = printE l := ⟨_, rfl⟩
    rw [← hT] at PR RD2 hsz hszl
    obtain ⟨t, ht⟩ : ∃ t : ByteArray, t = ⟨T.toArray⟩ := ⟨_, rfl⟩
    rw [← ht] at PR RD2 hsz
    have HSZ : Hid (t.size = T.length) := hsz
    unfold maxLen at hs
    have htl : t.size ≤ 400000000 := by omega
    clear hbk hT ht hE h64 hok hP htab hX hsz hszl
    by_cases hlong : 4096 < t.size
    · have hlz : (4096 : Int) < (t.size : Int) := by omega
      go_enter Tryd.func3, Tryd.ntmps3
      go_wp2_with fail
      refine AW.out.mono ?_
      rintro e w1 ⟨rfl, hb1⟩
      have B1 : Hid (Below w.heap.size w w1) := hb1
      clear hb1
      go_wp2_with fail
      refine (RD.out _).mono ?_
      rintro e w2 ⟨v, rfl, ho2, hb2⟩
      have B2 : Hid (Below w.heap.size w w2) := B1.out.trans (hb2.mono B1.out.size)
      have L2 : Hid (EntsAt w2 v l) := ents_sl ho2
      clear hb2 ho2
      go_wp2_with fail
      refine (PR.out _ _ L2.out B2.out).mono ?_
      rintro e w3 ⟨rfl, hb3⟩
      have B3 : Hid (Below w.heap.size w w3) := B2.out.trans (hb3.mono B2.out.size)
      clear hb3
      go_wp2_with fail
      go_ret
      exact ⟨rfl, B3.out⟩
    · have hlz : ¬ (4096 : Int) < (t.size : Int) := by omega
      have R2 : Hid (∀ W, Calls Tryd.prog 6 #[.string t] W fun e w' => ∃ v, e = .returned (.tuple #[v, .int .i64 0, .int .i64 0]) ∧ EntsOwn W.heap.size w' l v ∧ Below W.heap.size W w') := RD2.out (by have := HSZ.out; omega)
      clear RD2
      go_enter Tryd.func3, Tryd.ntmps3
      go_wp2_with fail
      refine AW.out.mono ?_
      rintro e w1 ⟨rfl, hb1⟩
      have B1 : Hid (Below w.heap.size w w1) := hb1
      clear hb1
      go_wp2_with fail
      refine (RD.out _).mono ?_
      rintro e w2 ⟨v, rfl, ho2, hb2⟩
      have B2 : Hid (Below w.heap.size w w2) := B1.out.trans (hb2.mono B1.out.size)
      have L2 : Hid (EntsAt w2 v l) := ents_sl ho2
      clear hb2 ho2
      go_wp2_with fail
      refine (PR.out _ _ L2.out B2.out).mono ?_
      rintro e w3 ⟨rfl, hb3⟩
      have B3 : Hid (Below w.heap.size w w3) := B2.out.trans (hb3.mono B2.out.size)
      have L3 : Hid (EntsAt w3 v l) := GSl.below L2.out hb3
      clear hb3
      go_wp2_with fail
      refine (R2.out _).mono ?_
      rintro e w4 ⟨v4, rfl, ho4, hb4⟩
      have B4 : Hid (Below w.heap.size w w4) := B3.out.trans (hb4.mono B3.out.size)
      have L4 : Hid (EntsAt w4 v l) := GSl.below L3.out hb4
      have M4 : Hid (EntsAt w4 v4 l) := ents_sl ho4
      clear hb4 ho4
      go_wp2_with fail
      refine (RS.out _ _ _ L4.out M4.out).mono ?_
      rintro e w5 ⟨rfl, hb5⟩
      have B5 : Hid (Below w.heap.size w w5) := B4.out.trans (hb5.mono B4.out.size)
      clear hb5
      go_wp2_with fail
      go_ret
      exact ⟨rfl, B5.out⟩
  · subst hnil
    have hne : (e0 != 0) = true := by simpa using he
    unfold maxLen at hs
    clear he hX hP htab
    go_enter Tryd.func3, Tryd.ntmps3
    go_wp2_with fail
    refine AW.out.mono ?_
    rintro e w1 ⟨rfl, hb1⟩
    have B1 : Hid (Below w.heap.size w w1) := hb1
    clear hb1
    go_wp2_with fail
    refine (RD.out _).mono ?_
    rintro e w2 ⟨v, rfl, ho2, hb2⟩
    have B2 : Hid (Below w.heap.size w w2) := B1.out.trans (hb2.mono B1.out.size)
    obtain ⟨o, cap, rfl⟩ := gown_slice ho2
    clear hb2 ho2
    go_wp2_with fail
    go_ret
    exact ⟨rfl, B2.out⟩
end Go.Proofs.YtbdbjbmjnemknaaDoor
namespace Go.Proofs.YtbdbjbmjnemknaaDoor
open Go Go.RowKit
set_option maxRecDepth 20000

theorem own0 (w : World) (e : TypeId) (s : Nat) : (w.alloc (.cells #[] e)).ownsRow w.heap.size e s (.slice (some ⟨w.heap.size, 0, none⟩) 0 0) 0 [] := ⟨by simp, .inr ⟨_, 0, #[], rfl, Nat.le_refl _, heap_new _ _ _ rfl, Nat.le_refl _, Nat.zero_le _, by simp, by simp⟩⟩
set_option maxHeartbeats 4000000 in
theorem rfigures_any (L : List Int) (hL : L.length ≤ 100) (g : Nat) (w : World) (hg : w.heap[g]? = some (.cells (intsV L) 3 (0, 0))) :
    Calls Tryd.prog 35 #[.slice (some ⟨g, 0, none⟩) L.length L.length] w fun e w' => ∃ v, e = .returned v ∧ FigsOwn w.heap.size w' (L.map fig0) v ∧ Below w.heap.size w w' := by
  have HG : Hid (w.heap[g]? = some (.cells (intsV L) 3 (0, 0))) := hg
  obtain ⟨n, hn⟩ : ∃ n, n = L.length := ⟨_, rfl⟩
  have HN : Hid (n = L.length) := hn
  rw [← hn] at hL ⊢
  clear hg hn
  go_enter Tryd.func35, Tryd.ntmps35
  go_wp2_with (refine wl_build0E (E := FigE) FigOk rfl rfl ?_)
  go_loopw [3, 4] (fun v i wr => ∃ k : Nat, k ≤ n ∧ i = .int .i64 (k : Int) ∧ FigsOwn w.heap.size wr ((L.take k).map fig0) v ∧ Below w.heap.size w wr) (fun _ i _ => n - (intOf i).toNat)
  case atStart => exact ⟨0, Nat.zero_le _, rfl, own0 _ _ _, (Below.refl _ _).alloc (Nat.le_refl _) _⟩
  case round =>
    obtain ⟨k, hk, rfl, hown, hb⟩ := hrel
    have HO : Hid (FigsOwn w.heap.size wr ((L.take k).map fig0) u3) := hown
    have HB : Hid (Below w.heap.size w wr) := hb
    clear hown hb
    by_cases hlt : k < n
    · have hlt' : (k : Int) < (n : Int) := by omega
      obtain ⟨x, hx⟩ : ∃ x, L[k]? = some x := ⟨_, List.getElem?_eq_getElem (by have := HN.out; omega)⟩
      have hgr : wr.heap[g]? = some (.cells (intsV L) 3 (0, 0)) := (HB.out.block g (Array.getElem?_eq_some_iff.1 HG.out).1).trans HG.out
      have cx : wr.cell? ⟨g, k, none⟩ = some (.int .i64 x) := by rw [cell_of_row _ _ _ _ _ _ hgr]; exact ints_at hx
      have HT : Hid ((L.take (k + 1)).map fig0 = (L.take k).map fig0 ++ [fig0 x]) := fig0_take hx
      have HLN : Hid (((L.take k).map fig0).length ≤ 1000000) := by show _ ≤ _; rw [List.length_map, List.length_take]; omega
      have HO2 : Hid (FigsOwn w.heap.size (wr.alloc (.cells (figV (fig0 x)) 52)) ((L.take k).map fig0) u3) := HO.out.alloc _
      have HLT : Hid (k < n) := hlt
      clear hx hgr hlt
      go_wp2_with (first
        | (refine wl_buildE (E := FigE) FigOk rfl _ rfl (figV (fig0 x)) rfl rfl ?_)
        | (at_builtin; refine of_stopT ?_))
      unfold StopT
      refine wl_appendE (E := FigE) FigOk figV rfl _ _ rfl w.heap.size u3 ((L.take k).map fig0) (fig0 x) (fig_fits _) rfl HO2.out wr.heap.size 1 rfl (heap_new _ _ _ rfl) HLN.out (by have := HB.out.size; simp; omega) ?_
      intro v' w3 hown3 hgr3 _
      have B3 : Hid (Below w.heap.size w w3) := (HB.out.alloc HB.out.size _).trans ((Below.refl _ _).grown hgr3 (HB.out.alloc HB.out.size _).size fun k hk => (HO2.out.lt k hk).1)
      have HO3 : Hid (FigsOwn w.heap.size w3 ((L.take (k + 1)).map fig0) v') := by show FigsOwn _ _ _ _; rw [HT.out]; exact hown3
      clear hown3 hgr3
      simp only [Act.put, List.setIfInBounds_toArray, List.set_cons_succ, List.set_cons_zero]
      go_wp2_with fail
      go_roundw
      case rel =>
        have := HLT.out
        exact ⟨k + 1, by omega, by go_num, HO3.out, B3.out⟩
      case measure =>
        have := HLT.out
        simp [intOf]; omega
    · have hlt' : (n : Int) ≤ (k : Int) := by omega
      have htk : L.take k = L := List.take_of_length_le (by have := HN.out; omega)
      rw [htk] at HO
      clear hlt htk
      go_wp2_with fail
      go_ret
      exact ⟨_, rfl, HO.out, HB.out⟩

set_option maxHeartbeats 4000000 in
theorem rports7_any (t : List UInt8) (a b : Int) (w : World) :
    Calls Tryd.prog 34 #[.string ⟨t.toArray⟩, .int .i64 a, .int .i64 b] w fun e w' => ClaN w.heap.size w' (portC7 t a b) e ∧ Below w.heap.size w w' := by
  have FG : Hid (∀ (L : List Int) (g : Nat) W, L.length ≤ 100 → W.heap[g]? = some (.cells (intsV L) 3 (0, 0)) → Calls Tryd.prog 35 #[.slice (some ⟨g, 0, none⟩) L.length L.length] W fun e w' => ∃ v, e = .returned v ∧ FigsOwn W.heap.size w' (L.map fig0) v ∧ Below W.heap.size W w') := fun L g W h1 h2 => rfigures_any L h1 g W h2
  by_cases h : a = b
  · subst h
    rw [show portC7 t a a = ⟨t, 0, [fig0 a], false, false⟩ by unfold portC7; rw [if_pos rfl]]
    have K0 : Hid (((w.alloc (.cells ClaE.zero 76)).alloc (.cells (intsV [a]) 3)).heap[w.heap.size]? = some (.cells ClaE.zero 76 (0, 0))) := heap_past _ _ _ _ (heap_new _ _ _ rfl)
    have K1 : Hid (((w.alloc (.cells ClaE.zero 76)).alloc (.cells (intsV [a]) 3)).heap[w.heap.size + 1]? = some (.cells (intsV [a]) 3 (0, 0))) := heap_new _ _ _ (by simp)
    have B2 : Hid (Below w.heap.size w ((w.alloc (.cells ClaE.zero 76)).alloc (.cells (intsV [a]) 3))) := below2 _ _ _
    have HS : Hid (w.heap.size + 1 < ((w.alloc (.cells ClaE.zero 76)).alloc (.cells (intsV [a]) 3)).heap.size) := (Array.getElem?_eq_some_iff.1 K1.out).1
    go_enter Tryd.func34, Tryd.ntmps34
    go_wp2_with fail
    refine (FG.out [a] _ _ (by simp) K1.out).mono ?_
    rintro e w1 ⟨v, rfl, ho1, hb1⟩
    obtain ⟨o, n, m, rfl⟩ := figs_sl8 ho1
    have K2 : Hid (w1.heap[w.heap.size]? = some (.cells ClaE.zero 76 (0, 0))) := (hb1.block _ (by have := HS.out; omega)).trans K0.out
    have B3 : Hid (Below w.heap.size w w1) := B2.out.trans (hb1.mono B2.out.size)
    have HO : Hid (FigsOwn (w.heap.size + 1) w1 ([a].map fig0) (.slice o n m)) := gown_base ho1 (by have := HS.out; omega)
    clear ho1 hb1
    go_wp2_with (first
      | (refine wl_storeE (E := ClaE) ClaOk rfl _ _ rfl w.heap.size (claV ⟨t, 0, [fig0 a], false, false⟩ (.slice o n m)) ⟨rfl, by simp [claV, Value.oneCell']⟩ rfl rfl _ K2.out rfl _ rfl ?_))
    refine retE (E := ClaE) ClaOk rfl rfl w.heap.size rfl (claV ⟨t, 0, [fig0 a], false, false⟩ (.slice o n m)) rfl (setRow_heap _ _ _ _ _ _ K2.out) ?_
    exact ⟨⟨_, rfl, gown_base (figs_setRow HO.out (Nat.lt_succ_self _)) (Nat.le_succ _), _, _, _, rfl⟩, below_setRow B3.out (Nat.le_refl _) _⟩
  · rw [show portC7 t a b = ⟨t, 0, [fig0 a, fig0 b], false, true⟩ by unfold portC7; rw [if_neg h]]
    have h' : (a == b) = false := by simp [h]
    clear h
    have K0 : Hid (((w.alloc (.cells ClaE.zero 76)).alloc (.cells (intsV [a, b]) 3)).heap[w.heap.size]? = some (.cells ClaE.zero 76 (0, 0))) := heap_past _ _ _ _ (heap_new _ _ _ rfl)
    have K1 : Hid (((w.alloc (.cells ClaE.zero 76)).alloc (.cells (intsV [a, b]) 3)).heap[w.heap.size + 1]? = some (.cells (intsV [a, b]) 3 (0, 0))) := heap_new _ _ _ (by simp)
    have B2 : Hid (Below w.heap.size w ((w.alloc (.cells ClaE.zero 76)).alloc (.cells (intsV [a, b]) 3))) := below2 _ _ _
    have HS : Hid (w.heap.size + 1 < ((w.alloc (.cells ClaE.zero 76)).alloc (.cells (intsV [a, b]) 3)).heap.size) := (Array.getElem?_eq_some_iff.1 K1.out).1
    go_enter Tryd.func34, Tryd.ntmps34
    go_wp2_with fail
    refine (FG.out [a, b] _ _ (by simp) K1.out).mono ?_
    rintro e w1 ⟨v, rfl, ho1, hb1⟩
    obtain ⟨o, n, m, rfl⟩ := figs_sl8 ho1
    have K2 : Hid (w1.heap[w.heap.size]? = some (.cells ClaE.zero 76 (0, 0))) := (hb1.block _ (by have := HS.out; omega)).trans K0.out
    have B3 : Hid (Below w.heap.size w w1) := B2.out.trans (hb1.mono B2.out.size)
    have HO : Hid (FigsOwn (w.heap.size + 1) w1 ([a, b].map fig0) (.slice o n m)) := gown_base ho1 (by have := HS.out; omega)
    clear ho1 hb1
    go_wp2_with (first
      | (refine wl_storeE (E := ClaE) ClaOk rfl _ _ rfl w.heap.size (claV ⟨t, 0, [fig0 a, fig0 b], false, true⟩ (.slice o n m)) ⟨rfl, by simp [claV, Value.oneCell']⟩ rfl rfl _ K2.out rfl _ rfl ?_))
    refine retE (E := ClaE) ClaOk rfl rfl w.heap.size rfl (claV ⟨t, 0, [fig0 a, fig0 b], false, true⟩ (.slice o n m)) rfl (setRow_heap _ _ _ _ _ _ K2.out) ?_
    exact ⟨⟨_, rfl, gown_base (figs_setRow HO.out (Nat.lt_succ_self _)) (Nat.le_succ _), _, _, _, rfl⟩, below_setRow B3.out (Nat.le_refl _) _⟩

set_option maxHeartbeats 4000000 in
theorem raddr_any (t : List UInt8) (a b : Int) (h0 : 0 ≤ a) (h1 : a < 4294967296) (w : World) :
    Calls Tryd.prog 33 #[.string ⟨t.toArray⟩, .int .u32 a, .int .i64 b] w fun e w' => ClaN w.heap.size w' (addrC7 t a b) e ∧ Below w.heap.size w w' := by
  have FG : Hid (∀ (L : List Int) (g : Nat) W, L.length ≤ 100 → W.heap[g]? = some (.cells (intsV L) 3 (0, 0)) → Calls Tryd.prog 35 #[.slice (some ⟨g, 0, none⟩) L.length L.length] W fun e w' => ∃ v, e = .returned v ∧ FigsOwn W.heap.size w' (L.map fig0) v ∧ Below W.heap.size W w') := fun L g W h1 h2 => rfigures_any L h1 g W h2
  have m1 := mask8 (a / 65536) (by omega) (by omega)
  have m2 := mask8 (a / 256) (by omega) (by omega)
  have m3 := mask8 a h0 h1
  have e1 : wrap64 (bits .and .u32 (a / 65536) 255) = a / 65536 % 256 := by rw [m1]; unfold wrap64; omega
  have e2 : wrap64 (bits .and .u32 (a / 256) 255) = a / 256 % 256 := by rw [m2]; unfold wrap64; omega
  have e3 : wrap64 (bits .and .u32 a 255) = a % 256 := by rw [m3]; unfold wrap64; omega
  unfold addrC7
  obtain ⟨x1, hx1⟩ : ∃ x, x = a / 16777216 := ⟨_, rfl⟩
  obtain ⟨x2, hx2⟩ : ∃ x, x = a / 65536 % 256 := ⟨_, rfl⟩
  obtain ⟨x3, hx3⟩ : ∃ x, x = a / 256 % 256 := ⟨_, rfl⟩
  obtain ⟨x4, hx4⟩ : ∃ x, x = a % 256 := ⟨_, rfl⟩
  rw [← hx2] at e1
  rw [← hx3] at e2
  rw [← hx4] at e3
  rw [← hx1, ← hx2, ← hx3, ← hx4]
  have X1 : a / 16777216 = x1 := hx1.symm
  clear m1 m2 m3 hx1 hx2 hx3 hx4
  have K0 : Hid (((w.alloc (.cells ClaE.zero 76)).alloc (.cells (intsV [x1, x2, x3, x4, b]) 3)).heap[w.heap.size]? = some (.cells ClaE.zero 76 (0, 0))) := heap_past _ _ _ _ (heap_new _ _ _ rfl)
  have K1 : Hid (((w.alloc (.cells ClaE.zero 76)).alloc (.cells (intsV [x1, x2, x3, x4, b]) 3)).heap[w.heap.size + 1]? = some (.cells (intsV [x1, x2, x3, x4, b]) 3 (0, 0))) := heap_new _ _ _ (by simp)
  have B2 : Hid (Below w.heap.size w ((w.alloc (.cells ClaE.zero 76)).alloc (.cells (intsV [x1, x2, x3, x4, b]) 3))) := below2 _ _ _
  have HS : Hid (w.heap.size + 1 < ((w.alloc (.cells ClaE.zero 76)).alloc (.cells (intsV [x1, x2, x3, x4, b]) 3)).heap.size) := (Array.getElem?_eq_some_iff.1 K1.out).1
  go_enter Tryd.func33, Tryd.ntmps33
  go_wp2_with fail
  refine (FG.out [x1, x2, x3, x4, b] _ _ (by simp) K1.out).mono ?_
  rintro e w1 ⟨v, rfl, ho1, hb1⟩
  obtain ⟨o, n, m, rfl⟩ := figs_sl8 ho1
  have K2 : Hid (w1.heap[w.heap.size]? = some (.cells ClaE.zero 76 (0, 0))) := (hb1.block _ (by have := HS.out; omega)).trans K0.out
  have B3 : Hid (Below w.heap.size w w1) := B2.out.trans (hb1.mono B2.out.size)
  have HO : Hid (FigsOwn (w.heap.size + 1) w1 ([x1, x2, x3, x4, b].map fig0) (.slice o n m)) := gown_base ho1 (by have := HS.out; omega)
  clear ho1 hb1
  go_wp2_with (first
    | (refine wl_storeE (E := ClaE) ClaOk rfl _ _ rfl w.heap.size (claV ⟨t, 0, [fig0 x1, fig0 x2, fig0 x3, fig0 x4, fig0 b], true, false⟩ (.slice o n m)) ⟨rfl, by simp [claV, Value.oneCell']⟩ rfl rfl _ K2.out rfl _ rfl ?_))
  refine retE (E := ClaE) ClaOk rfl rfl w.heap.size rfl (claV ⟨t, 0, [fig0 x1, fig0 x2, fig0 x3, fig0 x4, fig0 b], true, false⟩ (.slice o n m)) rfl (setRow_heap _ _ _ _ _ _ K2.out) ?_
  exact ⟨⟨_, rfl, gown_base (figs_setRow HO.out (Nat.lt_succ_self _)) (Nat.le_succ _), _, _, _, rfl⟩, below_setRow B3.out (Nat.le_refl _) _⟩
end Go.Proofs.YtbdbjbmjnemknaaDoor
