import Derived.Test.YtgcfdcgmddjhbaaDoorRpPrint
import Derived.Test.YtgcfdcgmddjhbaaDoorParAwake
import Derived.Test.YtgcfdcgmddjhbaaDoorQTail6
namespace Go.Proofs.YtgcfdcgmddjhbaaDoor
open Go Go.RowKit
set_option maxRecDepth 20000

theorem run_min6 (w : World) (ρ : Operand → Value) (dst : Option Tmp) (ty : TypeId) (pos : String) (after : Array Edge) (guard : Option (Nat × Bool)) (x y : Operand) (p q r : Int) (hx : ρ x = .int .i64 p) (hy : ρ y = .int .i64 q) (hr : r = min p q) :
    (execOp ρ ⟨dst, .call { callee := .builtin .min, args := #[x, y], argTypes := #[3, 3] }, ty, pos, after, guard⟩).run Tryd.prog w = .ok (.value (.int .i64 r)) w := by
  subst hr
  by_cases h1 : p ≤ q
  · rw [show min p q = p by omega]
    unfold execOp
    simp [resolve, invoke, builtin, hx, hy, Builtin.min_, Builtin.min2]
    all_goals omega
  · rw [show min p q = q by omega]
    unfold execOp
    simp [resolve, invoke, builtin, hx, hy, Builtin.min_, Builtin.min2]
    all_goals omega
theorem wl_min6 {ops : Array Oper} {rest : List Oper} {o : Oper} {a : Act} {w : World} {Q : Exit → Act → World → Prop} (hgd : o.guard = none) (x y : Operand) (ho : o.op = .call { callee := .builtin .min, args := #[x, y], argTypes := #[3, 3] })
    (p q r : Int) (hx : a.eval x = .int .i64 p) (hy : a.eval y = .int .i64 q) (hr : r = min p q) (h : wpList Tryd.prog ops Q rest (a.put o.dst (.int .i64 r)) w) : wpList Tryd.prog ops Q (o :: rest) a w := by
  obtain ⟨dst, op, ty, pos, after, guard⟩ := o
  subst ho
  refine wpList_plain hgd fun K hK => ?_
  unfold Oper.wp
  rw [run_min6 w a.eval dst ty pos after guard x y p q r hx hy hr]
  exact hK _ _ h
theorem q_min6 {C : World → Prop} {ops : Array Oper} {Q : Act → Prop} {rest : List Oper} {o : Oper} {a : Act} (hw : Region.wanted o (yielded ops a.tmps) = true) (x y : Operand) (ho : o.op = .call { callee := .builtin .min, args := #[x, y], argTypes := #[3, 3] })
    (p q r : Int) (hx : a.eval x = .int .i64 p) (hy : a.eval y = .int .i64 q) (hr : r = min p q) (h : wpQuiet Tryd.prog ops C Q rest (a.put o.dst (.int .i64 r))) : wpQuiet Tryd.prog ops C Q (o :: rest) a := by
  obtain ⟨dst, op, ty, pos, after, guard⟩ := o
  subst ho
  refine BigFrame.wpQuiet_want hw fun K hK => ⟨.int .i64 r, fun w hC => ?_, hK _ h⟩
  unfold Oper.quietAt
  simp only [run_min6 w a.eval dst ty pos after guard x y p q r hx hy hr]
  exact ⟨rfl, rfl⟩
def clW (x : Raw) (q : Nat) : Nat := ((x.clauses.take q).map wtC).sum
theorem clW_next {x : Raw} {q : Nat} {c : Cla} (h : x.clauses[q]? = some c) : clW x (q + 1) = clW x q + (c.nums.length + c.word.length) := by
  obtain ⟨hk, rfl⟩ := List.getElem?_eq_some_iff.1 h
  unfold clW
  rw [List.take_succ_eq_append_getElem hk, List.map_append, List.sum_append]
  simp [wtC]
theorem sum_ones : ∀ l : List Cla, (l.map fun c => 1 + wtC c).sum = l.length + (l.map wtC).sum
  | [] => rfl
  | c :: l => by
    have := sum_ones l
    simp only [List.map_cons, List.sum_cons, List.length_cons] at this ⊢
    omega
theorem wtR_all (x : Raw) : wtR x = 1 + x.clauses.length + clW x x.clauses.length := by
  unfold wtR clW
  rw [sum_ones, List.take_length]
  omega
def rwW (l : List Raw) (k : Nat) : Nat := ((l.take k).map wtR).sum
theorem rwW_next {l : List Raw} {k : Nat} {x : Raw} (h : l[k]? = some x) : rwW l (k + 1) = rwW l k + wtR x := by
  obtain ⟨hk, rfl⟩ := List.getElem?_eq_some_iff.1 h
  unfold rwW
  rw [List.take_succ_eq_append_getElem hk, List.map_append, List.sum_append]
  simp
theorem mem_sum {α : Type} (f : α → Nat) : ∀ {l : List α} {a : α}, a ∈ l → f a ≤ (l.map f).sum
  | b :: l, a, h => by
    simp only [List.map_cons, List.sum_cons]
    rcases List.mem_cons.1 h with rfl | h
    · omega
    · have := mem_sum f h; omega
theorem okN_of {n : Int} (h : wfN n) : okN n := by
  have h' : (decide (IntKind.i64.min ≤ n) && decide (n ≤ IntKind.i64.max)) = true := h
  rw [Bool.and_eq_true, decide_eq_true_eq, decide_eq_true_eq] at h'
  exact ⟨h'.1, h'.2⟩

set_option maxHeartbeats 16000000 in
set_option maxRecDepth 100000 in
theorem lawPPrints_any (l : List Raw) (vl : Value) (w : World) (hl : RawsAt w vl l) (hok : ∀ x ∈ l, okNs x) (htab : Lib.TabIs Tryd.prog w "internal/strconv.uint64pow10" .u64 Lib.pow10Tab) :
    Calls Tryd.prog 3 #[vl] w fun e w' => e = .returned (.bool true) ∧ Below w.heap.size w w' := by
  have AW : Hid (∀ W, Calls Tryd.prog 4 #[] W fun e w' => e = .returned (.bool true) ∧ Below W.heap.size W w') := awake6_any
  have C1 : Hid (∀ W, Below w.heap.size w W → (l.map wtR).sum ≤ 4000 → Calls Tryd.prog 5 #[vl] W fun e w' => e = .returned (.string ⟨(printT l).toArray⟩) ∧ Below W.heap.size W w') := fun W hb hs => print_any l vl W (raws_below hl hb) hok (fun x hx c hc => by
      have h1 := mem_sum wtR hx
      have h2 := mem_sum (fun c => 1 + wtC c) hc
      have h3 : 1 + (x.clauses.map fun c => 1 + wtC c).sum ≤ (l.map wtR).sum := h1
      have h4 : 1 + (c.nums.length + c.word.length) ≤ (x.clauses.map fun c => 1 + wtC c).sum := h2
      omega) (by have := printT_len l hok; omega) ((Lib.tabBelow_of_tabIs htab) W hb)
  have C2 : Hid (∀ W, Below w.heap.size w W → (l.map wtR).sum ≤ 4000 → Calls Tryd.prog 6 #[vl] W fun e w' => e = .returned (.string ⟨(printT l).toArray⟩) ∧ Below W.heap.size W w') := fun W hb hs => rprint_any l vl W (raws_below hl hb) hok (by have := printT_len l hok; omega)
  obtain ⟨S, hS⟩ : ∃ S, S = printT l := ⟨_, rfl⟩
  rw [← hS] at C1 C2
  obtain ⟨o, cap, rfl, hc1, hc2⟩ := NSl.slice hl
  obtain ⟨n, hn⟩ : ∃ n, n = l.length := ⟨_, rfl⟩
  have HN : Hid (n = l.length) := hn
  rw [← hn] at hl hc1 C1 C2 ⊢
  have HL : Hid (RawsAt w (.slice o n cap) l) := hl
  unfold maxLen at hc2
  clear hl hn hS hok htab
  go_enter Tryd.func3, Tryd.ntmps3
  go_wp2_with fail
  refine (AW.out _).mono ?_
  rintro e w1 ⟨rfl, hb1⟩
  have B1 : Hid (Below w.heap.size w w1) := hb1
  clear hb1
  go_wp2_with fail
  go_loopw [3, 4] (fun s i wr => ∃ (k N : Nat), k ≤ n ∧ N ≤ 20000 ∧ i = .int .i64 (k : Int) ∧ s = .int .i64 (N : Int) ∧ Hid (N ≤ 4000 → rwW l k = N) ∧ Below w.heap.size w wr) (fun _ i _ => n - (intOf i).toNat)
  case atStart => exact ⟨0, 0, Nat.zero_le _, Nat.zero_le _, rfl, rfl, fun _ => rfl, B1.out⟩
  case round =>
    clear B1
    obtain ⟨k, N, hk, hN, rfl, rfl, HW, hb⟩ := hrel
    have HB : Hid (Below w.heap.size w wr) := hb
    clear hb
    by_cases hs : N ≤ 4000
    · by_cases hlt : k < n
      · have hlt' : (k : Int) < (n : Int) := by omega
        have hs' : (N : Int) ≤ 4000 := by omega
        obtain ⟨g, off, cur, ty, fr, r, u', rfl, hg, hc, hCk, hcl⟩ := NSl.at HL.out k hlt
        obtain ⟨o1, cap1, rfl, h11, h12⟩ := NSl.slice hcl
        obtain ⟨n1, hn1⟩ : ∃ n1, n1 = r.clauses.length := ⟨_, rfl⟩
        have HN1 : Hid (n1 = r.clauses.length) := hn1
        rw [← hn1] at hcl hc h11
        have HCL : Hid (ClasAt w r (.slice o1 n1 cap1)) := hcl
        have KG : Hid (w.heap[g]? = some (.cells cur ty fr)) := hg
        have hgw : wr.heap[g]? = some (.cells cur ty fr) := (HB.out.block g (Array.getElem?_eq_some_iff.1 hg).1).trans hg
        have c4 : wr.cell? ⟨g, off + k * 8 + 4, none⟩ = some (.slice o1 n1 cap1) := by rw [cell_of_row _ _ _ _ _ _ hgw]; exact hc 4 (by decide)
        have HC4 : Hid (cur[off + k * 8 + 4]? = some (.slice o1 n1 cap1)) := hc 4 (by decide)
        have HNX : Hid (rwW l (k + 1) = N + (1 + n1 + clW r n1)) := by
          show _ = _
          rw [rwW_next hCk, HW.out hs, wtR_all, HN1.out]
        unfold maxLen at h12
        obtain ⟨m1, hm1⟩ : ∃ m1 : Int, m1 = min (n1 : Int) 5000 := ⟨_, rfl⟩
        have HM1 : Hid (m1 = min (n1 : Int) 5000) := hm1
        have hm1a : 0 ≤ m1 := by omega
        have hm1b : m1 ≤ 5000 := by omega
        have HKN : Hid (k < n) := hlt
        have HNS : Hid (N ≤ 4000) := hs
        have HM0 : Hid (N + 1 + m1.toNat ≤ 4000 → N + 1 + m1.toNat = N + 1 + n1 + clW r 0) := fun h => by
          have h1 := HM1.out
          have : clW r 0 = 0 := rfl
          omega
        clear hg hgw hc hCk hcl hn1 hm1 hlt hs
        go_wp2_with (first
          | (refine wl_min6 rfl _ _ rfl (n1 : Int) 5000 m1 rfl rfl HM1.out ?_))
        clear c4
        go_loopw [3, 5] (fun s i wq => ∃ (q M : Nat), q ≤ n1 ∧ M ≤ 20000 ∧ i = .int .i64 (q : Int) ∧ s = .int .i64 (M : Int) ∧ Hid (M ≤ 4000 → M = N + 1 + n1 + clW r q) ∧ Below w.heap.size w wq) (fun _ i _ => n1 - (intOf i).toNat)
        case atStart => exact ⟨0, (N + 1 + m1.toNat), Nat.zero_le _, by have := HNS.out; omega, rfl, by congr 1; omega, HM0, HB.out⟩
        case round =>
          clear HB
          obtain ⟨q, M, hq, hM, rfl, rfl, HMW, hb2⟩ := hrel
          have HB2 : Hid (Below w.heap.size w wr) := hb2
          have hgq : wr.heap[g]? = some (.cells cur ty fr) := (hb2.block g (Array.getElem?_eq_some_iff.1 KG.out).1).trans KG.out
          have c4 : wr.cell? ⟨g, off + k * 8 + 4, none⟩ = some (.slice o1 n1 cap1) := by rw [cell_of_row _ _ _ _ _ _ hgq]; exact HC4.out
          clear hb2
          by_cases hqn : q < n1
          · by_cases hs2 : M ≤ 4000
            · have hqn' : (q : Int) < (n1 : Int) := by omega
              have hs2' : (M : Int) ≤ 4000 := by omega
              obtain ⟨g2, off2, cur2, ty2, fr2, c, u2, rfl, hg2, hc2', hCq, hcq⟩ := NSl.at (NSl.below figs_below HCL.out HB2.out) q hqn
              obtain ⟨o2, cap2, rfl, h21, h22⟩ := GSl.slice hcq
              obtain ⟨n2, hn2⟩ : ∃ n2, n2 = c.nums.length := ⟨_, rfl⟩
              rw [← hn2] at hc2' h21
              have l4 : ∀ u : Later wr, u.world.cell? ⟨g, off + k * 8 + 4, none⟩ = some (.slice (some ⟨g2, off2, none⟩) n1 cap1) := fun u => by
                rw [cell_of_row _ _ _ _ _ _ (later_block hgq _ ⟨u, rfl⟩)]; exact HC4.out
              have d2 : ∀ u : Later wr, u.world.cell? ⟨g2, off2 + q * 5 + 2, none⟩ = some (.slice o2 n2 cap2) := fun u => by
                rw [cell_of_row _ _ _ _ _ _ (later_block hg2 _ ⟨u, rfl⟩)]; exact hc2' 2 (by decide)
              have d0 : ∀ u : Later wr, u.world.cell? ⟨g2, off2 + q * 5, none⟩ = some (.string ⟨c.word.toArray⟩) := fun u => by
                rw [cell_of_row _ _ _ _ _ _ (later_block hg2 _ ⟨u, rfl⟩)]; exact hc2' 0 (by decide)
              unfold maxLen at h22
              obtain ⟨m2, hm2⟩ : ∃ m2 : Int, m2 = min (n2 : Int) 5000 := ⟨_, rfl⟩
              have HM2 : Hid (m2 = min (n2 : Int) 5000) := hm2
              obtain ⟨m3, hm3⟩ : ∃ m3 : Int, m3 = min (c.word.length : Int) 5000 := ⟨_, rfl⟩
              have HM3 : Hid (m3 = min (c.word.length : Int) 5000) := hm3
              have hm2a : 0 ≤ m2 := by omega
              have hm2b : m2 ≤ 5000 := by omega
              have hm3a : 0 ≤ m3 := by omega
              have hm3b : m3 ≤ 5000 := by omega
              have HQN : Hid (q < n1) := hqn
              have HMN : Hid (M + m2.toNat + m3.toNat ≤ 4000 → M + m2.toNat + m3.toNat = N + 1 + n1 + clW r (q + 1)) := fun h => by
                rw [clW_next hCq, ← hn2]
                have h1 := HMW.out hs2
                omega
              have ne1 := Later.ne wr
              clear hg2 hc2' hCq hcq hn2 hm2 hm3 hqn hgq
              go_wp2_with fail
              clear c4
              refine wp_region_later (by kernel_rfl) (by kernel_rfl) ?_
              go_big_quiet_step (fail)
              go_big_quiet_step (fail)
              go_big_quiet_step (fail)
              go_big_quiet_step (fail)
              go_big_quiet_step (fail)
              go_big_quiet_step (fail)
              go_big_quiet_step (fail)
              go_big_quiet_step (fail)
              go_big_quiet_step (fail)
              go_big_quiet_step (fail)
              go_big_quiet_step (fail)
              refine q_min6 rfl _ _ rfl (n2 : Int) 5000 m2 rfl rfl HM2.out ?_
              simp only [Act.put, List.setIfInBounds_toArray, List.set_cons_succ, List.set_cons_zero]
              go_big_quiet_step (fail)
              go_big_quiet_step (fail)
              go_big_quiet_step (fail)
              go_big_quiet_step (fail)
              go_big_quiet_step (fail)
              go_big_quiet_step (fail)
              go_big_quiet_step (fail)
              go_big_quiet_step (fail)
              go_big_quiet_step (fail)
              go_big_quiet_step (fail)
              go_big_quiet_step (fail)
              refine q_min6 rfl _ _ rfl (c.word.length : Int) 5000 m3 rfl rfl HM3.out ?_
              simp only [Act.put, List.setIfInBounds_toArray, List.set_cons_succ, List.set_cons_zero]
              repeat go_big_quiet_step (fail)
              refine wpQuiet_nil ?_
              rintro w' ⟨v, rfl⟩
              clear l4 d2 d0
              go_wp2_with fail
              go_roundw
              case rel =>
                have := HQN.out
                exact ⟨q + 1, M + m2.toNat + m3.toNat, by omega, by omega, by go_num, by congr 1; omega, HMN, HB2.out.trans (v.below.mono HB2.out.size)⟩
              case measure =>
                have := HQN.out
                simp [intOf]; omega
            · have hqn' : (q : Int) < (n1 : Int) := by omega
              have hs2' : ¬ (M : Int) ≤ 4000 := by omega
              have HNO : Hid (M ≤ 4000 → rwW l (k + 1) = M) := fun h => absurd h hs2
              clear hqn hs2 hgq
              go_wp2_with fail
              go_roundw
              case rel =>
                have := HKN.out
                exact ⟨k + 1, M, by omega, by omega, by go_num, rfl, HNO, HB2.out⟩
              case measure =>
                have := HKN.out
                simp [intOf]; omega
          · obtain rfl : q = n1 := by omega
            have hqn' : ¬ (q : Int) < (q : Int) := by omega
            have HNO : Hid (M ≤ 4000 → rwW l (k + 1) = M) := fun h => by rw [HNX.out, HMW.out h]; omega
            clear hqn hgq
            go_wp2_with fail
            go_roundw
            case rel =>
              have := HKN.out
              exact ⟨k + 1, M, by omega, by omega, by go_num, rfl, HNO, HB2.out⟩
            case measure =>
              have := HKN.out
              simp [intOf]; omega
      · obtain rfl : k = n := by omega
        have hlt' : ¬ (k : Int) < (k : Int) := by omega
        have hs' : ¬ (4000 : Int) < (N : Int) := by omega
        have HSUM : Hid ((l.map wtR).sum ≤ 4000) := by
          have h1 := HW.out hs
          unfold rwW at h1
          rw [List.take_of_length_le (by have := HN.out; omega)] at h1
          show _ ≤ _
          omega
        clear hlt hs
        go_wp2_with fail
        refine (C1.out _ HB.out HSUM.out).mono ?_
        rintro e w3 ⟨rfl, hb3⟩
        have B3 : Hid (Below w.heap.size w w3) := HB.out.trans (hb3.mono HB.out.size)
        clear hb3
        go_wp2_with fail
        refine (C2.out _ B3.out HSUM.out).mono ?_
        rintro e w4 ⟨rfl, hb4⟩
        have B4 : Hid (Below w.heap.size w w4) := B3.out.trans (hb4.mono B3.out.size)
        clear hb4
        have eS : (S == S) = true := by simp
        go_wp2_with fail
        go_ret
        exact ⟨rfl, B4.out⟩
    · have hs' : ¬ (N : Int) ≤ 4000 := by omega
      have hs2 : (4000 : Int) < (N : Int) := by omega
      clear hs
      by_cases hlt : k < n
      · have hlt' : (k : Int) < (n : Int) := by omega
        clear hlt
        go_wp2_with fail
        go_ret
        exact ⟨rfl, HB.out⟩
      · have hlt' : ¬ (k : Int) < (n : Int) := by omega
        clear hlt
        go_wp2_with fail
        go_ret
        exact ⟨rfl, HB.out⟩
end Go.Proofs.YtgcfdcgmddjhbaaDoor
