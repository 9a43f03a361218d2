import Derived.Test.YtpbinkmeldkehaaJ30
import Derived.Test.YtpbinkmeldkehaaJ33
import Derived.Test.YtpbinkmeldkehaaJ22
import Derived.Test.YtpbinkmeldkehaaJ31
namespace Go.Proofs.Ytpbinkmeldkehaa
open Go Go.Lib Go.RowKit
set_option maxRecDepth 20000

theorem and1_14 (n : Int) : bits .and .i64 n 1 = n % 2 := by
  have h : (BitVec.ofInt 64 1).toNat = 2 ^ 1 - 1 := by decide
  have key : (BitVec.ofInt 64 n &&& BitVec.ofInt 64 1).toNat = (n % ((2 ^ 64 : Nat) : Int)).toNat % 2 ^ 1 := by
    rw [BitVec.toNat_and, BitVec.toNat_ofInt, h, Nat.and_two_pow_sub_one_eq_mod]
  show IntKind.i64.wrap ((BitVec.ofInt 64 n &&& BitVec.ofInt 64 1).toNat : Nat) = _
  rw [key, IntKind.wrap_i64]
  omega
def oneS (m : Int) : Stp := ⟨3, 3, 2, m, 4, 0, 0, 1, 0, 4, 64, 4, 1, 2, 1, 3, 3⟩
theorem one_set {w : World} {g : Nat} (h : w.heap[g]? = some (.cells (stA smallS) 24 (0, 0))) (m : Int) : (w.setCell ⟨g, 3, none⟩ (.int .i64 m)).heap[g]? = some (.cells (stA (oneS m)) 24 (0, 0)) := by
  simp [World.setCell, Array.getElem?_modify, h]
  rfl
theorem one_right (m : Int) (h1 : 2 ≤ m) (h2 : m ≤ 2048) : rightT (oneS m) = true := by
  have e1 : wrap64 (3 * 1) = 3 := by kernel_rfl
  have e2 : wrap64 (wrap64 (wrap64 (2 * 4) + 4) + 8) = 20 := by kernel_rfl
  unfold rightT bdT inP inT oneS
  dsimp only
  rw [e1, e2]
  simp
  omega
/-- A table of at most half a bank is never refused. -/
theorem one_out {l : List RuleM} {m : Int} (h1 : 2 ≤ m) (h2 : m ≤ 2048) (hl : (l.length : Int) ≤ m.tdiv 2) (hl24 : l.length ≤ 24) {live : List Int} {wl : List Nat} (hv : cntL 3 live ≠ []) {R : Option (List LeafM)} (h : MkP l (oneS m) (cntL 3 live) wl R) :
    ∃ D, R = some D ∧ fitsT (oneS m) D = true ∧ 1 ≤ D.length ∧ D.length ≤ 1000 ∧ (∀ x ∈ D, x.rules.length ≤ 500) ∧ (1 < cntT (thT (cntL 3 live)) → ∀ x ∈ D, x.two ≠ 0) ∧ (cntT (thT (cntL 3 live)) ≤ 1 → ∀ x ∈ D, x.two = 0) := by
  have hs := one_right m h1 h2
  rcases mk_cases (live := live) hs h with ⟨T, o, st, hT, t1, t2, ho, hd, he⟩ | ⟨he, hor⟩
  · obtain ⟨f1, f2, f3, f4⟩ := dealt_fits (live := live) hs t1 t2 ho hd
    have t3 : (T.length : Int) ≤ (4 : Int).tdiv 2 := t2
    have e4 : (4 : Int).tdiv 2 = 2 := by decide
    refine ⟨_, he, f1, by rw [givL_len]; exact t1, by rw [givL_len]; omega, fun x hx => ?_, f3, f4⟩
    have := tree_rules hT st.2 T.length x hx
    omega
  · rcases hor with hor | hor
    · exact absurd hor (by show ¬ (l.length : Int) > m.tdiv 2; omega)
    · exact absurd hor hv
set_option maxHeartbeats 16000000 in
set_option maxRecDepth 100000 in
theorem lawPlanOne_any (l0 : List RuleM) (hok0 : ∀ r ∈ l0, okR8 r) (a0 b0 : Int) (wl : List Nat) (hW : AllW wl) (vl vw : Value) (w : World) (hl : RulesAt w vl l0) (hw : FSl w vw wl) :
    Calls Try.prog 8 #[vl, .int .i64 a0, .int .i64 b0, vw] w fun e w' => e = .returned (.bool true) ∧ Below w.heap.size w w' := by
  obtain ⟨ol, nl0, nl, cl, l, rfl, K⟩ := cut24 hok0 hl
  have hc1 := K.cap1
  have hc2 := K.cap2
  unfold maxLen at hc2
  have hlle := K.le
  have HNM : Hid ((nl : Int) = min (nl0 : Int) 24) := K.min
  have hsl := K.slice
  have hl24 : l.length ≤ 24 := by rw [K.len]; have := K.min; omega
  have hnl : nl ≤ 24 := by rw [← K.len]; exact hl24
  obtain ⟨a1, ha, ha1⟩ : ∃ x, bits .and .i64 a0 1 = x ∧ (x = 0 ∨ x = 1) := ⟨_, and1_14 a0, by omega⟩
  obtain ⟨b1, hb, hb1⟩ : ∃ x, bits .and .i64 b0 1 = x ∧ (x = 0 ∨ x = 1) := ⟨_, and1_14 b0, by omega⟩
  obtain ⟨m, hm⟩ : ∃ m : Int, m = max 2 (2 * (nl : Int)) := ⟨_, rfl⟩
  have HM : Hid (m = max 2 (2 * (nl : Int))) := hm
  have hm1 : 2 ≤ m := by omega
  have hm2 : m ≤ 2048 := by omega
  have hm3 : (l.length : Int) ≤ m.tdiv 2 := by rw [Int.tdiv_eq_ediv_of_nonneg (by omega), K.len]; omega
  have AW : Hid (∀ W, Calls Try.prog 9 #[] W fun e w' => e = .returned (.bool true) ∧ Below W.heap.size W w') := fun W => awake14_any W
  have SMA : Hid (∀ W, Calls Try.prog 24 #[] W fun e w' => e = .returned (.agg (stA smallS)) ∧ Below W.heap.size W w') := fun W => small_any W
  have hokt : okS (oneS m) := ⟨⟨by show (-9223372036854775808 : Int) ≤ 3; omega, by show (3 : Int) ≤ 9223372036854775807; omega⟩, ⟨by show -9223372036854775808 ≤ m; omega, by show m ≤ 9223372036854775807; omega⟩, ⟨by show (-9223372036854775808 : Int) ≤ 4; omega, by show (4 : Int) ≤ 9223372036854775807; omega⟩, by show Wd 0; unfold Wd; decide⟩
  have c3a : cntL 3 [3, 1 + a1] = [3, 1 + a1] := by rcases ha1 with rfl | rfl <;> decide
  have c3b : cntL 3 [1 + b1] = [1 + b1] := by rcases hb1 with rfl | rfl <;> decide
  have t2a : 1 < cntT (thT [3, 1 + a1]) := by rcases ha1 with rfl | rfl <;> decide
  have t1b : cntT (thT [1 + b1]) ≤ 1 := by rcases hb1 with rfl | rfl <;> decide
  have MK1 : Hid (∀ W vv, Below w.heap.size w W → ISl W vv [3, 1 + a1] → Calls Try.prog 12 #[.slice ol nl cl, .agg (stA (oneS m)), vv, vw] W fun e w' => (∃ D v, e = .returned (.tuple #[v, .int .i64 0]) ∧ LeavesOwn W.heap.size w' v D ∧ fitsT (oneS m) D = true ∧ D.length ≤ 1000 ∧ (∀ x ∈ D, x.rules.length ≤ 500) ∧ ∀ x ∈ D, x.two ≠ 0) ∧ Below W.heap.size W w') := fun W vv hb hz => by
    refine (make_yes l K.ok (by omega) (oneS m) (one_right m hm1 hm2) hokt.2.2.2 [3, 1 + a1] (by simp) wl hW _ vv vw W (GSl.below K.at_ hb) hz (VSl.below hw hb)).mono ?_
    rintro e w' ⟨⟨R, h1, h2⟩, h3⟩
    obtain ⟨D, rfl, f1, _, f2, f3, f4, _⟩ := one_out hm1 hm2 hm3 hl24 (live := [3, 1 + a1]) (by rw [c3a]; simp) h1
    obtain ⟨v, h4, h5⟩ := h2
    exact ⟨⟨D, v, h4, h5, f1, f2, f3, f4 (by rw [c3a]; exact t2a)⟩, h3⟩
  have MK2 : Hid (∀ W vv, Below w.heap.size w W → ISl W vv [1 + b1] → Calls Try.prog 12 #[.slice ol nl cl, .agg (stA (oneS m)), vv, vw] W fun e w' => (∃ D v, e = .returned (.tuple #[v, .int .i64 0]) ∧ LeavesOwn W.heap.size w' v D ∧ fitsT (oneS m) D = true ∧ 1 ≤ D.length ∧ D.length ≤ 1000 ∧ (∀ x ∈ D, x.rules.length ≤ 500) ∧ ∀ x ∈ D, x.two = 0) ∧ Below W.heap.size W w') := fun W vv hb hz => by
    refine (make_yes l K.ok (by omega) (oneS m) (one_right m hm1 hm2) hokt.2.2.2 [1 + b1] (by simp) wl hW _ vv vw W (GSl.below K.at_ hb) hz (VSl.below hw hb)).mono ?_
    rintro e w' ⟨⟨R, h1, h2⟩, h3⟩
    obtain ⟨D, rfl, f1, f0, f2, f3, _, f4⟩ := one_out hm1 hm2 hm3 hl24 (live := [1 + b1]) (by rw [c3b]; simp) h1
    obtain ⟨v, h4, h5⟩ := h2
    exact ⟨⟨D, v, h4, h5, f1, f0, f2, f3, f4 (by rw [c3b]; exact t1b)⟩, h3⟩
  have FT : Hid (∀ (D : List LeafM) v B W, D.length ≤ 1000 → (∀ x ∈ D, x.rules.length ≤ 500) → fitsT (oneS m) D = true → LeavesAt B W v D → Calls Try.prog 15 #[v, .agg (stA (oneS m))] W fun e w' => e = .returned (.bool true) ∧ Below W.heap.size W w') := fun D v B W h1 h2 h3 h4 => by
    have := fits_any D h1 h2 (oneS m) hokt v W (leaves_in h4)
    rw [h3] at this
    exact this
  obtain ⟨S, hS⟩ : ∃ S, S = oneS m := ⟨_, rfl⟩
  have HS : Hid (S = oneS m) := hS
  rw [← hS] at MK1 MK2 FT
  clear K hok0 hl hw hW hl24 hm hm3 hokt c3a c3b t2a t1b hS
  have ha2 : 0 ≤ a1 ∧ a1 ≤ 1 := by omega
  have hb2 : 0 ≤ b1 ∧ b1 ≤ 1 := by omega
  obtain ⟨ha3, ha4⟩ := ha2
  obtain ⟨hb3, hb4⟩ := hb2
  clear ha1 hb1
  go_enter Try.func8, Try.ntmps8
  go_wp2_with fail
  refine (AW.out _).mono ?_
  rintro e w1 ⟨rfl, B1⟩
  have B1 : Hid (Below w.heap.size w w1) := B1
  go_wp2_with (refine wl_min7 rfl _ _ rfl (nl0 : Int) 24 (nl : Int) rfl rfl HNM.out ?_)
  refine (SMA.out _).mono ?_
  rintro e w2 ⟨rfl, hb2⟩
  have B2 : Hid (Below w.heap.size w w2) := B1.out.trans (hb2.mono B1.out.size)
  clear hb2 AW SMA B1
  obtain ⟨w3, hw3⟩ : ∃ w3, w3 = w2.alloc (.cells (stA smallS) 24) := ⟨_, rfl⟩
  obtain ⟨q, hq⟩ : ∃ q, q = w2.heap.size := ⟨_, rfl⟩
  have g3 : w3.heap[q]? = some (.cells (stA smallS) 24 (0, 0)) := by rw [hw3, hq]; exact heap_new _ _ _ rfl
  have B3 : Hid (Below w.heap.size w w3) := by show Below _ _ _; rw [hw3]; exact B2.out.alloc B2.out.size _
  have hqw : Hid (w.heap.size ≤ q) := by show _ ≤ _; rw [hq]; exact B2.out.size
  go_wp2_with (refine wl_storeA StpOk rfl _ _ rfl w2.heap.size (stA smallS) (st_fits _) rfl rfl stZ (heap_new _ _ _ rfl) rfl _ (setRow_new _ _ _ _ _ rfl) ?_; refine of_stopT ?_)
  unfold StopT
  rw [← hw3, ← hq]
  clear hw3 hq
  have c3 := (st_cells g3).2.2.2.1
  have f3 := st_free g3 3
  obtain ⟨w4, hw4⟩ : ∃ w4, w4 = w3.setCell ⟨q, 3, none⟩ (.int .i64 m) := ⟨_, rfl⟩
  have S4 : Hid (w4.heap[q]? = some (.cells (stA S) 24 (0, 0))) := by show _ = _; rw [hw4, HS.out]; exact one_set g3 m
  have B4 : Hid (Below w.heap.size w w4) := by show Below _ _ _; rw [hw4]; exact B3.out.setCell (p := ⟨q, 3, none⟩) hqw.out _
  go_upto_region 6 with (refine wl_maxI rfl _ _ rfl 2 (2 * (nl : Int)) m rfl rfl HM.out ?_)
  rw [← hw4]
  clear hw4 c3 f3 g3 B3 HM HNM hsl
  go_wp2_with (refine wl_loadA StpOk rfl _ rfl q 0 rfl _ _ _ (stA S) rfl S4.out (own_cells _ _) ?_)
  have keyI : ISl (w4.alloc (.cells #[.int .i64 3, .int .i64 (1 + a1)] 3)) (.slice (some ⟨w4.heap.size, 0, none⟩) 2 2) [3, 1 + a1] := by
    have hg : (w4.alloc (.cells #[.int .i64 3, .int .i64 (1 + a1)] 3)).heap[w4.heap.size]? = some (.cells #[.int .i64 3, .int .i64 (1 + a1)] 3 (0, 0)) := heap_new _ _ _ rfl
    exact ⟨some ⟨w4.heap.size, 0, none⟩, 2, rfl, Nat.le_refl _, by decide, (fun e => by cases e), fun i hi => ⟨w4.heap.size, 0, _, _, _, rfl, hg, by
      have hi2 : i < 2 := hi
      rcases (show i = 0 ∨ i = 1 by omega) with rfl | rfl <;> rfl⟩⟩
  have b5 : Below w4.heap.size w4 (w4.alloc (.cells #[.int .i64 3, .int .i64 (1 + a1)] 3)) := (Below.refl _ _).alloc (Nat.le_refl _) _
  refine (MK1.out _ _ (B4.out.trans (b5.mono B4.out.size)) keyI).mono ?_
  rintro e w6 ⟨⟨D, v, rfl, hv, hF, d1, d2, d3⟩, hb6⟩
  have b6 : Below w4.heap.size w4 w6 := b5.trans (hb6.mono b5.size)
  have B6 : Hid (Below w.heap.size w w6) := B4.out.trans (b6.mono B4.out.size)
  have S6 : Hid (w6.heap[q]? = some (.cells (stA S) 24 (0, 0))) := (b6.block _ (Array.getElem?_eq_some_iff.1 S4.out).1).trans S4.out
  have LD : Hid (∃ B, LeavesOwn B w6 v D) := ⟨_, hv⟩
  have FD : Hid (fitsT S D = true ∧ D.length ≤ 1000 ∧ (∀ x ∈ D, x.rules.length ≤ 500) ∧ ∀ x ∈ D, x.two ≠ 0) := ⟨hF, d1, d2, d3⟩
  clear hv hF d1 d2 d3 hb6 b6 b5 keyI B4 S4 MK1
  go_wp2_with (refine wl_loadA StpOk rfl _ rfl q 0 rfl _ _ _ (stA S) rfl S6.out (own_cells _ _) ?_)
  have keyI : ISl (w6.alloc (.cells #[.int .i64 (1 + b1)] 3)) (.slice (some ⟨w6.heap.size, 0, none⟩) 1 1) [1 + b1] := by
    have hg : (w6.alloc (.cells #[.int .i64 (1 + b1)] 3)).heap[w6.heap.size]? = some (.cells #[.int .i64 (1 + b1)] 3 (0, 0)) := heap_new _ _ _ rfl
    exact ⟨some ⟨w6.heap.size, 0, none⟩, 1, rfl, Nat.le_refl _, by decide, (fun e => by cases e), fun i hi => ⟨w6.heap.size, 0, _, _, _, rfl, hg, by
      have hi2 : i < 1 := hi
      obtain rfl : i = 0 := by omega
      rfl⟩⟩
  have b7 : Below w6.heap.size w6 (w6.alloc (.cells #[.int .i64 (1 + b1)] 3)) := (Below.refl _ _).alloc (Nat.le_refl _) _
  refine (MK2.out _ _ (B6.out.trans (b7.mono B6.out.size)) keyI).mono ?_
  rintro e w8 ⟨⟨E, u, rfl, hu, hF2, e0, e1, e2, e3⟩, hb8⟩
  have b8 : Below w6.heap.size w6 w8 := b7.trans (hb8.mono b7.size)
  have B8 : Hid (Below w.heap.size w w8) := B6.out.trans (b8.mono B6.out.size)
  have S8 : Hid (w8.heap[q]? = some (.cells (stA S) 24 (0, 0))) := (b8.block _ (Array.getElem?_eq_some_iff.1 S6.out).1).trans S6.out
  obtain ⟨B, hB⟩ := LD.out
  obtain ⟨od, cd, rfl, hd1, hd2⟩ := leaves_own_slice hB
  obtain ⟨oe, ce, rfl, he1, he2⟩ := leaves_own_slice hu
  unfold maxLen at hd2 he2
  obtain ⟨nd, hnd⟩ : ∃ n, n = D.length := ⟨_, rfl⟩
  have HND : Hid (nd = D.length) := hnd
  have L8 : Hid (LeavesAt B w8 (.slice od nd cd) D) := by show LeavesAt _ _ _ _; rw [hnd]; exact NSl.below LfR.below (leaves_sl hB) b8
  obtain ⟨ne, hne⟩ : ∃ n, n = E.length := ⟨_, rfl⟩
  obtain ⟨Bu, hBu⟩ : ∃ Bu, LeavesAt Bu w8 (.slice oe ne ce) E := ⟨_, by rw [hne]; exact leaves_sl hu⟩
  have M8 : Hid (LeavesAt Bu w8 (.slice oe ne ce) E) := hBu
  have hne1 : 1 ≤ ne := by omega
  have F1 := fun W hb => FT.out D (.slice od nd cd) B W FD.out.2.1 FD.out.2.2.1 FD.out.1 (NSl.below LfR.below L8.out hb)
  have F1 : Hid (∀ W, Below w8.heap.size w8 W → Calls Try.prog 15 #[.slice od nd cd, .agg (stA S)] W fun e w' => e = .returned (.bool true) ∧ Below W.heap.size W w') := F1
  have F2 := fun W hb => FT.out E (.slice oe ne ce) Bu W e1 e2 hF2 (NSl.below LfR.below M8.out hb)
  have F2 : Hid (∀ W, Below w8.heap.size w8 W → Calls Try.prog 15 #[.slice oe ne ce, .agg (stA S)] W fun e w' => e = .returned (.bool true) ∧ Below W.heap.size W w') := F2
  have E3 : Hid (∀ x ∈ E, x.two = 0) := e3
  rw [← hnd] at hd1 ⊢
  rw [← hne] at he1 ⊢
  clear hu hF2 e0 e1 e2 e3 hb8 b8 b7 keyI B6 S6 MK2 LD hB FT hnd hne hBu
  go_wp2_with (refine wl_loadA StpOk rfl _ rfl q 0 rfl _ _ _ (stA S) rfl S8.out (own_cells _ _) ?_)
  refine (F1.out _ (Below.refl _ _)).mono ?_
  rintro e w9 ⟨rfl, hb9⟩
  have B9 : Hid (Below w8.heap.size w8 w9) := hb9
  have S9 : Hid (w9.heap[q]? = some (.cells (stA S) 24 (0, 0))) := (hb9.block _ (Array.getElem?_eq_some_iff.1 S8.out).1).trans S8.out
  clear hb9
  go_wp2_with (refine wl_loadA StpOk rfl _ rfl q 0 rfl _ _ _ (stA S) rfl S9.out (own_cells _ _) ?_)
  refine (F2.out _ B9.out).mono ?_
  rintro e w10 ⟨rfl, hb10⟩
  have B10 : Hid (Below w8.heap.size w8 w10) := B9.out.trans (hb10.mono B9.out.size)
  clear hb10 S9 B9
  go_wp2_with fail
  go_loopw [14] (fun i wr => ∃ k : Nat, k ≤ nd ∧ i = .int .i64 (k : Int) ∧ Hid (Below w8.heap.size w8 wr)) (fun i _ => nd - (intOf i).toNat)
  case atStart => exact ⟨0, Nat.zero_le _, rfl, B10⟩
  case round =>
    clear B10
    obtain ⟨k, hk, rfl, HB⟩ := hrel
    by_cases hlt : k < nd
    · have hlt' : (k : Int) < (nd : Int) := by omega
      obtain ⟨g, off, cur, ty, fr, x, u, rfl, hg, hc, hxk, hxu⟩ := (NSl.below LfR.below L8.out HB.out).at k hlt
      have c27 : wr.cell? ⟨g, off + k * 29 + 27, none⟩ = some (.int .i64 x.two) := (cell_of_row _ _ _ _ _ _ hg).trans ((hc 27 (by decide)).trans (leaf_at hxu.1 _).2.2.1)
      have htw : (x.two == 0) = false := by
        have := FD.out.2.2.2 x (List.mem_of_getElem? hxk)
        simpa using this
      clear hg hc hxk hxu
      go_wp2_with fail
      go_roundw
      case rel => exact ⟨k + 1, by omega, by go_num, HB⟩
      case measure => simp [intOf]; omega
    · have hlt' : ¬ (k : Int) < (nd : Int) := by omega
      obtain ⟨g, off, cur, ty, fr, x, u, rfl, hg, hc, hxk, hxu⟩ := (NSl.below LfR.below M8.out HB.out).at 0 (by omega)
      have c27 : wr.cell? ⟨g, off + 27, none⟩ = some (.int .i64 x.two) := by
        have h := (cell_of_row _ _ _ _ _ _ hg).trans ((hc 27 (by decide)).trans (leaf_at hxu.1 _).2.2.1)
        rw [show off + 0 * LeafE.size + 27 = off + 27 by omega] at h
        exact h
      have htw : x.two = 0 := E3.out x (List.mem_of_getElem? hxk)
      rw [htw] at c27
      have hp : (0 : Int) < (ne : Int) := by omega
      have hp' : decide ((ne : Int) > 0) = true := by simp; omega
      have hp'' : decide (0 < (ne : Int)) = true := by simp; omega
      clear hg hc hxk hxu htw
      go_wp2_with fail
      go_ret
      exact ⟨rfl, B8.out.trans (HB.out.mono B8.out.size)⟩
end Go.Proofs.Ytpbinkmeldkehaa
namespace Go.Proofs.Ytpbinkmeldkehaa
open Go Go.Lib Go.RowKit
set_option maxRecDepth 20000

/-! Of a header that it has not a leaf says nothing. -/
def OutOk (out : List LeafM) : Prop := ∀ x ∈ out, ∀ H, hasL H x = false → saysT x.rules H = none
theorem cuts_out {b : Nat} {G : Int} {x y : LeafM} (hx : ∀ H, hasL H x = false → saysT x.rules H = none) (hy : y ∈ cutsT b G x) : ∀ H, hasL H y = false → saysT y.rules H = none := by
  unfold cutsT at hy
  cases hb : bitO b G x with
  | none =>
    rw [hb] at hy
    obtain rfl : y = x := by simpa using hy
    exact hx
  | some i =>
    rw [hb] at hy
    obtain ⟨c, rfl⟩ : ∃ c, y = halfL x i c := by
      simp only [List.mem_cons, List.not_mem_nil, or_false] at hy
      rcases hy with rfl | rfl
      · exact ⟨_, rfl⟩
      · exact ⟨_, rfl⟩
    intro H hH
    show saysT (clipT (fixV x.cube.1 x.cube.2 i c) (fixM x.cube.2 i) x.rules) H = _
    rw [clip_says, if_neg (show ¬ has (fixV x.cube.1 x.cube.2 i c) (fixM x.cube.2 i) H = true from fun h => by
      have h2 : hasL H (halfL x i c) = true := h
      rw [hH] at h2
      cases h2)]
theorem step_out {b : Nat} {G : Int} {out : List LeafM} {i : Nat} (h : OutOk out) : OutOk (stepT12 b G out i) := by
  unfold stepT12
  cases hx : out[i]? with
  | none => exact h
  | some x =>
    dsimp only
    have hm : x ∈ out := List.mem_of_getElem? hx
    intro y hy
    rcases List.mem_append.1 hy with hy | hy
    · rcases List.mem_append.1 hy with hy | hy
      · exact h y (List.mem_of_mem_take hy)
      · exact cuts_out (h x hm) hy
    · exact h y (List.mem_of_mem_drop hy)
theorem refF_out {b : Nat} {G : Int} : ∀ (f : Nat) (out : List LeafM), OutOk out → OutOk (refF b G f out)
  | 0, _, h => h
  | f + 1, out, h => by
    rw [refF]
    cases pickS (canB b G) out out.length with
    | none => exact h
    | some i => exact refF_out f _ (step_out h)
theorem tree_out (b : Nat) (L G : Int) (l : List RuleM) : OutOk (treeT b L G l) := by
  rw [treeT_ref]
  unfold refR
  refine refF_out _ _ fun x hx H hH => ?_
  obtain rfl : x = ⟨(Z, Z), 0, 0, clipT Z Z l⟩ := by simpa using hx
  have h2 : has Z Z H = false := hH
  rw [has_Z] at h2
  cases h2
theorem givL_cube (T : List LeafM) (out : Nat → Nat × Nat) (k : Nat) : (givL T out k).map (·.cube) = T.map (·.cube) := by
  apply List.ext_getElem?
  intro i
  unfold givL
  rw [List.getElem?_map, List.getElem?_map, List.getElem?_mapIdx]
  cases T[i]? with
  | none => rfl
  | some x =>
    simp only [Option.map_some]
    split <;> rfl
theorem count_cube (H : List Int) (L : List LeafM) : L.countP (hasL H) = (L.map (·.cube)).countP fun c => has c.1 c.2 H := by
  rw [List.countP_map]
  rfl
theorem says_app (A B : List RuleM) (H : List Int) : saysT (A ++ B) H = (saysT A H).or (saysT B H) := by
  unfold saysT
  rw [List.find?_append]
  cases A.find? (hasR H) <;> simp
theorem says_list {H : List Int} (n : Int) : ∀ {L : List LeafM}, (∀ y ∈ L, saysT y.rules H = none) → saysT (rulesN L n) H = none
  | [], _ => rfl
  | y :: L, h => by
    have e : rulesN (y :: L) n = (if hasN y n then y.rules else []) ++ rulesN L n := by unfold rulesN; rw [List.flatMap_cons]
    rw [e, says_app, says_list n fun z hz => h z (by simp [hz])]
    have : saysT (if hasN y n then y.rules else []) H = none := by
      split
      · exact h y (by simp)
      · rfl
    rw [this]
    rfl
theorem givL_mem {T : List LeafM} {out : Nat → Nat × Nat} {k : Nat} {x : LeafM} (h : x ∈ givL T out k) : ∃ y ∈ T, x.cube = y.cube ∧ x.rules = y.rules := by
  obtain ⟨i, hi⟩ := List.mem_iff_getElem?.1 h
  obtain ⟨y, hy, he⟩ := givL_at hi
  refine ⟨y, List.mem_of_getElem? hy, ?_⟩
  rw [he]
  split <;> exact ⟨rfl, rfl⟩
/-- What a header's leaf, and who has it, say. -/
theorem mean_out {l : List RuleM} {s : Stp} (hs : rightT s = true) {live : List Int} {wl : List Nat} {D : List LeafM} (h : MkP l s (cntL s.au live) wl (some D)) (H : List Int) :
    ∃ k x, D[k]? = some x ∧ findL (hasL H) D = some k ∧ saysT x.rules H = saysT l H ∧ ∀ n, hasN x n = true → saysT (rulesN D n) H = saysT l H := by
  rcases mk_cases hs h with ⟨T, o, st, hT, t1, t2, ho, hd, he⟩ | ⟨he, _⟩
  · obtain rfl : D = givL T st.2 T.length := Option.some.inj he
    obtain ⟨b, L, hTE⟩ : ∃ b L, T = treeT b L s.gr l := by
      rcases hT with rfl | rfl
      · exact ⟨_, _, rfl⟩
      · exact ⟨_, _, rfl⟩
    have hok := tree_ok b L s.gr l
    have hou := tree_out b L s.gr l
    rw [← hTE] at hok hou
    have hone : (givL T st.2 T.length).countP (hasL H) = 1 := by rw [count_cube, givL_cube, ← count_cube]; exact hok.one H
    obtain ⟨k, x, h1, h2, h3⟩ := find_has hone
    obtain ⟨y, hy, hyc, hyr⟩ := givL_mem (List.mem_of_getElem? h2)
    have hyH : hasL H y = true := by
      unfold hasL at h3 ⊢
      rw [← hyc]
      exact h3
    have hsx : saysT x.rules H = saysT l H := by rw [hyr]; exact (hok.ok y hy).2.2.2 H hyH
    refine ⟨k, x, h2, h1, hsx, fun n hn => ?_⟩
    have hkl := (List.getElem?_eq_some_iff.1 h2).1
    have hke := (List.getElem?_eq_some_iff.1 h2).2
    have e : givL T st.2 T.length = (givL T st.2 T.length).take k ++ [x] ++ (givL T st.2 T.length).drop (k + 1) := by
      rw [List.append_assoc, List.singleton_append, ← hke, ← List.drop_eq_getElem_cons hkl, List.take_append_drop]
    have hc := hone
    rw [e, List.countP_append, List.countP_append, List.countP_singleton, if_pos h3] at hc
    have z1 : ((givL T st.2 T.length).take k).countP (hasL H) = 0 := by omega
    have z2 : ((givL T st.2 T.length).drop (k + 1)).countP (hasL H) = 0 := by omega
    have none_of : ∀ A : List LeafM, (∀ z ∈ A, z ∈ givL T st.2 T.length) → A.countP (hasL H) = 0 → ∀ z ∈ A, saysT z.rules H = none := fun A hA h0 z hz => by
      have hz0 : ¬ hasL H z = true := List.countP_eq_zero.1 h0 z hz
      obtain ⟨v, hv, hvc, hvr⟩ := givL_mem (hA z hz)
      rw [hvr]
      refine hou v hv H ?_
      have : hasL H v = hasL H z := by unfold hasL; rw [hvc]
      rw [this]
      simpa using hz0
    have n1 := none_of _ (fun z hz => List.mem_of_mem_take hz) z1
    have n2 := none_of _ (fun z hz => List.mem_of_mem_drop hz) z2
    have er : rulesN (givL T st.2 T.length) n = rulesN ((givL T st.2 T.length).take k) n ++ x.rules ++ rulesN ((givL T st.2 T.length).drop (k + 1)) n := by
      have : ∀ A B : List LeafM, rulesN (A ++ B) n = rulesN A n ++ rulesN B n := fun A B => by unfold rulesN; rw [List.flatMap_append]
      rw [e, this, this, ← e]
      congr 2
      unfold rulesN
      rw [List.flatMap_cons, List.flatMap_nil, hn, if_pos rfl, List.append_nil]
    rw [er, says_app, says_app, says_list n n1, says_list n n2, hsx]
    cases saysT l H <;> rfl
  · cases he
end Go.Proofs.Ytpbinkmeldkehaa
namespace Go.Proofs.Ytpbinkmeldkehaa
open Go Go.Lib Go.RowKit
set_option maxRecDepth 20000

theorem seq_part {C : List LeafM} {R : List RuleM} {j : Nat} {c : Slt} (hj : j < C.length) (h : (seqS C R)[j]? = some c) : c.bank = 3 := by
  unfold seqS at h
  rw [List.getElem?_append_left (by simpa using hj), List.getElem?_mapIdx] at h
  cases hc : C[j]? with
  | none => rw [hc] at h; simp at h
  | some x =>
    rw [hc] at h
    simp only [Option.map_some, Option.some.injEq] at h
    rw [← h]
    rfl
theorem seq_rule {C : List LeafM} {R : List RuleM} {j : Nat} {c : Slt} (hj : C.length ≤ j) (h : (seqS C R)[j]? = some c) : ∃ r, R[j - C.length]? = some r ∧ c.bank = 2 ∧ c.order = r.order ∧ c.cube = r.cube ∧ c.action = r.action := by
  unfold seqS at h
  rw [List.getElem?_append_right (by simpa using hj), List.getElem?_mapIdx, List.length_mapIdx] at h
  cases hc : R[j - C.length]? with
  | none => rw [hc] at h; simp at h
  | some r =>
    rw [hc] at h
    simp only [Option.map_some, Option.some.injEq] at h
    rw [← h]
    exact ⟨r, rfl, rfl, rfl, rfl, rfl⟩
set_option maxRecDepth 100000 in
theorem build_rule3 (V M : List Int) (hV : V.length = 13) (hM : M.length = 13) (o a : Int) (W : World) : (Instr.build 44 #[(0, .int .i64 o), (1, .agg (cv V M)), (2, .int .i64 a)]).run Try.prog W = .ok (.agg (ruleV ⟨o, (V, M), a⟩)) W := by
  obtain ⟨a0, a1, a2, a3, a4, a5, a6, a7, a8, a9, a10, a11, a12, rfl⟩ := list13 hV
  obtain ⟨b0, b1, b2, b3, b4, b5, b6, b7, b8, b9, b10, b11, b12, rfl⟩ := list13 hM
  kernel_rfl
def RulesOwn (B : Nat) (w : World) (v : Value) (L : List RuleM) : Prop := w.ownsRow B 44 28 v L.length (gcells ruleV L)
theorem RulesOwn.below {B : Nat} {w w' : World} {v : Value} {L : List RuleM} (h : RulesOwn B w v L) (hb : Below w.heap.size w w') : RulesOwn B w' v L := gown_below h hb
theorem RulesOwn.slice {B : Nat} {w : World} {v : Value} {L : List RuleM} (h : RulesOwn B w v L) : ∃ o cap, v = .slice o L.length cap := gown_slice h
theorem rulesN_ok {C : List LeafM} (h : ∀ x ∈ C, okL x) (n : Int) : ∀ r ∈ rulesN C n, okR8 r := fun r hr => by
  unfold rulesN at hr
  obtain ⟨x, hx, hr⟩ := List.mem_flatMap.1 hr
  split at hr
  · exact (h x hx).2.2 r hr
  · simp at hr
theorem leaves_ok14 {B : Nat} {w : World} {v : Value} {C : List LeafM} (h : LeavesAt B w v C) : ∀ x ∈ C, okL x := fun x hx => by
  obtain ⟨P, h1, _, h3⟩ := h
  rw [← h1] at hx
  obtain ⟨p, hp, rfl⟩ := List.mem_map.1 hx
  exact (h3 p hp).1
end Go.Proofs.Ytpbinkmeldkehaa
