import Derived.Test.YtbhnjhiecoapbaaCuRTree
import Derived.Test.YtbhnjhiecoapbaaCuRSame
namespace Go.Proofs.Ytbhnjhiecoapbaa
open Go Go.Lib Go.RowKit Ieee
set_option maxRecDepth 20000

set_option maxHeartbeats 8000000 in
set_option maxRecDepth 100000 in
theorem lawUTrees_any (l0 : List RuleM) (hok0 : ∀ r ∈ l0, okR8 r) (vl : Value) (L0 G : Int) (b : Nat) (hwb : Wd b) (w : World) (hl0 : RulesAt w vl l0) :
    Calls Try.prog 5 #[vl, .int .i64 L0, .int .i64 G, .float .f64 b] w fun e w' => e = .returned (.bool true) ∧ Below w.heap.size w w' := by
  obtain ⟨o, n0, n, cap, l, rfl, K⟩ := cut24 hok0 hl0
  have hc1 := K.cap1
  have hc2 := K.cap2
  unfold maxLen at hc2
  have hn0' := K.le
  have HNM : Hid ((n : Int) = min (n0 : Int) 24) := K.min
  have hsl := K.slice
  have hlen : l.length ≤ 100000 := by rw [K.len]; have := K.min; omega
  obtain ⟨L, hLe⟩ : ∃ L, L = min L0 12 := ⟨_, rfl⟩
  have HLM : Hid (L = min L0 12) := hLe
  have hL1 : L ≤ 1000 := by omega
  have AW : Hid (∀ W, Calls Try.prog 9 #[] W fun e w' => e = .returned (.bool true) ∧ Below W.heap.size W w') := fun W => awake12_any W
  have TR : Hid (∀ W, Below w.heap.size w W → Calls Try.prog 18 #[.slice o n cap, .int .i64 L, .int .i64 G, .float .f64 b] W fun e w' => (∃ v, e = .returned v ∧ LeavesOwn W.heap.size w' v (treeT b L G l)) ∧ Below W.heap.size W w') := fun W hb => tree_any l K.ok hlen _ L G hL1 b hwb W (GSl.below K.at_ hb)
  have RT : Hid (∀ W, Below w.heap.size w W → Calls Try.prog 19 #[.slice o n cap, .int .i64 L, .int .i64 G, .float .f64 b] W fun e w' => (∃ v, e = .returned v ∧ LeavesOwn W.heap.size w' v (treeT b L G l)) ∧ Below W.heap.size W w') := fun W hb => rtree_any l K.ok hlen _ L G hL1 b hwb W (GSl.below K.at_ hb)
  have hfew := (tree_few b L G l).2.1
  generalize treeT b L G l = T at TR RT hfew
  have SM : Hid (∀ Ba Bb va vb W, LeavesAt Ba W va T → LeavesAt Bb W vb T → Calls Try.prog 17 #[va, vb] W fun e w' => e = .returned (.bool true) ∧ Below W.heap.size W w') := fun Ba Bb va vb W h1 h2 => rsame12_any T (by omega) Ba Bb va vb W h1 h2
  clear K hl0 hok0 hlen hLe hL1 hfew
  go_enter Try.func5, Try.ntmps5
  go_wp2_with fail
  refine (AW.out _).mono ?_
  rintro e w1 ⟨rfl, B1⟩
  have B1 : Hid (Below w.heap.size w w1) := B1
  go_wp2_with (first | (refine wl_min7 rfl _ _ rfl (n0 : Int) 24 (n : Int) rfl rfl HNM.out ?_) | (refine wl_min7 rfl _ _ rfl L0 12 L rfl rfl HLM.out ?_))
  refine (TR.out _ B1.out).mono ?_
  rintro e w2 ⟨⟨vt, rfl, ho2⟩, hb2⟩
  have B2 : Hid (Below w.heap.size w w2) := B1.out.trans (hb2.mono B1.out.size)
  have A2 : Hid (LeavesAt w1.heap.size w2 vt T) := leaves_sl ho2
  clear hb2 ho2
  go_wp2_with fail
  refine (RT.out _ B2.out).mono ?_
  rintro e w3 ⟨⟨vu, rfl, ho3⟩, hb3⟩
  have B3 : Hid (Below w.heap.size w w3) := B2.out.trans (hb3.mono B2.out.size)
  have A3 : Hid (LeavesAt w1.heap.size w3 vt T) := NSl.below LfR.below A2.out hb3
  have U3 : Hid (LeavesAt w2.heap.size w3 vu T) := leaves_sl ho3
  clear hb3 ho3 A2
  go_wp2_with fail
  refine (SM.out _ _ _ _ _ A3.out U3.out).mono ?_
  rintro e w4 ⟨rfl, hb4⟩
  have B4 : Hid (Below w.heap.size w w4) := B3.out.trans (hb4.mono B3.out.size)
  clear hb4
  go_wp2_with fail
  go_ret
  exact ⟨rfl, B4.out⟩
end Go.Proofs.Ytbhnjhiecoapbaa
