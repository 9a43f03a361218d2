import Derived.Test.YtbhnjhiecoapbabJ18
import Derived.Test.YtbhnjhiecoapbabJ9
namespace Go.Proofs.Ytbhnjhiecoapbab
open Go Go.Lib Go.RowKit Ieee
set_option maxRecDepth 20000

set_option maxHeartbeats 8000000 in
theorem rfind12_any (R : World → LeafM → Value → Prop) (hR : ∀ w w' a v, Below w.heap.size w w' → R w a v → R w' a v) (hok : ∀ w x u, R w x u → okL x ∧ ∃ o n m, u = .slice o n m) (C : List LeafM) (hn1 : C.length ≤ 100000) (vc : Value) (H : List Int) (hH : Byt H) (w : World) (hc : NSl LeafE leafV R w vc C) :
    Calls Try.prog 6 #[vc, .agg (hv H)] w fun e w' => e = .returned (.tuple #[.int .i64 (fI (findL (fun x => has x.cube.1 x.cube.2 H) C) : Nat), .bool (findL (fun x => has x.cube.1 x.cube.2 H) C).isSome]) ∧ Below w.heap.size w w' := by
  have HHA : Hid (∀ (V M : List Int) W, Byt V → Byt M → Calls Try.prog 11 #[.agg (cv V M), .agg (hv H)] W fun e w' => e = .returned (.bool (has V M H)) ∧ Below W.heap.size W w') := fun V M W h1 h2 => rhas_any V M H h1 h2 hH W
  have hHl := hH.1
  obtain ⟨o, cap, rfl, hc1, hc2⟩ := NSl.slice hc
  obtain ⟨n, hn0⟩ : ∃ n, n = C.length := ⟨_, rfl⟩
  have HN : Hid (n = C.length) := hn0
  rw [← hn0] at hc hc1 hn1 ⊢
  have HL : Hid (NSl LeafE leafV R w (.slice o n cap) C) := hc
  have HRB : Hid (∀ w w' a v, Below w.heap.size w w' → R w a v → R w' a v) := hR
  have HRO : Hid (∀ w x u, R w x u → okL x ∧ ∃ o n m, u = .slice o n m) := hok
  unfold maxLen at hc2
  obtain ⟨F, hF⟩ : ∃ F, F = findL (fun x => has x.cube.1 x.cube.2 H) C := ⟨_, rfl⟩
  have HFF : Hid (F = findL (fun x => has x.cube.1 x.cube.2 H) C) := hF
  rw [← hF]
  clear hc hn0 hF hR hok hH
  go_enter Try.func6, Try.ntmps6
  go_wp2_with fail
  go_loopw [6] (fun i wr => ∃ (k : Nat), k ≤ n ∧ i = .int .i64 (k : Int) ∧ Hid (∀ j y, j < k → C[j]? = some y → has y.cube.1 y.cube.2 H = false) ∧ Hid (wr.heap[w.heap.size]? = some (.cells (hv H) 24 (0, 0))) ∧ Hid (Below w.heap.size w wr)) (fun i _ => n - (intOf i).toNat)
  case atStart => exact ⟨0, Nat.zero_le _, rfl, fun j y hj => by omega, heap_new _ _ _ rfl, (Below.refl _ _).alloc (Nat.le_refl _) _⟩
  case round =>
    obtain ⟨k, hk, rfl, HP, HZ, HB⟩ := hrel
    by_cases hlt : k < n
    · have hlt' : (k : Int) < (n : Int) := by omega
      obtain ⟨g, off, cur, ty, fr, x, u, rfl, hg, hc, hxk, hxu⟩ := (NSl.below HRB.out HL.out HB.out).at k hlt
      obtain ⟨hx, o2, n2, m2, rfl⟩ := HRO.out _ _ _ hxu
      have HX : Hid (okL x) := hx
      have HXK : Hid (C[k]? = some x) := hxk
      have H2 : Hid (∀ j, j < 26 → cur[off + k * 29 + j]? = (cv x.cube.1 x.cube.2)[j]?) := fun j hj => by
        have h3 := hc j (by show j < 29; omega)
        rw [(leaf_at hx _).1 j hj] at h3
        exact h3
      have K1 : Hid (wr.heap[g]? = some (.cells cur ty fr)) := hg
      clear hg hc hxk hxu hx
      go_wp2_with fail
      have ne1 := Later.ne wr
      refine wp_region_later (by kernel_rfl) (by kernel_rfl) ?_
      repeat go_big_quiet_step (fail)
      refine qlCw rfl _ rfl g (off + k * 29) rfl cur ty fr x.cube.1 x.cube.2 HX.out.1.1 HX.out.2.1.1 (later_block K1.out) H2.out ?_
      simp only [Act.put, List.setIfInBounds_toArray, List.set_cons_succ, List.set_cons_zero]
      refine qlH rfl _ rfl w.heap.size rfl H HZ.out hHl ?_
      simp only [Act.put, List.setIfInBounds_toArray, List.set_cons_succ, List.set_cons_zero]
      go_big_quiet_want; go_big_quiet_op
      refine ⟨_, fun u => Calls.later_of (HHA.out x.cube.1 x.cube.2 u.world HX.out.1 HX.out.2.1), ?_⟩
      go_big_quiet_on
      repeat go_big_quiet_step (fail)
      refine wpQuiet_nil ?_
      rintro w2 ⟨v5, rfl⟩
      have hb2 := v5.below
      obtain ⟨w2, hw2⟩ : ∃ w2, w2 = v5.world := ⟨_, rfl⟩
      rw [← hw2] at hb2 ⊢
      have B2 : Hid (Below w.heap.size w w2) := below_stepR HB.out HB.out.size hb2
      have Z2 : Hid (w2.heap[w.heap.size]? = some (.cells (hv H) 24 (0, 0))) := (hb2.block _ (Array.getElem?_eq_some_iff.1 HZ.out).1).trans HZ.out
      clear hb2 hw2 v5 ne1 HB HZ K1
      cases hhas : has x.cube.1 x.cube.2 H with
      | true =>
        have HE : Hid (F = some k) := by show _ = _; rw [HFF.out]; exact findL_some HXK.out hhas HP.out
        clear hhas
        go_wp2_with fail
        go_ret2
        exact ⟨by rw [HE.out]; rfl, B2.out⟩
      | false =>
        have HP2 : Hid (∀ j y, j < k + 1 → C[j]? = some y → has y.cube.1 y.cube.2 H = false) := by
          intro j y hj hy
          by_cases e : j = k
          · subst e; rw [HXK.out] at hy; cases hy; exact hhas
          · exact HP.out j y (by omega) hy
        clear hhas
        go_wp2_with fail
        go_roundw
        case rel => exact ⟨k + 1, by omega, by go_num, HP2, Z2, B2⟩
        case measure => simp [intOf]; omega
    · have hlt' : ¬ (k : Int) < (n : Int) := by omega
      have HE : Hid (F = none) := by
        show _ = _
        rw [HFF.out]
        refine findL_none fun x hx => ?_
        obtain ⟨j, hj⟩ := List.mem_iff_getElem?.1 hx
        exact HP.out j x (by have := (List.getElem?_eq_some_iff.1 hj).1; have := HN.out; omega) hj
      go_wp2_with fail
      go_ret2
      exact ⟨by rw [HE.out]; rfl, HB.out⟩
theorem NSl.take12 {α : Type} {E : El} {row : α → Value → Array Value} {R : World → α → Value → Prop} {w : World} {o : Option Addr} {n cap : Nat} {C : List α} (h : NSl E row R w (.slice o n cap) C) {k : Nat} (hk : k ≤ n) : NSl E row R w (.slice o k cap) (C.take k) := by
  obtain ⟨P, h1, h2, h3⟩ := h
  exact ⟨P.take k, by rw [List.map_take, h1], GSl.take7 h2 hk, fun p hp => h3 p (List.mem_of_mem_take hp)⟩
theorem slice_leaves12 {R : World → LeafM → Value → Prop} {o : Option Addr} {n0 cap : Nat} {w : World} {l : List LeafM} (h : NSl LeafE leafV R w (.slice o n0 cap) l) (n : Nat) (hn : n ≤ n0) (hc : n0 ≤ cap) (W : World) :
    (Instr.sliceAt 22 (.slice o n0 cap) none (some (.int .i64 (n : Int))) none).run Try.prog W = .ok (.slice o n cap) W := by
  rcases Nat.eq_zero_or_pos n0 with h0 | h0
  · obtain rfl : n = 0 := by omega
    cases o with
    | none => simp [go_sem, Try.underlying22]
    | some a => simp [go_sem, Try.underlying22]
  · obtain ⟨g, off, _, _, _, _, _, rfl, _⟩ := h.at 0 h0
    simp [go_sem, Try.underlying22]
    omega
set_option maxHeartbeats 8000000 in
set_option maxRecDepth 100000 in
theorem lawUFinds_any (R : World → LeafM → Value → Prop) (hR : ∀ w w' a v, Below w.heap.size w w' → R w a v → R w' a v) (hok : ∀ w x u, R w x u → okL x ∧ ∃ o n m, u = .slice o n m) (C0 : List LeafM) (vc : Value) (H : List Int) (hH : Byt H) (w : World) (hl0 : NSl LeafE leafV R w vc C0) :
    Calls Try.prog 3 #[vc, .agg (hv H)] w fun e w' => e = .returned (.bool true) ∧ Below w.heap.size w w' := by
  have hHl := hH.1
  obtain ⟨o, cap, rfl, hc1, hc2⟩ := NSl.slice hl0
  obtain ⟨n0, hn0⟩ : ∃ n, n = C0.length := ⟨_, rfl⟩
  rw [← hn0] at hl0 hc1 ⊢
  obtain ⟨n, hn⟩ : ∃ n, n = min n0 40 := ⟨_, rfl⟩
  have HNM : Hid ((n : Int) = min (n0 : Int) 40) := (by omega : (n : Int) = min (n0 : Int) 40)
  have hn0' : n ≤ n0 := by omega
  have hl : NSl LeafE leafV R w (.slice o n cap) (C0.take n) := NSl.take12 hl0 hn0'
  have hlen : (C0.take n).length ≤ 100000 := by rw [List.length_take]; omega
  have hsl : ∀ W, (Instr.sliceAt 22 (.slice o n0 cap) none (some (.int .i64 (n : Int))) none).run Try.prog W = .ok (.slice o n cap) W := slice_leaves12 hl0 n hn0' hc1
  unfold maxLen at hc2
  have AW : Hid (∀ W, Calls Try.prog 4 #[] W fun e w' => e = .returned (.bool true) ∧ Below W.heap.size W w') := fun W => awake12_any W
  have C1 : Hid (∀ W, Below w.heap.size w W → Calls Try.prog 5 #[.slice o n cap, .agg (hv H)] W fun e w' => e = .returned (.tuple #[.int .i64 (fI (findL (fun x => has x.cube.1 x.cube.2 H) (C0.take n)) : Nat), .bool (findL (fun x => has x.cube.1 x.cube.2 H) (C0.take n)).isSome]) ∧ Below W.heap.size W w') := fun W hb => find_any R hR hok (C0.take n) hlen _ H hH W (NSl.below hR hl hb)
  have C2 : Hid (∀ W, Below w.heap.size w W → Calls Try.prog 6 #[.slice o n cap, .agg (hv H)] W fun e w' => e = .returned (.tuple #[.int .i64 (fI (findL (fun x => has x.cube.1 x.cube.2 H) (C0.take n)) : Nat), .bool (findL (fun x => has x.cube.1 x.cube.2 H) (C0.take n)).isSome]) ∧ Below W.heap.size W w') := fun W hb => rfind12_any R hR hok (C0.take n) hlen _ H hH W (NSl.below hR hl hb)
  generalize ((fI (findL (fun x => has x.cube.1 x.cube.2 H) (C0.take n)) : Nat) : Int) = z at C1 C2
  generalize (findL (fun x => has x.cube.1 x.cube.2 H) (C0.take n)).isSome = y at C1 C2
  have K0 : Hid ((w.alloc (.cells (hv H) 24)).heap[w.heap.size]? = some (.cells (hv H) 24 (0, 0))) := heap_new _ _ _ rfl
  have B0 : Hid (Below w.heap.size w (w.alloc (.cells (hv H) 24))) := (Below.refl _ _).alloc (Nat.le_refl _) _
  clear hl hl0 hlen hn hn0
  go_enter Try.func3, Try.ntmps3
  go_wp2_with fail
  refine (AW.out _).mono ?_
  rintro e w1 ⟨rfl, hb1⟩
  have R1 : Hid (w1.heap[w.heap.size]? = some (.cells (hv H) 24 (0, 0))) := (hb1.block _ (by simp)).trans K0.out
  have B1 : Hid (Below w.heap.size w w1) := B0.out.trans (hb1.mono B0.out.size)
  clear hb1 K0 B0
  go_wp2_with (first | (refine wl_min7 rfl _ _ rfl (n0 : Int) 40 (n : Int) rfl rfl HNM.out ?_) | (refine wl_load26 rfl _ rfl w.heap.size rfl H R1.out hHl ?_))
  refine (C1.out _ B1.out).mono ?_
  rintro e w2 ⟨rfl, hb2⟩
  have R2 : Hid (w2.heap[w.heap.size]? = some (.cells (hv H) 24 (0, 0))) := (hb2.block _ (Array.getElem?_eq_some_iff.1 R1.out).1).trans R1.out
  have B2 : Hid (Below w.heap.size w w2) := B1.out.trans (hb2.mono B1.out.size)
  clear hb2 R1 B1
  go_wp2_with (refine wl_load26 rfl _ rfl w.heap.size rfl H R2.out hHl ?_)
  refine (C2.out _ B2.out).mono ?_
  rintro e w3 ⟨rfl, hb3⟩
  have B3 : Hid (Below w.heap.size w w3) := B2.out.trans (hb3.mono B2.out.size)
  clear hb3 R2 B2
  have hbb : (y == y) = true := by simp
  go_wp2_with fail
  go_ret
  exact ⟨by simp, B3.out⟩
end Go.Proofs.Ytbhnjhiecoapbab
