import Derived.Test.YtnppfibojcgkmaaLawCosts
import Derived.Test.YtnppfibojcgkmaaScRShare
namespace Go.Proofs.Ytnppfibojcgkmaa
open Go Go.Lib Go.RowKit Ieee
set_option maxRecDepth 20000

theorem leq_r (a b : Nat) (ha : a ≤ double.infRung) (hb : b ≤ double.infRung) (h : a ≤ b) : (FloatKind.f64.format.order a b == some Ordering.lt || FloatKind.f64.format.order a b == some Ordering.eq) = true := by
  obtain ⟨h2, h1, _⟩ := ord_r a b ha hb
  rw [h1, h2]
  rcases Nat.eq_or_lt_of_le h with e | e
  · rw [decide_eq_true e]; simp
  · rw [decide_eq_true e]; rfl
theorem AllW.take {l : List Nat} (h : AllW l) (k : Nat) : AllW (l.take k) := fun x hx => h x (List.mem_of_mem_take hx)
theorem flV_take (l : List Nat) (k : Nat) : (flV l).take k = flV (l.take k) := by unfold flV; rw [List.map_take]
set_option maxHeartbeats 8000000 in
set_option maxRecDepth 100000 in
theorem lawShares_any (l0 : List Nat) (hw0 : AllW l0) (v : Value) (w : World) (hL0 : FSl w v l0) : Calls Try.prog 8 #[v] w fun e w' => e = .returned (.bool true) ∧ Below w.heap.size w w' := by
  have HA : Hid (∀ W, Calls Try.prog 9 #[] W fun e w' => e = .returned (.bool true) ∧ Below W.heap.size W w') := awake_any
  obtain ⟨o, cap, rfl, h1, h2⟩ := hL0.slice
  obtain ⟨n0, hn0⟩ : ∃ n0, n0 = l0.length := ⟨_, rfl⟩
  rw [← hn0] at hL0 h1 ⊢
  obtain ⟨n, hn⟩ : ∃ n, n = min n0 100 := ⟨_, rfl⟩
  have hmin : min (n0 : Int) 100 = (n : Int) := by omega
  obtain ⟨l, hl⟩ : ∃ l, l = l0.take n := ⟨_, rfl⟩
  have hll : l.length = n := by rw [hl, List.length_take]; omega
  have hw : AllW l := by rw [hl]; exact hw0.take n
  have hL : FSl w (.slice o n cap) l := by
    have := VSl.front hL0 n (by omega)
    rw [flV_take, ← hl] at this
    exact this
  have hn100 : l.length ≤ 1000 := by omega
  have HS1 : Hid (∀ W, Below w.heap.size w W → Calls Try.prog 26 #[.slice o n cap] W fun e w' => ∃ v', e = .returned v' ∧ VOwn 22 W.heap.size w' v' (flV (shareT l)) ∧ Below W.heap.size W w') := fun W h => share_any l hw hn100 _ W (VSl.below hL h)
  have HS2 : Hid (∀ W, Below w.heap.size w W → Calls Try.prog 27 #[.slice o n cap] W fun e w' => ∃ v', e = .returned v' ∧ VOwn 22 W.heap.size w' v' (flV (shareT l)) ∧ Below W.heap.size W w') := fun W h => rshare_any l hw hn100 _ W (VSl.below hL h)
  have HT1 : Hid (∀ W, Below w.heap.size w W → Calls Try.prog 28 #[.slice o n cap] W fun e w' => e = .returned (.float .f64 (totT l)) ∧ w' = W) := fun W h => total_any l hw _ W (VSl.below hL h)
  have HT2 : Hid (∀ W, Below w.heap.size w W → Calls Try.prog 29 #[.slice o n cap] W fun e w' => e = .returned (.float .f64 (totT l)) ∧ w' = W) := fun W h => rtotal_any l hw _ W (VSl.below hL h)
  have HSM : Hid (∀ a W, Calls Try.prog 11 #[.float .f64 a, .float .f64 a] W fun e w' => e = .returned (.bool true) ∧ w' = W) := fun a W => by
    have := same_any a a W
    rw [decide_eq_true rfl] at this; exact this
  have HP : Hid ((shareT l).length = n ∧ ∀ x ∈ shareT l, x ≤ ONE) := ⟨by rw [shareT_len]; exact hll, fun x hx => by
    obtain ⟨y, hy, rfl⟩ := List.mem_map.1 hx
    exact part_le l y hy (by omega)⟩
  have hn2 : n ≤ n0 := by omega
  have hn3 : n ≤ 100 := by omega
  generalize shareT l = s at HS1 HS2 HP
  generalize totT l = T at HT1 HT2
  unfold maxLen at h2
  clear hL0 hL hw hw0 hl hll hn hn0 hn100
  go_enter Try.func8, Try.ntmps8
  go_wp2_with (first
    | (go_at_call 9; refine (HA.out _).mono ?_; rintro e w1 ⟨rfl, hb⟩; have B1 : Hid (Below w.heap.size w w1) := hb; clear hb)
    | (go_at_call 26; refine (HS1.out _ B1.out).mono ?_; rintro e w2 ⟨v2, rfl, ho2, hb2⟩; have B2 : Hid (Below w.heap.size w w2) := B1.out.trans (hb2.mono B1.out.size); have O2 : Hid (VOwn 22 w1.heap.size w2 v2 (flV s)) := ho2; clear ho2 hb2)
    | (go_at_call 27; refine of_stopV ?_))
  unfold StopV
  refine (HS2.out _ B2.out).mono ?_
  rintro e w3 ⟨v3, rfl, ho3, hb3⟩
  have B3 : Hid (Below w.heap.size w w3) := B2.out.trans (hb3.mono B2.out.size)
  have O3 : Hid (FSl w3 v3 s) := ho3.sl
  have O2' : Hid (FSl w3 v2 s) := (O2.out.below hb3).sl
  clear ho3 hb3 O2
  obtain ⟨o2, cap2, rfl, _, hc2⟩ := O2'.out.slice
  obtain ⟨o3, cap3, rfl, _, hc3⟩ := O3.out.slice
  unfold maxLen at hc2 hc3
  have hsn : s.length = n := HP.out.1
  rw [hsn] at O2' O3 ⊢
  clear hsn
  go_wp2_with (first
    | (go_at_call 28; refine (HT1.out _ B3.out).mono ?_; rintro e w' ⟨rfl, hw'⟩; obtain rfl := hw')
    | (go_at_call 29; refine (HT2.out _ B3.out).mono ?_; rintro e w' ⟨rfl, hw'⟩; obtain rfl := hw')
    | (go_at_call 11; refine (HSM.out _ _).mono ?_; rintro e w' ⟨rfl, hw'⟩; obtain rfl := hw'))
  go_loopw [5] (fun i wr => ∃ k : Nat, k ≤ n ∧ i = .int .i64 (k : Int) ∧ FSl wr (.slice o2 n cap2) s ∧ FSl wr (.slice o3 n cap3) s ∧ Below w.heap.size w wr) (fun i _ => n - (intOf i).toNat)
  case atStart => exact ⟨0, Nat.zero_le _, rfl, O2'.out, O3.out, B3.out⟩
  case round =>
    clear O2' O3 B3 B2 B1
    obtain ⟨k, hk, rfl, f2, f3, hb⟩ := hrel
    have HB : Hid (Below w.heap.size w wr) := hb
    by_cases hlt : k < n
    · have hlt' : (k : Int) < (n : Int) := by omega
      obtain ⟨g, off, x, rfl, hcx, hxk⟩ := f2.at k hlt
      obtain ⟨g', off', y, rfl, hcy, hyk⟩ := f3.at k hlt
      obtain rfl : x = y := Option.some.inj (hxk.symm.trans hyk)
      have hx1 : x ≤ ONE := HP.out.2 x (List.mem_of_getElem? hxk)
      have hone : ONE ≤ double.infRung := by rw [d_inf]; decide
      have q1 := geq_r x 0 (by omega) (Nat.zero_le _) (Nat.zero_le _)
      have q2 := leq_r x ONE (by omega) hone hx1
      unfold ONE at q2
      have F2 : Hid (FSl wr (.slice (some ⟨g, off, none⟩) n cap2) s) := f2
      have F3 : Hid (FSl wr (.slice (some ⟨g', off', none⟩) n cap3) s) := f3
      clear f2 f3 hb hxk hyk hx1 hone
      go_wp2_with fail
      go_quiet (first | (go_at_call 11; exact Calls.quiet_of_same (HSM.out _ _)))
      have B4 : Hid (Below w.heap.size w (wr.drewN nq)) := HB.out.trans ((below_drewN wr nq).mono HB.out.size)
      have G2 : Hid (FSl (wr.drewN nq) (.slice (some ⟨g, off, none⟩) n cap2) s) := VSl.below F2.out (below_drewN wr nq)
      have G3 : Hid (FSl (wr.drewN nq) (.slice (some ⟨g', off', none⟩) n cap3) s) := VSl.below F3.out (below_drewN wr nq)
      obtain ⟨W3, hW3⟩ : ∃ W3, W3 = wr.drewN nq := ⟨_, rfl⟩
      rw [← hW3] at B4 G2 G3 ⊢
      clear hW3 hcx hcy
      go_wp2_with fail
      go_roundw
      case rel => exact ⟨k + 1, by omega, by go_num, G2.out, G3.out, B4.out⟩
      case measure => simp [intOf]; omega
    · have hlt' : ¬ (k : Int) < (n : Int) := by omega
      clear f2 f3 hb
      go_wp2_with fail
      go_ret
      exact ⟨rfl, HB.out⟩
end Go.Proofs.Ytnppfibojcgkmaa
