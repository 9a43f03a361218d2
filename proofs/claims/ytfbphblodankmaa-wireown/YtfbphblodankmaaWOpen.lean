import Derived.Test.YtfbphblodankmaaWTake
namespace Go.Proofs.Ytfbphblodankmaa
open Go Go.RowKit
set_option maxRecDepth 20000

set_option maxHeartbeats 2000000 in
theorem wopen_any (v : Value) (L : List UInt8) (w : World) (hL : BSl w v L) (hl : L.length ≤ 140737488355328) :
    Calls Try.prog 22 #[v] w fun e w' => ∃ u, e = .returned (.tuple #[.int .i64 (openT L).1, u, .int .i64 (openT L).2.2]) ∧ BOwn w.heap.size w' u (openT L).2.1 ∧ Below w.heap.size w w' := by
  have HL : Hid (BSl w v L) := hL
  obtain ⟨ov, cv, hv, hc1, hc2⟩ := hL.slice
  subst hv
  clear hL
  obtain ⟨n, hn⟩ : ∃ n, n = L.length := ⟨_, rfl⟩
  have HN : Hid (n = L.length) := hn
  rw [← hn] at HL hc1 hl ⊢
  clear hn
  have hcm := hc2
  unfold maxLen at hc2
  by_cases h3 : 3 ≤ n
  · obtain ⟨g, off, _, rfl, _, _⟩ := HL.out.at 2 (by omega)
    have HA : Hid (BSl w (.slice (some ⟨g, off, none⟩) 2 cv) (L.take 2)) := by
      have := HL.out.part g off 0 2 cv rfl (by omega) (by omega) hcm
      rw [Nat.add_zero, List.drop_zero] at this
      exact this
    have HK : Hid (BSl w (.slice (some ⟨g, off + 2, none⟩) 1 (cv - 2)) ((L.drop 2).take 1)) := HL.out.part g off 2 1 (cv - 2) rfl (by omega) (by omega) (by omega)
    have CA : Hid (∀ W, W = w → Calls Try.prog 29 #[.slice (some ⟨g, off, none⟩) 2 cv] W fun e w' => e = .returned (.int .u64 (valB (L.take 2) : Int)) ∧ w' = W) := fun W hW => by
      subst hW
      exact number_any _ _ W HA.out (by simp; omega)
    have CK : Hid (∀ W, W = w → Calls Try.prog 29 #[.slice (some ⟨g, off + 2, none⟩) 1 (cv - 2)] W fun e w' => e = .returned (.int .u64 (valB ((L.drop 2).take 1) : Int)) ∧ w' = W) := fun W hW => by
      subst hW
      exact number_any _ _ W HK.out (by simp; omega)
    have HO := openB_form L (by rw [← HN.out]; exact h3)
    have hk1 : valB ((L.drop 2).take 1) < 256 := by
      have := valB_lt ((L.drop 2).take 1)
      have e : ((L.drop 2).take 1).length = 1 := by simp; rw [← HN.out]; omega
      rwa [e] at this
    have ha1 : valB (L.take 2) < 65536 := by
      have := valB_lt (L.take 2)
      have e : (L.take 2).length = 2 := by simp; rw [← HN.out]; omega
      rwa [e] at this
    rw [← HN.out] at HO
    obtain ⟨a, ha⟩ : ∃ a, a = valB (L.take 2) := ⟨_, rfl⟩
    obtain ⟨k, hk⟩ : ∃ k, k = valB ((L.drop 2).take 1) := ⟨_, rfl⟩
    rw [← ha] at CA HO ha1
    rw [← hk] at CK HO hk1
    clear ha hk HA HK
    by_cases hc3 : cv = 3
    · subst hc3
      obtain rfl : n = 3 := by omega
      have HBd : Hid (BSl w (.slice (some ⟨g, off, none⟩) 0 0) (L.drop 3)) := by show BSl _ _ _; rw [List.drop_eq_nil_of_le (by rw [← HN.out]; exact Nat.le_refl _)]; exact bsl_none _ _ _ (Nat.zero_le _)
      have HJ : Hid (∀ (g2 : Nat) (W : World), W.heap[g2]? = some (.cells #[.slice (some ⟨g, off, none⟩) 0 0] 22 (0, 0)) → BSl W (.slice (some ⟨g, off, none⟩) 0 0) (L.drop 3) → Calls Try.prog 26 #[.slice (some ⟨g2, 0, none⟩) 1 1] W fun e w' => ∃ v, e = .returned v ∧ BOwn W.heap.size w' v (L.drop 3) ∧ Below W.heap.size W w') := fun g2 W g3 g4 => by
        refine (join_any g2 [.slice (some ⟨g, off, none⟩) 0 0] [L.drop 3] W g3 (by simp) ⟨g4, trivial⟩ ?_).mono ?_
        · simp; rw [← HN.out]; omega
        · rintro e w' ⟨u, rfl, h4, h5⟩
          exact ⟨u, rfl, by simpa using h4, h5⟩
      by_cases hq : a = 0
      · have HP : Hid (openT L = ((k : Int), L.drop 3, 0)) := by show _ = _; unfold openT; rw [HO, if_pos hq]
        have hqi : ((a : Int) == 0) = true := by simp; exact hq
        clear hq HO
        go_enter Try.func22, Try.ntmps22
        go_wp2_with fail
        refine (CA.out _ rfl).mono ?_
        rintro e w1 ⟨rfl, rfl⟩
        go_wp2_with fail
        refine (CK.out _ rfl).mono ?_
        rintro e w2 ⟨rfl, rfl⟩
        go_wp2_with (refine wl_lists rfl 1 _ rfl #[.slice (some ⟨g, off, none⟩) 0 0] (by decide) (by decide) rfl ?_)
        refine (HJ.out _ _ (heap_new _ _ _ rfl) (HBd.out.alloc _)).mono ?_
        rintro e w3 ⟨y, rfl, ho, hb⟩
        have HOw : Hid (BOwn w2.heap.size w3 y (L.drop 3)) := ho.base (by simp)
        have HB3 : Hid (Below w2.heap.size w2 w3) := ((Below.refl _ _).alloc (Nat.le_refl _) _).trans (hb.mono (by simp))
        clear ho hb
        go_wp2_with fail
        go_ret3
        rw [HP.out]
        exact ⟨y, rfl, HOw.out, HB3.out⟩
      · have HP : Hid (openT L = (0, [], 12)) := by show _ = _; unfold openT; rw [HO, if_neg hq]
        have hqi : ((a : Int) == 0) = false := by simp; exact hq
        clear hq HO
        go_enter Try.func22, Try.ntmps22
        go_wp2_with fail
        refine (CA.out _ rfl).mono ?_
        rintro e w1 ⟨rfl, rfl⟩
        go_wp2_with fail
        go_ret3
        rw [HP.out]
        exact ⟨_, rfl, BOwn.nil _ _, Below.refl _ _⟩
    · have hc4 : 3 < cv := by omega
      have HBd : Hid (BSl w (.slice (some ⟨g, off + 3, none⟩) (n - 3) (cv - 3)) (L.drop 3)) := by
        have := HL.out.part g off 3 (n - 3) (cv - 3) rfl (by omega) (by omega) (by omega)
        rw [List.take_of_length_le (by simp; rw [← HN.out]; omega)] at this
        exact this
      have HJ : Hid (∀ (g2 : Nat) (W : World), W.heap[g2]? = some (.cells #[.slice (some ⟨g, off + 3, none⟩) (n - 3) (cv - 3)] 22 (0, 0)) → BSl W (.slice (some ⟨g, off + 3, none⟩) (n - 3) (cv - 3)) (L.drop 3) → Calls Try.prog 26 #[.slice (some ⟨g2, 0, none⟩) 1 1] W fun e w' => ∃ v, e = .returned v ∧ BOwn W.heap.size w' v (L.drop 3) ∧ Below W.heap.size W w') := fun g2 W g3 g4 => by
        refine (join_any g2 [.slice (some ⟨g, off + 3, none⟩) (n - 3) (cv - 3)] [L.drop 3] W g3 (by simp) ⟨g4, trivial⟩ ?_).mono ?_
        · simp; rw [← HN.out]; omega
        · rintro e w' ⟨u, rfl, h4, h5⟩
          exact ⟨u, rfl, by simpa using h4, h5⟩
      by_cases hq : a = n - 3
      · have HP : Hid (openT L = ((k : Int), L.drop 3, 0)) := by show _ = _; unfold openT; rw [HO, if_pos hq]
        have hqi : ((a : Int) == ((n - 3 : Nat) : Int)) = true := by simp; omega
        clear hq HO
        go_enter Try.func22, Try.ntmps22
        go_wp2_with fail
        refine (CA.out _ rfl).mono ?_
        rintro e w1 ⟨rfl, rfl⟩
        go_wp2_with fail
        refine (CK.out _ rfl).mono ?_
        rintro e w2 ⟨rfl, rfl⟩
        go_wp2_with (refine wl_lists rfl 1 _ rfl #[.slice (some ⟨g, off + 3, none⟩) (n - 3) (cv - 3)] (by decide) (by decide) rfl ?_)
        refine (HJ.out _ _ (heap_new _ _ _ rfl) (HBd.out.alloc _)).mono ?_
        rintro e w3 ⟨y, rfl, ho, hb⟩
        have HOw : Hid (BOwn w2.heap.size w3 y (L.drop 3)) := ho.base (by simp)
        have HB3 : Hid (Below w2.heap.size w2 w3) := ((Below.refl _ _).alloc (Nat.le_refl _) _).trans (hb.mono (by simp))
        clear ho hb
        go_wp2_with fail
        go_ret3
        rw [HP.out]
        exact ⟨y, rfl, HOw.out, HB3.out⟩
      · have HP : Hid (openT L = (0, [], 12)) := by show _ = _; unfold openT; rw [HO, if_neg hq]
        have hqi : ((a : Int) == ((n - 3 : Nat) : Int)) = false := by simp; omega
        clear hq HO
        go_enter Try.func22, Try.ntmps22
        go_wp2_with fail
        refine (CA.out _ rfl).mono ?_
        rintro e w1 ⟨rfl, rfl⟩
        go_wp2_with fail
        go_ret3
        rw [HP.out]
        exact ⟨_, rfl, BOwn.nil _ _, Below.refl _ _⟩
  · have HP : Hid (openT L = (0, [], 12)) := by show _ = _; unfold openT; rw [openB_short L (by rw [← HN.out]; exact h3)]
    have hn : (n : Int) < 3 := by omega
    go_enter Try.func22, Try.ntmps22
    go_wp2_with fail
    go_ret3
    rw [HP.out]
    exact ⟨_, rfl, BOwn.nil _ _, Below.refl _ _⟩
end Go.Proofs.Ytfbphblodankmaa
