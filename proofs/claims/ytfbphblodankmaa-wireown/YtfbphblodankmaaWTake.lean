import Derived.Test.YtfbphblodankmaaWPut
namespace Go.Proofs.Ytfbphblodankmaa
open Go Go.RowKit
set_option maxRecDepth 20000

set_option maxHeartbeats 2000000 in
theorem take_any (v : Value) (L : List UInt8) (p s : Int) (w : World) (hL : BSl w v L) (hp : p ≤ 9223372036854775807) :
    Calls Try.prog 13 #[v, .int .i64 p, .int .i64 s] w fun e w' => e = .returned (.tuple #[.int .u64 ((takeT L p s).1 : Int), .int .i64 (takeT L p s).2]) ∧ w' = w := by
  have C1 : Hid (∀ W, Calls Try.prog 25 #[.int .i64 s] W fun e w' => e = .returned (.bool (canB s)) ∧ w' = W) := canBe_any s
  have HL : Hid (BSl w v L) := hL
  obtain ⟨ov, cv, hv, hc1, hc2⟩ := hL.slice
  subst hv
  clear hL
  obtain ⟨n, hn⟩ : ∃ n, n = L.length := ⟨_, rfl⟩
  have HN : Hid (n = L.length) := hn
  rw [← hn] at HL hc1 ⊢
  clear hn
  by_cases hc : canB s = true
  · rw [hc] at C1
    have hs := (canB_iff s).1 hc
    obtain ⟨m, rfl⟩ : ∃ m : Nat, s = m := ⟨s.toNat, by omega⟩
    have hs1 : 1 ≤ (m : Int) := hs.1
    have hs2 : (m : Int) ≤ 8 := hs.2
    by_cases h0 : 0 ≤ p
    · obtain ⟨k, rfl⟩ : ∃ k : Nat, p = k := ⟨p.toNat, by omega⟩
      have CR : Hid (∀ W, Calls Try.prog 28 #[.slice ov n cv, .int .i64 (k : Int), .int .i64 (m : Int)] W fun e w' => e = .returned (.bool (decide ((m : Int) ≤ (n : Int) - k))) ∧ w' = W) := reaches_any ov n cv (by omega) k m h0 hp
      have hcm := hc2
      unfold maxLen at hc2
      by_cases hr : k + m ≤ n
      · have HP : Hid (takeT L k m = (valB ((L.drop k).take m), 0)) := by
          show _ = _; unfold takeT; rw [if_pos ⟨hc, h0⟩, if_pos (by rw [← HN.out]; omega)]; simp
        have hd : decide ((m : Int) ≤ (n : Int) - k) = true := by simp; omega
        rw [hd] at CR
        obtain ⟨g, off, c, rfl, _, _⟩ := HL.out.at k (by omega)
        have CN : Hid (∀ W, W = w → Calls Try.prog 29 #[.slice (some ⟨g, off + k, none⟩) m (cv - k)] W fun e w' => e = .returned (.int .u64 (valB ((L.drop k).take m) : Int)) ∧ w' = W) := fun W hW => by
          subst hW
          exact number_any _ _ W (HL.out.part g off k m (cv - k) rfl hr (by omega) (by omega)) (by simp; omega)
        clear hc hs hd hcm
        go_enter Try.func13, Try.ntmps13
        go_wp2_with (first
          | (go_at_call 25; refine (C1.out _).mono ?_; rintro e w1 ⟨rfl, rfl⟩)
          | (go_at_call 28; refine (CR.out _).mono ?_; rintro e w2 ⟨rfl, rfl⟩))
        refine (CN.out _ rfl).mono ?_
        rintro e w3 ⟨rfl, rfl⟩
        go_wp2_with fail
        go_ret2
        rw [HP.out]
        exact ⟨rfl, rfl⟩
      · have HP : Hid (takeT L k m = (0, 12)) := by
          show _ = _; unfold takeT; rw [if_pos ⟨hc, h0⟩, if_neg (by rw [← HN.out]; omega)]
        have hd : decide ((m : Int) ≤ (n : Int) - k) = false := by simp; omega
        rw [hd] at CR
        clear hc hs hd hcm
        go_enter Try.func13, Try.ntmps13
        go_wp2_with (first
          | (go_at_call 25; refine (C1.out _).mono ?_; rintro e w1 ⟨rfl, rfl⟩)
          | (go_at_call 28; refine (CR.out _).mono ?_; rintro e w2 ⟨rfl, rfl⟩))
        go_ret2
        rw [HP.out]
        exact ⟨rfl, rfl⟩
    · have HP : Hid (takeT L p m = (0, 1)) := by
        show _ = _; unfold takeT; rw [if_neg (fun h => h0 h.2)]
      clear hc hs
      have h0' : p < 0 := by omega
      go_enter Try.func13, Try.ntmps13
      go_wp2_with (first
        | (go_at_call 25; refine (C1.out _).mono ?_; rintro e w1 ⟨rfl, rfl⟩))
      go_ret2
      rw [HP.out]
      exact ⟨rfl, rfl⟩
  · have HP : Hid (takeT L p s = (0, 1)) := by
      show _ = _; unfold takeT; rw [if_neg (fun h => hc h.1)]
    have hc' : canB s = false := by simpa using hc
    rw [hc'] at C1
    clear hc hc'
    go_enter Try.func13, Try.ntmps13
    go_wp2_with (first
      | (go_at_call 25; refine (C1.out _).mono ?_; rintro e w1 ⟨rfl, rfl⟩))
    go_ret2
    rw [HP.out]
    exact ⟨rfl, rfl⟩

theorem digits_kind (k : Nat) (h : k < 256) : beB 1 k = [UInt8.ofNat k] := by
  simp [beB, Nat.mod_eq_of_lt h]
theorem seal_join (k : Nat) (h : k < 256) (L : List UInt8) : [beB 2 L.length, beB 1 k, L].flatten = sealB k L := by
  rw [digits_kind k h]
  simp [sealB]
/-- What Seal answers. -/
def sealT (k : Int) (L : List UInt8) : List UInt8 × Int := if 0 ≤ k ∧ k ≤ 255 then if L.length ≤ 65535 then (sealB k.toNat L, 0) else ([], 5) else ([], 1)
set_option maxHeartbeats 2000000 in
theorem seal_any (k : Int) (v : Value) (L : List UInt8) (w : World) (hL : BSl w v L) :
    Calls Try.prog 20 #[.int .i64 k, v] w fun e w' => ∃ u, e = .returned (.tuple #[u, .int .i64 (sealT k L).2]) ∧ BOwn w.heap.size w' u (sealT k L).1 ∧ Below w.heap.size w w' := by
  have HL : Hid (BSl w v L) := hL
  obtain ⟨ov, cv, hv, hc1, hc2⟩ := hL.slice
  subst hv
  clear hL
  obtain ⟨n, hn⟩ : ∃ n, n = L.length := ⟨_, rfl⟩
  have HN : Hid (n = L.length) := hn
  rw [← hn] at HL hc1 ⊢
  clear hn
  unfold maxLen at hc2
  by_cases h0 : 0 ≤ k
  · by_cases h1 : k ≤ 255
    · obtain ⟨q, rfl⟩ : ∃ q : Nat, k = q := ⟨k.toNat, by omega⟩
      by_cases h2 : n ≤ 65535
      · have HP : Hid (sealT q L = (sealB q L, 0)) := by show _ = _; unfold sealT; rw [if_pos ⟨h0, h1⟩, if_pos (by rw [← HN.out]; exact h2)]; simp
        have CD : Hid (∀ W, Calls Try.prog 27 #[.int .u64 (n : Int), .int .i64 2] W fun e w' => ∃ v, e = .returned v ∧ BOwn W.heap.size w' v (beB 2 n) ∧ Below W.heap.size W w') := digits_any n 2 (by decide)
        have CE : Hid (∀ W, Calls Try.prog 27 #[.int .u64 (q : Int), .int .i64 1] W fun e w' => ∃ v, e = .returned v ∧ BOwn W.heap.size w' v (beB 1 q) ∧ Below W.heap.size W w') := digits_any q 1 (by decide)
        have HJ : Hid (∀ (g : Nat) (u x : Value) (W : World), W.heap[g]? = some (.cells #[u, x, .slice ov n cv] 22 (0, 0)) → BSl W u (beB 2 n) → BSl W x (beB 1 q) → BSl W (.slice ov n cv) L → Calls Try.prog 26 #[.slice (some ⟨g, 0, none⟩) 3 3] W fun e w' => ∃ v, e = .returned v ∧ BOwn W.heap.size w' v (sealB q L) ∧ Below W.heap.size W w') := fun g u x W g1 g2 g3 g4 => by
          refine (join_any g [u, x, .slice ov n cv] [beB 2 n, beB 1 q, L] W g1 (by simp) ⟨g2, g3, g4, trivial⟩ ?_).mono ?_
          · simp [beB_len]; rw [← HN.out]; omega
          · rintro e w' ⟨u, rfl, h4, h5⟩
            rw [HN.out, seal_join q (by omega)] at h4
            exact ⟨u, rfl, h4, h5⟩
        have hn : ¬ (65535 : Int) < (n : Int) := by omega
        go_enter Try.func20, Try.ntmps20
        go_wp2_with fail
        refine (CD.out _).mono ?_
        rintro e w1 ⟨u, rfl, ho1, hb1⟩
        have HU : Hid (BSl w1 u (beB 2 n)) := ho1.sl
        obtain ⟨ou, nu, cu, rfl⟩ : ∃ o n c, u = .slice o n c := by obtain ⟨o, c, h, _⟩ := ho1.sl.slice; exact ⟨o, _, c, h⟩
        have HB1 : Hid (Below w.heap.size w w1) := hb1
        clear ho1 hb1
        go_wp2_with fail
        refine (CE.out _).mono ?_
        rintro e w2 ⟨x, rfl, ho2, hb2⟩
        have HX : Hid (BSl w2 x (beB 1 q)) := ho2.sl
        obtain ⟨ox, nx, cx, rfl⟩ : ∃ o n c, x = .slice o n c := by obtain ⟨o, c, h, _⟩ := ho2.sl.slice; exact ⟨o, _, c, h⟩
        have HU2 : Hid (BSl w2 (.slice ou nu cu) (beB 2 n)) := HU.out.below hb2
        have HB2 : Hid (Below w.heap.size w w2) := HB1.out.trans (hb2.mono HB1.out.size)
        have HL2 : Hid (BSl w2 (.slice ov n cv) L) := HL.out.below HB2.out
        have hsz := HB2.out.size
        clear ho2 hb2
        go_wp2_with (refine wl_lists rfl 3 _ rfl #[.slice ou nu cu, .slice ox nx cx, .slice ov n cv] (by decide) (by decide) rfl ?_)
        refine (HJ.out w2.heap.size _ _ _ (heap_new _ _ _ rfl) (HU2.out.alloc _) (HX.out.alloc _) (HL2.out.alloc _)).mono ?_
        rintro e w3 ⟨y, rfl, ho, hb⟩
        have HO : Hid (BOwn w.heap.size w3 y (sealB q L)) := ho.base (by simp; omega)
        have HB3 : Hid (Below w.heap.size w w3) := (HB2.out.alloc hsz _).trans (hb.mono (by simp; omega))
        clear ho hb
        go_wp2_with fail
        go_ret2
        rw [HP.out]
        exact ⟨y, rfl, HO.out, HB3.out⟩
      · have HP : Hid (sealT q L = ([], 5)) := by show _ = _; unfold sealT; rw [if_pos ⟨h0, h1⟩, if_neg (by rw [← HN.out]; exact h2)]
        have hn : (65535 : Int) < (n : Int) := by omega
        go_enter Try.func20, Try.ntmps20
        go_wp2_with fail
        go_ret2
        rw [HP.out]
        exact ⟨_, rfl, BOwn.nil _ _, Below.refl _ _⟩
    · have HP : Hid (sealT k L = ([], 1)) := by show _ = _; unfold sealT; rw [if_neg (fun h => h1 h.2)]
      have hn : (255 : Int) < k := by omega
      go_enter Try.func20, Try.ntmps20
      go_wp2_with fail
      go_ret2
      rw [HP.out]
      exact ⟨_, rfl, BOwn.nil _ _, Below.refl _ _⟩
  · have HP : Hid (sealT k L = ([], 1)) := by show _ = _; unfold sealT; rw [if_neg (fun h => h0 h.1)]
    have hn : k < 0 := by omega
    go_enter Try.func20, Try.ntmps20
    go_wp2_with fail
    go_ret2
    rw [HP.out]
    exact ⟨_, rfl, BOwn.nil _ _, Below.refl _ _⟩

/-- What Open answers. -/
def openT (L : List UInt8) : Int × List UInt8 × Int := match openB L with
  | some (k, body) => ((k : Int), body, 0)
  | none => (0, [], 12)
theorem openB_form (L : List UInt8) (h : 3 ≤ L.length) : openB L = if valB (L.take 2) = L.length - 3 then some (valB ((L.drop 2).take 1), L.drop 3) else none := by
  match L, h with
  | a :: b :: c :: body, _ =>
    show (if a.toNat * 256 + b.toNat = body.length then some (c.toNat, body) else none) = _
    have e1 : valB ((a :: b :: c :: body).take 2) = a.toNat * 256 + b.toNat := by simp [valB]
    have e2 : valB (((a :: b :: c :: body).drop 2).take 1) = c.toNat := by simp [valB]
    have e3 : (a :: b :: c :: body).length - 3 = body.length := by simp
    rw [e1, e2, e3]
    rfl
theorem openB_short (L : List UInt8) (h : ¬ 3 ≤ L.length) : openB L = none := by
  match L, h with
  | [], _ => rfl
  | [_], _ => rfl
  | [_, _], _ => rfl
  | a :: b :: c :: body, h => exact absurd (by simp) h
end Go.Proofs.Ytfbphblodankmaa
