import Derived.Test.YtjlghkiplapodaaCovOut
namespace Go.Proofs.Ytjlghkiplapodaa
open Go Go.RowKit

theorem rleft_uni {V M : List Int} (hV : Byt V) (hM : Byt M) {L : List (List Int × List Int)} (hn : L.length ≤ 1000000) {m : Int} (v : Value) (w : World) (hs : Sl w v L) :
    Calls Try.prog 16 #[.agg (cv V M), v, .int .i64 m] w fun e w' => ∃ u, e = .returned (.tuple #[u, .int .i64 (errI (leftC V M L (bnd m)))]) ∧ Sl w' u ((leftC V M L (bnd m)).getD []) ∧ ((leftC V M L (bnd m)).getD []).length ≤ 1000 ∧ Below w.heap.size w w' := by
  refine (rleft_any V M hV hM L hn m v w hs).mono ?_
  rintro e w' ⟨⟨R', u, h1, h2, h3, h4⟩ | ⟨h1, h2⟩, hb⟩
  · rw [h1]; exact ⟨u, h3, h4, h2, hb⟩
  · rw [h1]; exact ⟨_, h2, sl_none _, by simp, hb⟩
theorem ret_out {A A' : List Int} {a b : Bool} {x : Int} (h : A = A') (h1 : a = b) : Ending.returned (.tuple #[.agg (hv A), .bool a, .int .i64 x]) = .returned (.tuple #[.agg (hv A'), .bool b, .int .i64 x]) := by rw [h, h1]
theorem outB_len (R : Option (List (List Int × List Int))) : outB R = decide (((0 : Int)) < ((R.getD []).length : Nat)) := by
  match R with
  | none => rfl
  | some [] => rfl
  | some (c :: C) => simp [outB]
theorem outH_nil (R : Option (List (List Int × List Int))) (h : (R.getD []).length = 0) : outH R = m0 := by
  match R, h with
  | none, _ => rfl
  | some [], _ => rfl
  | some (c :: C), h => simp at h
theorem outH_first (R : Option (List (List Int × List Int))) (U N : List Int) (h : (R.getD [])[0]? = some (U, N)) : least (can U N) ((R.getD []).drop 1) = outH R := by
  match R, h with
  | some (c :: C), h =>
    have : c = (U, N) := by simpa using h
    rw [this]; rfl

set_option maxHeartbeats 4000000 in
theorem rout_any (V M : List Int) (hV : Byt V) (hM : Byt M) (L : List (List Int × List Int)) (hn : L.length ≤ 1000000) (m : Int) (v : Value) (w : World) (hs : Sl w v L) :
    Calls Try.prog 21 #[.agg (cv V M), v, .int .i64 m] w fun e w' => e = .returned (.tuple #[.agg (hv (outH (leftC V M L (bnd m)))), .bool (outB (leftC V M L (bnd m))), .int .i64 (errI (leftC V M L (bnd m)))]) ∧ Below w.heap.size w w' := by
  have hVl := hV.1
  have hMl := hM.1
  have hZl : m0.length = 13 := rfl
  have HS : Hid (Sl w v L) := hs
  have b0 : Below w.heap.size w ((w.alloc (.cells (cv V M) 30)).alloc (.cells zero26 24)) := ((Below.refl _ _).alloc (Nat.le_refl _) _).alloc (by simp) _
  have g0 : ((w.alloc (.cells (cv V M) 30)).alloc (.cells zero26 24)).heap[w.heap.size]? = some (.cells (cv V M) 30 (0, 0)) := heap_past _ _ _ _ (heap_new _ _ _ rfl)
  have g1 : ((w.alloc (.cells (cv V M) 30)).alloc (.cells zero26 24)).heap[w.heap.size + 1]? = some (.cells zero26 24 (0, 0)) := heap_new _ _ _ (by simp)
  have HS1 : Hid (Sl ((w.alloc (.cells (cv V M) 30)).alloc (.cells zero26 24)) v L) := hs.below b0
  obtain ⟨RR, hRR⟩ : ∃ RR, RR = leftC V M L (bnd m) := ⟨_, rfl⟩
  have C1 : Hid (∀ W, Sl W v L → Calls Try.prog 16 #[.agg (cv V M), v, .int .i64 m] W fun e w' => ∃ u, e = .returned (.tuple #[u, .int .i64 (errI RR)]) ∧ Sl w' u (RR.getD []) ∧ (RR.getD []).length ≤ 1000 ∧ Below W.heap.size W w') := by rw [hRR]; exact fun W h => rleft_uni hV hM hn v W h
  rw [← hRR, outB_len]
  obtain ⟨F, hF⟩ : ∃ F, F = outH RR := ⟨_, rfl⟩
  obtain ⟨y, hy⟩ : ∃ y, y = errI RR := ⟨_, rfl⟩
  obtain ⟨R, hR⟩ : ∃ R, R = RR.getD [] := ⟨_, rfl⟩
  have HF0 : Hid (R.length = 0 → F = m0) := fun h => by rw [hF]; exact outH_nil RR (by rw [← hR]; exact h)
  have HF1 : Hid (∀ U N, R[0]? = some (U, N) → least (can U N) (R.drop 1) = F) := fun U N h => by rw [hF, hR]; exact outH_first RR U N (by rw [← hR]; exact h)
  rw [← hF, ← hy, ← hR]
  rw [← hy, ← hR] at C1
  clear hV hM hs hRR hF hy hR
  go_enter Try.func21, Try.ntmps21
  go_wp2_with (first
    | (refine wl_loadC rfl _ rfl w.heap.size rfl V M g0 hVl hMl ?_))
  refine (C1.out _ HS1.out).mono ?_
  rintro e w1 ⟨u, rfl, hsl, hrl, hb1⟩
  have g2 : w1.heap[w.heap.size + 1]? = some (.cells zero26 24 (0, 0)) := by rw [hb1.block _ (by simp)]; exact g1
  have B1 : Below w.heap.size w w1 := b0.trans (hb1.mono b0.size)
  obtain ⟨o, cap, rfl, hcp, hcm⟩ := hsl.slice
  obtain ⟨n, hne⟩ : ∃ n, n = R.length := ⟨_, rfl⟩
  have HN : Hid (n = R.length) := hne
  have HSL : Hid (Sl (w1.alloc (.cells (hv m0) 24)) (.slice o R.length cap) R) := hsl.below ((Below.refl _ _).alloc (Nat.le_refl _) _)
  have z1 := (Array.getElem?_eq_some_iff.1 g2).1
  have HNE0 : Hid (∀ q, o = some q → q.block ≠ w1.heap.size ∨ R.length = 0) := fun q hq => by
    rcases Nat.eq_zero_or_pos R.length with h | h
    · exact .inr h
    · obtain ⟨g, off, cur, t, fr, U, N, he, hg, _⟩ := hsl.at 0 h
      rw [hq] at he
      obtain rfl := Option.some.inj he
      exact .inl (Nat.ne_of_lt (Array.getElem?_eq_some_iff.1 hg).1)
  have B2 := B1.alloc B1.size (.cells (hv m0) 24)
  have g3 := heap_past w1 (.cells (hv m0) 24) _ _ g2
  have g4 := heap_new w1 (.cells (hv m0) 24) _ rfl
  rw [← hne] at hrl HSL HNE0 ⊢
  clear hb1 C1 g0 g1 g2 HS1 b0 B1 hsl hne
  go_wp2_with (first
    | (refine wl_store26 rfl _ _ rfl w1.heap.size m0 rfl rfl _ (heap_new _ _ _ rfl) rfl hZl _ (setRow_new _ _ _ _ _ rfl) ?_))
  go_loopw [12] (fun i wr => ∃ k : Nat, k ≤ n ∧ i = .int .i64 k ∧ ∃ B, Byt B ∧ (k = 0 → B = m0) ∧ (0 < k → least B (R.drop k) = F) ∧ wr.heap[w1.heap.size]? = some (.cells (hv B) 24 (0, 0)) ∧ wr.heap[w.heap.size + 1]? = some (.cells zero26 24 (0, 0)) ∧ (∀ q, o = some q → q.block ≠ w1.heap.size ∨ n = 0) ∧ Sl wr (.slice o n cap) R ∧ Below w.heap.size w wr) (fun i _ => n - (intOf i).toNat)
  case atStart => exact ⟨0, Nat.zero_le _, rfl, m0, byt_of _ rfl (by decide), fun _ => rfl, fun h => absurd h (by decide), g4, g3, HNE0.out, HSL.out, B2⟩
  case round =>
    clear g3 g4 B2 HSL HNE0
    obtain ⟨k, hk, rfl, B, hB, hB0, hBk, p5, p4, hne, hsl, hb⟩ := hrel
    have hBl := hB.1
    have HB : Hid (Byt B) := hB
    have HB0 : Hid (k = 0 → B = m0) := hB0
    have HBK : Hid (0 < k → least B (R.drop k) = F) := hBk
    have HSL : Hid (Sl wr (.slice o n cap) R) := hsl
    have HNE : Hid (∀ q, o = some q → q.block ≠ w1.heap.size ∨ n = 0) := hne
    clear hB hB0 hBk hsl hne
    by_cases hlt : k < n
    · obtain ⟨g, off, cur, t, fr, U, N, rfl, hg, hcc, hC, hU, hN⟩ := HSL.out.at k hlt
      have hUl := hU.1
      have hNl := hN.1
      have hKl := (can_byt U N).1
      have hTl := (top_byt U N).1
      have HE : Hid (∀ j, j < 26 → cur[off + k * 26 + j]? = (cv U N)[j]?) := hcc
      have D1 : Hid (∀ W, Calls Try.prog 37 #[.agg (cv U N)] W fun e w' => e = .returned (.tuple #[.agg (hv (can U N)), .agg (hv (top U N))]) ∧ Below W.heap.size W w') := rends_any U N hU hN
      have D2 : Hid (∀ W, Calls Try.prog 38 #[.agg (hv (can U N)), .agg (hv B)] W fun e w' => e = .returned (.bool (lessL (can U N) B)) ∧ Below W.heap.size W w') := refLess_any _ _ (can_byt _ _) HB.out
      have HST : Hid (least B (R.drop k) = least (if lessL (can U N) B = true then can U N else B) (R.drop (k + 1))) := least_cons hC
      have HCB : Hid (Byt (can U N)) := can_byt _ _
      have HFF : Hid (k = 0 → least (can U N) (R.drop (k + 1)) = F) := fun h => by rw [h]; exact HF1.out U N (by rw [← h]; exact hC)
      obtain ⟨K2, hK2⟩ : ∃ K, K = can U N := ⟨_, rfl⟩
      obtain ⟨T2, hT2⟩ : ∃ T, T = top U N := ⟨_, rfl⟩
      rw [← hK2] at hKl D1 D2 HST HCB HFF
      rw [← hT2] at hTl D1
      obtain ⟨x, hx⟩ : ∃ x, x = lessL K2 B := ⟨_, rfl⟩
      rw [← hx] at D2 HST
      have hgne : g ≠ w1.heap.size := by rcases HNE.out _ rfl with h | h; exact h; omega
      clear hcc hC hU hN hK2 hT2 hx
      go_wp2_with (first
        | (refine wl_loadCat rfl _ rfl g (off + k * 26) rfl cur t fr U N hUl hNl hg HE.out ?_))
      refine (D1.out _).mono ?_
      rintro e w5 ⟨rfl, hb5⟩
      have zr := (Array.getElem?_eq_some_iff.1 p5).1
      have zs := (Array.getElem?_eq_some_iff.1 p4).1
      have s5 : w5.heap[w1.heap.size]? = some (.cells (hv B) 24 (0, 0)) := by rw [hb5.block _ (by omega)]; exact p5
      have s4 : w5.heap[w.heap.size + 1]? = some (.cells zero26 24 (0, 0)) := by rw [hb5.block _ (by omega)]; exact p4
      have B5 := hb.trans (hb5.mono hb.size)
      have HS5 : Hid (Sl w5 (.slice (some ⟨g, off, none⟩) n cap) R) := HSL.out.below hb5
      have z5 := (Array.getElem?_eq_some_iff.1 s5).1
      have BY : Below w5.heap.size w5 ((w5.alloc (.cells (hv K2) 24)).alloc (.cells (hv T2) 24)) := ((Below.refl _ _).alloc (Nat.le_refl _) _).alloc (by simp) _
      have B6 := B5.trans (BY.mono B5.size)
      have r5 : ((w5.alloc (.cells (hv K2) 24)).alloc (.cells (hv T2) 24)).heap[w1.heap.size]? = some (.cells (hv B) 24 (0, 0)) := heap_past _ _ _ _ (heap_past _ _ _ _ s5)
      have r4 : ((w5.alloc (.cells (hv K2) 24)).alloc (.cells (hv T2) 24)).heap[w.heap.size + 1]? = some (.cells zero26 24 (0, 0)) := heap_past _ _ _ _ (heap_past _ _ _ _ s4)
      have r1 : ((w5.alloc (.cells (hv K2) 24)).alloc (.cells (hv T2) 24)).heap[w5.heap.size]? = some (.cells (hv K2) 24 (0, 0)) := heap_past _ _ _ _ (heap_new _ _ _ rfl)
      have HS6 : Hid (Sl ((w5.alloc (.cells (hv K2) 24)).alloc (.cells (hv T2) 24)) (.slice (some ⟨g, off, none⟩) n cap) R) := HS5.out.below BY
      clear hb5 D1 HS5 B5 BY s4 s5 p4 p5 hg hb HSL
      by_cases hk0 : k = 0
      · subst hk0
        go_wp2_with (first
          | (refine wl_store26 rfl _ _ rfl w5.heap.size K2 rfl rfl _ (heap_past _ _ _ _ (heap_new _ _ _ rfl)) rfl hKl _ (setRow_two _ _ _ _ _) ?_)
          | (refine wl_store26 rfl _ _ rfl (w5.heap.size + 1) T2 rfl rfl _ (heap_new _ _ _ (by simp)) rfl hTl _ (setRow_new _ _ _ _ _ (by simp)) ?_)
          | (refine wl_load26 rfl _ rfl w5.heap.size rfl K2 r1 hKl ?_)
          | (refine wl_store26 rfl _ _ rfl w1.heap.size K2 rfl rfl _ r5 (by rw [hv_size, hBl]) hKl _ rfl ?_))
        go_roundw
        case rel => exact ⟨1, by omega, rfl, K2, HCB.out, fun h => absurd h (by decide), fun _ => (by have := HFF.out; simpa using this), setRow_heap _ _ _ _ _ _ r5, (setRow_other _ _ _ _ (by omega)).trans r4, HNE.out, HS6.out.setRow _ (by simpa [Value.ownBlock] using hgne) _, below_setRow B6 (by omega) _⟩
        case measure => simp [intOf]; omega
      · have hk1 : 0 < k := by omega
        have hk2 : ((k : Int) == 0) = false := by simp; omega
        go_wp2_with (first
          | (refine wl_store26 rfl _ _ rfl w5.heap.size K2 rfl rfl _ (heap_past _ _ _ _ (heap_new _ _ _ rfl)) rfl hKl _ (setRow_two _ _ _ _ _) ?_)
          | (refine wl_store26 rfl _ _ rfl (w5.heap.size + 1) T2 rfl rfl _ (heap_new _ _ _ (by simp)) rfl hTl _ (setRow_new _ _ _ _ _ (by simp)) ?_)
          | (refine wl_loadHg rfl _ rfl w5.heap.size rfl K2 r1 hKl ?_)
          | (refine wl_loadHg rfl _ rfl w1.heap.size rfl B r5 hBl ?_))
        refine (D2.out _).mono ?_
        rintro e w6 ⟨rfl, hb6⟩
        have t5 : w6.heap[w1.heap.size]? = some (.cells (hv B) 24 (0, 0)) := by rw [hb6.block _ (by simp; omega)]; exact r5
        have t4 : w6.heap[w.heap.size + 1]? = some (.cells zero26 24 (0, 0)) := by rw [hb6.block _ (by simp; omega)]; exact r4
        have t1 : w6.heap[w5.heap.size]? = some (.cells (hv K2) 24 (0, 0)) := by rw [hb6.block _ (by simp; omega)]; exact r1
        have B7 := B6.trans (hb6.mono B6.size)
        have HS7 : Hid (Sl w6 (.slice (some ⟨g, off, none⟩) n cap) R) := HS6.out.below hb6
        clear hb6 D2 HS6 B6 r1 r4 r5
        cases x
        · go_wp2_with fail
          go_roundw
          case rel =>
            refine ⟨k + 1, by omega, by go_num, B, HB.out, fun h => absurd h (by omega), fun _ => ?_, t5, t4, HNE.out, HS7.out, B7⟩
            have := HBK.out hk1
            rw [HST.out] at this
            simpa using this
          case measure => simp [intOf]; omega
        · go_wp2_with (first
            | (refine wl_load26 rfl _ rfl w5.heap.size rfl K2 t1 hKl ?_)
            | (refine wl_store26 rfl _ _ rfl w1.heap.size K2 rfl rfl _ t5 (by rw [hv_size, hBl]) hKl _ rfl ?_))
          go_roundw
          case rel =>
            refine ⟨k + 1, by omega, by go_num, K2, HCB.out, fun h => absurd h (by omega), fun _ => ?_, setRow_heap _ _ _ _ _ _ t5, (setRow_other _ _ _ _ (by omega)).trans t4, HNE.out, HS7.out.setRow _ (by simpa [Value.ownBlock] using hgne) _, below_setRow B7 (by omega) _⟩
            have := HBK.out hk1
            rw [HST.out] at this
            simpa using this
          case measure => simp [intOf]; omega
    · obtain rfl : k = n := by omega
      have HFE : Hid (F = B) := by
        show F = B
        rcases Nat.eq_zero_or_pos k with h | h
        · rw [HF0.out (by rw [← HN.out]; exact h), HB0.out h]
        · have := HBK.out h
          rw [HN.out, List.drop_length] at this
          exact this.symm
      go_wp2_with (first
        | (refine wl_load26 rfl _ rfl w1.heap.size rfl B p5 hBl ?_)
        | (refine wl_store26 rfl _ _ rfl (w.heap.size + 1) B rfl rfl _ p4 rfl hBl _ rfl ?_))
      refine retHBE (p := 6) (q := 7) (r := 8) rfl rfl (w.heap.size + 1) rfl B hBl (setRow_heap _ _ _ _ _ _ p4) _ _ rfl rfl ⟨?_, below_setRow hb (by omega) _⟩
      exact ret_out HFE.out.symm (by rw [HN.out]; simp)
end Go.Proofs.Ytjlghkiplapodaa
