import Derived.Test.YtjlghkiplapodaaLawCPieces
namespace Go.Proofs.Ytjlghkiplapodaa
open Go Go.RowKit

theorem least_mem : ∀ (b : List Int) (C : List (List Int × List Int)), least b C = b ∨ ∃ c ∈ C, least b C = can c.1 c.2
  | b, [] => .inl rfl
  | b, c :: C => by
    rw [least]
    rcases least_mem (if lessL (can c.1 c.2) b = true then can c.1 c.2 else b) C with h | ⟨d, hd, h⟩
    · rw [h]
      split
      · exact .inr ⟨c, by simp, rfl⟩
      · exact .inl rfl
    · exact .inr ⟨d, by simp [hd], h⟩
theorem outH_mem (c : List Int × List Int) (C : List (List Int × List Int)) : ∃ d ∈ c :: C, outH (some (c :: C)) = can d.1 d.2 := by
  rcases least_mem (can c.1 c.2) C with h | ⟨d, hd, h⟩
  · exact ⟨c, by simp, h⟩
  · exact ⟨d, by simp [hd], h⟩
theorem has_own (U N : List Int) : has U N (can U N) = true := (has_iff _ _ _).2 fun i hi hm => by rw [can_bt _ _ i hi, hm, Bool.and_true]
theorem cnt_pos (H : List Int) : ∀ (C : List (List Int × List Int)) (c : List Int × List Int), c ∈ C → has c.1 c.2 H = true → 1 ≤ cnt H C
  | d :: C, c, hc, h => by
    rw [cnt]
    rcases List.mem_cons.1 hc with rfl | hc
    · rw [h]; simp
    · have := cnt_pos H C c hc h
      omega
theorem outH_byt (R : Option (List (List Int × List Int))) : Byt (outH R) := by
  match R with
  | none => exact b0
  | some [] => exact b0
  | some (c :: C) =>
    obtain ⟨d, _, h⟩ := outH_mem c C
    rw [h]; exact can_byt _ _
theorem outH_in (V M : List Int) (L : List (List Int × List Int)) (most : Nat) (c : List Int × List Int) (C : List (List Int × List Int)) (h : leftC V M L most = some (c :: C)) : has V M (outH (some (c :: C))) = true ∧ hasL L (outH (some (c :: C))) = false := by
  obtain ⟨d, hd, he⟩ := outH_mem c C
  have h1 := cnt_leftC (outH (some (c :: C))) V M L _ most h
  have h2 := cnt_pos (outH (some (c :: C))) (c :: C) d hd (by rw [he]; exact has_own _ _)
  rw [h1] at h2
  revert h2
  cases has V M (outH (some (c :: C))) <;> cases hasL L (outH (some (c :: C))) <;> simp

set_option maxHeartbeats 8000000 in
set_option maxRecDepth 100000 in
theorem lawCovers_any (V M : List Int) (hV : Byt V) (hM : Byt M) (C : List (List Int × List Int)) (m : Int) (v : Value) (w : World) (hs : Sl w v C) :
    Calls Try.prog 7 #[.agg (cv V M), v, .int .i64 m] w fun e w' => e = .returned (.bool true) ∧ Below w.heap.size w w' := by
  obtain ⟨o, cap, rfl, hcap, hcm⟩ := hs.slice
  obtain ⟨n, hne⟩ : ∃ n, n = C.length := ⟨_, rfl⟩
  rw [← hne] at hs hcap ⊢
  have HS : Hid (Sl w (.slice o n cap) C) := hs
  have hVl := hV.1
  have hMl := hM.1
  have HVM : Hid (Byt V ∧ Byt M) := ⟨hV, hM⟩
  clear hs hne hV hM hcm
  go_enter Try.func7, Try.ntmps7
  go_wp2_with fail
  refine (awake3_any _).mono ?_
  rintro e w1 ⟨rfl, hb1⟩
  have g0 : w1.heap[w.heap.size]? = some (.cells (cv V M) 30 (0, 0)) := by rw [hb1.block _ (by simp)]; exact heap_new _ _ _ rfl
  have B1 : Below w.heap.size w w1 := ((Below.refl _ _).alloc (Nat.le_refl _) _).trans (hb1.mono (by simp))
  clear hb1
  obtain ⟨k, hk⟩ : ∃ k, k = min n 40 := ⟨_, rfl⟩
  have hkn : k ≤ n := by omega
  have hk40 : k ≤ 40 := by omega
  have hkc : k ≤ cap := by omega
  have HKM : Hid (k = min n 40) := hk
  have HS1 : Hid (Sl w1 (.slice o k cap) (C.take k)) := (HS.out.below B1).cut k hk
  obtain ⟨D, hD⟩ : ∃ D, D = C.take k := ⟨_, rfl⟩
  have hDl : D.length ≤ 1000000 := by rw [hD]; exact cut_len hk40
  rw [← hD] at HS1
  have HDL : Hid (D.length ≤ 1000000) := hDl
  clear hk hD HS hDl
  obtain ⟨R, hR⟩ : ∃ R, R = leftC V M D (bnd m) := ⟨_, rfl⟩
  have D1 : Hid (∀ W, Sl W (.slice o k cap) D → Calls Try.prog 18 #[.slice o k cap, .agg (cv V M), .int .i64 m] W fun e w' => e = .returned (.tuple #[.bool (covB R), .int .i64 (errI R)]) ∧ Below W.heap.size W w') := by rw [hR]; exact fun W h => covers_any V M HVM.out.1 HVM.out.2 D HDL.out m _ W h
  have D2 : Hid (∀ W, Sl W (.slice o k cap) D → Calls Try.prog 19 #[.slice o k cap, .agg (cv V M), .int .i64 m] W fun e w' => e = .returned (.tuple #[.bool (covB R), .int .i64 (errI R)]) ∧ Below W.heap.size W w') := by rw [hR]; exact fun W h => rcovers_any V M HVM.out.1 HVM.out.2 D HDL.out m _ W h
  have D3 : Hid (∀ W, Sl W (.slice o k cap) D → Calls Try.prog 20 #[.agg (cv V M), .slice o k cap, .int .i64 m] W fun e w' => e = .returned (.tuple #[.agg (hv (outH R)), .bool (outB R), .int .i64 (errI R)]) ∧ Below W.heap.size W w') := by rw [hR]; exact fun W h => out_any V M HVM.out.1 HVM.out.2 D HDL.out m _ W h
  have D4 : Hid (∀ W, Sl W (.slice o k cap) D → Calls Try.prog 21 #[.agg (cv V M), .slice o k cap, .int .i64 m] W fun e w' => e = .returned (.tuple #[.agg (hv (outH R)), .bool (outB R), .int .i64 (errI R)]) ∧ Below W.heap.size W w') := by rw [hR]; exact fun W h => rout_any V M HVM.out.1 HVM.out.2 D HDL.out m _ W h
  have HCASE : Hid ((covB R = false ∧ errI R = 4 ∧ outB R = false) ∨ (covB R = true ∧ errI R = 0 ∧ outB R = false) ∨ (covB R = false ∧ errI R = 0 ∧ outB R = true ∧ has V M (outH R) = true ∧ hasL D (outH R) = false)) := by
    match R, hR with
    | none, _ => exact .inl ⟨rfl, rfl, rfl⟩
    | some [], _ => exact .inr (.inl ⟨rfl, rfl, rfl⟩)
    | some (c :: C), h => exact .inr (.inr ⟨rfl, rfl, rfl, outH_in V M D _ c C h.symm⟩)
  have D5 : Hid (∀ W, Calls Try.prog 14 #[.agg (cv V M), .agg (hv (outH R))] W fun e w' => e = .returned (.bool (has V M (outH R))) ∧ Below W.heap.size W w') := has_any V M _ HVM.out.1 HVM.out.2 (outH_byt R)
  have D6 : Hid (∀ W, Sl W (.slice o k cap) D → Calls Try.prog 10 #[.slice o k cap, .agg (hv (outH R))] W fun e w' => e = .returned (.bool (hasL D (outH R))) ∧ Below W.heap.size W w') := fun W h => chas_any D _ (outH_byt R) HDL.out _ W h
  have hFl : (outH R).length = 13 := (outH_byt R).1
  obtain ⟨F, hF⟩ : ∃ F, F = outH R := ⟨_, rfl⟩
  obtain ⟨b, hbb⟩ : ∃ b, b = covB R := ⟨_, rfl⟩
  obtain ⟨y, hy⟩ : ∃ y, y = errI R := ⟨_, rfl⟩
  obtain ⟨z, hz⟩ : ∃ z, z = outB R := ⟨_, rfl⟩
  rw [← hF] at D3 D4 D5 D6 HCASE hFl
  rw [← hbb, ← hy] at D1 D2
  rw [← hz, ← hy] at D3 D4
  rw [← hbb, ← hy, ← hz] at HCASE
  have e1 : ∀ w, (Op.equalIn 10000 24 (.agg (hv F)) (.agg (hv F))).run Try.prog w = .ok true w := fun w => by rw [eq26 _ _ hFl hFl]; simp
  have eg : ∀ op x y (xs ys : Array Value) w, (eqGuard op 24 x y (.agg xs) (.agg ys)).run Try.prog w = .ok () w := fun op x y xs ys w => run_eqGuard_agg w op 24 x y xs ys (by kernel_rfl)
  clear hR hF hbb hy hz
  go_wp2_with (first
    | (refine wl_min rfl _ _ rfl n k rfl rfl HKM.out ?_)
    | (refine wl_loadC rfl _ rfl w.heap.size rfl V M g0 hVl hMl ?_))
  clear HKM hkn hcap
  refine (D1.out _ HS1.out).mono ?_
  rintro e w2 ⟨rfl, hb2⟩
  have g2 : w2.heap[w.heap.size]? = some (.cells (cv V M) 30 (0, 0)) := by rw [hb2.block _ (Array.getElem?_eq_some_iff.1 g0).1]; exact g0
  have B2 := B1.trans (hb2.mono B1.size)
  have HS2 : Hid (Sl w2 (.slice o k cap) D) := HS1.out.below hb2
  clear hb2 D1 g0 B1 HS1
  go_wp2_with (first
    | (refine wl_loadC rfl _ rfl w.heap.size rfl V M g2 hVl hMl ?_))
  refine (D2.out _ HS2.out).mono ?_
  rintro e w3 ⟨rfl, hb3⟩
  have g3 : w3.heap[w.heap.size]? = some (.cells (cv V M) 30 (0, 0)) := by rw [hb3.block _ (Array.getElem?_eq_some_iff.1 g2).1]; exact g2
  have B3 := B2.trans (hb3.mono B2.size)
  have HS3 : Hid (Sl w3 (.slice o k cap) D) := HS2.out.below hb3
  clear hb3 D2 g2 B2 HS2
  go_wp2_with (first
    | (refine wl_loadC rfl _ rfl w.heap.size rfl V M g3 hVl hMl ?_))
  refine (D3.out _ HS3.out).mono ?_
  rintro e w4 ⟨rfl, hb4⟩
  have b4 := hb4.alloc hb4.size (.cells (hv F) 24)
  have g4 : (w4.alloc (.cells (hv F) 24)).heap[w.heap.size]? = some (.cells (cv V M) 30 (0, 0)) := by rw [b4.block _ (Array.getElem?_eq_some_iff.1 g3).1]; exact g3
  have h4 := heap_new w4 (.cells (hv F) 24) _ rfl
  have B4 := B3.trans (b4.mono B3.size)
  have HS4 : Hid (Sl (w4.alloc (.cells (hv F) 24)) (.slice o k cap) D) := HS3.out.below b4
  clear hb4 b4 D3 g3 B3 HS3
  go_wp2_with (first
    | (refine wl_store26 rfl _ _ rfl w4.heap.size F rfl rfl _ (heap_new _ _ _ rfl) rfl hFl _ (setRow_new _ _ _ _ _ rfl) ?_)
    | (refine wl_loadC rfl _ rfl w.heap.size rfl V M g4 hVl hMl ?_))
  refine (D4.out _ HS4.out).mono ?_
  rintro e w5 ⟨rfl, hb5⟩
  have b5 := hb5.alloc hb5.size (.cells (hv F) 24)
  have g5 : (w5.alloc (.cells (hv F) 24)).heap[w.heap.size]? = some (.cells (cv V M) 30 (0, 0)) := by rw [b5.block _ (Array.getElem?_eq_some_iff.1 g4).1]; exact g4
  have h5 : (w5.alloc (.cells (hv F) 24)).heap[w4.heap.size]? = some (.cells (hv F) 24 (0, 0)) := by rw [b5.block _ (Array.getElem?_eq_some_iff.1 h4).1]; exact h4
  have j5 := heap_new w5 (.cells (hv F) 24) _ rfl
  have B5 := B4.trans (b5.mono B4.size)
  have HS5 : Hid (Sl (w5.alloc (.cells (hv F) 24)) (.slice o k cap) D) := HS4.out.below b5
  clear hb5 b5 D4 g4 h4 B4 HS4
  rcases HCASE.out with ⟨rfl, rfl, rfl⟩ | ⟨rfl, rfl, rfl⟩ | ⟨rfl, rfl, rfl, hx, hl⟩
  · clear HCASE D5 D6
    go_wp2_with (first
      | (refine wl_store26 rfl _ _ rfl w5.heap.size F rfl rfl _ (heap_new _ _ _ rfl) rfl hFl _ (setRow_new _ _ _ _ _ rfl) ?_)
      | (refine wl_loadHg rfl _ rfl w4.heap.size rfl F h5 hFl ?_)
      | (refine wl_loadHg rfl _ rfl w5.heap.size rfl F j5 hFl ?_))
    go_ret
    exact ⟨rfl, B5⟩
  · clear HCASE D5 D6
    go_wp2_with (first
      | go_skip
      | (refine wl_store26 rfl _ _ rfl w5.heap.size F rfl rfl _ (heap_new _ _ _ rfl) rfl hFl _ (setRow_new _ _ _ _ _ rfl) ?_)
      | (refine wl_loadHg rfl _ rfl w4.heap.size rfl F h5 hFl ?_)
      | (refine wl_loadHg rfl _ rfl w5.heap.size rfl F j5 hFl ?_))
    go_ret
    exact ⟨rfl, B5⟩
  · rw [hx] at D5
    rw [hl] at D6
    clear hx hl HCASE
    go_wp2_with (first
      | (refine wl_store26 rfl _ _ rfl w5.heap.size F rfl rfl _ (heap_new _ _ _ rfl) rfl hFl _ (setRow_new _ _ _ _ _ rfl) ?_)
      | (refine wl_loadHg rfl _ rfl w4.heap.size rfl F h5 hFl ?_)
      | (refine wl_loadHg rfl _ rfl w5.heap.size rfl F j5 hFl ?_)
      | (refine wl_loadCg rfl _ rfl w.heap.size rfl V M g5 hVl hMl ?_))
    refine (D5.out _).mono ?_
    rintro e w6 ⟨rfl, hb6⟩
    have h6 : w6.heap[w4.heap.size]? = some (.cells (hv F) 24 (0, 0)) := by rw [hb6.block _ (Array.getElem?_eq_some_iff.1 h5).1]; exact h5
    have B6 := B5.trans (hb6.mono B5.size)
    have HS6 : Hid (Sl w6 (.slice o k cap) D) := HS5.out.below hb6
    clear hb6 D5 g5 h5 j5 B5 HS5
    go_wp2_with (first
      | (refine wl_loadHg rfl _ rfl w4.heap.size rfl F h6 hFl ?_))
    refine (D6.out _ HS6.out).mono ?_
    rintro e w7 ⟨rfl, hb7⟩
    go_wp2_with fail
    go_ret
    exact ⟨rfl, B6.trans (hb7.mono B6.size)⟩
end Go.Proofs.Ytjlghkiplapodaa
