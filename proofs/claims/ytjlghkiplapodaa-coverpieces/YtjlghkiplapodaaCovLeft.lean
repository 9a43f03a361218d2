import Derived.Test.YtjlghkiplapodaaOwnC
namespace Go.Proofs.Ytjlghkiplapodaa
open Go Go.RowKit

/-- What one cube more leaves of some pieces. -/
def minusL (P : List (List Int × List Int)) (b : List Int × List Int) : List (List Int × List Int) := P.flatMap fun p => minusC p.1 p.2 b.1 b.2
theorem minusL_take {P : List (List Int × List Int)} {b : List Int × List Int} {k : Nat} {U N : List Int} (hk : P[k]? = some (U, N)) : minusL (P.take (k + 1)) b = minusL (P.take k) b ++ minusC U N b.1 b.2 := by
  unfold minusL
  rw [List.take_add_one, hk]
  simp
theorem minusL_le (P : List (List Int × List Int)) (b : List Int × List Int) (k : Nat) : (minusL (P.take k) b).length ≤ (minusL P b).length := by
  conv => rhs; rw [← List.take_append_drop k P]
  unfold minusL
  rw [List.flatMap_append, List.length_append]
  omega
theorem byts_minusL (P : List (List Int × List Int)) (hP : Byts P) (b : List Int × List Int) : Byts (minusL P b) := by
  intro c hc
  unfold minusL at hc
  rw [List.mem_flatMap] at hc
  obtain ⟨p, hp, hc⟩ := hc
  exact byts_minus _ _ _ _ (hP p hp).2 c hc
/-- What a list leaves of pieces. -/
def leftGo (most : Nat) : List (List Int × List Int) → List (List Int × List Int) → Option (List (List Int × List Int))
  | P, [] => some P
  | P, b :: l => if most < (minusL P b).length then none else leftGo most (minusL P b) l
/-- What a list leaves of a cube. -/
def leftC (V M : List Int) (L : List (List Int × List Int)) (most : Nat) : Option (List (List Int × List Int)) := if most < 1 then none else leftGo most [(can V M, M)] L

/-- What a number of pieces counts as. -/
def bnd (m : Int) : Nat := (min (max m 0) 1000).toNat
theorem bnd_le (m : Int) : bnd m ≤ 1000 := by unfold bnd; omega

set_option maxHeartbeats 4000000 in
theorem without_any (C : List (List Int × List Int)) (V M : List Int) (hV : Byt V) (hM : Byt M) (most : Nat) (hmost : most ≤ 1000) (hn : C.length ≤ 1000000) (v : Value) (w : World) (hs : Sl w v C) :
    Calls Try.prog 31 #[v, .agg (cv V M), .int .i64 (most : Int)] w fun e w' => ((∃ u, e = .returned (.tuple #[u, .int .i64 0]) ∧ (minusL C (V, M)).length ≤ most ∧ w'.ownsRow w.heap.size 30 26 u (minusL C (V, M)).length (ccells (minusL C (V, M)))) ∨ (e = .returned (.tuple #[.slice none 0 0, .int .i64 4]) ∧ most < (minusL C (V, M)).length)) ∧ Below w.heap.size w w' := by
  obtain ⟨o, cap, rfl, _, _⟩ := hs.slice
  obtain ⟨n, hne⟩ : ∃ n, n = C.length := ⟨_, rfl⟩
  rw [← hne] at hs hn ⊢
  have HN : Hid (n = C.length) := hne
  have HS : Hid (Sl w (.slice o n cap) C) := hs
  have hVl := hV.1
  have hMl := hM.1
  have CM : Hid (∀ U N : List Int, Byt U → Byt N → ∀ W, Calls Try.prog 46 #[.agg (cv U N), .agg (cv V M)] W fun e w' => ∃ v, e = .returned v ∧ w'.ownsRow W.heap.size 30 26 v (minusC U N V M).length (ccells (minusC U N V M)) ∧ Below W.heap.size W w') := fun U N h1 h2 => minus_any U N V M h1 h2 hV hM
  clear hs hne hV hM
  go_enter Try.func31, Try.ntmps31
  go_wp2_with fail
  go_loopw [8, 13] (fun out i wr => ∃ k : Nat, k ≤ n ∧ i = .int .i64 k ∧ (minusL (C.take k) (V, M)).length ≤ most ∧ wr.ownsRow (w.heap.size + 1) 30 26 out (minusL (C.take k) (V, M)).length (ccells (minusL (C.take k) (V, M))) ∧ wr.heap[w.heap.size]? = some (.cells (cv V M) 30 (0, 0)) ∧ Below w.heap.size w wr) (fun _ i _ => n - (intOf i).toNat)
  case atStart => exact ⟨0, Nat.zero_le _, rfl, Nat.zero_le _, World.ownsRow_nil _ _ _ _, heap_new _ _ _ rfl, (Below.refl _ _).alloc (Nat.le_refl _) _⟩
  case round =>
    obtain ⟨k, hk, rfl, hl, hown, g0, hb⟩ := hrel
    have z0 := (Array.getElem?_eq_some_iff.1 g0).1
    by_cases hlt : k < n
    · obtain ⟨g, off, cur, t, fr, U, N, rfl, hg, hc, hCk, hU, hN⟩ := HS.out.at k hlt
      have hUl := hU.1
      have hNl := hN.1
      have D1 : Hid (∀ W, Calls Try.prog 46 #[.agg (cv U N), .agg (cv V M)] W fun e w' => ∃ v, e = .returned v ∧ w'.ownsRow W.heap.size 30 26 v (minusC U N V M).length (ccells (minusC U N V M)) ∧ Below W.heap.size W w') := CM.out U N hU hN
      have hg' : wr.heap[g]? = some (.cells cur t fr) := (hb.block g (Array.getElem?_eq_some_iff.1 hg).1).trans hg
      have HC : Hid (∀ j, j < 26 → cur[off + k * 26 + j]? = (cv U N)[j]?) := hc
      have HT : Hid (minusL (C.take (k + 1)) (V, M) = minusL (C.take k) (V, M) ++ minusC U N V M) := minusL_take hCk
      have HBD : Hid (Byts (minusC U N V M)) := byts_minus U N V M hN
      have hE : (minusC U N V M).length ≤ 104 := len_minus U N V M
      obtain ⟨D, hD⟩ : ∃ D, D = minusL (C.take k) (V, M) := ⟨_, rfl⟩
      obtain ⟨E, hEe⟩ : ∃ E, E = minusC U N V M := ⟨_, rfl⟩
      rw [← hD] at hl hown HT
      rw [← hEe] at D1 HT HBD hE
      have OWN : Hid (wr.ownsRow (w.heap.size + 1) 30 26 u8 D.length (ccells D)) := hown
      have k0 := heap_past wr (.cells (cv U N) 30) _ _ g0
      have k1 := heap_new wr (.cells (cv U N) 30) _ rfl
      have B2 := hb.alloc hb.size (.cells (cv U N) 30)
      clear hg hc hCk hU hN hD hEe hown hb
      go_wp2_with (first
        | (refine wl_loadCat rfl _ rfl g (off + k * 26) rfl cur t fr U N hUl hNl hg' HC.out ?_)
        | (refine wl_storeC rfl _ _ rfl wr.heap.size U N rfl rfl _ (heap_new _ _ _ rfl) rfl hUl hNl _ (setRow_new _ _ _ _ _ rfl) ?_)
        | (refine wl_loadC rfl _ rfl wr.heap.size rfl U N k1 hUl hNl ?_)
        | (refine wl_loadC rfl _ rfl w.heap.size rfl V M k0 hVl hMl ?_))
      refine (D1.out _).mono ?_
      rintro e w1 ⟨u, rfl, hu, hb1⟩
      have g1 : w1.heap[w.heap.size]? = some (.cells (cv V M) 30 (0, 0)) := by rw [hb1.block _ (by simp; omega)]; exact k0
      have B3 := B2.trans (hb1.mono B2.size)
      have OWN1 : Hid (w1.ownsRow (w.heap.size + 1) 30 26 u8 D.length (ccells D)) := own_below ((OWN.out).alloc _) hb1
      have z1 : w.heap.size + 1 ≤ w1.heap.size := Nat.le_trans (by simp; omega) hb1.size
      have HU : Hid (w1.ownsRow (wr.alloc (.cells (cv U N) 30)).heap.size 30 26 u E.length (ccells E)) := hu
      clear k0 k1 B2 hb1 D1 g0 OWN hu hg'
      go_wp2_with (first
        | (at_builtin; refine of_stopped ?_))
      unfold Stopped
      refine wl_appendC rfl _ _ rfl (w.heap.size + 1) _ _ _ D E rfl OWN1.out rfl HU.out HBD.out (by omega) z1 ?_
      intro v' w2 hown2 hgr
      have B4 : Below (w.heap.size + 1) w1 w2 := (Below.refl _ _).grown hgr z1 (fun q hq => (OWN1.out.lt q hq).1)
      obtain ⟨o2, cap2, rfl⟩ := own_slice hown2
      have g2 : w2.heap[w.heap.size]? = some (.cells (cv V M) 30 (0, 0)) := by rw [B4.block _ (by omega)]; exact g1
      have B5 : Below w.heap.size w w2 := B3.trans (B4.mono (by omega))
      have hlen : (D ++ E).length ≤ 1104 := by rw [List.length_append]; omega
      obtain ⟨n2, hn2⟩ : ∃ n2, n2 = (D ++ E).length := ⟨_, rfl⟩
      have HN2 : Hid (n2 = (D ++ E).length) := hn2
      rw [← hn2] at hown2 hlen ⊢
      have OWN2 : Hid (w2.ownsRow (w.heap.size + 1) 30 26 (.slice o2 n2 cap2) n2 (ccells (D ++ E))) := hown2
      simp only [Act.put, List.setIfInBounds_toArray, List.set_cons_succ, List.set_cons_zero]
      clear hn2 hown2 hgr B4 B3 g1 OWN1 HU
      by_cases hgt : most < n2
      · go_wp2_with fail
        go_ret2
        refine ⟨.inr ⟨rfl, ?_⟩, B5⟩
        have := minusL_le C (V, M) (k + 1)
        rw [HT.out, ← HN2.out] at this
        omega
      · go_wp2_with fail
        go_roundw
        case rel =>
          refine ⟨k + 1, by omega, by go_num, ?_, ?_, g2, B5⟩
          · rw [HT.out, ← HN2.out]; omega
          · rw [HT.out, ← HN2.out]; exact OWN2.out
        case measure => simp [intOf]; omega
    · obtain rfl : k = n := by omega
      have OWN : Hid (wr.ownsRow (w.heap.size + 1) 30 26 u8 (minusL (C.take k) (V, M)).length (ccells (minusL (C.take k) (V, M)))) := hown
      have HL : Hid ((minusL (C.take k) (V, M)).length ≤ most) := hl
      have HT : Hid (C.take k = C) := by show _ = _; rw [HN.out, List.take_length]
      clear hown hl
      go_wp2_with fail
      go_ret2
      have h1 := OWN.out
      have h2 := HL.out
      rw [HT.out] at h1 h2
      exact ⟨.inl ⟨_, rfl, h2, own_base h1 (by omega)⟩, hb⟩

theorem bound_any (m : Int) (w : World) : Calls Try.prog 29 #[.int .i64 m] w fun e w' => e = .returned (.int .i64 ((bnd m : Nat) : Int)) ∧ Below w.heap.size w w' := by
  by_cases h0 : m < 0
  · go_enter Try.func29, Try.ntmps29
    go_wp2
    go_ret
    exact ⟨ret_int (by unfold bnd; omega), Below.refl _ _⟩
  · by_cases h1 : 1000 < m
    · go_enter Try.func29, Try.ntmps29
      go_wp2
      go_ret
      exact ⟨ret_int (by unfold bnd; omega), Below.refl _ _⟩
    · go_enter Try.func29, Try.ntmps29
      go_wp2
      go_ret
      exact ⟨ret_int (by unfold bnd; omega), Below.refl _ _⟩
theorem rbound_any (m : Int) (w : World) : Calls Try.prog 32 #[.int .i64 m] w fun e w' => e = .returned (.int .i64 ((bnd m : Nat) : Int)) ∧ Below w.heap.size w w' := by
  by_cases h0 : m < 0
  · go_enter Try.func32, Try.ntmps32
    go_wp2
    go_ret
    exact ⟨ret_int (by unfold bnd; omega), Below.refl _ _⟩
  · by_cases h1 : m > 1000
    · go_enter Try.func32, Try.ntmps32
      go_wp2
      go_ret
      exact ⟨ret_int (by unfold bnd; omega), Below.refl _ _⟩
    · go_enter Try.func32, Try.ntmps32
      go_wp2
      go_ret
      exact ⟨ret_int (by unfold bnd; omega), Below.refl _ _⟩

theorem sl_one (w : World) (V M : List Int) (hV : Byt V) (hM : Byt M) : Sl (w.alloc (.cells (cv V M) 30)) (.slice (some ⟨w.heap.size, 0, none⟩) 1 1) [(V, M)] := by
  have := World.ownsRow_lit (base := w.heap.size) (e := 30) (size := 26) w (cv V M) 1 (Nat.le_refl _) (by unfold maxLen; omega) (by rw [cv_size _ _ hV.1 hM.1])
  rw [← ccells_one] at this
  exact sl_of this (fun c hc => by rw [List.mem_singleton.1 hc]; exact ⟨hV, hM⟩)
theorem sl_none (w : World) : Sl w (.slice none 0 0) [] := ⟨fun c hc => absurd hc (by simp), none, 0, rfl, Nat.le_refl _, Nat.zero_le _, fun i hi => absurd hi (by simp)⟩
theorem leftGo_cons {most : Nat} {P L : List (List Int × List Int)} {k : Nat} {U N : List Int} (hk : L[k]? = some (U, N)) : leftGo most P (L.drop k) = if most < (minusL P (U, N)).length then none else leftGo most (minusL P (U, N)) (L.drop (k + 1)) := by
  obtain ⟨h, h2⟩ := List.getElem?_eq_some_iff.1 hk
  rw [List.drop_eq_getElem_cons h, h2, leftGo]

set_option maxHeartbeats 4000000 in
theorem left_any (V M : List Int) (hV : Byt V) (hM : Byt M) (L : List (List Int × List Int)) (hn : L.length ≤ 1000000) (m : Int) (v : Value) (w : World) (hs : Sl w v L) :
    Calls Try.prog 15 #[.agg (cv V M), v, .int .i64 m] w fun e w' => ((∃ R u, leftC V M L (bnd m) = some R ∧ R.length ≤ 1000 ∧ e = .returned (.tuple #[u, .int .i64 0]) ∧ Sl w' u R) ∨ (leftC V M L (bnd m) = none ∧ e = .returned (.tuple #[.slice none 0 0, .int .i64 4]))) ∧ Below w.heap.size w w' := by
  obtain ⟨o, cap, rfl, _, _⟩ := hs.slice
  obtain ⟨n, hne⟩ : ∃ n, n = L.length := ⟨_, rfl⟩
  rw [← hne] at hs hn ⊢
  have HN : Hid (n = L.length) := hne
  have HS : Hid (Sl w (.slice o n cap) L) := hs
  have hVl := hV.1
  have hMl := hM.1
  have hCl := (can_byt V M).1
  obtain ⟨most, hmo⟩ : ∃ most, most = bnd m := ⟨_, rfl⟩
  have hmost : most ≤ 1000 := by rw [hmo]; exact bnd_le m
  obtain ⟨R, hR⟩ : ∃ R, R = leftC V M L most := ⟨_, rfl⟩
  have C1 : Hid (∀ W, Calls Try.prog 29 #[.int .i64 m] W fun e w' => e = .returned (.int .i64 (most : Int)) ∧ Below W.heap.size W w') := by rw [hmo]; exact bound_any m
  have C2 : Hid (∀ W, Calls Try.prog 30 #[.agg (cv V M)] W fun e w' => e = .returned (.agg (cv (can V M) M)) ∧ Below W.heap.size W w') := canon_any V M hV hM
  have HCB : Hid (Byt (can V M) ∧ Byt M) := ⟨can_byt V M, hM⟩
  have CW : Hid (∀ (P : List (List Int × List Int)) (U N : List Int), Byt U → Byt N → P.length ≤ 1000000 → ∀ (v : Value) (W : World), Sl W v P → Calls Try.prog 31 #[v, .agg (cv U N), .int .i64 (most : Int)] W fun e w' => ((∃ u, e = .returned (.tuple #[u, .int .i64 0]) ∧ (minusL P (U, N)).length ≤ most ∧ w'.ownsRow W.heap.size 30 26 u (minusL P (U, N)).length (ccells (minusL P (U, N)))) ∨ (e = .returned (.tuple #[.slice none 0 0, .int .i64 4]) ∧ most < (minusL P (U, N)).length)) ∧ Below W.heap.size W w') := fun P U N h1 h2 h3 v W h4 => without_any P U N h1 h2 most hmost h3 v W h4
  have HR : Hid (R = if most < 1 then none else leftGo most [(can V M, M)] L) := hR
  rw [← hmo, ← hR]
  clear hs hne hV hM hmo hR
  go_enter Try.func15, Try.ntmps15
  go_wp2_with fail
  refine (C1.out _).mono ?_
  rintro e w1 ⟨rfl, hb1⟩
  have g0 : w1.heap[w.heap.size]? = some (.cells (cv V M) 30 (0, 0)) := by rw [hb1.block _ (by simp)]; exact heap_new _ _ _ rfl
  have B1 : Below w.heap.size w w1 := ((Below.refl _ _).alloc (Nat.le_refl _) _).trans (hb1.mono (by simp))
  clear hb1 C1
  go_wp2_with (first
    | (refine wl_loadC rfl _ rfl w.heap.size rfl V M g0 hVl hMl ?_))
  refine (C2.out _).mono ?_
  rintro e w2 ⟨rfl, hb2⟩
  have B2 := B1.trans (hb2.mono B1.size)
  have B3 := B2.alloc B2.size (.cells (cv (can V M) M) 30)
  clear hb2 C2 B1 g0
  by_cases hm1 : most < 1
  · go_wp2_with (first
      | (refine wl_build1 rfl _ rfl (can V M) M hCl hMl rfl ?_))
    go_ret2
    refine ⟨.inr ⟨?_, rfl⟩, B3⟩
    rw [HR.out, if_pos hm1]
  · have HSL : Hid (Sl (w2.alloc (.cells (cv (can V M) M) 30)) (.slice (some ⟨w2.heap.size, 0, none⟩) 1 1) [(can V M, M)]) := sl_one w2 _ _ HCB.out.1 HCB.out.2
    have HR2 : Hid (leftGo most [(can V M, M)] L = R) := by show _ = _; rw [HR.out, if_neg hm1]
    clear HR
    go_wp2_with (first
      | (refine wl_build1 rfl _ rfl (can V M) M hCl hMl rfl ?_))
    go_loopw [8, 24] (fun pc i wr => ∃ k : Nat, k ≤ n ∧ i = .int .i64 k ∧ ∃ P, P.length ≤ most ∧ leftGo most P (L.drop k) = R ∧ Sl wr pc P ∧ Below w.heap.size w wr) (fun _ i _ => n - (intOf i).toNat)
    case atStart => exact ⟨0, Nat.zero_le _, rfl, _, by simp; omega, HR2.out, HSL.out, B3⟩
    case round =>
      clear HSL HR2 B3 B2
      obtain ⟨k, hk, rfl, P, hP, hgo, hsl, hb⟩ := hrel
      have HGO : Hid (leftGo most P (L.drop k) = R) := hgo
      have HSL : Hid (Sl wr u8 P) := hsl
      clear hgo hsl
      by_cases hlt : k < n
      · obtain ⟨g, off, cur, t, fr, U, N, rfl, hg, hc, hLk, hU, hN⟩ := HS.out.at k hlt
        have hUl := hU.1
        have hNl := hN.1
        have hg' : wr.heap[g]? = some (.cells cur t fr) := (hb.block g (Array.getElem?_eq_some_iff.1 hg).1).trans hg
        have HC : Hid (∀ j, j < 26 → cur[off + k * 26 + j]? = (cv U N)[j]?) := hc
        have D1 : Hid (∀ W, Sl W u8 P → Calls Try.prog 31 #[u8, .agg (cv U N), .int .i64 (most : Int)] W fun e w' => ((∃ u, e = .returned (.tuple #[u, .int .i64 0]) ∧ (minusL P (U, N)).length ≤ most ∧ w'.ownsRow W.heap.size 30 26 u (minusL P (U, N)).length (ccells (minusL P (U, N)))) ∨ (e = .returned (.tuple #[.slice none 0 0, .int .i64 4]) ∧ most < (minusL P (U, N)).length)) ∧ Below W.heap.size W w') := fun W h => CW.out P U N hU hN (by omega) u8 W h
        have HST : Hid (leftGo most P (L.drop k) = if most < (minusL P (U, N)).length then none else leftGo most (minusL P (U, N)) (L.drop (k + 1))) := leftGo_cons hLk
        have k1 := heap_new wr (.cells (cv U N) 30) _ rfl
        have B2 := hb.alloc hb.size (.cells (cv U N) 30)
        have HSL2 : Hid (Sl (wr.alloc (.cells (cv U N) 30)) u8 P) := HSL.out.below ((Below.refl _ _).alloc (Nat.le_refl _) _)
        clear hg hc hLk hU hN
        go_wp2_with (first
          | (refine wl_loadCat rfl _ rfl g (off + k * 26) rfl cur t fr U N hUl hNl hg' HC.out ?_)
          | (refine wl_storeC rfl _ _ rfl wr.heap.size U N rfl rfl _ (heap_new _ _ _ rfl) rfl hUl hNl _ (setRow_new _ _ _ _ _ rfl) ?_)
          | (refine wl_loadC rfl _ rfl wr.heap.size rfl U N k1 hUl hNl ?_))
        refine (D1.out _ HSL2.out).mono ?_
        rintro e w4 ⟨⟨u, rfl, hle, hown⟩ | ⟨rfl, hgt⟩, hb4⟩
        · have B4 := B2.trans (hb4.mono B2.size)
          have HS4 : Hid (Sl w4 u (minusL P (U, N))) := sl_of hown (byts_minusL P HSL.out.byts (U, N))
          have HLE : Hid ((minusL P (U, N)).length ≤ most) := hle
          clear hle hown hb4 D1 HSL2 HSL k1 B2 hg'
          go_wp2_with fail
          go_roundw
          case rel =>
            refine ⟨k + 1, by omega, by go_num, _, HLE.out, ?_, HS4.out, B4⟩
            have := HGO.out
            rwa [HST.out, if_neg (Nat.not_lt.2 HLE.out)] at this
          case measure => simp [intOf]; omega
        · have B4 := B2.trans (hb4.mono B2.size)
          have HGT : Hid (most < (minusL P (U, N)).length) := hgt
          clear hgt hb4 D1 HSL2 HSL k1 B2 hg'
          go_wp2_with fail
          go_ret2
          refine ⟨.inr ⟨?_, rfl⟩, B4⟩
          have := HGO.out
          rw [HST.out, if_pos HGT.out] at this
          exact this.symm
      · obtain rfl : k = n := by omega
        go_wp2_with fail
        go_ret2
        refine ⟨.inl ⟨P, _, ?_, by omega, rfl, HSL.out⟩, hb⟩
        have := HGO.out
        rw [HN.out, List.drop_length] at this
        exact this.symm
end Go.Proofs.Ytjlghkiplapodaa
