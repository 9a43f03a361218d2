import Derived.Test.YtfbphblodankmaaWTakeC
import Derived.Test.YtfbphblodankmaaWRef3
namespace Go.Proofs.Ytfbphblodankmaa
open Go Go.RowKit
set_option maxRecDepth 20000

theorem toB_at {V : List Int} (hV : Byt V) (k : Nat) (hk : k < 13) : (toB V)[k]? = some ((toB V).getD k 0) := by
  rw [List.getElem?_eq_getElem (by rw [toB_len, hV.1]; exact hk), List.getD_eq_getElem?_getD, List.getElem?_eq_getElem (by rw [toB_len, hV.1]; exact hk)]
  rfl
theorem take_more (L D : List UInt8) (k : Nat) (c : UInt8) (h : D[k]? = some c) : L ++ D.take (k + 1) = (L ++ D.take k) ++ [c] := by
  rw [List.take_add_one, h]
  simp

set_option maxHeartbeats 8000000 in
theorem rputCube_any (v : Value) (L : List UInt8) (V M : List Int) (hV : Byt V) (hM : Byt M) (w : World) (hL : BSl w v L) (hl : L.length ≤ 140737488351232) :
    Calls Try.prog 18 #[v, .agg (cv V M)] w fun e w' => ∃ u, e = .returned u ∧ BOwn w.heap.size w' u (L ++ cubeB (can V M) M) ∧ Below w.heap.size w w' := by
  have HL : Hid (BSl w v L) := hL
  obtain ⟨ov, nv, cx, rfl⟩ : ∃ o n c, v = .slice o n c := by obtain ⟨o, c, h, _⟩ := hL.slice; exact ⟨o, _, c, h⟩
  have hVl := hV.1
  have hMl := hM.1
  have CC : Hid (∀ W, Calls Try.prog 19 #[.agg (cv V M)] W fun e w' => e = .returned (.agg (cv (can V M) M)) ∧ Below W.heap.size W w') := rcanon_any V M hV hM
  obtain ⟨C, hCd⟩ : ∃ C, C = can V M := ⟨_, rfl⟩
  have hC : Byt C := by rw [hCd]; exact can_byt V M
  have hCl := hC.1
  rw [← hCd] at CC ⊢
  clear hCd
  have HC : Hid (Byt C ∧ Byt M) := ⟨hC, hM⟩
  have CB : Hid (∀ W, Below w.heap.size w W → Calls Try.prog 23 #[.slice ov nv cx] W fun e w' => ∃ u, e = .returned u ∧ BOwn W.heap.size w' u L ∧ Below W.heap.size W w') := fun W hW => rbytes_any _ L W (HL.out.below hW) (by omega)
  have g0 := heap_new w (.cells (cv V M) 36) _ rfl
  have B0 : Below w.heap.size w (w.alloc (.cells (cv V M) 36)) := (Below.refl _ _).alloc (Nat.le_refl _) _
  clear hL hV hM hC
  go_enter Try.func18, Try.ntmps18
  go_wp2_with (first
    | (refine wl_loadC rfl _ rfl w.heap.size rfl V M g0 hVl hMl ?_))
  refine (CC.out _).mono ?_
  rintro e w1 ⟨rfl, hb1⟩
  have g1 : w1.heap[w.heap.size]? = some (.cells (cv V M) 36 (0, 0)) := (hb1.block _ (by simp)).trans g0
  have B1 : Below w.heap.size w w1 := B0.trans (hb1.mono (by simp))
  clear g0 B0 hb1
  have g2 := setRow_heap w1 w.heap.size _ (cv C M) _ _ g1
  have B2 := below_setRow B1 (Nat.le_refl w.heap.size) (cv C M)
  go_wp2_with (first
    | (refine wl_storeC rfl _ _ rfl w.heap.size C M rfl rfl _ g1 (cv_size V M hVl hMl) hCl hMl _ rfl ?_))
  refine (CB.out _ B2).mono ?_
  rintro e w3 ⟨u, rfl, ho3, hb3⟩
  have hs2 : w.heap.size < (w1.setRow w.heap.size (cv C M)).heap.size := (Array.getElem?_eq_some_iff.1 g2).1
  have g3 : w3.heap[w.heap.size]? = some (.cells (cv C M) 36 (0, 0)) := (hb3.block _ hs2).trans g2
  have B3 : Below w.heap.size w w3 := B2.trans (hb3.mono B2.size)
  have HO3 : Hid (BOwn (w.heap.size + 1) w3 u L) := ho3.base hs2
  clear ho3 hb3 g1 g2 B1 B2 hs2
  obtain ⟨o3, n3, c3, rfl⟩ := val_slice HO3.out.sl
  go_wp2_with fail
  go_loopw [0, 5] (fun b i W => ∃ k : Nat, k ≤ 13 ∧ i = .int .i64 k ∧ BOwn (w.heap.size + 1) W b (L ++ (toB C).take k) ∧ W.heap[w.heap.size]? = some (.cells (cv C M) 36 (0, 0)) ∧ Below w.heap.size w W) (fun _ i _ => 13 - (intOf i).toNat)
  case atStart => exact ⟨0, by omega, rfl, by simpa using HO3.out, g3, B3⟩
  case round =>
    clear g3 B3 HO3
    obtain ⟨k, hk, rfl, ho, gk, hb⟩ := hrel
    obtain ⟨ob, nb, cb, rfl⟩ := val_slice ho.sl
    have HO : Hid (BOwn (w.heap.size + 1) wr (.slice ob nb cb) (L ++ (toB C).take k)) := ho
    have HB : Hid (Below w.heap.size w wr) := hb
    have hsz := (Array.getElem?_eq_some_iff.1 gk).1
    clear ho hb
    by_cases hlt : k < 13
    · have cc : wr.cell? ⟨w.heap.size, k, none⟩ = some (.int .u8 (C.getD k 0)) := by rw [cell_of_row wr _ _ _ _ _ gk]; exact cv_val C M hCl k hlt
      have e := (byt_at HC.out.1 k hlt).2
      obtain ⟨x, hx⟩ : ∃ x, x = (toB C).getD k 0 := ⟨_, rfl⟩
      have HX : Hid ((toB C)[k]? = some x) := by rw [hx]; exact toB_at HC.out.1 k hlt
      rw [← hx] at e
      rw [← e] at cc
      clear e hx
      have HLN : Hid ((L ++ (toB C).take k).length ≤ 140737488351245) := by show _ ≤ _; rw [List.length_append, List.length_take]; omega
      go_wp2_with (first
        | (at_builtin; refine of_stopW ?_))
      unfold StopW
      have HS : Hid (BSl (wr.alloc (.cells #[.int .u8 (x.toNat : Int)] 5)) (.slice (some ⟨wr.heap.size, 0, none⟩) 1 1) [x]) := (own_one wr x).sl
      have HO2 : Hid (BOwn (w.heap.size + 1) (wr.alloc (.cells #[.int .u8 (x.toNat : Int)] 5)) (.slice ob nb cb) (L ++ (toB C).take k)) := HO.out.below ((Below.refl _ _).alloc (Nat.le_refl _) _)
      have HB2 : Hid (Below w.heap.size w (wr.alloc (.cells #[.int .u8 (x.toNat : Int)] 5))) := HB.out.alloc HB.out.size _
      refine wl_appW rfl _ _ rfl (w.heap.size + 1) (.slice ob nb cb) _ _ [x] rfl HO2.out rfl HS.out (by have := HLN.out; simp only [List.length_cons, List.length_nil]; omega) (by simp; omega) ?_
      intro v' w' ho hgr _
      have HO3 : Hid (BOwn (w.heap.size + 1) w' v' (L ++ (toB C).take (k + 1))) := by rw [take_more L (toB C) k x HX.out]; exact ho
      have HB3 : Hid (Below w.heap.size w w') := HB2.out.grown hgr HB2.out.size fun q hq => by have := (HO2.out.ge q hq).1; omega
      have g4 : w'.heap[w.heap.size]? = some (.cells (cv C M) 36 (0, 0)) := by
        rw [hgr.block _ (by simp; omega) (fun e => by have := (HO2.out.ge _ e.symm).1; omega)]
        exact heap_past _ _ _ _ gk
      simp only [Act.put, List.setIfInBounds_toArray, List.set_cons_succ, List.set_cons_zero]
      clear ho hgr HO2 HB2 HS cc gk
      go_wp2_with fail
      go_roundw
      case rel => exact ⟨k + 1, by omega, by go_num, HO3.out, g4, HB3.out⟩
      case measure => simp [intOf]; omega
    · obtain rfl : k = 13 := by omega
      have HO4 : Hid (BOwn (w.heap.size + 1) wr (.slice ob nb cb) (L ++ toB C)) := by
        have := HO.out
        rw [List.take_of_length_le (by rw [toB_len, hCl]; exact Nat.le_refl _)] at this
        exact this
      clear HO
      go_wp2_with fail
      go_loopw [0, 6] (fun b i W => ∃ k : Nat, k ≤ 13 ∧ i = .int .i64 k ∧ BOwn (w.heap.size + 1) W b ((L ++ toB C) ++ (toB M).take k) ∧ W.heap[w.heap.size]? = some (.cells (cv C M) 36 (0, 0)) ∧ Below w.heap.size w W) (fun _ i _ => 13 - (intOf i).toNat)
      case atStart => exact ⟨0, by omega, rfl, by simpa using HO4.out, gk, HB.out⟩
      case round =>
        clear gk HO4 HB hsz
        obtain ⟨k, hk, rfl, ho, gk, hb⟩ := hrel
        obtain ⟨od, nd, cd, rfl⟩ := val_slice ho.sl
        have HO : Hid (BOwn (w.heap.size + 1) wr (.slice od nd cd) ((L ++ toB C) ++ (toB M).take k)) := ho
        have HB : Hid (Below w.heap.size w wr) := hb
        have hsz := (Array.getElem?_eq_some_iff.1 gk).1
        clear ho hb
        by_cases hlt : k < 13
        · have cc : wr.cell? ⟨w.heap.size, 13 + k, none⟩ = some (.int .u8 (M.getD k 0)) := by rw [cell_of_row wr _ _ _ _ _ gk]; exact cv_mask C M hCl hMl k hlt
          have e := (byt_at HC.out.2 k hlt).2
          obtain ⟨x, hx⟩ : ∃ x, x = (toB M).getD k 0 := ⟨_, rfl⟩
          have HX : Hid ((toB M)[k]? = some x) := by rw [hx]; exact toB_at HC.out.2 k hlt
          rw [← hx] at e
          rw [← e] at cc
          clear e hx
          have HLN : Hid (((L ++ toB C) ++ (toB M).take k).length ≤ 140737488351258) := by show _ ≤ _; rw [List.length_append, List.length_append, List.length_take, toB_len, hCl]; omega
          go_wp2_with (first
            | (at_builtin; refine of_stopW ?_))
          unfold StopW
          have HS : Hid (BSl (wr.alloc (.cells #[.int .u8 (x.toNat : Int)] 5)) (.slice (some ⟨wr.heap.size, 0, none⟩) 1 1) [x]) := (own_one wr x).sl
          have HO2 : Hid (BOwn (w.heap.size + 1) (wr.alloc (.cells #[.int .u8 (x.toNat : Int)] 5)) (.slice od nd cd) ((L ++ toB C) ++ (toB M).take k)) := HO.out.below ((Below.refl _ _).alloc (Nat.le_refl _) _)
          have HB2 : Hid (Below w.heap.size w (wr.alloc (.cells #[.int .u8 (x.toNat : Int)] 5))) := HB.out.alloc HB.out.size _
          refine wl_appW rfl _ _ rfl (w.heap.size + 1) (.slice od nd cd) _ _ [x] rfl HO2.out rfl HS.out (by have := HLN.out; simp only [List.length_cons, List.length_nil]; omega) (by simp; omega) ?_
          intro v' w' ho hgr _
          have HO3 : Hid (BOwn (w.heap.size + 1) w' v' ((L ++ toB C) ++ (toB M).take (k + 1))) := by rw [take_more (L ++ toB C) (toB M) k x HX.out]; exact ho
          have HB3 : Hid (Below w.heap.size w w') := HB2.out.grown hgr HB2.out.size fun q hq => by have := (HO2.out.ge q hq).1; omega
          have g4 : w'.heap[w.heap.size]? = some (.cells (cv C M) 36 (0, 0)) := by
            rw [hgr.block _ (by simp; omega) (fun e => by have := (HO2.out.ge _ e.symm).1; omega)]
            exact heap_past _ _ _ _ gk
          simp only [Act.put, List.setIfInBounds_toArray, List.set_cons_succ, List.set_cons_zero]
          clear ho hgr HO2 HB2 HS cc gk
          go_wp2_with fail
          go_roundw
          case rel => exact ⟨k + 1, by omega, by go_num, HO3.out, g4, HB3.out⟩
          case measure => simp [intOf]; omega
        · obtain rfl : k = 13 := by omega
          have HO4 : Hid (BOwn w.heap.size wr (.slice od nd cd) (L ++ cubeB C M)) := by
            have := HO.out.base (Nat.le_succ w.heap.size)
            rw [List.take_of_length_le (by rw [toB_len, hMl]; exact Nat.le_refl _), List.append_assoc] at this
            exact this
          go_wp2_with fail
          go_ret
          exact ⟨_, rfl, HO4.out, HB.out⟩
end Go.Proofs.Ytfbphblodankmaa
