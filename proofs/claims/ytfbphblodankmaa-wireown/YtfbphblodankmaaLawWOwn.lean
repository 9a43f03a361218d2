import Derived.Test.YtfbphblodankmaaWCubeM
import Derived.Test.YtfbphblodankmaaWAwake
import Derived.Test.YtfbphblodankmaaLawWSeals
namespace Go.Proofs.Ytfbphblodankmaa
open Go Go.RowKit
set_option maxRecDepth 20000

theorem BOwn.grown {B : Nat} {w w' : World} {v : Value} {L : List UInt8} (h : BOwn B w v L) {row : Option Nat} (hg : w.grownBy w' row) (hne : ∀ g, v.ownBlock = some g → row ≠ some g) : BOwn B w' v L := by
  obtain ⟨h1, h2 | ⟨g, cap, cur, rfl, hB, hcur, h3⟩⟩ := h
  · exact ⟨h1, .inl h2⟩
  · exact ⟨h1, .inr ⟨g, cap, cur, rfl, hB, (hg.block g (Array.getElem?_eq_some_iff.1 hcur).1 fun e => hne g rfl e.symm).trans hcur, h3⟩⟩
def E8 : List UInt8 := [1, 2, 3, 4, 5, 6, 7, 8]
theorem own_e8 (w : World) : BOwn w.heap.size (w.alloc (.cells #[.int .u8 1, .int .u8 2, .int .u8 3, .int .u8 4, .int .u8 5, .int .u8 6, .int .u8 7, .int .u8 8] 5)) (.slice (some ⟨w.heap.size, 0, none⟩) 8 8) E8 := own_lit w E8 (by simp [E8])
theorem own_at {B : Nat} {w : World} {v : Value} {L : List UInt8} (h : BOwn B w v L) (h0 : L ≠ []) : ∃ g cap, v = .slice (some ⟨g, 0, none⟩) L.length cap ∧ B ≤ g ∧ g < w.heap.size ∧ L.length ≤ cap ∧ cap ≤ maxLen := by
  obtain ⟨h1, ⟨rfl, h2⟩ | ⟨g, cap, cur, rfl, hB, hcur, h5, h6, _⟩⟩ := h
  · exact absurd (List.eq_nil_of_length_eq_zero h2) h0
  · exact ⟨g, cap, rfl, hB, (Array.getElem?_eq_some_iff.1 hcur).1, h5, h6⟩

set_option maxHeartbeats 16000000 in
theorem lawWOwn_any (v : Value) (L : List UInt8) (V M : List Int) (hV : Byt V) (hM : Byt M) (w : World) (hL : BSl w v L) (hl : L.length ≤ 140737488351232) :
    Calls Try.prog 8 #[v, .agg (cv V M)] w fun e w' => e = .returned (.bool true) ∧ Below w.heap.size w w' := by
  have CA : Hid (∀ W, Calls Try.prog 9 #[] W fun e w' => e = .returned (.bool true) ∧ Below W.heap.size W w') := awake9_any
  have HL : Hid (BSl w v L) := hL
  obtain ⟨ov, cx, hv, hc1, hc2⟩ := hL.slice
  subst hv
  obtain ⟨nl, hnl⟩ : ∃ nl, nl = L.length := ⟨_, rfl⟩
  have HN : Hid (nl = L.length) := hnl
  rw [← hnl] at HL hc1 hL hl ⊢
  clear hnl hL
  unfold maxLen at hc2
  have hVl := hV.1
  have hMl := hM.1
  have CB : Hid (∀ W, Below w.heap.size w W → Calls Try.prog 23 #[.slice ov nl cx] W fun e w' => ∃ u, e = .returned u ∧ BOwn W.heap.size w' u L ∧ Below W.heap.size W w') := fun W hW => rbytes_any _ L W (HL.out.below hW) (by rw [← HN.out]; omega)
  have CP : Hid (∀ (u : Value) W, BSl W u L → Calls Try.prog 10 #[u, .int .u64 7, .int .i64 8] W fun e w' => ∃ u, e = .returned (.tuple #[u, .int .i64 0]) ∧ BOwn W.heap.size w' u (L ++ beB 8 7) ∧ Below W.heap.size W w') := fun u W hW => by
    have := put_any u L 7 8 W hW (by rw [← HN.out]; omega)
    have e : putT L 7 8 = (L ++ beB 8 7, 0) := rfl
    rw [e] at this
    exact this
  have CC : Hid (∀ (u : Value) W, BSl W u L → Calls Try.prog 15 #[u, .agg (cv V M)] W fun e w' => ∃ u, e = .returned u ∧ BOwn W.heap.size w' u (L ++ cubeB (can V M) M) ∧ Below W.heap.size W w') := fun u W hW => putCube_any u L V M hV hM W hW (by rw [← HN.out]; omega)
  obtain ⟨S, hS⟩ : ∃ S, S = (sealT 9 L).1 := ⟨_, rfl⟩
  obtain ⟨SE, hSE⟩ : ∃ S, S = (sealT 9 L).2 := ⟨_, rfl⟩
  have CS : Hid (∀ (u : Value) W, BSl W u L → Calls Try.prog 20 #[.int .i64 9, u] W fun e w' => ∃ u, e = .returned (.tuple #[u, .int .i64 SE]) ∧ BOwn W.heap.size w' u S ∧ Below W.heap.size W w') := fun u W hW => by rw [hS, hSE]; exact seal_any 9 u L W hW
  obtain ⟨P, hP⟩ : ∃ P, P = (openT S).2.1 := ⟨_, rfl⟩
  obtain ⟨PK, hPK⟩ : ∃ P, P = (openT S).1 := ⟨_, rfl⟩
  obtain ⟨PE, hPE⟩ : ∃ P, P = (openT S).2.2 := ⟨_, rfl⟩
  have HSL : Hid (S.length ≤ 140737488355328) := by
    rw [hS]
    rcases sealT_cases 9 L with ⟨h, _⟩ | ⟨q, _, _, h3, h4⟩
    · rw [h]; simp [Hid]
    · rw [h4]; show (sealB q L).length ≤ _; rw [seal_len]; omega
  have CO : Hid (∀ (u : Value) W, BSl W u S → Calls Try.prog 22 #[u] W fun e w' => ∃ u, e = .returned (.tuple #[.int .i64 PK, u, .int .i64 PE]) ∧ BOwn W.heap.size w' u P ∧ Below W.heap.size W w') := fun u W hW => by rw [hP, hPK, hPE]; exact wopen_any u S W hW HSL.out
  have HPL : Hid (L.length ≤ 65535 → P = L) := fun h => by
    have e : sealT 9 L = (sealB 9 L, 0) := by unfold sealT; rw [if_pos (by decide), if_pos h]; rfl
    rw [hP, hS, e, openT_seal 9 (by decide) L h]
  clear hS hSE hP hPK hPE hV hM
  have g0 := heap_new w (.cells (cv V M) 36) _ rfl
  have B0 : Below w.heap.size w (w.alloc (.cells (cv V M) 36)) := (Below.refl _ _).alloc (Nat.le_refl _) _
  go_enter Try.func8, Try.ntmps8
  go_wp2_with fail
  refine (CA.out _).mono ?_
  rintro e w1 ⟨rfl, hb1⟩
  have g1 : w1.heap[w.heap.size]? = some (.cells (cv V M) 36 (0, 0)) := (hb1.block _ (by simp)).trans g0
  have B1 : Below w.heap.size w w1 := B0.trans (hb1.mono (by simp))
  have z1 : w.heap.size < w1.heap.size := (Array.getElem?_eq_some_iff.1 g1).1
  clear g0 B0 hb1
  go_wp2_with fail
  refine (CB.out _ B1).mono ?_
  rintro e w2 ⟨u, rfl, ho2, hb2⟩
  obtain ⟨o2, n2, c2, rfl⟩ := val_slice ho2.sl
  have g2 : w2.heap[w.heap.size]? = some (.cells (cv V M) 36 (0, 0)) := (hb2.block _ z1).trans g1
  have z2 := hb2.size
  have HB2 : Hid (Below w1.heap.size w1 w2) := hb2
  have HO2 : Hid (BOwn w1.heap.size w2 (.slice o2 n2 c2) L) := ho2
  clear ho2 hb2 g1
  go_wp2_with (first
    | (at_builtin; refine of_stopW ?_))
  unfold StopW
  have HE : Hid (BSl (w2.alloc (.cells #[.int .u8 1, .int .u8 2, .int .u8 3, .int .u8 4, .int .u8 5, .int .u8 6, .int .u8 7, .int .u8 8] 5)) (.slice (some ⟨w2.heap.size, 0, none⟩) 8 8) E8) := (own_e8 w2).sl
  have HO2a : Hid (BOwn w1.heap.size (w2.alloc (.cells #[.int .u8 1, .int .u8 2, .int .u8 3, .int .u8 4, .int .u8 5, .int .u8 6, .int .u8 7, .int .u8 8] 5)) (.slice o2 n2 c2) L) := HO2.out.below ((Below.refl _ _).alloc (Nat.le_refl _) _)
  have HB2a : Hid (Below w1.heap.size w1 (w2.alloc (.cells #[.int .u8 1, .int .u8 2, .int .u8 3, .int .u8 4, .int .u8 5, .int .u8 6, .int .u8 7, .int .u8 8] 5))) := HB2.out.alloc z2 _
  have g2a := heap_past w2 (.cells #[.int .u8 1, .int .u8 2, .int .u8 3, .int .u8 4, .int .u8 5, .int .u8 6, .int .u8 7, .int .u8 8] 5) _ _ g2
  refine wl_appW rfl _ _ rfl w1.heap.size (.slice o2 n2 c2) _ L E8 rfl HO2a.out rfl HE.out (by rw [← HN.out]; simp [E8]; omega) HB2a.out.size ?_
  intro v3 w3 ho3 hgr _
  have HB3 : Hid (Below w1.heap.size w1 w3) := HB2a.out.grown hgr HB2a.out.size fun q hq => (HO2a.out.ge q hq).1
  have B3 : Below w.heap.size w w3 := B1.trans (HB3.out.mono B1.size)
  have g3 : w3.heap[w.heap.size]? = some (.cells (cv V M) 36 (0, 0)) := by
    rw [hgr.block _ (by simp; omega) (fun e => by have := (HO2a.out.ge _ e.symm).1; omega)]
    exact g2a
  have hR : L ++ E8 ≠ [] := by simp [E8]
  have hRl : (L ++ E8).length = nl + 8 := by rw [List.length_append, ← HN.out]; rfl
  obtain ⟨gr, cr, rfl, hgr1, hgr2, hcr1, hcr2⟩ := own_at ho3 hR
  rw [hRl] at ho3 hcr1 ⊢
  have HR3 : Hid (BOwn w1.heap.size w3 (.slice (some ⟨gr, 0, none⟩) (nl + 8) cr) (L ++ E8)) := ho3
  have HI3 : Hid (BSl w3 (.slice (some ⟨gr, 0, none⟩) nl cr) L) := by
    have := ho3.sl.part gr 0 0 nl cr rfl (by omega) (by omega) hcr2
    rw [Nat.zero_add, List.drop_zero, List.take_left' HN.out.symm] at this
    exact this
  unfold maxLen at hcr2
  have z3 : w1.heap.size ≤ w3.heap.size := HB3.out.size
  simp only [Act.put, List.setIfInBounds_toArray, List.set_cons_succ, List.set_cons_zero]
  clear ho3 hgr HE HO2a HB2a g2a g2 HB2 HO2 hR hRl
  go_wp2_with fail
  refine (CP.out _ _ HI3.out).mono ?_
  rintro e w4 ⟨u, rfl, ho4, hb4⟩
  obtain ⟨ox, nx, cxx, rfl⟩ := val_slice ho4.sl
  have HX4 : Hid (BOwn w3.heap.size w4 (.slice ox nx cxx) (L ++ beB 8 7)) := ho4
  have HB4 : Hid (Below w3.heap.size w3 w4) := hb4
  have z4 := hb4.size
  have g4 : w4.heap[w.heap.size]? = some (.cells (cv V M) 36 (0, 0)) := (hb4.block _ (by omega)).trans g3
  have HI4 : Hid (BSl w4 (.slice (some ⟨gr, 0, none⟩) nl cr) L) := HI3.out.below hb4
  clear ho4 hb4
  go_wp2_with (first
    | (refine wl_loadC rfl _ rfl w.heap.size rfl V M g4 hVl hMl ?_))
  refine (CC.out _ _ HI4.out).mono ?_
  rintro e w5 ⟨u, rfl, ho5, hb5⟩
  obtain ⟨oy, ny, cy, rfl⟩ := val_slice ho5.sl
  have HY5 : Hid (BOwn w4.heap.size w5 (.slice oy ny cy) (L ++ cubeB (can V M) M)) := ho5
  have HB5 : Hid (Below w4.heap.size w4 w5) := hb5
  have z5 := hb5.size
  have HI5 : Hid (BSl w5 (.slice (some ⟨gr, 0, none⟩) nl cr) L) := HI4.out.below hb5
  clear ho5 hb5
  go_wp2_with fail
  refine (CS.out _ _ HI5.out).mono ?_
  rintro e w6 ⟨u, rfl, ho6, hb6⟩
  obtain ⟨oz, nz, cz, rfl⟩ := val_slice ho6.sl
  have HZ6 : Hid (BOwn w5.heap.size w6 (.slice oz nz cz) S) := ho6
  have HB6 : Hid (Below w5.heap.size w5 w6) := hb6
  have z6 := hb6.size
  clear ho6 hb6
  go_wp2_with fail
  refine (CO.out _ _ HZ6.out.sl).mono ?_
  rintro e w7 ⟨u, rfl, ho7, hb7⟩
  obtain ⟨ou, nu, cu, rfl⟩ := val_slice ho7.sl
  have HB7 : Hid (Below w6.heap.size w6 w7) := hb7
  have z7 := hb7.size
  have B47 : Below w4.heap.size w4 w7 := (HB5.out.trans (HB6.out.mono z5)).trans (HB7.out.mono (Nat.le_trans z5 z6))
  have HX : Hid (BOwn w3.heap.size w7 (.slice ox nx cxx) (L ++ beB 8 7)) := HX4.out.below B47
  have HY : Hid (BOwn w4.heap.size w7 (.slice oy ny cy) (L ++ cubeB (can V M) M)) := HY5.out.below ((HB6.out.trans (HB7.out.mono z6)))
  have HZ : Hid (BOwn w5.heap.size w7 (.slice oz nz cz) S) := HZ6.out.below HB7.out
  have HU : Hid (BOwn w6.heap.size w7 (.slice ou nu cu) P) := ho7
  have HF : Hid (Below w3.heap.size w3 w7) := HB4.out.trans (B47.mono z4)
  have HXG : Hid (∀ g, (Value.slice ox nx cxx).ownBlock = some g → w3.heap.size ≤ g ∧ g < w4.heap.size) := HX4.out.ge
  have HYG : Hid (∀ g, (Value.slice oy ny cy).ownBlock = some g → w4.heap.size ≤ g ∧ g < w5.heap.size) := HY5.out.ge
  have HZG : Hid (∀ g, (Value.slice oz nz cz).ownBlock = some g → w5.heap.size ≤ g ∧ g < w6.heap.size) := HZ6.out.ge
  have HUG : Hid (∀ g, (Value.slice ou nu cu).ownBlock = some g → w6.heap.size ≤ g ∧ g < w7.heap.size) := ho7.ge
  have HXL : Hid (nx ≤ 140737488355328) := by rw [HX4.out.sl.len]; show _ ≤ _; rw [List.length_append, ← HN.out, beB_len]; omega
  have HYL : Hid (ny ≤ 140737488355328) := by rw [HY5.out.sl.len]; show _ ≤ _; unfold cubeB; rw [List.length_append, List.length_append, ← HN.out, toB_len, toB_len, (can_byt V M).1, hMl]; omega
  have HUL : Hid (nu ≤ 9223372036854775807) := by have := ho7.sl.slice; obtain ⟨o, c, e, h1, h2⟩ := this; simp only [Value.slice.injEq] at e; obtain ⟨_, e, rfl⟩ := e; unfold maxLen at h2; show _ ≤ _; omega
  clear ho7 hb7 B47 HX4 HY5 HZ6 HI4 HI5 g4 HB4 HB5 HB6 HB7
  go_wp2_with fail
  have HXN : Hid (∃ D : List UInt8, D.length = nx ∧ BOwn w3.heap.size w7 (.slice ox nx cxx) D) := ⟨_, HX.out.sl.len.symm, HX.out⟩
  have hlimnx : (0 : Int) ≤ (nx : Int) ∧ (nx : Int) ≤ 9223372036854775806 := ⟨by omega, by have := HXL.out; omega⟩
  go_loopw [15] (fun i W => ∃ k : Nat, k ≤ nx ∧ i = .int .i64 k ∧ (∃ D : List UInt8, D.length = nx ∧ BOwn w3.heap.size W (.slice ox nx cxx) D) ∧ w7.grownBy W (Value.slice ox nx cxx).ownBlock) (fun i _ => nx - (intOf i).toNat)
  case atStart => exact ⟨0, Nat.zero_le _, rfl, HXN.out, ⟨rfl, rfl, rfl, Nat.le_refl _, fun _ _ _ => rfl⟩⟩
  case round =>
    obtain ⟨k, hk, rfl, hD, hgw⟩ := hrel
    have HGW : Hid (w7.grownBy wr (Value.slice ox nx cxx).ownBlock) := hgw
    by_cases hlt : k < nx
    · obtain ⟨D, hDl, hDo⟩ := hD
      obtain ⟨gx, capx, e, _, _, _, _⟩ := own_at hDo (by intro h; rw [h] at hDl; simp at hDl; omega)
      simp only [Value.slice.injEq] at e
      obtain ⟨rfl, _, rfl⟩ := e
      obtain ⟨_, _, xb, e, hcc, _⟩ := hDo.sl.at k hlt
      simp only [Option.some.injEq, Addr.mk.injEq, and_true] at e
      obtain ⟨rfl, rfl⟩ := e
      rw [Nat.zero_add] at hcc
      have hff : wr.frozen? ⟨gx, k, none⟩ = false := World.ownsRow.frozenAt (n := nx) (by have := hDo; unfold BOwn at this; rw [hDl] at this; exact this) k
      have HD2 : Hid (∃ D : List UInt8, D.length = nx ∧ BOwn w3.heap.size (wr.setCell ⟨gx, k, none⟩ (.int .u8 99)) (.slice (some ⟨gx, 0, none⟩) nx cxx) D) := ⟨D.set k 99, by rw [List.length_set]; exact hDl, hDo.set k 99⟩
      have HG2 : Hid (w7.grownBy (wr.setCell ⟨gx, k, none⟩ (.int .u8 99)) (some gx)) := HGW.out.trans ⟨rfl, rfl, rfl, by simp, fun q _ hq => heap_setCell_other wr ⟨gx, k, none⟩ q _ (fun e => hq (by simp [Value.ownBlock, e]))⟩
      clear hDl hDo hgw
      go_wp2_with fail
      refine ⟨⟨k + 1, by omega, by go_num, HD2.out, HG2.out⟩, by simp [intOf]; omega⟩
    · clear hD hgw
      obtain ⟨w8, hw8⟩ : ∃ W : World, W = wr := ⟨_, rfl⟩
      rw [← hw8] at HGW ⊢
      clear hw8 wr
      have z8 := HGW.out.size
      have HF8 : Hid (Below w3.heap.size w3 w8) := HF.out.grown HGW.out HF.out.size fun q hq => (HXG.out q hq).1
      have HY8 : Hid (BOwn w4.heap.size w8 (.slice oy ny cy) (L ++ cubeB (can V M) M)) := HY.out.grown HGW.out fun g hg h => by have h1 := HYG.out g hg; have h2 := HXG.out g h; omega
      have HZ8 : Hid (BOwn w5.heap.size w8 (.slice oz nz cz) S) := HZ.out.grown HGW.out fun g hg h => by have h1 := HZG.out g hg; have h2 := HXG.out g h; omega
      have HU8 : Hid (BOwn w6.heap.size w8 (.slice ou nu cu) P) := HU.out.grown HGW.out fun g hg h => by have h1 := HUG.out g hg; have h2 := HXG.out g h; omega
      clear HF HY HZ HU HX HXN HGW
      go_wp2_with fail
      have HY8N : Hid (∃ D : List UInt8, D.length = ny ∧ BOwn w4.heap.size w8 (.slice oy ny cy) D) := ⟨_, HY8.out.sl.len.symm, HY8.out⟩
      have hlimny : (0 : Int) ≤ (ny : Int) ∧ (ny : Int) ≤ 9223372036854775806 := ⟨by omega, by have := HYL.out; omega⟩
      go_loopw [16] (fun i W => ∃ k : Nat, k ≤ ny ∧ i = .int .i64 k ∧ (∃ D : List UInt8, D.length = ny ∧ BOwn w4.heap.size W (.slice oy ny cy) D) ∧ w8.grownBy W (Value.slice oy ny cy).ownBlock) (fun i _ => ny - (intOf i).toNat)
      case atStart => exact ⟨0, Nat.zero_le _, rfl, HY8N.out, ⟨rfl, rfl, rfl, Nat.le_refl _, fun _ _ _ => rfl⟩⟩
      case round =>
        obtain ⟨k, hk, rfl, hD, hgw⟩ := hrel
        have HGW : Hid (w8.grownBy wr (Value.slice oy ny cy).ownBlock) := hgw
        by_cases hlt : k < ny
        · obtain ⟨D, hDl, hDo⟩ := hD
          obtain ⟨gx, capx, e, _, _, _, _⟩ := own_at hDo (by intro h; rw [h] at hDl; simp at hDl; omega)
          simp only [Value.slice.injEq] at e
          obtain ⟨rfl, _, rfl⟩ := e
          obtain ⟨_, _, xb, e, hcc, _⟩ := hDo.sl.at k hlt
          simp only [Option.some.injEq, Addr.mk.injEq, and_true] at e
          obtain ⟨rfl, rfl⟩ := e
          rw [Nat.zero_add] at hcc
          have hff : wr.frozen? ⟨gx, k, none⟩ = false := World.ownsRow.frozenAt (n := ny) (by have := hDo; unfold BOwn at this; rw [hDl] at this; exact this) k
          have HD2 : Hid (∃ D : List UInt8, D.length = ny ∧ BOwn w4.heap.size (wr.setCell ⟨gx, k, none⟩ (.int .u8 98)) (.slice (some ⟨gx, 0, none⟩) ny cy) D) := ⟨D.set k 98, by rw [List.length_set]; exact hDl, hDo.set k 98⟩
          have HG2 : Hid (w8.grownBy (wr.setCell ⟨gx, k, none⟩ (.int .u8 98)) (some gx)) := HGW.out.trans ⟨rfl, rfl, rfl, by simp, fun q _ hq => heap_setCell_other wr ⟨gx, k, none⟩ q _ (fun e => hq (by simp [Value.ownBlock, e]))⟩
          clear hDl hDo hgw
          go_wp2_with fail
          refine ⟨⟨k + 1, by omega, by go_num, HD2.out, HG2.out⟩, by simp [intOf]; omega⟩
        · clear hD hgw
          obtain ⟨w9, hw9⟩ : ∃ W : World, W = wr := ⟨_, rfl⟩
          rw [← hw9] at HGW ⊢
          clear hw9 wr
          have z9 := HGW.out.size
          have HF9 : Hid (Below w3.heap.size w3 w9) := HF8.out.grown HGW.out HF8.out.size fun q hq => by have := (HYG.out q hq).1; omega
          have HZ9 : Hid (BOwn w5.heap.size w9 (.slice oz nz cz) S) := HZ8.out.grown HGW.out fun g hg h => by have h1 := HZG.out g hg; have h2 := HYG.out g h; omega
          have HU9 : Hid (BOwn w6.heap.size w9 (.slice ou nu cu) P) := HU8.out.grown HGW.out fun g hg h => by have h1 := HUG.out g hg; have h2 := HYG.out g h; omega
          clear HF8 HZ8 HU8 HY8 HY8N HGW
          go_wp2_with fail
          have HU9N : Hid (∃ D : List UInt8, D.length = nu ∧ BOwn w6.heap.size w9 (.slice ou nu cu) D) := ⟨_, HU9.out.sl.len.symm, HU9.out⟩
          have hlimnu : (0 : Int) ≤ (nu : Int) ∧ (nu : Int) ≤ 9223372036854775807 := ⟨by omega, by have := HUL.out; omega⟩
          go_loopw [17] (fun i W => ∃ k : Nat, k ≤ nu ∧ i = .int .i64 k ∧ (∃ D : List UInt8, D.length = nu ∧ BOwn w6.heap.size W (.slice ou nu cu) D) ∧ w9.grownBy W (Value.slice ou nu cu).ownBlock) (fun i _ => nu - (intOf i).toNat)
          case atStart => exact ⟨0, Nat.zero_le _, rfl, HU9N.out, ⟨rfl, rfl, rfl, Nat.le_refl _, fun _ _ _ => rfl⟩⟩
          case round =>
            obtain ⟨k, hk, rfl, hD, hgw⟩ := hrel
            have HGW : Hid (w9.grownBy wr (Value.slice ou nu cu).ownBlock) := hgw
            by_cases hlt : k < nu
            · obtain ⟨D, hDl, hDo⟩ := hD
              obtain ⟨gx, capx, e, _, _, _, _⟩ := own_at hDo (by intro h; rw [h] at hDl; simp at hDl; omega)
              simp only [Value.slice.injEq] at e
              obtain ⟨rfl, _, rfl⟩ := e
              obtain ⟨_, _, xb, e, hcc, _⟩ := hDo.sl.at k hlt
              simp only [Option.some.injEq, Addr.mk.injEq, and_true] at e
              obtain ⟨rfl, rfl⟩ := e
              rw [Nat.zero_add] at hcc
              have hff : wr.frozen? ⟨gx, k, none⟩ = false := World.ownsRow.frozenAt (n := nu) (by have := hDo; unfold BOwn at this; rw [hDl] at this; exact this) k
              have HD2 : Hid (∃ D : List UInt8, D.length = nu ∧ BOwn w6.heap.size (wr.setCell ⟨gx, k, none⟩ (.int .u8 97)) (.slice (some ⟨gx, 0, none⟩) nu cu) D) := ⟨D.set k 97, by rw [List.length_set]; exact hDl, hDo.set k 97⟩
              have HG2 : Hid (w9.grownBy (wr.setCell ⟨gx, k, none⟩ (.int .u8 97)) (some gx)) := HGW.out.trans ⟨rfl, rfl, rfl, by simp, fun q _ hq => heap_setCell_other wr ⟨gx, k, none⟩ q _ (fun e => hq (by simp [Value.ownBlock, e]))⟩
              clear hDl hDo hgw
              go_wp2_with fail
              refine ⟨⟨k + 1, by omega, by go_num, HD2.out, HG2.out⟩, by simp [intOf]; omega⟩
            · clear hD hgw
              obtain ⟨w10, hw10⟩ : ∃ W : World, W = wr := ⟨_, rfl⟩
              rw [← hw10] at HGW ⊢
              clear hw10 wr
              have HF10 : Hid (Below w3.heap.size w3 w10) := HF9.out.grown HGW.out HF9.out.size fun q hq => by have := (HUG.out q hq).1; omega
              have HZ10 : Hid (BSl w10 (.slice oz nz cz) S) := (HZ9.out.grown HGW.out fun g hg h => by have h1 := HZG.out g hg; have h2 := HUG.out g h; omega).sl
              clear HF9 HZ9 HU9 HU9N HGW
              go_wp2_with fail
              refine (CO.out _ _ HZ10.out).mono ?_
              rintro e w11 ⟨u, rfl, ho11, hb11⟩
              obtain ⟨ot, nt, ct, rfl⟩ := val_slice ho11.sl
              have HV11 : Hid (BSl w11 (.slice ot nt ct) P) := ho11.sl
              have HF11 : Hid (Below w3.heap.size w3 w11) := HF10.out.trans (hb11.mono HF10.out.size)
              have HG11 : Hid (Below w.heap.size w w11) := B3.trans (HF11.out.mono B3.size)
              clear ho11 hb11 HF10 HZ10
              go_wp2_with fail
              refine (CB.out _ HG11.out).mono ?_
              rintro e w12 ⟨u, rfl, ho12, hb12⟩
              obtain ⟨oc, nc, cc, rfl⟩ := val_slice ho12.sl
              have HO12 : Hid (BOwn w11.heap.size w12 (.slice oc nc cc) L) := ho12
              have HB12 : Hid (Below w11.heap.size w11 w12) := hb12
              have z12 := hb12.size
              clear ho12 hb12
              go_wp2_with (first
                | (at_builtin; refine of_stopW ?_))
              unfold StopW
              have HE : Hid (BSl (w12.alloc (.cells #[.int .u8 1, .int .u8 2, .int .u8 3, .int .u8 4, .int .u8 5, .int .u8 6, .int .u8 7, .int .u8 8] 5)) (.slice (some ⟨w12.heap.size, 0, none⟩) 8 8) E8) := (own_e8 w12).sl
              have HOa : Hid (BOwn w11.heap.size (w12.alloc (.cells #[.int .u8 1, .int .u8 2, .int .u8 3, .int .u8 4, .int .u8 5, .int .u8 6, .int .u8 7, .int .u8 8] 5)) (.slice oc nc cc) L) := HO12.out.below ((Below.refl _ _).alloc (Nat.le_refl _) _)
              have HBa : Hid (Below w11.heap.size w11 (w12.alloc (.cells #[.int .u8 1, .int .u8 2, .int .u8 3, .int .u8 4, .int .u8 5, .int .u8 6, .int .u8 7, .int .u8 8] 5))) := HB12.out.alloc z12 _
              refine wl_appW rfl _ _ rfl w11.heap.size (.slice oc nc cc) _ L E8 rfl HOa.out rfl HE.out (by rw [← HN.out]; simp [E8]; omega) HBa.out.size ?_
              intro v13 w13 ho13 hgr _
              obtain ⟨od, nd, cd, rfl⟩ := val_slice ho13.sl
              have HB13 : Hid (Below w11.heap.size w11 w13) := HBa.out.grown hgr HBa.out.size fun q hq => (HOa.out.ge q hq).1
              have HF13 : Hid (Below w3.heap.size w3 w13) := HF11.out.trans (HB13.out.mono HF11.out.size)
              have HG13 : Hid (Below w.heap.size w w13) := B3.trans (HF13.out.mono B3.size)
              have CS1 : Hid (∀ W, W = w13 → Calls Try.prog 12 #[.slice (some ⟨gr, 0, none⟩) (nl + 8) cr, .slice od nd cd] W fun e w' => e = .returned (.bool true) ∧ w' = W) := fun W hW => by
                subst hW
                have := rsameB_any _ _ _ _ W (HR3.out.sl.below HF13.out) ho13.sl
                rw [beq_self_eq_true] at this
                exact this
              have CS2 : Hid (∀ W, W = w13 → nl ≤ 65535 → Calls Try.prog 12 #[.slice ot nt ct, .slice ov nl cx] W fun e w' => e = .returned (.bool true) ∧ w' = W) := fun W hW h => by
                subst hW
                have h1 := HV11.out.below HB13.out
                rw [HPL.out (by rw [← HN.out]; exact h)] at h1
                have := rsameB_any _ _ _ _ W h1 (HL.out.below HG13.out)
                rw [beq_self_eq_true] at this
                exact this
              simp only [Act.put, List.setIfInBounds_toArray, List.set_cons_succ, List.set_cons_zero]
              clear ho13 hgr HE HOa HBa HO12 HB12
              by_cases h6 : (65535 : Int) < (nl : Int)
              · go_wp2_with (first
                  | (go_at_call 12; refine (CS1.out _ rfl).mono ?_; rintro e w14 ⟨rfl, rfl⟩))
                go_ret
                exact ⟨rfl, HG13.out⟩
              · have h6' : nl ≤ 65535 := by omega
                go_wp2_with fail
                refine (CS1.out _ rfl).mono ?_
                rintro e w14 ⟨rfl, rfl⟩
                go_wp2_with fail
                refine (CS2.out _ rfl h6').mono ?_
                rintro e w15 ⟨rfl, rfl⟩
                go_wp2_with fail
                go_ret
                exact ⟨rfl, HG13.out⟩
end Go.Proofs.Ytfbphblodankmaa
