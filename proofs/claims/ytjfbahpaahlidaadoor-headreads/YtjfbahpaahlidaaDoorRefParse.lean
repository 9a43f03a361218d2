import Derived.Test.YtjfbahpaahlidaaDoorScan
import Derived.Test.YtjfbahpaahlidaaDoorReads
namespace Go.Proofs.YtjfbahpaahlidaaDoor
open Go Go.RowKit

theorem info22 : ∃ i, Tryd.prog.info? 22 = some i ∧ i.zero = some (.int .u32 0) ∧ i.size = 1 ∧ i.bytes = 4 := by
  cases h : Tryd.prog.info? 22 with
  | none => exact absurd (show (Tryd.prog.info? 22).isSome = true by kernel_rfl) (by rw [h]; simp)
  | some i =>
    have h1 : (Tryd.prog.info? 22).map (fun i => (i.zero, i.size, i.bytes)) = some (some (.int .u32 0), 1, 4) := by kernel_rfl
    rw [h] at h1
    simp only [Option.map_some, Option.some.injEq, Prod.mk.injEq] at h1
    exact ⟨i, rfl, h1.1, h1.2.1, h1.2.2⟩

theorem fit_at : ∀ (xs : List Int) (i j : Nat), j < xs.length → Fit i xs → 0 ≤ xs.getD j 0 ∧ xs.getD j 0 < limOf (ps (i + j))
  | [], _, _, h, _ => by simp at h
  | x :: r, i, 0, _, hf => ⟨hf.1, hf.2.1⟩
  | x :: r, i, j + 1, h, hf => by
    have := fit_at r (i + 1) j (by simpa using h) hf.2.2
    rw [show i + (j + 1) = i + 1 + j by omega]
    simpa using this
theorem fit_of : ∀ (xs : List Int) (i : Nat), (∀ j, j < xs.length → 0 ≤ xs.getD j 0 ∧ xs.getD j 0 < limOf (ps (i + j))) → Fit i xs
  | [], _, _ => trivial
  | x :: r, i, h => ⟨(h 0 (by simp)).1, (h 0 (by simp)).2, fit_of r (i + 1) fun j hj => by
      have := h (j + 1) (by simpa using hj)
      rw [show i + 1 + j = i + (j + 1) by omega]
      simpa using this⟩
def InR (xs : List Int) (k : Nat) : Prop := ∀ j, j < k → xs.getD j 0 < limOf (ps j)
theorem InR.next {xs : List Int} {k : Nat} (h : InR xs k) (hx : xs.getD k 0 < limOf (ps k)) : InR xs (k + 1) := fun j hj => by
  by_cases e : j = k
  · subst e; exact hx
  · exact h j (by omega)
theorem lim_mod (k : Nat) (hk : k < 11) : (k % 5 = 4 → limOf (ps k) = 65536) ∧ (k % 5 ≠ 4 → limOf (ps k) = 256) := by
  rcases (show k = 0 ∨ k = 1 ∨ k = 2 ∨ k = 3 ∨ k = 4 ∨ k = 5 ∨ k = 6 ∨ k = 7 ∨ k = 8 ∨ k = 9 ∨ k = 10 by omega) with h | h | h | h | h | h | h | h | h | h | h <;> subst h <;> decide

theorem make_build (n0 n1 n2 n3 n4 n5 n6 n7 n8 n9 n10 : Int) (_h0 : 0 ≤ n0 ∧ n0 < 256) (h1 : 0 ≤ n1 ∧ n1 < 256) (h2 : 0 ≤ n2 ∧ n2 < 256) (h3 : 0 ≤ n3 ∧ n3 < 256) (_h5 : 0 ≤ n5 ∧ n5 < 256) (h6 : 0 ≤ n6 ∧ n6 < 256) (h7 : 0 ≤ n7 ∧ n7 < 256) (h8 : 0 ≤ n8 ∧ n8 < 256) :
    makeN [((n0 * 256 + n1) * 256 + n2) * 256 + n3, ((n5 * 256 + n6) * 256 + n7) * 256 + n8, n4, n9, n10] 5 = buildH Z0 0 [n0, n1, n2, n3, n4, n5, n6, n7, n8, n9, n10] := by
  rw [makeN_list, build_list]
  congr 1
  · omega
  congr 1
  · omega
  congr 1
  · omega
  congr 1
  · omega
  congr 1
  · omega
  congr 1
  · omega
  congr 1
  · omega
  congr 1
  omega

set_option maxHeartbeats 4000000 in
theorem refParse_any (s : ByteArray) (w : World) (hs : s.size ≤ 9223372036854775807) :
    Calls Tryd.prog 27 #[.string s] w fun e w' => Parsed (parseB s.data.toList 0 (-1) Z13) e ∧ Below w.heap.size w w' := by
  obtain ⟨R, hR⟩ : ∃ R, R = parseB s.data.toList 0 (-1) Z13 := ⟨_, rfl⟩
  rw [← hR]
  have HR : Hid (R = parseB s.data.toList 0 (-1) Z13) := hR
  have HS : Hid (s.size ≤ 9223372036854775807) := hs
  obtain ⟨sc, hsc⟩ : ∃ sc : Nat → List Int × Nat, sc = scanS s.data.toList := ⟨_, rfl⟩
  have HC : Hid (sc = scanS s.data.toList) := hsc
  have NUM : Hid (∀ k W, k < 11 → Calls Tryd.prog 38 #[.string s, .int .i64 ((sc k).2 : Int)] W fun e w' => ∃ (x : Int) (nx : Nat), e = .returned (.tuple #[.int .u32 x, .int .i64 (nx : Int)]) ∧ w' = W ∧ sc (k + 1) = ((sc k).1 ++ [x], nx + 1)) := fun k W hk => by
    rw [hsc]
    have hb := scanS_bd s.data.toList k
    exact (number_any s (scanS s.data.toList k).2 W hs (by omega)).mono fun e w' ⟨h1, h2⟩ => ⟨_, _, h1, h2, rfl⟩
  have hbd : ∀ k, (sc k).1.length = k ∧ (sc k).2 ≤ 6 * k ∧ ∀ x ∈ (sc k).1, 0 ≤ x ∧ x < 100000 := fun k => by rw [hsc]; exact scanS_bd s.data.toList k
  have h00 : sc 0 = ([], 0) := by rw [hsc]; rfl
  have HBD : Hid _ := hbd
  have H00 : Hid (sc 0 = ([], 0)) := h00
  clear hR hs hsc hbd h00
  go_enter Tryd.func27, Tryd.ntmps27
  go_wp2_with fail
  go_loopw [4, 5, 6] (fun v a i wr => ∃ k : Nat, k ≤ 11 ∧ i = .int .i64 (k : Int) ∧ a = .int .i64 ((sc k).2 : Int) ∧ wr.ownsRow (w.heap.size + 1) 22 1 v k ((sc k).1.map (Value.int .u32)) ∧ wr.heap[w.heap.size]? = some (.cells zero26 26 (0, 0)) ∧ Below w.heap.size w wr) (fun _ _ i _ => 11 - (intOf i).toNat)
  case atStart =>
    refine ⟨0, by decide, rfl, by rw [H00.out]; rfl, ?_, heap_past _ _ _ _ (heap_new _ _ _ rfl), ((Below.refl _ _).alloc (Nat.le_refl _) _).alloc (by simp) _⟩
    rw [H00.out]
    exact ⟨rfl, Or.inr ⟨w.heap.size + 1, 0, #[], rfl, Nat.le_refl _, heap_new _ _ _ (by simp), Nat.le_refl _, by decide, rfl, rfl⟩⟩
  case round =>
    obtain ⟨k, hk, rfl, rfl, hown, g0, hbw⟩ := hrel
    have hz0 := (Array.getElem?_eq_some_iff.1 g0).1
    by_cases hlt : k < 11
    · have hk' : (k : Int) < 11 := by omega
      go_wp2_with fail
      refine (NUM.out k _ hlt).mono ?_
      rintro e w' ⟨x, nx, rfl, hw', hsc⟩
      subst hw'
      have hnx : nx ≤ 100 := by
        have := (HBD.out (k + 1)).2.1
        rw [hsc] at this
        exact (by omega : nx ≤ 100)
      have HSC : Hid (sc (k + 1) = ((sc k).1 ++ [x], nx + 1)) := hsc
      clear hsc
      obtain ⟨i0, hi, hz0', hz1, hz2'⟩ := info22
      go_wp2_with (at_builtin; refine wpList_append_own _ rfl _ _ 67 rfl (w.heap.size + 1) 22 i0 (.int .u32 0) 1 4 Tryd.underlying67 hi hz0' hz1 hz2' rfl (by decide) _ _ _ rfl (hown.alloc _) ⟨w'.heap.size, 0, none⟩ 1 1 [.int .u32 x] rfl rfl (cell_one_new _ _ _) (fun x hx => by simp at hx; subst hx; rfl) (by unfold maxLen; omega) (by omega) (by simp; omega) ?_; intro v' w3 hown' hgrow3 hnil3)
      have hB2 : ∀ g, u4.ownBlock = some g → w.heap.size + 1 ≤ g := fun g hg => (hown.lt _ hg).1
      go_roundw
      case rel =>
        refine ⟨k + 1, by omega, by go_num, ?_, ?_, ?_, ?_⟩
        · rw [HSC.out]; go_num
        · rw [HSC.out]
          simpa only [List.map_append, List.map_cons, List.map_nil] using hown'
        · have h3 : w3.heap[w.heap.size]? = (w'.alloc _).heap[w.heap.size]? := hgrow3.block _ (by simp; omega) (fun h => by have := hB2 _ h.symm; omega)
          rw [h3]; exact heap_past _ _ _ _ g0
        · exact (hbw.alloc hbw.size _).grown hgrow3 (by simp; omega) (fun g hg => by have := hB2 g hg; omega)
      case measure => simp [intOf]; omega
    · obtain rfl : k = 11 := by omega
      have hbd11 := HBD.out 11
      obtain ⟨xs, hxs⟩ : ∃ xs, xs = (sc 11).1 := ⟨_, rfl⟩
      rw [← hxs] at hown hbd11
      have hxl : xs.length = 11 := hbd11.1
      have hxb := hbd11.2.2
      have HXS : Hid (xs = (scanS s.data.toList 11).1) := by
        show xs = _
        rw [hxs, HC.out]
      have HSOME : Hid (∀ H, R = some H → Fit 0 xs ∧ txt (buildH Z0 0 xs) 11 = s.data.toList ∧ buildH Z0 0 xs = H) := fun H h => by
        rw [HXS.out]; exact refP_some s.data.toList H (by rw [← h]; exact HR.out.symm)
      have HNONE : Hid (R = none → Fit 0 xs → txt (buildH Z0 0 xs) 11 = s.data.toList → False) := fun h h1 h2 => by
        rw [HXS.out] at h1 h2; exact refP_none s.data.toList (by rw [← h]; exact HR.out.symm) h1 h2
      obtain ⟨_, ⟨rfl, h0⟩ | ⟨g, cap, cur, rfl, hBg, hcur, hc1, hc2, hc3, hc4⟩⟩ := hown
      · omega
      have hcell : ∀ j, j < 11 → wr.cell? ⟨g, j, none⟩ = some (.int .u32 (xs.getD j 0)) := fun j hj => by
        rw [cell_of_row wr g j cur 22 (0, 0) hcur]
        have : (cur.toList.take (11 * 1))[j]? = (xs.map (Value.int .u32))[j]? := by rw [hc4]
        rw [List.getElem?_take_of_lt (by omega)] at this
        rw [← Array.getElem?_toList, this, List.getElem?_map, List.getElem?_eq_getElem (show j < xs.length by omega), List.getD, List.getElem?_eq_getElem (show j < xs.length by omega)]; rfl
      have HCELL : Hid (∀ j, j < 11 → wr.cell? ⟨g, j, none⟩ = some (.int .u32 (xs.getD j 0))) := hcell
      have HXB : Hid (∀ x ∈ xs, 0 ≤ x ∧ x < 100000) := hxb
      have hcap : 11 ≤ cap := hc1
      have hcapM : Hid (cap ≤ maxLen) := hc2
      clear hcur hc1 hc2 hc3 hc4 hcell hxb hbd11 hxs HBD H00 NUM HC HR HXS
      go_wp2_with fail
      go_loop [9] (fun i => ∃ k : Nat, k ≤ 11 ∧ i = .int .i64 (k : Int) ∧ InR xs k) (fun i => 11 - (intOf i).toNat)
      case atStart => exact ⟨0, by decide, rfl, fun j hj => by omega⟩
      case round =>
        obtain ⟨k, hk, rfl, hbf⟩ := hrel
        have HBF : Hid (InR xs k) := hbf
        clear hbf
        by_cases hlt : k < 11
        · have hk' : (k : Int) < 11 := by omega
          have hx := HXB.out (xs.getD k 0) (by
            rw [List.getD, List.getElem?_eq_getElem (show k < xs.length by omega)]
            exact List.getElem_mem _)
          have hck := HCELL.out k hlt
          obtain ⟨x, hxx⟩ : ∃ x, x = xs.getD k 0 := ⟨_, rfl⟩
          rw [← hxx] at hx hck
          obtain ⟨hx0, hx1⟩ := hx
          have hlm := lim_mod k hlt
          have HX : Hid (x = xs.getD k 0) := hxx
          have HLM : Hid _ := hlm
          have HN : Hid (¬ x < limOf (ps k) → R = none) := fun h => by
            cases hR : R with
            | none => rfl
            | some H =>
              have hf := (HSOME.out H hR).1
              have := (fit_at xs 0 k (by omega) hf).2
              rw [Nat.zero_add, ← HX.out] at this
              exact absurd this h
          clear hxx hlm
          by_cases hmod : k % 5 = 4
          · have hm5 : ((k : Int) % 5 == 4) = true := by simp; omega
            have hm6 : (k : Int) % 5 = 4 := by omega
            have hl := HLM.out.1 hmod
            by_cases hok : x < 65536
            · have HOK : Hid (x < limOf (ps k)) := by show x < _; rw [hl]; exact hok
              clear hmod hl
              go_wp2_with fail
              go_round
              case rel => exact ⟨k + 1, by omega, by first | omega | go_num, HBF.out.next (by rw [← HX.out]; exact HOK.out)⟩
              case measure => simp [intOf]; omega
            · have HR2 : Hid (R = none) := HN.out (by rw [hl]; exact hok)
              have hok' : 65536 ≤ x := by omega
              clear hmod hl hok
              go_wp2_with (refine wl_store26 rfl _ _ rfl w.heap.size Z13 rfl rfl _ g0 rfl rfl _ rfl ?_)
              refine ret26e (p := 2) (u := 3) rfl rfl w.heap.size rfl Z13 rfl (setRow_heap _ _ _ _ _ _ g0) _ rfl ⟨?_, below_setRow hbw (Nat.le_refl _) _⟩
              rw [HR2.out]; rfl
          · have hm5 : ((k : Int) % 5 == 4) = false := by simp; omega
            have hm6 : ((k : Int) % 5 != 4) = true := by simp; omega
            have hl := HLM.out.2 hmod
            by_cases hok : x < 256
            · have HOK : Hid (x < limOf (ps k)) := by show x < _; rw [hl]; exact hok
              clear hmod hl
              go_wp2_with fail
              go_round
              case rel => exact ⟨k + 1, by omega, by first | omega | go_num, HBF.out.next (by rw [← HX.out]; exact HOK.out)⟩
              case measure => simp [intOf]; omega
            · have HR2 : Hid (R = none) := HN.out (by rw [hl]; exact hok)
              have hok' : 256 ≤ x := by omega
              clear hmod hl hok
              go_wp2_with (refine wl_store26 rfl _ _ rfl w.heap.size Z13 rfl rfl _ g0 rfl rfl _ rfl ?_)
              refine ret26e (p := 2) (u := 3) rfl rfl w.heap.size rfl Z13 rfl (setRow_heap _ _ _ _ _ _ g0) _ rfl ⟨?_, below_setRow hbw (Nat.le_refl _) _⟩
              rw [HR2.out]; rfl
        · obtain rfl : k = 11 := by omega
          have hfit : Fit 0 xs := fit_of xs 0 fun j hj => by
            rw [Nat.zero_add]
            refine ⟨(HXB.out (xs.getD j 0) ?_).1, HBF.out j (by omega)⟩
            rw [List.getD, List.getElem?_eq_getElem hj]
            exact List.getElem_mem _
          have HF : Hid (Fit 0 xs) := hfit
          obtain ⟨n0, n1, n2, n3, n4, n5, n6, n7, n8, n9, n10, hxe⟩ := eleven xs hxl
          rw [hxe] at hfit
          obtain ⟨a0, a1, b0, b1, c0, c1, d0, d1, e0, e1, f0, f1, i0, i1, j0, j1, k0, k1, l0, l1, m0, m1, _⟩ := hfit
          have a1 : n0 < 256 := a1
          have b1 : n1 < 256 := b1
          have c1 : n2 < 256 := c1
          have d1 : n3 < 256 := d1
          have e1 : n4 < 65536 := e1
          have f1 : n5 < 256 := f1
          have i1 : n6 < 256 := i1
          have j1 : n7 < 256 := j1
          have k1 : n8 < 256 := k1
          have l1 : n9 < 65536 := l1
          have m1 : n10 < 256 := m1
          rw [hxe] at HCELL
          have p0 : wr.cell? ⟨g, 0, none⟩ = some (.int .u32 n0) := HCELL.out 0 (by decide)
          have p1 : wr.cell? ⟨g, 1, none⟩ = some (.int .u32 n1) := HCELL.out 1 (by decide)
          have p2 : wr.cell? ⟨g, 2, none⟩ = some (.int .u32 n2) := HCELL.out 2 (by decide)
          have p3 : wr.cell? ⟨g, 3, none⟩ = some (.int .u32 n3) := HCELL.out 3 (by decide)
          have p4 : wr.cell? ⟨g, 4, none⟩ = some (.int .u32 n4) := HCELL.out 4 (by decide)
          have p5 : wr.cell? ⟨g, 5, none⟩ = some (.int .u32 n5) := HCELL.out 5 (by decide)
          have p6 : wr.cell? ⟨g, 6, none⟩ = some (.int .u32 n6) := HCELL.out 6 (by decide)
          have p7 : wr.cell? ⟨g, 7, none⟩ = some (.int .u32 n7) := HCELL.out 7 (by decide)
          have p8 : wr.cell? ⟨g, 8, none⟩ = some (.int .u32 n8) := HCELL.out 8 (by decide)
          have p9 : wr.cell? ⟨g, 9, none⟩ = some (.int .u32 n9) := HCELL.out 9 (by decide)
          have p10 : wr.cell? ⟨g, 10, none⟩ = some (.int .u32 n10) := HCELL.out 10 (by decide)
          obtain ⟨H, hH⟩ : ∃ H, H = buildH Z0 0 xs := ⟨_, rfl⟩
          have hmk : makeN [((n0 * 256 + n1) * 256 + n2) * 256 + n3, ((n5 * 256 + n6) * 256 + n7) * 256 + n8, n4, n9, n10] 5 = H := by
            rw [hH, hxe]; exact make_build n0 n1 n2 n3 n4 n5 n6 n7 n8 n9 n10 ⟨a0, a1⟩ ⟨b0, b1⟩ ⟨c0, c1⟩ ⟨d0, d1⟩ ⟨f0, f1⟩ ⟨i0, i1⟩ ⟨j0, j1⟩ ⟨k0, k1⟩
          have hHB : Byt H := by rw [hH]; exact (nums_build xs hxl HF.out).1
          have MK : Hid (∀ W, Calls Tryd.prog 12 #[.int .u32 (((n0 * 256 + n1) * 256 + n2) * 256 + n3), .int .u32 (((n5 * 256 + n6) * 256 + n7) * 256 + n8), .int .u32 n4, .int .u32 n9, .int .u32 n10] W fun e w' => e = .returned (.agg (hv H)) ∧ Below W.heap.size W w') := fun W => by
            rw [← hmk]
            exact refMake_any _ _ _ _ _ W (by omega) (by omega) (by omega) (by omega) (by omega)
          have HSM : Hid (∀ H', R = some H' → txt H 11 = s.data.toList ∧ H = H') := fun H' h => by
            rw [hH]; exact (HSOME.out H' h).2
          have HNN : Hid (R = none → txt H 11 = s.data.toList → False) := fun h h2 => by
            rw [hH] at h2; exact HNONE.out h HF.out h2
          have TX : Hid (∀ W, Calls Tryd.prog 26 #[.agg (hv H)] W fun e w' => e = .returned (.string ⟨(txt H 11).toArray⟩) ∧ Below W.heap.size W w') := refText_any H hHB
          have hlH := hHB.1
          clear HCELL HSOME HNONE HXB HBF HF hH hmk hHB hxe hxl
          go_wp2_with fail
          have hgz : g < wr.heap.size := World.block_lt_of_cell? wr ⟨g, 0, none⟩ p0
          have q0 : ∀ u : Later wr, u.world.cell? ⟨g, 0, none⟩ = some (.int .u32 n0) := fun u => by rw [u.below.cell (p := ⟨g, 0, none⟩) hgz]; exact p0
          have q1 : ∀ u : Later wr, u.world.cell? ⟨g, 1, none⟩ = some (.int .u32 n1) := fun u => by rw [u.below.cell (p := ⟨g, 1, none⟩) hgz]; exact p1
          have q2 : ∀ u : Later wr, u.world.cell? ⟨g, 2, none⟩ = some (.int .u32 n2) := fun u => by rw [u.below.cell (p := ⟨g, 2, none⟩) hgz]; exact p2
          have q3 : ∀ u : Later wr, u.world.cell? ⟨g, 3, none⟩ = some (.int .u32 n3) := fun u => by rw [u.below.cell (p := ⟨g, 3, none⟩) hgz]; exact p3
          have q4 : ∀ u : Later wr, u.world.cell? ⟨g, 4, none⟩ = some (.int .u32 n4) := fun u => by rw [u.below.cell (p := ⟨g, 4, none⟩) hgz]; exact p4
          have q5 : ∀ u : Later wr, u.world.cell? ⟨g, 5, none⟩ = some (.int .u32 n5) := fun u => by rw [u.below.cell (p := ⟨g, 5, none⟩) hgz]; exact p5
          have q6 : ∀ u : Later wr, u.world.cell? ⟨g, 6, none⟩ = some (.int .u32 n6) := fun u => by rw [u.below.cell (p := ⟨g, 6, none⟩) hgz]; exact p6
          have q7 : ∀ u : Later wr, u.world.cell? ⟨g, 7, none⟩ = some (.int .u32 n7) := fun u => by rw [u.below.cell (p := ⟨g, 7, none⟩) hgz]; exact p7
          have q8 : ∀ u : Later wr, u.world.cell? ⟨g, 8, none⟩ = some (.int .u32 n8) := fun u => by rw [u.below.cell (p := ⟨g, 8, none⟩) hgz]; exact p8
          have q9 : ∀ u : Later wr, u.world.cell? ⟨g, 9, none⟩ = some (.int .u32 n9) := fun u => by rw [u.below.cell (p := ⟨g, 9, none⟩) hgz]; exact p9
          have q10 : ∀ u : Later wr, u.world.cell? ⟨g, 10, none⟩ = some (.int .u32 n10) := fun u => by rw [u.below.cell (p := ⟨g, 10, none⟩) hgz]; exact p10
          have ne1 := Later.ne wr
          refine wp_region_reads 45 3 rfl (by kernel_rfl) (by kernel_rfl) (by kernel_rfl) (by kernel_rfl) (by intro d v c a w h; cases d <;> exact h) ?_
          simp only [List.take_succ_cons, List.take_zero]
          repeat go_big_quiet_step (fail)
          refine wpQuiet_nil ?_
          refine wpAnyH_all (rs := [45, 46]) (by kernel_rfl) (by decide) ?_
          intro i hi
          simp only [List.mem_cons, List.not_mem_nil, or_false] at hi
          rcases hi with rfl | rfl
          · refine wpOp_call12 rfl rfl _ _ _ _ _ _ rfl (.int .u32 (((n0 * 256 + n1) * 256 + n2) * 256 + n3)) (.int .u32 (((n5 * 256 + n6) * 256 + n7) * 256 + n8)) (.int .u32 n4) (.int .u32 n9) (.int .u32 n10) rfl rfl rfl rfl rfl (.agg (hv H)) _ (MK.out _) (some 100) rfl ?_
            intro w2 hb2
            have hW2 : Below wr.heap.size wr w2 := (Below.refl _ _).drew.trans hb2
            refine ⟨⟨⟨w2, hW2⟩, rfl⟩, ?_⟩
            simp only [Act.put, List.setIfInBounds_toArray, List.set_cons_succ, List.set_cons_zero]
            refine wpAnyH_all (rs := [46]) (by kernel_rfl) (by decide) ?_
            intro i hi
            obtain rfl := List.mem_singleton.1 hi
            refine wpOp_alloc26 rfl rfl rfl (some 10) rfl ?_
            refine ⟨⟨⟨w2.alloc _, hW2.alloc hW2.size _⟩, rfl⟩, ?_⟩
            simp only [Act.put, List.setIfInBounds_toArray, List.set_cons_succ, List.set_cons_zero]
            refine wpAnyH_all (rs := [47]) (by kernel_rfl) (by decide) ?_
            intro i hi
            obtain rfl := List.mem_singleton.1 hi
            refine wpOp_store26 rfl rfl _ _ rfl w2.heap.size H rfl rfl _ (heap_new _ _ _ rfl) rfl hlH none rfl ?_
            rw [setRow_new _ _ _ _ _ rfl]
            refine ⟨⟨⟨w2.alloc _, hW2.alloc hW2.size _⟩, rfl⟩, ?_⟩
            refine wpAnyH_done (by kernel_rfl) ?_ _
            obtain ⟨V, hV⟩ : ∃ V, V = w2.alloc (Obj.cells (hv H) 26) := ⟨_, rfl⟩
            have vH : V.heap[w2.heap.size]? = some (.cells (hv H) 26 (0, 0)) := by rw [hV]; exact heap_new _ _ _ rfl
            have v0 : V.heap[w.heap.size]? = some (.cells zero26 26 (0, 0)) := by
              rw [hV]; refine heap_past _ _ _ _ ?_
              rw [hW2.block _ hz0]; exact g0
            have vB : Below w.heap.size w V := by
              have h2 := hbw.trans (hW2.mono hbw.size)
              rw [hV]; exact h2.alloc h2.size _
            rw [← hV]
            clear hV
            simp only [Act.put]
            clear q0 q1 q2 q3 q4 q5 q6 q7 q8 q9 q10 p0 p1 p2 p3 p4 p5 p6 p7 p8 p9 p10 MK
            go_wp2_with (refine wl_load26 rfl _ rfl w2.heap.size rfl H vH hlH ?_)
            refine (TX.out _).mono ?_
            rintro e w5 ⟨rfl, hb5⟩
            have x0 : w5.heap[w.heap.size]? = some (.cells zero26 26 (0, 0)) := by rw [hb5.block _ (Array.getElem?_eq_some_iff.1 v0).1]; exact v0
            have xH : w5.heap[w2.heap.size]? = some (.cells (hv H) 26 (0, 0)) := by rw [hb5.block _ (Array.getElem?_eq_some_iff.1 vH).1]; exact vH
            have xB : Below w.heap.size w w5 := vB.trans (hb5.mono vB.size)
            clear hb5 v0 vH vB TX
            by_cases htx : txt H 11 = s.data.toList
            · have hstr : ({ data := (txt H 11).toArray } : ByteArray) = s := by
                rw [htx]
              have HR2 : Hid (R = some H) := by
                show R = some H
                cases hR : R with
                | none => exact (HNN.out hR htx).elim
                | some H' => rw [(HSM.out H' hR).2]
              rw [hstr]
              clear htx hstr HNN HSM
              go_wp2_with (first
                | (refine wl_load26 rfl _ rfl w2.heap.size rfl H xH hlH ?_)
                | (refine wl_store26 rfl _ _ rfl w.heap.size H rfl rfl _ x0 rfl hlH _ rfl ?_))
              refine ret26e (p := 2) (u := 3) rfl rfl w.heap.size rfl H hlH (setRow_heap _ _ _ _ _ _ x0) _ rfl ⟨?_, below_setRow xB (Nat.le_refl _) _⟩
              rw [HR2.out]; rfl
            · have HR2 : Hid (R = none) := by
                show R = none
                cases hR : R with
                | none => rfl
                | some H' => exact absurd (HSM.out H' hR).1 htx
              have hne : (txt H 11 == s.toList) = false := by rw [ByteArray.toList_eq]; simpa using htx
              obtain ⟨T, hT⟩ : ∃ T, T = txt H 11 := ⟨_, rfl⟩
              rw [← hT] at hne ⊢
              clear htx HNN HSM hT
              go_wp2_with (refine wl_store26 rfl _ _ rfl w.heap.size Z13 rfl rfl _ x0 rfl rfl _ rfl ?_)
              refine ret26e (p := 2) (u := 3) rfl rfl w.heap.size rfl Z13 rfl (setRow_heap _ _ _ _ _ _ x0) _ rfl ⟨?_, below_setRow xB (Nat.le_refl _) _⟩
              rw [HR2.out]; rfl
          · refine wpOp_alloc26 rfl rfl rfl (some 10) rfl ?_
            have hWA : Below wr.heap.size wr (wr.drew.alloc (Obj.cells zero26 26)) := (Below.refl _ _).drew.alloc (Nat.le_refl _) _
            refine ⟨⟨⟨_, hWA⟩, rfl⟩, ?_⟩
            simp only [Act.put, List.setIfInBounds_toArray, List.set_cons_succ, List.set_cons_zero]
            refine wpAnyH_all (rs := [45]) (by kernel_rfl) (by decide) ?_
            intro i hi
            obtain rfl := List.mem_singleton.1 hi
            refine wpOp_call12 rfl rfl _ _ _ _ _ _ rfl (.int .u32 (((n0 * 256 + n1) * 256 + n2) * 256 + n3)) (.int .u32 (((n5 * 256 + n6) * 256 + n7) * 256 + n8)) (.int .u32 n4) (.int .u32 n9) (.int .u32 n10) rfl rfl rfl rfl rfl (.agg (hv H)) _ (MK.out _) (some 100) rfl ?_
            intro w2 hb2
            have hW2 : Below wr.heap.size wr w2 := hWA.trans (hb2.mono hWA.size)
            have hz2 : wr.heap.size + 1 ≤ w2.heap.size := by
              have := hb2.size
              rw [World.size_alloc] at this
              exact this
            have hN : w2.heap[wr.heap.size]? = some (.cells zero26 26 (0, 0)) := by
              rw [hb2.block _ (by rw [World.size_alloc]; exact Nat.lt_succ_self _)]; exact heap_new _ _ _ rfl
            refine ⟨⟨⟨w2, hW2⟩, rfl⟩, ?_⟩
            simp only [Act.put, List.setIfInBounds_toArray, List.set_cons_succ, List.set_cons_zero]
            refine wpAnyH_all (rs := [47]) (by kernel_rfl) (by decide) ?_
            intro i hi
            obtain rfl := List.mem_singleton.1 hi
            refine wpOp_store26 rfl rfl _ _ rfl wr.heap.size H rfl rfl _ hN rfl hlH none rfl ?_
            have hW3 : Below wr.heap.size wr (w2.setRow wr.heap.size (hv H)) := below_setRow hW2 (Nat.le_refl _) _
            refine ⟨⟨⟨_, hW3⟩, rfl⟩, ?_⟩
            refine wpAnyH_done (by kernel_rfl) ?_ _
            obtain ⟨V, hV⟩ : ∃ V, V = w2.setRow wr.heap.size (hv H) := ⟨_, rfl⟩
            have vH : V.heap[wr.heap.size]? = some (.cells (hv H) 26 (0, 0)) := by rw [hV]; exact setRow_heap _ _ _ _ _ _ hN
            have v0 : V.heap[w.heap.size]? = some (.cells zero26 26 (0, 0)) := by
              rw [hV, hW3.block _ hz0]; exact g0
            have vB : Below w.heap.size w V := by
              rw [hV]; exact hbw.trans (hW3.mono hbw.size)
            rw [← hV]
            clear hV
            simp only [Act.put]
            clear q0 q1 q2 q3 q4 q5 q6 q7 q8 q9 q10 p0 p1 p2 p3 p4 p5 p6 p7 p8 p9 p10 MK
            go_wp2_with (refine wl_load26 rfl _ rfl wr.heap.size rfl H vH hlH ?_)
            refine (TX.out _).mono ?_
            rintro e w5 ⟨rfl, hb5⟩
            have x0 : w5.heap[w.heap.size]? = some (.cells zero26 26 (0, 0)) := by rw [hb5.block _ (Array.getElem?_eq_some_iff.1 v0).1]; exact v0
            have xH : w5.heap[wr.heap.size]? = some (.cells (hv H) 26 (0, 0)) := by rw [hb5.block _ (Array.getElem?_eq_some_iff.1 vH).1]; exact vH
            have xB : Below w.heap.size w w5 := vB.trans (hb5.mono vB.size)
            clear hb5 v0 vH vB TX
            by_cases htx : txt H 11 = s.data.toList
            · have hstr : ({ data := (txt H 11).toArray } : ByteArray) = s := by
                rw [htx]
              have HR2 : Hid (R = some H) := by
                show R = some H
                cases hR : R with
                | none => exact (HNN.out hR htx).elim
                | some H' => rw [(HSM.out H' hR).2]
              rw [hstr]
              clear htx hstr HNN HSM
              go_wp2_with (first
                | (refine wl_load26 rfl _ rfl wr.heap.size rfl H xH hlH ?_)
                | (refine wl_store26 rfl _ _ rfl w.heap.size H rfl rfl _ x0 rfl hlH _ rfl ?_))
              refine ret26e (p := 2) (u := 3) rfl rfl w.heap.size rfl H hlH (setRow_heap _ _ _ _ _ _ x0) _ rfl ⟨?_, below_setRow xB (Nat.le_refl _) _⟩
              rw [HR2.out]; rfl
            · have HR2 : Hid (R = none) := by
                show R = none
                cases hR : R with
                | none => rfl
                | some H' => exact absurd (HSM.out H' hR).1 htx
              have hne : (txt H 11 == s.toList) = false := by rw [ByteArray.toList_eq]; simpa using htx
              obtain ⟨T, hT⟩ : ∃ T, T = txt H 11 := ⟨_, rfl⟩
              rw [← hT] at hne ⊢
              clear htx HNN HSM hT
              go_wp2_with (refine wl_store26 rfl _ _ rfl w.heap.size Z13 rfl rfl _ x0 rfl rfl _ rfl ?_)
              refine ret26e (p := 2) (u := 3) rfl rfl w.heap.size rfl Z13 rfl (setRow_heap _ _ _ _ _ _ x0) _ rfl ⟨?_, below_setRow xB (Nat.le_refl _) _⟩
              rw [HR2.out]; rfl
end Go.Proofs.YtjfbahpaahlidaaDoor
