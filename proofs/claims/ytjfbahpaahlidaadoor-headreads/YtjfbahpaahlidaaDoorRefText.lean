import Derived.Test.YtjfbahpaahlidaaDoorAddr
namespace Go.Proofs.YtjfbahpaahlidaaDoor
open Go Go.RowKit

theorem txt_list (L : List Int) : txt L 11 = Lib.decDigits (numAt L 0) ++ [46] ++ Lib.decDigits (numAt L 1) ++ [46] ++ Lib.decDigits (numAt L 2) ++ [46] ++ Lib.decDigits (numAt L 3) ++ [58] ++ Lib.decDigits (numAt L 4) ++ [62] ++ (Lib.decDigits (numAt L 5) ++ [46] ++ Lib.decDigits (numAt L 6) ++ [46] ++ Lib.decDigits (numAt L 7) ++ [46] ++ Lib.decDigits (numAt L 8)) ++ [58] ++ Lib.decDigits (numAt L 9) ++ [47] ++ Lib.decDigits (numAt L 10) := by
  simp [txt, signS, List.append_assoc]

theorem four (L : List Int) (hL : Byt L) (at0 : Nat) (v : Nat) (hv : getN L at0 4 = (v : Int)) :
    v < 4294967296 ∧ v / 16777216 = (getN L at0 1).toNat ∧ v / 65536 % 256 = (getN L (at0 + 1) 1).toNat ∧ v / 256 % 256 = (getN L (at0 + 2) 1).toNat ∧ v % 256 = (getN L (at0 + 3) 1).toNat := by
  have h0 := hL.2 at0
  have h1 := hL.2 (at0 + 1)
  have h2 := hL.2 (at0 + 2)
  have h3 := hL.2 (at0 + 3)
  have e : getN L at0 4 = (((0 * 256 + L.getD at0 0) * 256 + L.getD (at0 + 1) 0) * 256 + L.getD (at0 + 2) 0) * 256 + L.getD (at0 + 3) 0 := rfl
  have e0 : getN L at0 1 = 0 * 256 + L.getD at0 0 := rfl
  have e1 : getN L (at0 + 1) 1 = 0 * 256 + L.getD (at0 + 1) 0 := rfl
  have e2 : getN L (at0 + 2) 1 = 0 * 256 + L.getD (at0 + 2) 0 := rfl
  have e3 : getN L (at0 + 3) 1 = 0 * 256 + L.getD (at0 + 3) 0 := rfl
  omega

set_option maxHeartbeats 2000000 in
theorem refText_any (L : List Int) (hL : Byt L) (w : World) :
    Calls Tryd.prog 26 #[.agg (hv L)] w fun e w' => e = .returned (.string ⟨(txt L 11).toArray⟩) ∧ Below w.heap.size w w' := by
  have hl := hL.1
  obtain ⟨s, hs⟩ := Int.eq_ofNat_of_zero_le (getN_bd L hL 0 4).1
  obtain ⟨d, hd⟩ := Int.eq_ofNat_of_zero_le (getN_bd L hL 4 4).1
  obtain ⟨s0, s1, s2, s3, s4⟩ := four L hL 0 s hs
  obtain ⟨d0, d1, d2, d3, d4⟩ := four L hL 4 d hd
  have n4 := getN_small L hL 4 (by decide)
  have n9 := getN_small L hL 9 (by decide)
  have n10 := getN_small L hL 10 (by decide)
  have F0 : Hid (∀ W, Calls Tryd.prog 13 #[.agg (hv L), .int .i64 0] W fun e w' => e = .returned (.tuple #[.int .u32 (s : Int), .int .i64 0]) ∧ Below W.heap.size W w') := fun W => by
    have h := refField_ok L hL 0 W (by decide) (by decide)
    rw [show getN L (atOf 0) (sizeOfF 0) = (s : Int) from hs] at h; exact h
  have F1 : Hid (∀ W, Calls Tryd.prog 13 #[.agg (hv L), .int .i64 1] W fun e w' => e = .returned (.tuple #[.int .u32 (d : Int), .int .i64 0]) ∧ Below W.heap.size W w') := fun W => by
    have h := refField_ok L hL 1 W (by decide) (by decide)
    rw [show getN L (atOf 1) (sizeOfF 1) = (d : Int) from hd] at h; exact h
  have F2 : Hid (∀ W, Calls Tryd.prog 13 #[.agg (hv L), .int .i64 2] W fun e w' => e = .returned (.tuple #[.int .u32 (numAt L 4 : Int), .int .i64 0]) ∧ Below W.heap.size W w') := fun W => by
    have h := refField_ok L hL 2 W (by decide) (by decide)
    rw [show getN L (atOf 2) (sizeOfF 2) = (numAt L 4 : Int) from n4.1] at h; exact h
  have F3 : Hid (∀ W, Calls Tryd.prog 13 #[.agg (hv L), .int .i64 3] W fun e w' => e = .returned (.tuple #[.int .u32 (numAt L 9 : Int), .int .i64 0]) ∧ Below W.heap.size W w') := fun W => by
    have h := refField_ok L hL 3 W (by decide) (by decide)
    rw [show getN L (atOf 3) (sizeOfF 3) = (numAt L 9 : Int) from n9.1] at h; exact h
  have F4 : Hid (∀ W, Calls Tryd.prog 13 #[.agg (hv L), .int .i64 4] W fun e w' => e = .returned (.tuple #[.int .u32 (numAt L 10 : Int), .int .i64 0]) ∧ Below W.heap.size W w') := fun W => by
    have h := refField_ok L hL 4 W (by decide) (by decide)
    rw [show getN L (atOf 4) (sizeOfF 4) = (numAt L 10 : Int) from n10.1] at h; exact h
  obtain ⟨AS, hAS⟩ : ∃ A, A = Lib.decDigits (numAt L 0) ++ [46] ++ Lib.decDigits (numAt L 1) ++ [46] ++ Lib.decDigits (numAt L 2) ++ [46] ++ Lib.decDigits (numAt L 3) := ⟨_, rfl⟩
  obtain ⟨AD, hAD⟩ : ∃ A, A = Lib.decDigits (numAt L 5) ++ [46] ++ Lib.decDigits (numAt L 6) ++ [46] ++ Lib.decDigits (numAt L 7) ++ [46] ++ Lib.decDigits (numAt L 8) := ⟨_, rfl⟩
  have D0 : Hid (∀ W, Calls Tryd.prog 36 #[.int .u32 (s : Int)] W fun e w' => e = .returned (.string ⟨AS.toArray⟩) ∧ Below W.heap.size W w') := fun W => by
    rw [hAS]; exact address_any s _ _ _ _ W s0 s1 s2 s3 s4
  have D1 : Hid (∀ W, Calls Tryd.prog 36 #[.int .u32 (d : Int)] W fun e w' => e = .returned (.string ⟨AD.toArray⟩) ∧ Below W.heap.size W w') := fun W => by
    rw [hAD]; exact address_any d _ _ _ _ W d0 d1 d2 d3 d4
  have small : ∀ k, k < 11 → (Lib.decDigits (numAt L k)).length ≤ 5 := fun k hk => dec_len _ (getN_small L hL k hk).2
  have lAS : AS.length ≤ 23 := by
    rw [hAS]; simp only [List.length_append, List.length_cons, List.length_nil]
    have := small 0 (by decide); have := small 1 (by decide); have := small 2 (by decide); have := small 3 (by decide)
    omega
  have lAD : AD.length ≤ 23 := by
    rw [hAD]; simp only [List.length_append, List.length_cons, List.length_nil]
    have := small 5 (by decide); have := small 6 (by decide); have := small 7 (by decide); have := small 8 (by decide)
    omega
  have l4 := small 4 (by decide)
  have l9 := small 9 (by decide)
  have l10 := small 10 (by decide)
  have HTX : Hid (txt L 11 = AS ++ [58] ++ Lib.decDigits (numAt L 4) ++ [62] ++ AD ++ [58] ++ Lib.decDigits (numAt L 9) ++ [47] ++ Lib.decDigits (numAt L 10)) := by
    show txt L 11 = _
    rw [txt_list, hAS, hAD]
  have G4 : Hid _ := fun W => digits_any (numAt L 4) W (by omega)
  have G9 : Hid _ := fun W => digits_any (numAt L 9) W (by omega)
  have G10 : Hid _ := fun W => digits_any (numAt L 10) W (by omega)
  clear hs hd s0 s1 s2 s3 s4 d0 d1 d2 d3 d4 n4 n9 n10 small hAS hAD
  have g0 : (w.alloc (Obj.cells (hv L) 26)).heap[w.heap.size]? = some (.cells (hv L) 26 (0, 0)) := heap_new _ _ _ rfl
  have hC0 : Below w.heap.size w (w.alloc (Obj.cells (hv L) 26)) := (Below.refl _ _).alloc (Nat.le_refl _) _
  go_enter Tryd.func26, Tryd.ntmps26
  go_wp2_with (refine wl_load26 rfl _ rfl w.heap.size rfl L g0 hl ?_)
  refine (F0.out _).mono ?_
  rintro e x0 ⟨rfl, hx0⟩
  have g1 : x0.heap[w.heap.size]? = some (.cells (hv L) 26 (0, 0)) := by rw [hx0.block _ (Array.getElem?_eq_some_iff.1 g0).1]; exact g0
  have hC1 : Below w.heap.size w x0 := hC0.trans (hx0.mono hC0.size)
  clear hx0 g0 hC0 F0
  go_wp2_with (refine wl_load26 rfl _ rfl w.heap.size rfl L g1 hl ?_)
  refine (F1.out _).mono ?_
  rintro e x1 ⟨rfl, hx1⟩
  have g2 : x1.heap[w.heap.size]? = some (.cells (hv L) 26 (0, 0)) := by rw [hx1.block _ (Array.getElem?_eq_some_iff.1 g1).1]; exact g1
  have hC2 : Below w.heap.size w x1 := hC1.trans (hx1.mono hC1.size)
  clear hx1 g1 hC1 F1
  go_wp2_with (refine wl_load26 rfl _ rfl w.heap.size rfl L g2 hl ?_)
  refine (F2.out _).mono ?_
  rintro e x2 ⟨rfl, hx2⟩
  have g3 : x2.heap[w.heap.size]? = some (.cells (hv L) 26 (0, 0)) := by rw [hx2.block _ (Array.getElem?_eq_some_iff.1 g2).1]; exact g2
  have hC3 : Below w.heap.size w x2 := hC2.trans (hx2.mono hC2.size)
  clear hx2 g2 hC2 F2
  go_wp2_with (refine wl_load26 rfl _ rfl w.heap.size rfl L g3 hl ?_)
  refine (F3.out _).mono ?_
  rintro e x3 ⟨rfl, hx3⟩
  have g4 : x3.heap[w.heap.size]? = some (.cells (hv L) 26 (0, 0)) := by rw [hx3.block _ (Array.getElem?_eq_some_iff.1 g3).1]; exact g3
  have hC4 : Below w.heap.size w x3 := hC3.trans (hx3.mono hC3.size)
  clear hx3 g3 hC3 F3
  go_wp2_with (refine wl_load26 rfl _ rfl w.heap.size rfl L g4 hl ?_)
  refine (F4.out _).mono ?_
  rintro e x4 ⟨rfl, hx4⟩
  have g5 : x4.heap[w.heap.size]? = some (.cells (hv L) 26 (0, 0)) := by rw [hx4.block _ (Array.getElem?_eq_some_iff.1 g4).1]; exact g4
  have hC5 : Below w.heap.size w x4 := hC4.trans (hx4.mono hC4.size)
  clear hx4 g4 hC4 F4
  go_wp2_with fail
  refine (D0.out _).mono ?_
  rintro e x5 ⟨rfl, hx5⟩
  have hC6 : Below w.heap.size w x5 := hC5.trans (hx5.mono hC5.size)
  clear hx5 hC5 D0
  go_wp2_with fail
  refine (G4.out _).mono ?_
  rintro e x6 ⟨rfl, hx6⟩
  have hC7 : Below w.heap.size w x6 := hC6.trans (hx6.mono hC6.size)
  clear hx6 hC6 G4
  go_wp2_with fail
  refine (D1.out _).mono ?_
  rintro e x7 ⟨rfl, hx7⟩
  have hC8 : Below w.heap.size w x7 := hC7.trans (hx7.mono hC7.size)
  clear hx7 hC7 D1
  go_wp2_with fail
  refine (G9.out _).mono ?_
  rintro e x8 ⟨rfl, hx8⟩
  have hC9 : Below w.heap.size w x8 := hC8.trans (hx8.mono hC8.size)
  clear hx8 hC8 G9
  go_wp2_with fail
  refine (G10.out _).mono ?_
  rintro e x9 ⟨rfl, hx9⟩
  have hC10 : Below w.heap.size w x9 := hC9.trans (hx9.mono hC9.size)
  clear hx9 hC9 G10
  go_wp2_with fail
  go_ret
  refine ⟨?_, hC10⟩
  show Ending.returned (.string ({ data := AS.toArray } ++ { data := [58].toArray } ++ { data := (Lib.decDigits (numAt L 4)).toArray } ++ { data := [62].toArray } ++ { data := AD.toArray } ++ { data := [58].toArray } ++ { data := (Lib.decDigits (numAt L 9)).toArray } ++ { data := [47].toArray } ++ { data := (Lib.decDigits (numAt L 10)).toArray })) = _
  simp only [str_app]
  exact ret_str HTX.out.symm
end Go.Proofs.YtjfbahpaahlidaaDoor
