import Derived.Test.YtjfbahpaahlidaaDoorRefMake
namespace Go.Proofs.YtjfbahpaahlidaaDoor
open Go Go.RowKit

theorem dec_le : ∀ (k u : Nat), u < 10 ^ (k + 1) → (Lib.decDigits u).length ≤ k + 1
  | 0, u, h => by rw [Lib.decDigits, dif_pos (by simpa using h)]; simp
  | k + 1, u, h => by
    by_cases h1 : u < 10
    · rw [Lib.decDigits, dif_pos h1]; simp
    · rw [Lib.decDigits, dif_neg h1, List.length_append]
      have := dec_le k (u / 10) (by rw [Nat.pow_succ] at h; omega)
      simp; omega
theorem str_app (x y : List UInt8) : ({ data := x.toArray } : ByteArray) ++ { data := y.toArray } = { data := (x ++ y).toArray } := ByteArray.mk_append_mk x y
theorem ret_str {x y : List UInt8} (h : x = y) : Ending.returned (.string { data := x.toArray }) = .returned (.string { data := y.toArray }) := by rw [h]

set_option maxHeartbeats 1000000 in
theorem digits_any (n : Nat) : ∀ (w : World), n < 4294967296 →
    Calls Tryd.prog 37 #[.int .u32 (n : Int)] w fun e w' => e = .returned (.string ⟨(Lib.decDigits n).toArray⟩) ∧ Below w.heap.size w w' := by
  induction n using Nat.strongRecOn with
  | _ n ih =>
    intro w hn
    have HN : Hid (n < 4294967296) := hn
    clear hn
    have IH : Hid (∀ m, m < n → ∀ (w : World), m < 4294967296 → Calls Tryd.prog 37 #[.int .u32 (m : Int)] w fun e w' => e = .returned (.string ⟨(Lib.decDigits m).toArray⟩) ∧ Below w.heap.size w w') := ih
    clear ih
    obtain ⟨dg, hdg⟩ : ∃ dg : UInt8, dg = UInt8.ofNat (48 + n % 10) := ⟨_, rfl⟩
    have hcv : (convert 58 9 (.slice (some ⟨w.heap.size, 0, none⟩) 1 1)).run Tryd.prog (w.alloc (.cells #[.int .u8 (48 + (n : Int) % 10)] 5)) = .ok (.string ⟨#[dg]⟩) (w.alloc (.cells #[.int .u8 (48 + (n : Int) % 10)] 5)) :=
      run_convert_bytes_back _ 58 9 5 ⟨w.heap.size, 0, none⟩ 1 [dg] Tryd.underlying58 Tryd.underlying5 Tryd.underlying9 (fun j hj => by
        obtain rfl : j = 0 := by simpa using hj
        have := cell_one_new w (.int .u8 (48 + (n : Int) % 10)) 5 0 _ rfl
        rw [this]
        have e : dg.toNat = 48 + n % 10 := by
          rw [hdg, UInt8.toNat_ofNat']; omega
        show some (Value.int .u8 (48 + (n : Int) % 10)) = some (Value.int .u8 (dg.toNat : Int))
        rw [e]; rfl)
    have HG : Hid (dg = UInt8.ofNat (48 + n % 10)) := hdg
    clear hdg
    by_cases h10 : n < 10
    · go_enter Tryd.func37, Tryd.ntmps37
      go_wp2_with fail
      go_ret
      refine ⟨?_, (Below.refl _ _).alloc (Nat.le_refl _) _⟩
      rw [Lib.decDigits_one h10, HG.out, show n % 10 = n by omega]
      rfl
    · have hd : Lib.decDigits n = Lib.decDigits (n / 10) ++ [UInt8.ofNat (48 + n % 10)] := by rw [Lib.decDigits, dif_neg h10]
      have HD : Hid (Lib.decDigits n = Lib.decDigits (n / 10) ++ [UInt8.ofNat (48 + n % 10)]) := hd
      have hlt : n / 10 < n := by omega
      have H2 : Hid (n / 10 < 4294967296) := by
        have := HN.out
        exact (by omega : n / 10 < 4294967296)
      clear hd
      go_enter Tryd.func37, Tryd.ntmps37
      go_wp2_with fail
      rw [show (n : Int) / 10 % 4294967296 = ((n / 10 : Nat) : Int) by have := HN.out; omega]
      refine (IH.out (n / 10) hlt _ H2.out).mono ?_
      rintro e w1 ⟨rfl, hb1⟩
      have hlen : (Lib.decDigits (n / 10)).length ≤ 10 := dec_le 9 (n / 10) (by have := H2.out; omega)
      go_wp2_with fail
      go_ret
      refine ⟨?_, ((Below.refl _ _).alloc (Nat.le_refl _) _).trans (hb1.mono (by simp))⟩
      show Ending.returned (.string ({ data := (Lib.decDigits (n / 10)).toArray } ++ { data := [dg].toArray })) = _
      rw [str_app]
      exact ret_str (by rw [HD.out, HG.out])
end Go.Proofs.YtjfbahpaahlidaaDoor
