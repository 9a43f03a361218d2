import Derived.Test.YtjfbahpaahlidaaDoorDigits
namespace Go.Proofs.YtjfbahpaahlidaaDoor
open Go Go.RowKit

theorem u32_and255 (x : Int) (h0 : 0 ≤ x) (h1 : x < 4294967296) : bits .and .u32 x 255 = x % 256 := bits_mask .u32 32 (by decide) (fun n h0 h1 => by rw [IntKind.wrap_u32]; omega) 8 (by decide) x h0 h1

set_option maxHeartbeats 1000000 in
theorem address_any (v b0 b1 b2 b3 : Nat) (w : World) (hv : v < 4294967296) (h0 : v / 16777216 = b0) (h1 : v / 65536 % 256 = b1) (h2 : v / 256 % 256 = b2) (h3 : v % 256 = b3) :
    Calls Tryd.prog 36 #[.int .u32 (v : Int)] w fun e w' => e = .returned (.string ⟨(Lib.decDigits b0 ++ [46] ++ Lib.decDigits b1 ++ [46] ++ Lib.decDigits b2 ++ [46] ++ Lib.decDigits b3).toArray⟩) ∧ Below w.heap.size w w' := by
  have l0 : (Lib.decDigits b0).length ≤ 3 := dec_le 2 b0 (by omega)
  have l1 : (Lib.decDigits b1).length ≤ 3 := dec_le 2 b1 (by omega)
  have l2 : (Lib.decDigits b2).length ≤ 3 := dec_le 2 b2 (by omega)
  have l3 : (Lib.decDigits b3).length ≤ 3 := dec_le 2 b3 (by omega)
  have HV : Hid (v < 4294967296) := hv
  have H0 : Hid (v / 16777216 = b0) := h0
  have H1 : Hid (v / 65536 % 256 = b1) := h1
  have H2 : Hid (v / 256 % 256 = b2) := h2
  have H3 : Hid (v % 256 = b3) := h3
  clear hv h0 h1 h2 h3
  go_enter Tryd.func36, Tryd.ntmps36
  go_wp2_with fail
  have q0 : (v : Int) / 16777216 = (b0 : Int) := by have := H0.out; omega
  rw [q0]
  clear q0
  refine (digits_any b0 _ (by have := H0.out; have := HV.out; omega)).mono ?_
  rintro e w1 ⟨rfl, hb1⟩
  go_wp2_with fail
  have hB1 : Below w.heap.size w w1 := hb1
  clear hb1
  have q1 : bits BinOp.and IntKind.u32 ((v : Int) / 65536) 255 = (b1 : Int) := by
    have h1 := H1.out
    have h2 := HV.out
    rw [u32_and255 _ (by omega) (by omega)]; omega
  rw [q1]
  clear q1
  refine (digits_any b1 _ (by have := H1.out; omega)).mono ?_
  rintro e w2 ⟨rfl, hb2⟩
  have hB2 : Below w.heap.size w w2 := hB1.trans (hb2.mono hB1.size)
  clear hb2 hB1
  go_wp2_with fail
  have q2 : bits BinOp.and IntKind.u32 ((v : Int) / 256) 255 = (b2 : Int) := by
    have h1 := H2.out
    have h2 := HV.out
    rw [u32_and255 _ (by omega) (by omega)]; omega
  rw [q2]
  clear q2
  refine (digits_any b2 _ (by have := H2.out; omega)).mono ?_
  rintro e w3 ⟨rfl, hb3⟩
  have hB3 : Below w.heap.size w w3 := hB2.trans (hb3.mono hB2.size)
  clear hb3 hB2
  go_wp2_with fail
  have q3 : bits BinOp.and IntKind.u32 (v : Int) 255 = (b3 : Int) := by
    have h1 := H3.out
    have h2 := HV.out
    rw [u32_and255 _ (by omega) (by omega)]; omega
  rw [q3]
  clear q3
  refine (digits_any b3 _ (by have := H3.out; omega)).mono ?_
  rintro e w4 ⟨rfl, hb4⟩
  have hB4 : Below w.heap.size w w4 := hB3.trans (hb4.mono hB3.size)
  clear hb4 hB3
  go_wp2_with fail
  go_ret
  refine ⟨?_, hB4⟩
  show Ending.returned (.string ({ data := (Lib.decDigits b0).toArray } ++ { data := [46].toArray } ++ { data := (Lib.decDigits b1).toArray } ++ { data := [46].toArray } ++ { data := (Lib.decDigits b2).toArray } ++ { data := [46].toArray } ++ { data := (Lib.decDigits b3).toArray })) = _
  simp only [str_app]
end Go.Proofs.YtjfbahpaahlidaaDoor
