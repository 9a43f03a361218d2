import Derived.Test.YtjlghkiplapodaaCovCovers
namespace Go.Proofs.Ytjlghkiplapodaa
open Go Go.RowKit

set_option maxHeartbeats 4000000 in
theorem rsame_any (A B : List (List Int × List Int)) (hA : A.length ≤ 1000000) (hB : B.length ≤ 1000000) (m : Int) (v u : Value) (w : World) (ha : Sl w v A) (hb : Sl w u B) :
    Calls Try.prog 23 #[v, u, .int .i64 m] w fun e w' => e = .returned (.tuple #[.bool (sameR A B m).1, .int .i64 (sameR A B m).2]) ∧ Below w.heap.size w w' := by
  obtain ⟨oa, ca, rfl, _, _⟩ := ha.slice
  obtain ⟨ob, cb, rfl, _, _⟩ := hb.slice
  obtain ⟨na, hna⟩ : ∃ n, n = A.length := ⟨_, rfl⟩
  obtain ⟨nb, hnb⟩ : ∃ n, n = B.length := ⟨_, rfl⟩
  have HNA : Hid (na = A.length) := hna
  have HNB : Hid (nb = B.length) := hnb
  have ba : na ≤ 1000000 := by rw [hna]; exact hA
  have bb : nb ≤ 1000000 := by rw [hnb]; exact hB
  rw [← hna] at ha ⊢
  rw [← hnb] at hb ⊢
  have HA : Hid (Sl w (.slice oa na ca) A) := ha
  have HB : Hid (Sl w (.slice ob nb cb) B) := hb
  obtain ⟨S, hS⟩ : ∃ S, S = sameR A B m := ⟨_, rfl⟩
  have HSE : Hid (S = if (eachR B m A).1 = true then eachR A m B else (false, (eachR B m A).2)) := hS
  obtain ⟨E, hE⟩ : ∃ E, E = eachR B m A := ⟨_, rfl⟩
  obtain ⟨F, hF⟩ : ∃ F, F = eachR A m B := ⟨_, rfl⟩
  rw [← hE, ← hF] at HSE
  have HE0 : Hid (eachR B m (A.drop 0) = E) := hE.symm
  have HF0 : Hid (eachR A m (B.drop 0) = F) := hF.symm
  rw [← hS]
  clear ha hb hS hE hF hna hnb
  go_enter Try.func23, Try.ntmps23
  go_wp2_with fail
  go_loopw [8] (fun i wr => ∃ k : Nat, k ≤ na ∧ i = .int .i64 k ∧ eachR B m (A.drop k) = E ∧ Below w.heap.size w wr) (fun i _ => na - (intOf i).toNat)
  case atStart => exact ⟨0, Nat.zero_le _, rfl, HE0.out, Below.refl _ _⟩
  case round =>
    clear HE0
    obtain ⟨k, hk, rfl, hR, hb⟩ := hrel
    have HR : Hid (eachR B m (A.drop k) = E) := hR
    clear hR
    by_cases hlt : k < na
    · obtain ⟨g, off, cur, t, fr, U, N, rfl, hg, hcc, hCk, hU, hN⟩ := HA.out.at k hlt
      have hUl := hU.1
      have hNl := hN.1
      have hg' : wr.heap[g]? = some (.cells cur t fr) := (hb.block g (Array.getElem?_eq_some_iff.1 hg).1).trans hg
      have HE : Hid (∀ j, j < 26 → cur[off + k * 26 + j]? = (cv U N)[j]?) := hcc
      have D1 : Hid (∀ W, Sl W (.slice ob nb cb) B → Calls Try.prog 19 #[(.slice ob nb cb), .agg (cv U N), .int .i64 m] W fun e w' => e = .returned (.tuple #[.bool (covB (leftC U N B (bnd m))), .int .i64 (errI (leftC U N B (bnd m)))]) ∧ Below W.heap.size W w') := fun W h => rcovers_any U N hU hN B hB m _ W h
      have HST : Hid (eachR B m (A.drop k) = if covB (leftC U N B (bnd m)) = true then eachR B m (A.drop (k + 1)) else (false, errI (leftC U N B (bnd m)))) := eachR_cons hCk
      have HS2 : Hid (Sl wr (.slice ob nb cb) B) := HB.out.below hb
      obtain ⟨x, hx⟩ : ∃ x, x = covB (leftC U N B (bnd m)) := ⟨_, rfl⟩
      obtain ⟨y, hy⟩ : ∃ y, y = errI (leftC U N B (bnd m)) := ⟨_, rfl⟩
      rw [← hx, ← hy] at D1 HST
      clear hg hcc hCk hU hN hx hy
      go_wp2_with (first
        | (refine wl_loadCat rfl _ rfl g (off + k * 26) rfl cur t fr U N hUl hNl hg' HE.out ?_))
      refine (D1.out _ HS2.out).mono ?_
      rintro e w4 ⟨rfl, hb4⟩
      have B4 := hb.trans (hb4.mono hb.size)
      clear hb4 D1 HS2 hg' hb
      cases x
      · go_wp2_with fail
        go_ret2
        refine ⟨?_, B4⟩
        have := HR.out
        rw [HST.out] at this
        have h2 : (false, y) = E := by simpa using this
        rw [HSE.out, ← h2]; rfl
      · go_wp2_with fail
        go_roundw
        case rel =>
          refine ⟨k + 1, by omega, by go_num, ?_, B4⟩
          have := HR.out
          rw [HST.out] at this
          simpa using this
        case measure => simp [intOf]; omega
    · obtain rfl : k = na := by omega
      have HET : Hid (S = F) := by
        have := HR.out
        rw [HNA.out, List.drop_length] at this
        show S = F
        rw [HSE.out, ← this]; rfl
      clear HR HSE
      obtain ⟨w0, hw0⟩ : ∃ w0 : World, w0 = wr := ⟨_, rfl⟩
      rw [← hw0] at hb ⊢
      clear hw0 wr
      go_wp2_with fail
      go_loopw [11] (fun i wr => ∃ k : Nat, k ≤ nb ∧ i = .int .i64 k ∧ eachR A m (B.drop k) = F ∧ Below w.heap.size w wr) (fun i _ => nb - (intOf i).toNat)
      case atStart => exact ⟨0, Nat.zero_le _, rfl, HF0.out, hb⟩
      case round =>
        clear HF0 hb
        obtain ⟨na, hna⟩ : ∃ n, n = k := ⟨_, rfl⟩
        rw [← hna] at HA ⊢
        clear hna hlt HNA ba hk
        obtain ⟨k, hk, rfl, hR, hb⟩ := hrel
        have HR : Hid (eachR A m (B.drop k) = F) := hR
        clear hR
        by_cases hlt : k < nb
        · obtain ⟨g, off, cur, t, fr, U, N, rfl, hg, hcc, hCk, hU, hN⟩ := HB.out.at k hlt
          have hUl := hU.1
          have hNl := hN.1
          have hg' : wr.heap[g]? = some (.cells cur t fr) := (hb.block g (Array.getElem?_eq_some_iff.1 hg).1).trans hg
          have HE : Hid (∀ j, j < 26 → cur[off + k * 26 + j]? = (cv U N)[j]?) := hcc
          have D1 : Hid (∀ W, Sl W (.slice oa na ca) A → Calls Try.prog 19 #[(.slice oa na ca), .agg (cv U N), .int .i64 m] W fun e w' => e = .returned (.tuple #[.bool (covB (leftC U N A (bnd m))), .int .i64 (errI (leftC U N A (bnd m)))]) ∧ Below W.heap.size W w') := fun W h => rcovers_any U N hU hN A hA m _ W h
          have HST : Hid (eachR A m (B.drop k) = if covB (leftC U N A (bnd m)) = true then eachR A m (B.drop (k + 1)) else (false, errI (leftC U N A (bnd m)))) := eachR_cons hCk
          have HS2 : Hid (Sl wr (.slice oa na ca) A) := HA.out.below hb
          obtain ⟨x, hx⟩ : ∃ x, x = covB (leftC U N A (bnd m)) := ⟨_, rfl⟩
          obtain ⟨y, hy⟩ : ∃ y, y = errI (leftC U N A (bnd m)) := ⟨_, rfl⟩
          rw [← hx, ← hy] at D1 HST
          clear hg hcc hCk hU hN hx hy
          go_wp2_with (first
            | (refine wl_loadCat rfl _ rfl g (off + k * 26) rfl cur t fr U N hUl hNl hg' HE.out ?_))
          refine (D1.out _ HS2.out).mono ?_
          rintro e w4 ⟨rfl, hb4⟩
          have B4 := hb.trans (hb4.mono hb.size)
          clear hb4 D1 HS2 hg' hb
          cases x
          · go_wp2_with fail
            go_ret2
            refine ⟨?_, B4⟩
            have := HR.out
            rw [HST.out] at this
            have h2 : (false, y) = F := by simpa using this
            rw [HET.out, ← h2]; rfl
          · go_wp2_with fail
            go_roundw
            case rel =>
              refine ⟨k + 1, by omega, by go_num, ?_, B4⟩
              have := HR.out
              rw [HST.out] at this
              simpa using this
            case measure => simp [intOf]; omega
        · obtain rfl : k = nb := by omega
          go_wp2_with fail
          go_ret2
          refine ⟨?_, hb⟩
          have := HR.out
          rw [HNB.out, List.drop_length] at this
          rw [HET.out, ← this]; rfl
end Go.Proofs.Ytjlghkiplapodaa
