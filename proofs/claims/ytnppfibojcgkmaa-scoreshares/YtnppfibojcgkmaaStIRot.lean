import Derived.Test.YtnppfibojcgkmaaStISwap
namespace Go.Proofs.Ytnppfibojcgkmaa
open Go Go.Shelf Go.RowKit Go.Lib Go.Sort
set_option maxRecDepth 20000

variable {α : Type} [Inhabited α]
set_option maxHeartbeats 8000000 in
set_option maxRecDepth 1000000 in
/-- slices.rotateCmpFunc: two parts side by side are laid the other way round. -/
theorem rotateI {P : Program} (L : StI P) (enc : α → Value) (g : Nat) (cb : Array Value) (blk off cap a m b : Nat) (d0 d : Array α) (w0 w : World)
    (R : Row1 enc w0 blk off d0) (hs : d0.size = d.size) (S : SW enc w0 blk off d w) (ham : a < m) (hmb : m < b) (hb : b ≤ d.size) (hsz : d.size < 4611686018427387904) :
    Calls P 46 #[.slice (some ⟨blk, off, none⟩) d.size cap, .int .i64 a, .int .i64 m, .int .i64 b, .func (.func g) #[] cb] w fun e w' => e = .returned (.tuple #[]) ∧ ∃ d', d'.size = d.size ∧ SW enc w0 blk off d' w' ∧ arrF d' = rotF (arrF d) a m b := by
  have mixed := L.mixed
  have t0 := L.t0; have a0 := L.a0; have z0 := L.z0; have v0 := L.v0
  have t3 := L.t3; have a3 := L.a3; have z3 := L.z3; have v3 := L.v3
  have t4 := L.t4; have a4 := L.a4; have z4 := L.z4; have v4 := L.v4
  have tS := L.tS; have aS := L.aS; have zS := L.zS; have vS := L.vS
  have tF := L.tF; have aF := L.aF; have zF := L.zF; have vF := L.vF
  have uS := run_underlying L.tS
  have hcl0 := R.hO.cells
  simp only [Value.cells] at hcl0
  have hst := R.hO.store P
  have FG := L.f_rotate
  have e47 : ∀ args w, (callFunc 47 args).run P w = .ok (.enter 47 args) w := enters_of L.f_swapRange (by kernel_rfl) rfl
  have S0 : Aside (SW enc w0 blk off d w) := S
  clear S
  have LL : Hid (StI P) := L
  clear L
  go_enter FG, Try.ntmps46
  go_wp2
  go_loopg [10, 11] (b - a) (fun kx s10 s11 wr => ∃ (i j : Nat) (dk : Array α), s10 = .int .i64 i ∧ s11 = .int .i64 j ∧ 0 < i ∧ 0 < j ∧ i ≤ m ∧ m + j ≤ b ∧ i + j ≤ kx ∧ dk.size = d.size ∧ Aside (SW enc w0 blk off dk wr) ∧ Hid (rotF (arrF dk) (m - i) m (m + j) = rotF (arrF d) a m b))
  case atStart => exact ⟨m - a, b - m, d, by rw [show ((m - a : Nat) : Int) = (m : Int) - (a : Int) by omega], by rw [show ((b - m : Nat) : Int) = (b : Int) - (m : Int) by omega], by omega, by omega, by omega, by omega, by omega, rfl, S0, by show _ = _; rw [show m - (m - a) = a by omega, show m + (b - m) = b by omega]⟩
  case round =>
    clear S0
    obtain ⟨i, j, dk, rfl, rfl, hi0, hj0, him, hjb, hkx, hds, S1, HE⟩ := hrel
    have em : ((m - i : Nat) : Int) = (m : Int) - (i : Int) := by omega
    by_cases hij : i = j
    · subst hij
      have hc := swapRangeI LL.out enc g cb blk off cap (m - i) m i d0 dk w0 wr R (by omega) S1.out (by omega) (by omega) (by omega)
      rw [em, hds] at hc
      have HE2 : Hid (∀ d' : Array α, arrF d' = swapF (arrF dk) (m - i) m i → arrF d' = rotF (arrF d) a m b) := fun d' h => by rw [h, rot_end _ _ _ him, HE.out]
      clear S1 HE
      go_wp2_with (go_at_fn 47; refine hc.mono ?_; rintro e w1 ⟨rfl, d', hd', S3, hE⟩)
      go_end0
      exact ⟨rfl, d', hd', S3, HE2.out d' hE⟩
    · have hijz : ¬ (i : Int) = (j : Int) := by omega
      by_cases hlt : j < i
      · have hltz : (j : Int) < (i : Int) := by omega
        have hc := swapRangeI LL.out enc g cb blk off cap (m - i) m j d0 dk w0 wr R (by omega) S1.out (by omega) (by omega) (by omega)
        rw [em, hds] at hc
        have HE2 : Hid (∀ d' : Array α, arrF d' = swapF (arrF dk) (m - i) m j → rotF (arrF d') (m - (i - j)) m (m + j) = rotF (arrF d) a m b) := fun d' h => by rw [h, rot_left _ _ _ _ him hlt hj0, HE.out]
        clear S1 HE
        go_wp2_with (go_at_fn 47; refine hc.mono ?_; rintro e w1 ⟨rfl, d', hd', S3, hE⟩)
        go_roundg (i - j + j)
        case measure => omega
        case rel => exact ⟨i - j, j, d', by rw [show ((i - j : Nat) : Int) = (i : Int) - (j : Int) by omega], rfl, by omega, hj0, by omega, hjb, by omega, hd', S3, HE2.out d' hE⟩
      · have hltz : ¬ (j : Int) < (i : Int) := by omega
        have hc := swapRangeI LL.out enc g cb blk off cap (m - i) (m + j - i) i d0 dk w0 wr R (by omega) S1.out (by omega) (by omega) (by omega)
        rw [em, show ((m + j - i : Nat) : Int) = (m : Int) + (j : Int) - (i : Int) by omega, hds] at hc
        have HE2 : Hid (∀ d' : Array α, arrF d' = swapF (arrF dk) (m - i) (m + j - i) i → rotF (arrF d') (m - i) m (m + (j - i)) = rotF (arrF d) a m b) := fun d' h => by rw [h, rot_right _ _ _ _ him (by omega) hi0, HE.out]
        clear S1 HE
        go_wp2_with (go_at_fn 47; refine hc.mono ?_; rintro e w1 ⟨rfl, d', hd', S3, hE⟩)
        go_roundg (i + (j - i))
        case measure => omega
        case rel => exact ⟨i, j - i, d', rfl, by rw [show ((j - i : Nat) : Int) = (j : Int) - (i : Int) by omega], hi0, by omega, him, by omega, by omega, hd', S3, HE2.out d' hE⟩
end Go.Proofs.Ytnppfibojcgkmaa
