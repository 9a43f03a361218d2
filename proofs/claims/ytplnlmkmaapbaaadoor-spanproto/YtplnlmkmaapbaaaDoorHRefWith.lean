import Derived.Test.YtplnlmkmaapbaaaDoorHFirst
import Derived.Test.YtplnlmkmaapbaaaDoorHWith
namespace Go.Proofs.YtplnlmkmaapbaaaDoor
open Go Go.RowKit

/-- The header behind n rounds of the reference's With: from the last bit of the field on. -/
def withB (L : List Int) (F Wd v : Nat) : Nat → List Int
  | 0 => L
  | n + 1 => setB (withB L F Wd v n) ((F : Int) + ((Wd : Int) - 1 - (n : Int))) (((v / 2 ^ n : Nat) : Int) % 2 == 1)

theorem withB_bit (L : List Int) (hL : Byt L) (F Wd v : Nat) (hFW : F + Wd ≤ 104) : ∀ n, n ≤ Wd → Byt (withB L F Wd v n) ∧
    ∀ k : Nat, k < 104 → bitB (withB L F Wd v n) (k : Int) = if F + Wd - n ≤ k ∧ k < F + Wd then (v / 2 ^ (F + Wd - 1 - k) % 2 == 1) else bitB L (k : Int)
  | 0, _ => ⟨hL, fun k _ => by rw [if_neg (by omega)]; rfl⟩
  | n + 1, hn => by
    obtain ⟨h1, h2⟩ := withB_bit L hL F Wd v hFW n (by omega)
    obtain ⟨g1, g2⟩ := setB_bit (withB L F Wd v n) h1 ((F : Int) + ((Wd : Int) - 1 - (n : Int))) (((v / 2 ^ n : Nat) : Int) % 2 == 1) (by omega) (by omega)
    refine ⟨g1, fun k hk => ?_⟩
    show bitB (setB _ _ _) _ = _
    rw [g2 (k : Int) (by omega) (by omega)]
    by_cases e : (k : Int) = (F : Int) + ((Wd : Int) - 1 - (n : Int))
    · rw [if_pos e, if_pos (by omega), show F + Wd - 1 - k = n by omega, Bool.eq_iff_iff, beq_iff_eq, beq_iff_eq]
      omega
    · rw [if_neg e, h2 k hk]
      by_cases e2 : F + Wd - n ≤ k ∧ k < F + Wd
      · rw [if_pos e2, if_pos (by omega)]
      · rw [if_neg e2, if_neg (by omega)]

set_option maxHeartbeats 2000000 in
theorem refWith_core (L : List Int) (hL : Byt L) (f : Int) (F Wd v : Nat) (w : World) (hFW : F + Wd ≤ 104) (hWd : 1 ≤ Wd) (hv : v ≤ 4294967295)
    (c17 : ∀ W, Calls Tryd.prog 25 #[.int .i64 f] W fun e w' => e = .returned (.int .i64 (F : Int)) ∧ w' = W)
    (c18 : ∀ W, Calls Tryd.prog 26 #[.int .i64 f] W fun e w' => e = .returned (.int .i64 (Wd : Int)) ∧ w' = W) :
    Calls Tryd.prog 22 #[.agg (Go.Proofs.YtplnlmkmaapbaaaDoor.hv L), .int .i64 f, .int .u32 (v : Int)] w fun e w' => (v < 2 ^ Wd → e = .returned (.tuple #[.agg (Go.Proofs.YtplnlmkmaapbaaaDoor.hv (withB L F Wd v Wd)), .int .i64 0])) ∧ (¬ v < 2 ^ Wd → e = .returned (.tuple #[.agg (Go.Proofs.YtplnlmkmaapbaaaDoor.hv Z13), .int .i64 10])) ∧ Below w.heap.size w w' := by
  have K17 : Hid _ := c17
  have K18 : Hid _ := c18
  have HV : Hid (v ≤ 4294967295) := hv
  have hv1 : (v : Int) ≤ 4294967295 := by omega
  clear c17 c18 hv
  go_enter Tryd.func22, Tryd.ntmps22
  go_wp2_with (first
    | (go_at_call 25; refine (K17.out _).mono ?_; rintro e w' ⟨rfl, rfl⟩)
    | (go_at_call 26; refine (K18.out _).mono ?_; rintro e w' ⟨rfl, rfl⟩))
  go_loopw [2, 8] (fun x i wr => ∃ n : Nat, n ≤ Wd ∧ i = .int .i64 ((Wd : Int) - 1 - (n : Int)) ∧ x = .int .u32 ((v / 2 ^ n : Nat) : Int) ∧ wr.heap[w.heap.size]? = some (.cells (Go.Proofs.YtplnlmkmaapbaaaDoor.hv (withB L F Wd v n)) 23 (0, 0)) ∧ wr.heap[w.heap.size + 1]? = some (.cells zero26 23 (0, 0)) ∧ Below w.heap.size w wr) (fun _ i _ => (intOf i + 1).toNat)
  case atStart => exact ⟨0, Nat.zero_le _, by simp, by simp, heap_past _ _ _ _ (heap_new _ _ _ rfl), heap_new _ _ _ (by simp), ((Below.refl _ _).alloc (Nat.le_refl _) _).alloc (by simp) _⟩
  case round =>
    obtain ⟨n, hn, rfl, rfl, g1, g2, hbw⟩ := hrel
    have hml := (withB_bit L hL F Wd v hFW n hn).1
    have hz1 := (Array.getElem?_eq_some_iff.1 g1).1
    have hz2 := (Array.getElem?_eq_some_iff.1 g2).1
    have hvn : ((v / 2 ^ n : Nat) : Int) ≤ 4294967295 := by
      have := Nat.div_le_self v (2 ^ n)
      have := HV.out
      omega
    obtain ⟨x, hx⟩ : ∃ x : Nat, x = v / 2 ^ n := ⟨_, rfl⟩
    rw [← hx] at hvn ⊢
    have HX : Hid (x = v / 2 ^ n) := hx
    clear hx hv1
    by_cases hlt : n < Wd
    · have hi0 : 0 ≤ (Wd : Int) - 1 - (n : Int) := by omega
      go_wp2_with fail
      refine wp_region_tail 8 (by kernel_rfl) (by kernel_rfl) ?_
      simp only [List.take_succ_cons, List.take_zero, List.drop_succ_cons, List.drop_zero]
      refine q_load_row rfl 23 _ rfl w.heap.size rfl 23 _ (0, 0) _ (by rintro w' rfl; exact heap_drew g1) Tryd.underlying23 rfl (size26 _ hml.1) ?_
      simp only [Act.put, List.setIfInBounds_toArray, List.set_cons_succ, List.set_cons_zero]
      go_big_quiet_step (fail)
      go_big_quiet_want; go_big_quiet_op
      refine ⟨_, K17.out _, ?_⟩
      go_big_quiet_on
      repeat go_big_quiet_step (fail)
      refine wpQuiet_nil ?_
      go_wp2_with fail
      refine (refPut_any (withB L F Wd v n) hml _ _ _ (by omega) (by omega)).mono ?_
      rintro e w2 ⟨rfl, hb2⟩
      have k1 : w2.heap[w.heap.size]? = some (.cells (Go.Proofs.YtplnlmkmaapbaaaDoor.hv (withB L F Wd v n)) 23 (0, 0)) := by rw [hb2.block _ hz1]; exact g1
      have k2 : w2.heap[w.heap.size + 1]? = some (.cells zero26 23 (0, 0)) := by rw [hb2.block _ hz2]; exact g2
      have es : setB (withB L F Wd v n) ((F : Int) + ((Wd : Int) - 1 - (n : Int))) ((x : Int) % 2 == 1) = withB L F Wd v (n + 1) := by rw [HX.out]; rfl
      rw [es]
      clear es
      have hl2 := (withB_bit L hL F Wd v hFW (n + 1) (by omega)).1.1
      go_wp2_with (refine wl_store26 rfl _ _ rfl w.heap.size (withB L F Wd v (n + 1)) rfl rfl _ k1 (by rw [hv_size]; exact hml.1) hl2 _ rfl ?_)
      go_roundw
      case rel =>
        refine ⟨n + 1, by omega, by congr 1; omega, ?_, setRow_heap _ _ _ _ _ _ k1, ?_, below_setRow ((hbw.drew).trans (hb2.mono hbw.size)) (Nat.le_refl _) _⟩
        · congr 1
          rw [HX.out, Nat.pow_succ, ← Nat.div_div_eq_div_mul]; omega
        · rw [setRow_other _ _ _ _ (by omega)]; exact k2
      case measure => simp [intOf]; omega
    · obtain rfl : n = Wd := by omega
      have hneg : (n : Int) - 1 - (n : Int) < 0 := by omega
      have hx0 : v < 2 ^ n ↔ x = 0 := by
        have hp : 0 < 2 ^ n := Nat.pow_pos (by decide)
        rw [HX.out, Nat.div_eq_zero_iff]; omega
      have H0 : Hid (v < 2 ^ n ↔ x = 0) := hx0
      clear hx0
      by_cases hb : x = 0
      · have hb' : (x : Int) ≤ 0 := by omega
        have HB : Hid (x = 0) := hb
        clear hb
        go_wp2_with (first
          | (refine wl_load26 rfl _ rfl w.heap.size rfl (withB L F n v n) g1 hml.1 ?_)
          | (refine wl_store26 rfl _ _ rfl (w.heap.size + 1) (withB L F n v n) rfl rfl _ g2 rfl hml.1 _ rfl ?_))
        refine ret26e (p := 6) (u := 7) rfl rfl (w.heap.size + 1) rfl (withB L F n v n) hml.1 (setRow_heap _ _ _ _ _ _ g2) _ rfl ⟨fun _ => rfl, fun h => absurd (H0.out.2 HB.out) h, ?_⟩
        exact below_setRow hbw (by omega) _
      · have hb' : 0 < (x : Int) := by omega
        have HB : Hid (¬ x = 0) := hb
        clear hb
        go_wp2_with (refine wl_store26 rfl _ _ rfl (w.heap.size + 1) Z13 rfl rfl _ g2 rfl rfl _ rfl ?_)
        refine ret26e (p := 6) (u := 7) rfl rfl (w.heap.size + 1) rfl Z13 rfl (setRow_heap _ _ _ _ _ _ g2) _ rfl ⟨fun h => absurd (H0.out.1 h) HB.out, fun _ => rfl, ?_⟩
        exact below_setRow hbw (by omega) _
end Go.Proofs.YtplnlmkmaapbaaaDoor
