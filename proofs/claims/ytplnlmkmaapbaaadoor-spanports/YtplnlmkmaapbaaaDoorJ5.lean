import Derived.Test.YtplnlmkmaapbaaaDoorJ4
import Derived.Laws.ResultCell
import Derived.Maps.AppendAt
import Derived.OwnWalk
namespace Go.Proofs.YtplnlmkmaapbaaaDoor
open Go Go.RowKit

theorem bitLen_le (k : Nat) : ∀ x : Nat, x < 2 ^ 64 → (Lib.bitLen x ≤ k ↔ x < 2 ^ k) := by
  induction k with
  | zero =>
    intro x hx
    by_cases h : x = 0
    · subst h; simp [show Lib.bitLen 0 = 0 from rfl]
    · rw [Lib.bitLen_half x h hx]; simp; omega
  | succ k ih =>
    intro x hx
    by_cases h : x = 0
    · subst h; simp [show Lib.bitLen 0 = 0 from rfl]
      exact Nat.pow_pos (by decide)
    · rw [Lib.bitLen_half x h hx, Nat.pow_succ]
      have := ih (x / 2) (by omega)
      omega

abbrev Z13 : List Int := [0, 0, 0, 0, 0, 0, 0, 0, 0, 0, 0, 0, 0]

theorem ret26e {fn : Func} {R : Ending → World → Prop} {a : Act} {w : World} {p u : Tmp} (hr : fn.results = #[.cell p 23, .tmp u]) (hd : a.defers = []) (g : Nat) (hp : a.tmps.getD p undef = .pointer (some ⟨g, 0, none⟩)) (L : List Int) (hL : L.length = 13)
    (hg : w.heap[g]? = some (.cells (hv L) 23 (0, 0))) (v : Value) (hu : a.tmps.getD u undef = v) (h : R (.returned (.tuple #[.agg (hv L), v])) w) : bodyPost Tryd.prog fn R .ret a w := by
  refine bodyPost_ret (v := .tuple #[.agg (hv L), v]) ?_ hd h
  rw [results_cell_tmp hr, hp, hu]
  simp [asAddr, run_loadVar_row w g 23 23 (hv L) (0, 0) _ hg Tryd.underlying23 rfl (size26 L hL)]


set_option maxHeartbeats 400000 in
theorem with_no (L : List Int) (_hL : Byt L) (f v : Int) (w : World) (hf : f < 0 ∨ 5 ≤ f) :
    Calls Tryd.prog 32 #[.agg (hv L), .int .i64 f, .int .u32 v] w fun e w' => e = .returned (.tuple #[.agg (hv Z13), .int .i64 1]) ∧ Below w.heap.size w w' := by
  go_enter Tryd.func32, Tryd.ntmps32
  go_wp2_with (first
    | (go_at_call 31; refine (place_no _ _ hf).mono ?_; rintro e w' ⟨rfl, rfl⟩)
    | (refine wl_store26 rfl _ _ rfl (w.heap.size + 1) Z13 rfl rfl _ (heap_new _ _ _ (by simp)) rfl rfl _ (setRow_new _ _ _ _ _ (by simp)) ?_))
  refine ret26e (p := 6) (u := 7) rfl rfl (w.heap.size + 1) rfl Z13 rfl (heap_new _ _ _ (by simp)) _ rfl ⟨rfl, ?_⟩
  exact ((Below.refl _ _).alloc (Nat.le_refl _) _).alloc (by simp) _


set_option maxHeartbeats 1000000 in
theorem with_core (L : List Int) (hL : Byt L) (f : Int) (at0 size n : Nat) (w : World) (hs : at0 + size ≤ 13) (hs4 : size ≤ 4) (hn : n ≤ 4294967295) (hP : Places w)
    (hpl : ∀ W, Places W → Calls Tryd.prog 31 #[.int .i64 f] W fun e w' => e = .returned (.tuple #[.int .i64 (8 * (at0 : Int)), .int .i64 (8 * (size : Int)), .int .i64 0]) ∧ Below W.heap.size W w') (hb : (Lib.bitLen n : Int) ≤ 8 * (size : Int)) :
    Calls Tryd.prog 32 #[.agg (hv L), .int .i64 f, .int .u32 n] w fun e w' => e = .returned (.tuple #[.agg (hv (putN L at0 size n size)), .int .i64 0]) ∧ Below w.heap.size w w' := by
  have hl := hL.1
  have hp := hP.pos
  have hn' : (n : Int) ≤ 4294967295 := by omega
  have HN : Hid ((n : Int) ≤ 4294967295) := hn'
  have HP : Hid (∀ W, Places W → Calls Tryd.prog 31 #[.int .i64 f] W fun e w' => e = .returned (.tuple #[.int .i64 (8 * (at0 : Int)), .int .i64 (8 * (size : Int)), .int .i64 0]) ∧ Below W.heap.size W w') := hpl
  clear hn hn' hpl
  go_enter Tryd.func32, Tryd.ntmps32
  go_wp2_with fail
  refine (HP.out _ (hP.later hp (((Below.refl _ _).alloc (Nat.le_refl _) _).alloc (by simp) _))).mono ?_
  clear HP
  rintro e w1 ⟨rfl, hb1⟩
  have g1 : w1.heap[w.heap.size]? = some (.cells (hv L) 23 (0, 0)) := by
    rw [hb1.block _ (by simp; omega)]; exact heap_past _ _ _ _ (heap_new _ _ _ rfl)
  have g2 : w1.heap[w.heap.size + 1]? = some (.cells zero26 23 (0, 0)) := by
    rw [hb1.block _ (by simp)]; exact heap_new _ _ _ (by simp)
  clear hP
  go_wp2_with fail
  refine (Tryd.bits_Len32 _ _ (Int.natCast_nonneg n) HN.out).mono ?_
  rintro e w' ⟨rfl, rfl⟩
  go_wp2_with (refine wl_load26 rfl _ rfl w.heap.size rfl L g1 hl ?_)
  refine (put_any L hl at0 size n w' hs hs4 (Int.natCast_nonneg n) (by have := HN.out; omega)).mono ?_
  rintro e w2 ⟨rfl, hb2⟩
  have hz1 := hb1.size
  have hlt : w.heap.size + 1 < w'.heap.size := by simp at hz1; omega
  have g3 : w2.heap[w.heap.size + 1]? = some (.cells zero26 23 (0, 0)) := by rw [hb2.block _ hlt]; exact g2
  have hpl := putN_length L at0 size n size
  go_wp2_with (refine wl_store26 rfl _ _ rfl (w.heap.size + 1) (putN L at0 size n size) rfl rfl _ g3 rfl (by omega) _ rfl ?_)
  refine ret26e (p := 6) (u := 7) rfl rfl (w.heap.size + 1) rfl (putN L at0 size n size) (by omega) (setRow_heap _ _ _ _ _ _ g3) _ rfl ⟨rfl, ?_⟩
  have hW : Below w.heap.size w w' := (((Below.refl _ _).alloc (Nat.le_refl _) _).alloc (by simp) _).trans (hb1.mono (by simp; omega))
  exact below_setRow (hW.trans (hb2.mono hW.size)) (by omega) _

set_option maxHeartbeats 1000000 in
theorem with_over (L : List Int) (f : Int) (at0 size n : Nat) (w : World) (_hs : at0 + size ≤ 13) (_hs4 : size ≤ 4) (hn : n ≤ 4294967295) (hP : Places w)
    (hpl : ∀ W, Places W → Calls Tryd.prog 31 #[.int .i64 f] W fun e w' => e = .returned (.tuple #[.int .i64 (8 * (at0 : Int)), .int .i64 (8 * (size : Int)), .int .i64 0]) ∧ Below W.heap.size W w') (hb : 8 * (size : Int) < (Lib.bitLen n : Int)) :
    Calls Tryd.prog 32 #[.agg (hv L), .int .i64 f, .int .u32 n] w fun e w' => e = .returned (.tuple #[.agg (hv Z13), .int .i64 10]) ∧ Below w.heap.size w w' := by
  have hp := hP.pos
  have hn' : (n : Int) ≤ 4294967295 := by omega
  have HN : Hid ((n : Int) ≤ 4294967295) := hn'
  have HP : Hid (∀ W, Places W → Calls Tryd.prog 31 #[.int .i64 f] W fun e w' => e = .returned (.tuple #[.int .i64 (8 * (at0 : Int)), .int .i64 (8 * (size : Int)), .int .i64 0]) ∧ Below W.heap.size W w') := hpl
  clear hn hn' hpl
  go_enter Tryd.func32, Tryd.ntmps32
  go_wp2_with fail
  refine (HP.out _ (hP.later hp (((Below.refl _ _).alloc (Nat.le_refl _) _).alloc (by simp) _))).mono ?_
  clear HP
  rintro e w1 ⟨rfl, hb1⟩
  have g2 : w1.heap[w.heap.size + 1]? = some (.cells zero26 23 (0, 0)) := by
    rw [hb1.block _ (by simp)]; exact heap_new _ _ _ (by simp)
  clear hP
  go_wp2_with fail
  refine (Tryd.bits_Len32 _ _ (Int.natCast_nonneg n) HN.out).mono ?_
  rintro e w' ⟨rfl, rfl⟩
  go_wp2_with (refine wl_store26 rfl _ _ rfl (w.heap.size + 1) Z13 rfl rfl _ g2 rfl rfl _ rfl ?_)
  refine ret26e (p := 6) (u := 7) rfl rfl (w.heap.size + 1) rfl Z13 rfl (setRow_heap _ _ _ _ _ _ g2) _ rfl ⟨rfl, ?_⟩
  exact below_setRow ((((Below.refl _ _).alloc (Nat.le_refl _) _).alloc (by simp) _).trans (hb1.mono (by simp; omega))) (by omega) _

def atOf (f : Int) : Nat := (firstOf f / 8).toNat
def sizeOfF (f : Int) : Nat := (widthOf f / 8).toNat
theorem place_facts (f : Int) (h0 : 0 ≤ f) (h1 : f < 5) : firstOf f = 8 * (atOf f : Int) ∧ widthOf f = 8 * (sizeOfF f : Int) ∧ atOf f + sizeOfF f ≤ 13 ∧ sizeOfF f ≤ 4 ∧ 1 ≤ sizeOfF f := by
  rcases (show f = 0 ∨ f = 1 ∨ f = 2 ∨ f = 3 ∨ f = 4 by omega) with h | h | h | h | h <;> subst h <;> decide
theorem place_at (f : Int) (h0 : 0 ≤ f) (h1 : f < 5) : ∀ W, Places W → Calls Tryd.prog 31 #[.int .i64 f] W fun e w' => e = .returned (.tuple #[.int .i64 (8 * (atOf f : Int)), .int .i64 (8 * (sizeOfF f : Int)), .int .i64 0]) ∧ Below W.heap.size W w' := fun W hP => by
  have h := place_in f W h0 h1 hP
  rw [(place_facts f h0 h1).1, (place_facts f h0 h1).2.1] at h
  exact h

theorem with_ok (L : List Int) (hL : Byt L) (f v : Int) (w : World) (h0 : 0 ≤ f) (h1 : f < 5) (hv0 : 0 ≤ v) (hv1 : v < 4294967296) (hP : Places w) (hvw : v < 2 ^ (8 * sizeOfF f)) :
    Calls Tryd.prog 32 #[.agg (hv L), .int .i64 f, .int .u32 v] w fun e w' => e = .returned (.tuple #[.agg (hv (putN L (atOf f) (sizeOfF f) v (sizeOfF f))), .int .i64 0]) ∧ Below w.heap.size w w' := by
  obtain ⟨n, rfl⟩ := Int.eq_ofNat_of_zero_le hv0
  obtain ⟨_, _, a1, a2, _⟩ := place_facts f h0 h1
  have hb := (bitLen_le (8 * sizeOfF f) n (by omega)).2 (by exact_mod_cast hvw)
  exact with_core L hL f (atOf f) (sizeOfF f) n w a1 a2 (by omega) hP (place_at f h0 h1) (by omega)

theorem with_big (L : List Int) (f v : Int) (w : World) (h0 : 0 ≤ f) (h1 : f < 5) (hv0 : 0 ≤ v) (hv1 : v < 4294967296) (hP : Places w) (hvw : ¬ v < 2 ^ (8 * sizeOfF f)) :
    Calls Tryd.prog 32 #[.agg (hv L), .int .i64 f, .int .u32 v] w fun e w' => e = .returned (.tuple #[.agg (hv Z13), .int .i64 10]) ∧ Below w.heap.size w w' := by
  obtain ⟨n, rfl⟩ := Int.eq_ofNat_of_zero_le hv0
  obtain ⟨_, _, a1, a2, _⟩ := place_facts f h0 h1
  have hb : ¬ Lib.bitLen n ≤ 8 * sizeOfF f := fun h => hvw (by exact_mod_cast (bitLen_le (8 * sizeOfF f) n (by omega)).1 h)
  exact with_over L f (atOf f) (sizeOfF f) n w a1 a2 (by omega) hP (place_at f h0 h1) (by omega)
end Go.Proofs.YtplnlmkmaapbaaaDoor
namespace Go.Proofs.YtplnlmkmaapbaaaDoor
open Go Go.RowKit

/-- The header behind n rounds of the reference's With: from the last bit of the field on. -/
def withB (L : List Int) (F Wd v : Nat) : Nat → List Int
  | 0 => L
  | n + 1 => setB (withB L F Wd v n) ((F : Int) + ((Wd : Int) - 1 - (n : Int))) (((v / 2 ^ n : Nat) : Int) % 2 == 1)

theorem withB_bit (L : List Int) (hL : Byt L) (F Wd v : Nat) (hFW : F + Wd ≤ 104) : ∀ n, n ≤ Wd → Byt (withB L F Wd v n) ∧
    ∀ k : Nat, k < 104 → bitB (withB L F Wd v n) (k : Int) = if F + Wd - n ≤ k ∧ k < F + Wd then (v / 2 ^ (F + Wd - 1 - k) % 2 == 1) else bitB L (k : Int)
  | 0, _ => ⟨hL, fun k _ => by rw [if_neg (by omega)]; rfl⟩
  | n + 1, hn => by
    obtain ⟨h1, h2⟩ := withB_bit L hL F Wd v hFW n (by omega)
    obtain ⟨g1, g2⟩ := setB_bit (withB L F Wd v n) h1 ((F : Int) + ((Wd : Int) - 1 - (n : Int))) (((v / 2 ^ n : Nat) : Int) % 2 == 1) (by omega) (by omega)
    refine ⟨g1, fun k hk => ?_⟩
    show bitB (setB _ _ _) _ = _
    rw [g2 (k : Int) (by omega) (by omega)]
    by_cases e : (k : Int) = (F : Int) + ((Wd : Int) - 1 - (n : Int))
    · rw [if_pos e, if_pos (by omega), show F + Wd - 1 - k = n by omega, Bool.eq_iff_iff, beq_iff_eq, beq_iff_eq]
      omega
    · rw [if_neg e, h2 k hk]
      by_cases e2 : F + Wd - n ≤ k ∧ k < F + Wd
      · rw [if_pos e2, if_pos (by omega)]
      · rw [if_neg e2, if_neg (by omega)]

set_option maxHeartbeats 2000000 in
theorem refWith_core (L : List Int) (hL : Byt L) (f : Int) (F Wd v : Nat) (w : World) (hFW : F + Wd ≤ 104) (hWd : 1 ≤ Wd) (hv : v ≤ 4294967295)
    (c17 : ∀ W, Calls Tryd.prog 25 #[.int .i64 f] W fun e w' => e = .returned (.int .i64 (F : Int)) ∧ w' = W)
    (c18 : ∀ W, Calls Tryd.prog 26 #[.int .i64 f] W fun e w' => e = .returned (.int .i64 (Wd : Int)) ∧ w' = W) :
    Calls Tryd.prog 22 #[.agg (Go.Proofs.YtplnlmkmaapbaaaDoor.hv L), .int .i64 f, .int .u32 (v : Int)] w fun e w' => (v < 2 ^ Wd → e = .returned (.tuple #[.agg (Go.Proofs.YtplnlmkmaapbaaaDoor.hv (withB L F Wd v Wd)), .int .i64 0])) ∧ (¬ v < 2 ^ Wd → e = .returned (.tuple #[.agg (Go.Proofs.YtplnlmkmaapbaaaDoor.hv Z13), .int .i64 10])) ∧ Below w.heap.size w w' := by
  have K17 : Hid _ := c17
  have K18 : Hid _ := c18
  have HV : Hid (v ≤ 4294967295) := hv
  have hv1 : (v : Int) ≤ 4294967295 := by omega
  clear c17 c18 hv
  go_enter Tryd.func22, Tryd.ntmps22
  go_wp2_with (first
    | (go_at_call 25; refine (K17.out _).mono ?_; rintro e w' ⟨rfl, rfl⟩)
    | (go_at_call 26; refine (K18.out _).mono ?_; rintro e w' ⟨rfl, rfl⟩))
  go_loopw [2, 8] (fun x i wr => ∃ n : Nat, n ≤ Wd ∧ i = .int .i64 ((Wd : Int) - 1 - (n : Int)) ∧ x = .int .u32 ((v / 2 ^ n : Nat) : Int) ∧ wr.heap[w.heap.size]? = some (.cells (Go.Proofs.YtplnlmkmaapbaaaDoor.hv (withB L F Wd v n)) 23 (0, 0)) ∧ wr.heap[w.heap.size + 1]? = some (.cells zero26 23 (0, 0)) ∧ Below w.heap.size w wr) (fun _ i _ => (intOf i + 1).toNat)
  case atStart => exact ⟨0, Nat.zero_le _, by simp, by simp, heap_past _ _ _ _ (heap_new _ _ _ rfl), heap_new _ _ _ (by simp), ((Below.refl _ _).alloc (Nat.le_refl _) _).alloc (by simp) _⟩
  case round =>
    obtain ⟨n, hn, rfl, rfl, g1, g2, hbw⟩ := hrel
    have hml := (withB_bit L hL F Wd v hFW n hn).1
    have hz1 := (Array.getElem?_eq_some_iff.1 g1).1
    have hz2 := (Array.getElem?_eq_some_iff.1 g2).1
    have hvn : ((v / 2 ^ n : Nat) : Int) ≤ 4294967295 := by
      have := Nat.div_le_self v (2 ^ n)
      have := HV.out
      omega
    obtain ⟨x, hx⟩ : ∃ x : Nat, x = v / 2 ^ n := ⟨_, rfl⟩
    rw [← hx] at hvn ⊢
    have HX : Hid (x = v / 2 ^ n) := hx
    clear hx hv1
    by_cases hlt : n < Wd
    · have hi0 : 0 ≤ (Wd : Int) - 1 - (n : Int) := by omega
      go_wp2_with fail
      refine wp_region_tail 8 (by kernel_rfl) (by kernel_rfl) ?_
      simp only [List.take_succ_cons, List.take_zero, List.drop_succ_cons, List.drop_zero]
      refine q_load_row rfl 23 _ rfl w.heap.size rfl 23 _ (0, 0) _ (by rintro w' rfl; exact heap_drew g1) Tryd.underlying23 rfl (size26 _ hml.1) ?_
      simp only [Act.put, List.setIfInBounds_toArray, List.set_cons_succ, List.set_cons_zero]
      go_big_quiet_step (fail)
      go_big_quiet_want; go_big_quiet_op
      refine ⟨_, K17.out _, ?_⟩
      go_big_quiet_on
      repeat go_big_quiet_step (fail)
      refine wpQuiet_nil ?_
      go_wp2_with fail
      refine (refPut_any (withB L F Wd v n) hml _ _ _ (by omega) (by omega)).mono ?_
      rintro e w2 ⟨rfl, hb2⟩
      have k1 : w2.heap[w.heap.size]? = some (.cells (Go.Proofs.YtplnlmkmaapbaaaDoor.hv (withB L F Wd v n)) 23 (0, 0)) := by rw [hb2.block _ hz1]; exact g1
      have k2 : w2.heap[w.heap.size + 1]? = some (.cells zero26 23 (0, 0)) := by rw [hb2.block _ hz2]; exact g2
      have es : setB (withB L F Wd v n) ((F : Int) + ((Wd : Int) - 1 - (n : Int))) ((x : Int) % 2 == 1) = withB L F Wd v (n + 1) := by rw [HX.out]; rfl
      rw [es]
      clear es
      have hl2 := (withB_bit L hL F Wd v hFW (n + 1) (by omega)).1.1
      go_wp2_with (refine wl_store26 rfl _ _ rfl w.heap.size (withB L F Wd v (n + 1)) rfl rfl _ k1 (by rw [hv_size]; exact hml.1) hl2 _ rfl ?_)
      go_roundw
      case rel =>
        refine ⟨n + 1, by omega, by congr 1; omega, ?_, setRow_heap _ _ _ _ _ _ k1, ?_, below_setRow ((hbw.drew).trans (hb2.mono hbw.size)) (Nat.le_refl _) _⟩
        · congr 1
          rw [HX.out, Nat.pow_succ, ← Nat.div_div_eq_div_mul]; omega
        · rw [setRow_other _ _ _ _ (by omega)]; exact k2
      case measure => simp [intOf]; omega
    · obtain rfl : n = Wd := by omega
      have hneg : (n : Int) - 1 - (n : Int) < 0 := by omega
      have hx0 : v < 2 ^ n ↔ x = 0 := by
        have hp : 0 < 2 ^ n := Nat.pow_pos (by decide)
        rw [HX.out, Nat.div_eq_zero_iff]; omega
      have H0 : Hid (v < 2 ^ n ↔ x = 0) := hx0
      clear hx0
      by_cases hb : x = 0
      · have hb' : (x : Int) ≤ 0 := by omega
        have HB : Hid (x = 0) := hb
        clear hb
        go_wp2_with (first
          | (refine wl_load26 rfl _ rfl w.heap.size rfl (withB L F n v n) g1 hml.1 ?_)
          | (refine wl_store26 rfl _ _ rfl (w.heap.size + 1) (withB L F n v n) rfl rfl _ g2 rfl hml.1 _ rfl ?_))
        refine ret26e (p := 6) (u := 7) rfl rfl (w.heap.size + 1) rfl (withB L F n v n) hml.1 (setRow_heap _ _ _ _ _ _ g2) _ rfl ⟨fun _ => rfl, fun h => absurd (H0.out.2 HB.out) h, ?_⟩
        exact below_setRow hbw (by omega) _
      · have hb' : 0 < (x : Int) := by omega
        have HB : Hid (¬ x = 0) := hb
        clear hb
        go_wp2_with (refine wl_store26 rfl _ _ rfl (w.heap.size + 1) Z13 rfl rfl _ g2 rfl rfl _ rfl ?_)
        refine ret26e (p := 6) (u := 7) rfl rfl (w.heap.size + 1) rfl Z13 rfl (setRow_heap _ _ _ _ _ _ g2) _ rfl ⟨fun h => absurd (H0.out.1 h) HB.out, fun _ => rfl, ?_⟩
        exact below_setRow hbw (by omega) _
end Go.Proofs.YtplnlmkmaapbaaaDoor
namespace Go.Proofs.YtplnlmkmaapbaaaDoor
open Go Go.RowKit

/-- A bit of a cube: 0, 1, or 2, if it is free. -/
def atI (V M : List Int) (i : Nat) : Int := if bt M i then (if bt V i then 1 else 0) else 2
theorem at_ne2 (V M : List Int) (i : Nat) : (atI V M i != 2) = bt M i := by
  unfold atI; cases bt M i <;> cases bt V i <;> rfl
theorem at_eq1 (V M : List Int) (i : Nat) : (atI V M i == 1) = (bt V i && bt M i) := by
  unfold atI; cases bt M i <;> cases bt V i <;> rfl
theorem at_ne0 (V M : List Int) (i : Nat) : (atI V M i != 0) = ((bt V i && bt M i) || !(bt M i)) := by
  unfold atI; cases bt M i <;> cases bt V i <;> rfl
theorem at_cases (V M : List Int) (i : Nat) : atI V M i = 0 ∨ atI V M i = 1 ∨ atI V M i = 2 := by
  unfold atI; cases bt M i <;> cases bt V i <;> simp

set_option maxHeartbeats 1000000 in
theorem rset_any (V M : List Int) (hV : Byt V) (hM : Byt M) (i : Nat) (hi : i < 104) (v : Int) (w : World) :
    Calls Tryd.prog 38 #[.agg (cv V M), .int .i64 (i : Int), .int .i64 v] w fun e w' => e = .returned (.agg (cv (setb V i (v == 1)) (setb M i (v != 2)))) ∧ Below w.heap.size w w' := by
  have hVl := hV.1
  have hMl := hM.1
  have hFl : (setb M i (v != 2)).length = 13 := (setb_byt M i _).1
  have hGl : (setb V i (v == 1)).length = 13 := (setb_byt V i _).1
  have C1 : Hid (∀ W, Calls Tryd.prog 37 #[.agg (hv M), .int .i64 (i : Int), .bool (v != 2)] W fun e w' => e = .returned (.agg (hv (setb M i (v != 2)))) ∧ Below W.heap.size W w') := rput_nat M hM i hi _
  have C2 : Hid (∀ W, Calls Tryd.prog 37 #[.agg (hv V), .int .i64 (i : Int), .bool (v == 1)] W fun e w' => e = .returned (.agg (hv (setb V i (v == 1)))) ∧ Below W.heap.size W w') := rput_nat V hV i hi _
  clear hV hM
  obtain ⟨N, hN⟩ : ∃ N, N = setb M i (v != 2) := ⟨_, rfl⟩
  obtain ⟨U, hU⟩ : ∃ U, U = setb V i (v == 1) := ⟨_, rfl⟩
  rw [← hN] at C1 hFl ⊢
  rw [← hU] at C2 hGl ⊢
  clear hN hU
  go_enter Tryd.func38, Tryd.ntmps38
  have g0 : ((w.alloc (.cells (cv V M) 37)).alloc (.cells zeroC 37)).heap[w.heap.size]? = some (.cells (cv V M) 37 (0, 0)) := heap_past _ _ _ _ (heap_new _ _ _ rfl)
  have g1 : ((w.alloc (.cells (cv V M) 37)).alloc (.cells zeroC 37)).heap[w.heap.size + 1]? = some (.cells zeroC 37 (0, 0)) := heap_new _ _ _ (by simp)
  have hb : Below w.heap.size w ((w.alloc (.cells (cv V M) 37)).alloc (.cells zeroC 37)) := ((Below.refl _ _).alloc (Nat.le_refl _) _).alloc (by simp) _
  go_wp2_with (first
    | (refine wl_loadM rfl _ rfl w.heap.size rfl V M g0 hVl hMl ?_))
  refine (C1.out _).mono ?_
  rintro e w2 ⟨rfl, hb2⟩
  have m0 : w2.heap[w.heap.size]? = some (.cells (cv V M) 37 (0, 0)) := by rw [hb2.block _ (by simp; omega)]; exact g0
  have m1 : w2.heap[w.heap.size + 1]? = some (.cells zeroC 37 (0, 0)) := by rw [hb2.block _ (by simp)]; exact g1
  have hz2 : w.heap.size + 2 ≤ w2.heap.size := Nat.le_trans (by simp) hb2.size
  have hB2 := hb.trans (hb2.mono hb.size)
  clear g0 g1 hb hb2 C1
  have n0 : (w2.setRow w.heap.size (cv V N)).heap[w.heap.size]? = some (.cells (cv V N) 37 (0, 0)) := setRow_heap _ _ _ _ _ _ m0
  have n1 : (w2.setRow w.heap.size (cv V N)).heap[w.heap.size + 1]? = some (.cells zeroC 37 (0, 0)) := (setRow_other _ _ _ _ (by omega)).trans m1
  go_wp2_with (first
    | (refine wl_storeM rfl _ _ rfl w.heap.size rfl V M N rfl hVl hMl hFl m0 _ rfl ?_)
    | (refine wl_loadV rfl _ rfl w.heap.size rfl V N n0 hVl ?_))
  refine (C2.out _).mono ?_
  rintro e w3 ⟨rfl, hb3⟩
  have p0 : w3.heap[w.heap.size]? = some (.cells (cv V N) 37 (0, 0)) := by rw [hb3.block _ (by simp; omega)]; exact n0
  have p1 : w3.heap[w.heap.size + 1]? = some (.cells zeroC 37 (0, 0)) := by rw [hb3.block _ (by simp; omega)]; exact n1
  have hB3 := (below_setRow hB2 (Nat.le_refl _) (cv V N)).trans (hb3.mono (by simpa using hB2.size))
  clear m0 m1 n0 n1 hB2 hb3 hz2 C2
  have q0 : (w3.setRow w.heap.size (cv U N)).heap[w.heap.size]? = some (.cells (cv U N) 37 (0, 0)) := setRow_heap _ _ _ _ _ _ p0
  have q1 : (w3.setRow w.heap.size (cv U N)).heap[w.heap.size + 1]? = some (.cells zeroC 37 (0, 0)) := (setRow_other _ _ _ _ (by omega)).trans p1
  go_wp2_with (first
    | (refine wl_storeV rfl _ _ rfl w.heap.size rfl V N U rfl hVl hFl hGl p0 _ rfl ?_)
    | (refine wl_loadC rfl _ rfl w.heap.size rfl U N q0 hGl hFl ?_)
    | (refine wl_storeC rfl _ _ rfl (w.heap.size + 1) U N rfl rfl _ q1 rfl hGl hFl _ rfl ?_))
  refine retC (p := 6) rfl rfl (w.heap.size + 1) rfl _ _ hGl hFl (setRow_heap _ _ _ _ _ _ q1) ⟨rfl, ?_⟩
  exact below_setRow (below_setRow hB3 (Nat.le_refl _) _) (by omega) _

/-- The bits ahead of a place, all others nought. -/
def upto (k : Nat) (f : Nat → Bool) : List Int := mk fun j => decide (j < k) && f j
theorem upto_byt (k : Nat) (f : Nat → Bool) : Byt (upto k f) := mk_byt _
theorem upto_zero (f : Nat → Bool) : upto 0 f = Z := mk_ext _ _ fun i _ => by simp
theorem upto_all (f : Nat → Bool) : upto 104 f = mk f := mk_ext _ _ fun i hi => by simp [hi]
theorem upto_succ (k : Nat) (f : Nat → Bool) : setb (upto k f) k (f k) = upto (k + 1) f :=
  mk_ext _ _ fun i hi => by
    by_cases e : i = k
    · subst e; simp
    · rw [if_neg e]
      unfold upto
      rw [mk_bt _ i hi]
      congr 1
      rw [decide_eq_decide]
      omega
end Go.Proofs.YtplnlmkmaapbaaaDoor
namespace Go.Proofs.YtplnlmkmaapbaaaDoor
open Go Go.RowKit

theorem wl_zeroC {ops : Array Oper} {rest : List Oper} {o : Oper} {a : Act} {w : World} {Q : Exit → Act → World → Prop} (hg : o.guard = none) (ho : o.op = .build 37 #[])
    (h : wpList Tryd.prog ops Q rest (a.put o.dst (.agg (cv Z Z))) w) : wpList Tryd.prog ops Q (o :: rest) a w :=
  wpList_plain hg fun _ hK => by
    unfold Oper.wp execOp
    have e : ((#[] : Array (Nat × Operand)).map (fun (i, x) => (i, a.eval x))) = #[] := by simp
    have hb : (Instr.build 37 #[]).run Tryd.prog w = .ok (.agg (cv Z Z)) w := by
      rw [← zeroC_eq]; kernel_rfl
    simp only [ho, Sem.run_bind]
    rw [e, hb]
    exact hK _ _ h

end Go.Proofs.YtplnlmkmaapbaaaDoor
namespace Go.Proofs.YtplnlmkmaapbaaaDoor
open Go Go.RowKit

theorem clash_at (V M V' M' : List Int) (k : Nat) : (atI V M k + atI V' M' k == 1) = (bt M k && bt M' k && (bt V k != bt V' k)) := by
  unfold atI; cases bt M k <;> cases bt V k <;> cases bt M' k <;> cases bt V' k <;> rfl
theorem min_ne2 (V M V' M' : List Int) (k : Nat) : ((if atI V' M' k < atI V M k then atI V' M' k else atI V M k) != 2) = (bt M k || bt M' k) := by
  unfold atI; cases bt M k <;> cases bt V k <;> cases bt M' k <;> cases bt V' k <;> rfl
theorem min_eq1 (V M V' M' : List Int) (k : Nat) (h : (bt M k && bt M' k && (bt V k != bt V' k)) = false) : ((if atI V' M' k < atI V M k then atI V' M' k else atI V M k) == 1) = ((bt V k && bt M k) || (bt V' k && bt M' k)) := by
  revert h; unfold atI; cases bt M k <;> cases bt V k <;> cases bt M' k <;> cases bt V' k <;> decide

end Go.Proofs.YtplnlmkmaapbaaaDoor
namespace Go.Proofs.YtplnlmkmaapbaaaDoor
open Go Go.RowKit

/-- The pieces as the chapter lays them. -/
def rGo (M V' M' : List Int) : Nat → Nat → List Int → List Int → List (List Int × List Int)
  | 0, _, _, _ => []
  | f + 1, i, RV, RM => if bt M i = false ∧ bt M' i = true then (setb RV i (!(bt V' i)), setb RM i true) :: rGo M V' M' f (i + 1) (setb RV i (bt V' i)) (setb RM i true) else rGo M V' M' f (i + 1) RV RM
theorem rGo_cut (M V' M' : List Int) (f i : Nat) (RV RM : List Int) (h : bt M i = false) (h2 : bt M' i = true) : rGo M V' M' (f + 1) i RV RM = (setb RV i (!(bt V' i)), setb RM i true) :: rGo M V' M' f (i + 1) (setb RV i (bt V' i)) (setb RM i true) := by
  rw [rGo, if_pos ⟨h, h2⟩]
theorem rGo_pass (M V' M' : List Int) (f i : Nat) (RV RM : List Int) (h : ¬ (bt M i = false ∧ bt M' i = true)) : rGo M V' M' (f + 1) i RV RM = rGo M V' M' f (i + 1) RV RM := by
  rw [rGo, if_neg h]
theorem rGo_nil (M V' M' : List Int) : ∀ (f i : Nat) (RV RM : List Int), i + f ≤ 104 → (∀ j, i ≤ j → j < 104 → ¬ (bt M j = false ∧ bt M' j = true)) → rGo M V' M' f i RV RM = []
  | 0, _, _, _, _, _ => rfl
  | f + 1, i, RV, RM, h, hj => by
    rw [rGo_pass M V' M' f i RV RM (hj i (Nat.le_refl _) (by omega))]
    exact rGo_nil M V' M' f (i + 1) RV RM (by omega) fun j h1 h2 => hj j (by omega) h2

theorem bt_setb (L : List Int) (i : Nat) (b : Bool) (k : Nat) (hk : k < 104) : bt (setb L i b) k = if k = i then b else bt L k := setb_bt L i b k hk

theorem mGo_rGo (V M V' M' : List Int) : ∀ (f i : Nat) (RV RM : List Int), i + f = 104 → (∀ j, i ≤ j → j < 104 → bt RM j = bt M j) → can RV RM = RV →
    mGo (meetV V M V' M') (meetM M M') f i RV RM = rGo M V' M' f i RV RM
  | 0, _, _, _, _, _, _ => rfl
  | f + 1, i, RV, RM, hf, hj, hc => by
    have hi : i < 104 := by omega
    have eM : ∀ j, j < 104 → bt (meetM M M') j = (bt M j || bt M' j) := fun j h => mk_bt _ j h
    have eV : bt (meetV V M V' M') i = ((bt V i && bt M i) || (bt V' i && bt M' i)) := mk_bt _ i hi
    by_cases hst : (RV == meetV V M V' M' && RM == meetM M M') = true
    · rw [mGo_stop _ _ _ _ _ _ hst]
      symm
      refine rGo_nil M V' M' (f + 1) i RV RM (by omega) fun j h1 h2 => ?_
      rw [Bool.and_eq_true, beq_iff_eq, beq_iff_eq] at hst
      have h3 := hj j h1 h2
      rw [hst.2, eM j h2] at h3
      rintro ⟨h4, h5⟩
      rw [h4, h5] at h3
      cases h3
    · have hst' : (RV == meetV V M V' M' && RM == meetM M M') = false := by simpa using hst
      have h3 := hj i (Nat.le_refl _) hi
      by_cases hcut : bt M i = false ∧ bt M' i = true
      · obtain ⟨h4, h5⟩ := hcut
        rw [mGo_cut _ _ _ _ _ _ hst' (by rw [h3]; exact h4) (by rw [eM i hi, h5]; simp), rGo_cut M V' M' f i RV RM h4 h5]
        rw [h4, h5] at eV
        simp only [Bool.and_false, Bool.and_true, Bool.false_or] at eV
        rw [eV]
        unfold fixV fixM
        rw [hc]
        congr 1
        refine mGo_rGo V M V' M' f (i + 1) _ _ (by omega) (fun j h6 h7 => ?_) ?_
        · rw [bt_setb _ _ _ _ h7, if_neg (by omega)]; exact hj j (by omega) h7
        · refine bt_ext _ _ (can_byt _ _) (setb_byt _ _ _) fun k hk => ?_
          rw [can_bt _ _ k hk, bt_setb _ _ _ _ hk, bt_setb _ _ _ _ hk]
          by_cases e : k = i
          · rw [if_pos e, if_pos e, Bool.and_true]
          · rw [if_neg e, if_neg e, ← can_bt _ _ k hk, hc]
      · rw [rGo_pass M V' M' f i RV RM hcut, mGo_pass _ _ _ _ _ _ hst' (by
          rw [h3, eM i hi]
          revert hcut
          cases bt M i <;> cases bt M' i <;> simp)]
        exact mGo_rGo V M V' M' f (i + 1) RV RM (by omega) (fun j h1 h2 => hj j (by omega) h2) hc

/-- How many of a list's cubes have a header. -/
def cnt (H : List Int) : List (List Int × List Int) → Nat
  | [] => 0
  | c :: C => (if has c.1 c.2 H = true then 1 else 0) + cnt H C
theorem cnt_append (H : List Int) : ∀ (C D : List (List Int × List Int)), cnt H (C ++ D) = cnt H C + cnt H D
  | [], D => by simp [cnt]
  | c :: C, D => by rw [List.cons_append, cnt, cnt, cnt_append H C D]; omega
theorem cnt_le (H : List Int) : ∀ C : List (List Int × List Int), cnt H C ≤ C.length
  | [] => Nat.le_refl _
  | c :: C => by have := cnt_le H C; rw [cnt, List.length_cons]; split <;> omega

theorem has_setb (RV RM H : List Int) (i : Nat) (b : Bool) (hi : i < 104) (hf : bt RM i = false) : has (setb RV i b) (setb RM i true) H = (has RV RM H && (bt H i == b)) := by
  rw [Bool.eq_iff_iff, Bool.and_eq_true, has_iff, has_iff, beq_iff_eq]
  constructor
  · intro g
    constructor
    · intro k hk hm
      have hki : k ≠ i := by rintro rfl; rw [hf] at hm; cases hm
      have := g k hk (by rw [bt_setb _ _ _ _ hk, if_neg hki]; exact hm)
      rwa [bt_setb _ _ _ _ hk, if_neg hki] at this
    · have := g i hi (by rw [bt_setb _ _ _ _ hi, if_pos rfl])
      rw [bt_setb _ _ _ _ hi, if_pos rfl] at this
      exact this.symm
  · rintro ⟨g1, g2⟩ k hk hm
    rw [bt_setb _ _ _ _ hk]
    rw [bt_setb _ _ _ _ hk] at hm
    by_cases h : k = i
    · rw [if_pos h, h, g2]
    · rw [if_neg h] at hm ⊢
      exact g1 k hk hm

/-- Is there a bit, from a place on, that is free in the first cube, fixed in the second one, and another one in the header? -/
def far (M V' M' H : List Int) : Nat → Nat → Bool
  | 0, _ => false
  | f + 1, i => (!(bt M i) && bt M' i && (bt H i != bt V' i)) || far M V' M' H f (i + 1)
theorem far_iff (M V' M' H : List Int) : ∀ f i, far M V' M' H f i = true ↔ ∃ j, i ≤ j ∧ j < i + f ∧ bt M j = false ∧ bt M' j = true ∧ bt H j ≠ bt V' j
  | 0, i => by
    simp only [far, Bool.false_eq_true, false_iff]
    rintro ⟨j, h1, h2, _⟩; omega
  | f + 1, i => by
    rw [far, Bool.or_eq_true, far_iff M V' M' H f (i + 1)]
    constructor
    · rintro (h | ⟨j, h1, h2, h3⟩)
      · refine ⟨i, Nat.le_refl _, by omega, ?_⟩
        revert h
        cases bt M i <;> cases bt M' i <;> simp
      · exact ⟨j, by omega, by omega, h3⟩
    · rintro ⟨j, h1, h2, h3, h4, h5⟩
      by_cases e : j = i
      · subst e; left; rw [h3, h4]; simpa using h5
      · right; exact ⟨j, by omega, by omega, h3, h4, h5⟩

theorem cnt_rGo (M V' M' H : List Int) : ∀ (f i : Nat) (RV RM : List Int), i + f = 104 → (∀ j, i ≤ j → j < 104 → bt RM j = bt M j) →
    cnt H (rGo M V' M' f i RV RM) = if (has RV RM H && far M V' M' H f i) = true then 1 else 0
  | 0, _, _, _, _, _ => by simp [rGo, cnt, far]
  | f + 1, i, RV, RM, hf, hj => by
    have hi : i < 104 := by omega
    have h3 := hj i (Nat.le_refl _) hi
    by_cases hcut : bt M i = false ∧ bt M' i = true
    · obtain ⟨h4, h5⟩ := hcut
      have hj' : ∀ j, i + 1 ≤ j → j < 104 → bt (setb RM i true) j = bt M j := fun j h6 h7 => by
        rw [bt_setb _ _ _ _ h7, if_neg (by omega)]; exact hj j (by omega) h7
      rw [rGo_cut M V' M' f i RV RM h4 h5, cnt, cnt_rGo M V' M' H f (i + 1) _ _ (by omega) hj', has_setb _ _ _ _ _ hi (by rw [h3]; exact h4), has_setb _ _ _ _ _ hi (by rw [h3]; exact h4), far, h4, h5]
      cases has RV RM H <;> cases bt H i <;> cases bt V' i <;> cases far M V' M' H f (i + 1) <;> rfl
    · rw [rGo_pass M V' M' f i RV RM hcut, cnt_rGo M V' M' H f (i + 1) RV RM (by omega) fun j h1 h2 => hj j (by omega) h2, far]
      rw [show (!(bt M i) && bt M' i && (bt H i != bt V' i)) = false by
        revert hcut
        cases bt M i <;> cases bt M' i <;> simp, Bool.false_or]

theorem minus_rGo (V M V' M' : List Int) (h : meets V M V' M' = true) : minusC V M V' M' = rGo M V' M' 104 0 (can V M) M := by
  rw [minusC_yes _ _ _ _ h]
  refine mGo_rGo V M V' M' 104 0 _ _ rfl (fun _ _ _ => rfl) ?_
  refine bt_ext _ _ (can_byt _ _) (can_byt _ _) fun i hi => ?_
  rw [can_bt _ _ i hi, can_bt _ _ i hi]; cases bt V i <;> cases bt M i <;> rfl

theorem has_can' (V M H : List Int) : has (can V M) M H = has V M H := by
  rw [Bool.eq_iff_iff, has_iff, has_iff]
  constructor
  · intro h i hi hm
    have := h i hi hm
    rwa [can_bt _ _ i hi, hm, Bool.and_true] at this
  · intro h i hi hm
    rw [can_bt _ _ i hi, hm, Bool.and_true]; exact h i hi hm

theorem cnt_minus (V M V' M' H : List Int) : cnt H (minusC V M V' M') = if (has V M H && !(has V' M' H)) = true then 1 else 0 := by
  cases hm : meets V M V' M'
  · rw [minusC_no _ _ _ _ hm, cnt, cnt, has_can', Nat.add_zero]
    cases hx : has V M H
    · rfl
    · cases hy : has V' M' H
      · rfl
      · rw [has_iff] at hx hy
        have : meets V M V' M' = true := (meets_iff _ _ _ _).2 fun i hi h1 h2 => by rw [hx i hi h1, hy i hi h2]
        rw [hm] at this; cases this
  · rw [minus_rGo _ _ _ _ hm, cnt_rGo M V' M' H 104 0 _ _ rfl (fun _ _ _ => rfl), has_can']
    cases hx : has V M H
    · rfl
    · rw [Bool.true_and, Bool.true_and]
      have e : far M V' M' H 104 0 = !(has V' M' H) := by
        rw [Bool.eq_iff_iff, far_iff, Bool.not_eq_true']
        rw [has_iff] at hx
        rw [meets_iff] at hm
        constructor
        · rintro ⟨j, _, h2, h3, h4, h5⟩
          cases hy : has V' M' H
          · rfl
          · rw [has_iff] at hy
            exact absurd (hy j (by omega) h4).symm h5
        · intro hy
          refine Classical.byContradiction fun hn => ?_
          have : has V' M' H = true := (has_iff _ _ _).2 fun i hi h1 => by
            cases h2 : bt M i
            · refine Classical.byContradiction fun h3 => hn ⟨i, Nat.zero_le _, by omega, h2, h1, fun h4 => h3 h4.symm⟩
            · rw [← hm i hi h2 h1]; exact hx i hi h2
          rw [hy] at this; cases this
      rw [e]
end Go.Proofs.YtplnlmkmaapbaaaDoor
namespace Go.Proofs.YtplnlmkmaapbaaaDoor
open Go Go.RowKit

theorem own_setRow_ne {w : World} {B : Nat} {e : TypeId} {s : Nat} {v : Value} {n : Nat} {xs : List Value} (h : w.ownsRow B e s v n xs) (g : Nat) (hg : v.ownBlock ≠ some g) (cs : Array Value) : (w.setRow g cs).ownsRow B e s v n xs := by
  obtain ⟨h1, h2 | ⟨g', cap, cur, rfl, hB, hcur, h3⟩⟩ := h
  · exact ⟨h1, .inl h2⟩
  · exact ⟨h1, .inr ⟨g', cap, cur, rfl, hB, (setRow_other _ _ _ _ (fun e => hg (by rw [e]; rfl))).trans hcur, h3⟩⟩

end Go.Proofs.YtplnlmkmaapbaaaDoor
namespace Go.Proofs.YtplnlmkmaapbaaaDoor
open Go Go.RowKit

/-- All cubes of a list have their bytes. -/
def Byts (C : List (List Int × List Int)) : Prop := ∀ c ∈ C, Byt c.1 ∧ Byt c.2
theorem byts_rGo (M V' M' : List Int) : ∀ (f i : Nat) (RV RM : List Int), Byts (rGo M V' M' f i RV RM)
  | 0, _, _, _ => fun c hc => by simp [rGo] at hc
  | f + 1, i, RV, RM => by
    rw [rGo]
    split
    · intro c hc
      rcases List.mem_cons.1 hc with h | h
      · rw [h]; exact ⟨setb_byt _ _ _, setb_byt _ _ _⟩
      · exact byts_rGo M V' M' f (i + 1) _ _ c h
    · exact byts_rGo M V' M' f (i + 1) _ _
theorem byts_minus (V M V' M' : List Int) (hM : Byt M) : Byts (minusC V M V' M') := by
  cases h : meets V M V' M'
  · rw [minusC_no _ _ _ _ h]
    intro c hc
    have : c = (can V M, M) := by simpa using hc
    rw [this]; exact ⟨can_byt _ _, hM⟩
  · rw [minus_rGo _ _ _ _ h]; exact byts_rGo _ _ _ _ _ _ _
theorem len_rGo (M V' M' : List Int) : ∀ (f i : Nat) (RV RM : List Int), (rGo M V' M' f i RV RM).length ≤ f
  | 0, _, _, _ => by simp [rGo]
  | f + 1, i, RV, RM => by
    rw [rGo]
    split
    · rw [List.length_cons]; exact Nat.succ_le_succ (len_rGo M V' M' f (i + 1) _ _)
    · exact Nat.le_succ_of_le (len_rGo M V' M' f (i + 1) _ _)
theorem len_minus (V M V' M' : List Int) : (minusC V M V' M').length ≤ 104 := by
  cases h : meets V M V' M'
  · rw [minusC_no _ _ _ _ h]; simp
  · rw [minus_rGo _ _ _ _ h]; exact len_rGo _ _ _ _ _ _ _

theorem ccells_at : ∀ (C : List (List Int × List Int)), Byts C → ∀ (i : Nat) (hi : i < C.length) (j : Nat), j < 26 → (ccells C)[26 * i + j]? = (cv C[i].1 C[i].2)[j]?
  | [], _, i, hi, _, _ => by simp at hi
  | c :: C, hC, i, hi, j, hj => by
    have h1 := hC c (by simp)
    have hl : (cv c.1 c.2).toList.length = 26 := by rw [Array.length_toList, cv_size _ _ h1.1.1 h1.2.1]
    have e : ccells (c :: C) = (cv c.1 c.2).toList ++ ccells C := by simp [ccells]
    rw [e]
    match i, hi with
    | 0, _ =>
      rw [List.getElem?_append_left (by omega)]
      simp
    | i + 1, hi =>
      rw [List.getElem?_append_right (by omega), hl, show 26 * (i + 1) + j - 26 = 26 * i + j by omega, ccells_at C (fun c hc => hC c (by simp [hc])) i (by simpa using hi) j hj]
      rfl

/-- A slice whose elements are these cubes. -/
def Row (w : World) (v : Value) (C : List (List Int × List Int)) : Prop :=
  ∃ (o : Option Addr) (cap : Nat), v = .slice o C.length cap ∧ ∀ (i : Nat) (hi : i < C.length), ∃ g cur, o = some ⟨g, 0, none⟩ ∧ w.heap[g]? = some (.cells cur 37 (0, 0)) ∧ ∀ j, j < 26 → cur[26 * i + j]? = (cv C[i].1 C[i].2)[j]?
theorem row_of {w : World} {B : Nat} {v : Value} {C : List (List Int × List Int)} (h : w.ownsRow B 37 26 v C.length (ccells C)) (hC : Byts C) : Row w v C := by
  obtain ⟨h1, ⟨rfl, h2⟩ | ⟨g, cap, cur, rfl, hB, hcur, _, _, _, h4⟩⟩ := h
  · exact ⟨none, 0, by rw [h2], fun i hi => by omega⟩
  · refine ⟨_, cap, rfl, fun i hi => ⟨g, cur, rfl, hcur, fun j hj => ?_⟩⟩
    rw [← ccells_at C hC i hi j hj, ← h4, List.getElem?_take_of_lt (by omega)]
    simp
theorem Row.below {w w' : World} {v : Value} {C : List (List Int × List Int)} (h : Row w v C) (hb : Below w.heap.size w w') : Row w' v C := by
  obtain ⟨o, cap, rfl, h2⟩ := h
  refine ⟨o, cap, rfl, fun i hi => ?_⟩
  obtain ⟨g, cur, h3, h4, h5⟩ := h2 i hi
  exact ⟨g, cur, h3, (hb.block g (Array.getElem?_eq_some_iff.1 h4).1).trans h4, h5⟩

theorem qlCat {W : World} {ops : Array Oper} {Q : Act → Prop} {rest : List Oper} {o : Oper} {a : Act} (hw : Region.wanted o (yielded ops a.tmps) = true) (x : Operand) (ho : o.op = .load 37 x)
    (g off : Nat) (hx : a.eval x = .pointer (some ⟨g, off, none⟩)) (cs : Array Value) (t : TypeId) (V M : List Int) (hV : V.length = 13) (hM : M.length = 13) (hg : W.heap[g]? = some (.cells cs t (0, 0))) (hc : ∀ j, j < 26 → cs[off + j]? = (cv V M)[j]?)
    (h : wpQuiet Tryd.prog ops (fun w' => ∃ u : Later W, w' = u.world) Q rest (a.put o.dst (.agg (cv V M)))) : wpQuiet Tryd.prog ops (fun w' => ∃ u : Later W, w' = u.world) Q (o :: rest) a := by
  refine BigFrame.wpQuiet_want hw fun K hK => ⟨.agg (cv V M), fun w hC => ?_, hK _ h⟩
  unfold Oper.quietAt execOp
  simp only [ho, hx, Instr.loadAt, Instr.sureAddr, Sem.run_bind, Sem.run_pure, Result.andThen_ok, load_cube w g off cs t (0, 0) V M hV hM (later_block hg w hC) hc]
  exact ⟨rfl, rfl⟩

set_option maxHeartbeats 2000000 in
theorem same_any (C : List (List Int × List Int)) (hC : Byts C) (hn : C.length ≤ 104) (va vb : Value) (w : World) (ha : Row w va C) (hb : Row w vb C) :
    Calls Tryd.prog 9 #[va, vb] w fun e w' => e = .returned (.bool true) ∧ Below w.heap.size w w' := by
  obtain ⟨oa, ca, rfl, ha⟩ := ha
  obtain ⟨ob, cb, rfl, hb⟩ := hb
  obtain ⟨n, hne⟩ : ∃ n, n = C.length := ⟨_, rfl⟩
  have HA : Hid (∀ (i : Nat) (hi : i < C.length), ∃ g cur, oa = some ⟨g, 0, none⟩ ∧ w.heap[g]? = some (.cells cur 37 (0, 0)) ∧ ∀ j, j < 26 → cur[26 * i + j]? = (cv C[i].1 C[i].2)[j]?) := ha
  have HB : Hid (∀ (i : Nat) (hi : i < C.length), ∃ g cur, ob = some ⟨g, 0, none⟩ ∧ w.heap[g]? = some (.cells cur 37 (0, 0)) ∧ ∀ j, j < 26 → cur[26 * i + j]? = (cv C[i].1 C[i].2)[j]?) := hb
  have HC : Hid (Byts C) := hC
  have HN : Hid (n = C.length) := hne
  have hn2 : n ≤ 104 := by omega
  have eg : ∀ op x y (xs ys : Array Value) w, (eqGuard op 37 x y (.agg xs) (.agg ys)).run Tryd.prog w = .ok () w := egC
  rw [← hne]
  clear ha hb hC hn hne
  go_enter Tryd.func9, Tryd.ntmps9
  go_wp2_with fail
  go_loopw [5] (fun i wr => ∃ k : Nat, k ≤ n ∧ i = .int .i64 k ∧ Below w.heap.size w wr) (fun i _ => n - (intOf i).toNat)
  case atStart => exact ⟨0, Nat.zero_le _, rfl, Below.refl _ _⟩
  case round =>
    obtain ⟨k, hk, rfl, hbw⟩ := hrel
    by_cases hlt : k < n
    · obtain ⟨ga, cura, rfl, hga, hca⟩ := HA.out k (by rw [← HN.out]; exact hlt)
      obtain ⟨gb, curb, rfl, hgb, hcb⟩ := HB.out k (by rw [← HN.out]; exact hlt)
      obtain ⟨U, N, hUN⟩ : ∃ U N, (U, N) = C[k]'(by rw [← HN.out]; exact hlt) := ⟨_, _, rfl⟩
      have hby := HC.out (C[k]'(by rw [← HN.out]; exact hlt)) (List.getElem_mem _)
      rw [← hUN] at hca hcb hby
      have hUl : U.length = 13 := hby.1.1
      have hNl : N.length = 13 := hby.2.1
      have e1 : ∀ w, (Op.equalIn 10000 37 (.agg (cv U N)) (.agg (cv U N))).run Tryd.prog w = .ok true w := fun w => by rw [eqC _ _ _ _ hUl hNl hUl hNl]; simp
      have hga' : wr.heap[ga]? = some (.cells cura 37 (0, 0)) := (hbw.block ga (Array.getElem?_eq_some_iff.1 hga).1).trans hga
      have hgb' : wr.heap[gb]? = some (.cells curb 37 (0, 0)) := (hbw.block gb (Array.getElem?_eq_some_iff.1 hgb).1).trans hgb
      have HCA : Hid (∀ j, j < 26 → cura[k * 26 + j]? = (cv U N)[j]?) := fun j hj => by rw [Nat.mul_comm]; exact hca j hj
      have HCB : Hid (∀ j, j < 26 → curb[k * 26 + j]? = (cv U N)[j]?) := fun j hj => by rw [Nat.mul_comm]; exact hcb j hj
      clear hUN hby hga hgb hca hcb
      go_wp2_with fail
      have ne1 := Later.ne wr
      refine wp_region_later (by kernel_rfl) (by kernel_rfl) ?_
      go_big_quiet_step (fail)
      go_big_quiet_step (fail)
      go_big_quiet_step (fail)
      refine qlCat rfl _ rfl ga (k * 26) rfl cura _ U N hUl hNl hga' HCA.out ?_
      simp only [Act.put, List.setIfInBounds_toArray, List.set_cons_succ, List.set_cons_zero]
      go_big_quiet_step (fail)
      go_big_quiet_step (fail)
      go_big_quiet_step (fail)
      refine qlCat rfl _ rfl gb (k * 26) rfl curb _ U N hUl hNl hgb' HCB.out ?_
      simp only [Act.put, List.setIfInBounds_toArray, List.set_cons_succ, List.set_cons_zero]
      go_big_quiet_step (fail)
      refine wpQuiet_nil ?_
      rintro w' ⟨u, rfl⟩
      go_wp2_with fail
      go_roundw
      case rel => exact ⟨k + 1, by omega, by go_num, hbw.trans (u.below.mono hbw.size)⟩
      case measure => simp [intOf]; omega
    · obtain rfl : k = n := by omega
      go_wp2_with fail
      go_ret
      exact ⟨rfl, hbw⟩
end Go.Proofs.YtplnlmkmaapbaaaDoor
