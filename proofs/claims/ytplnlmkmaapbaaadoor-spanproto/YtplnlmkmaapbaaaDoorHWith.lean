import Derived.Test.YtplnlmkmaapbaaaDoorHPlace
import Derived.Test.YtplnlmkmaapbaaaDoorHShelf
import Derived.Laws.ResultCell
namespace Go.Proofs.YtplnlmkmaapbaaaDoor
open Go Go.RowKit

theorem bitLen_le (k : Nat) : ∀ x : Nat, x < 2 ^ 64 → (Lib.bitLen x ≤ k ↔ x < 2 ^ k) := by
  induction k with
  | zero =>
    intro x hx
    by_cases h : x = 0
    · subst h; simp [show Lib.bitLen 0 = 0 from rfl]
    · rw [Lib.bitLen_half x h hx]; simp; omega
  | succ k ih =>
    intro x hx
    by_cases h : x = 0
    · subst h; simp [show Lib.bitLen 0 = 0 from rfl]
      exact Nat.pow_pos (by decide)
    · rw [Lib.bitLen_half x h hx, Nat.pow_succ]
      have := ih (x / 2) (by omega)
      omega

abbrev Z13 : List Int := [0, 0, 0, 0, 0, 0, 0, 0, 0, 0, 0, 0, 0]

theorem ret26e {fn : Func} {R : Ending → World → Prop} {a : Act} {w : World} {p u : Tmp} (hr : fn.results = #[.cell p 23, .tmp u]) (hd : a.defers = []) (g : Nat) (hp : a.tmps.getD p undef = .pointer (some ⟨g, 0, none⟩)) (L : List Int) (hL : L.length = 13)
    (hg : w.heap[g]? = some (.cells (hv L) 23 (0, 0))) (v : Value) (hu : a.tmps.getD u undef = v) (h : R (.returned (.tuple #[.agg (hv L), v])) w) : bodyPost Tryd.prog fn R .ret a w := by
  refine bodyPost_ret (v := .tuple #[.agg (hv L), v]) ?_ hd h
  rw [results_cell_tmp hr, hp, hu]
  simp [asAddr, run_loadVar_row w g 23 23 (hv L) (0, 0) _ hg Tryd.underlying23 rfl (size26 L hL)]


set_option maxHeartbeats 400000 in
theorem with_no (L : List Int) (_hL : Byt L) (f v : Int) (w : World) (hf : f < 0 ∨ 5 ≤ f) :
    Calls Tryd.prog 32 #[.agg (hv L), .int .i64 f, .int .u32 v] w fun e w' => e = .returned (.tuple #[.agg (hv Z13), .int .i64 1]) ∧ Below w.heap.size w w' := by
  go_enter Tryd.func32, Tryd.ntmps32
  go_wp2_with (first
    | (go_at_call 31; refine (place_no _ _ hf).mono ?_; rintro e w' ⟨rfl, rfl⟩)
    | (refine wl_store26 rfl _ _ rfl (w.heap.size + 1) Z13 rfl rfl _ (heap_new _ _ _ (by simp)) rfl rfl _ (setRow_new _ _ _ _ _ (by simp)) ?_))
  refine ret26e (p := 6) (u := 7) rfl rfl (w.heap.size + 1) rfl Z13 rfl (heap_new _ _ _ (by simp)) _ rfl ⟨rfl, ?_⟩
  exact ((Below.refl _ _).alloc (Nat.le_refl _) _).alloc (by simp) _


set_option maxHeartbeats 1000000 in
theorem with_core (L : List Int) (hL : Byt L) (f : Int) (at0 size n : Nat) (w : World) (hs : at0 + size ≤ 13) (hs4 : size ≤ 4) (hn : n ≤ 4294967295) (hP : Places w)
    (hpl : ∀ W, Places W → Calls Tryd.prog 31 #[.int .i64 f] W fun e w' => e = .returned (.tuple #[.int .i64 (8 * (at0 : Int)), .int .i64 (8 * (size : Int)), .int .i64 0]) ∧ Below W.heap.size W w') (hb : (Lib.bitLen n : Int) ≤ 8 * (size : Int)) :
    Calls Tryd.prog 32 #[.agg (hv L), .int .i64 f, .int .u32 n] w fun e w' => e = .returned (.tuple #[.agg (hv (putN L at0 size n size)), .int .i64 0]) ∧ Below w.heap.size w w' := by
  have hl := hL.1
  have hp := hP.pos
  have hn' : (n : Int) ≤ 4294967295 := by omega
  have HN : Hid ((n : Int) ≤ 4294967295) := hn'
  have HP : Hid (∀ W, Places W → Calls Tryd.prog 31 #[.int .i64 f] W fun e w' => e = .returned (.tuple #[.int .i64 (8 * (at0 : Int)), .int .i64 (8 * (size : Int)), .int .i64 0]) ∧ Below W.heap.size W w') := hpl
  clear hn hn' hpl
  go_enter Tryd.func32, Tryd.ntmps32
  go_wp2_with fail
  refine (HP.out _ (hP.later hp (((Below.refl _ _).alloc (Nat.le_refl _) _).alloc (by simp) _))).mono ?_
  clear HP
  rintro e w1 ⟨rfl, hb1⟩
  have g1 : w1.heap[w.heap.size]? = some (.cells (hv L) 23 (0, 0)) := by
    rw [hb1.block _ (by simp; omega)]; exact heap_past _ _ _ _ (heap_new _ _ _ rfl)
  have g2 : w1.heap[w.heap.size + 1]? = some (.cells zero26 23 (0, 0)) := by
    rw [hb1.block _ (by simp)]; exact heap_new _ _ _ (by simp)
  clear hP
  go_wp2_with fail
  refine (Tryd.bits_Len32 _ _ (Int.natCast_nonneg n) HN.out).mono ?_
  rintro e w' ⟨rfl, rfl⟩
  go_wp2_with (refine wl_load26 rfl _ rfl w.heap.size rfl L g1 hl ?_)
  refine (put_any L hl at0 size n w' hs hs4 (Int.natCast_nonneg n) (by have := HN.out; omega)).mono ?_
  rintro e w2 ⟨rfl, hb2⟩
  have hz1 := hb1.size
  have hlt : w.heap.size + 1 < w'.heap.size := by simp at hz1; omega
  have g3 : w2.heap[w.heap.size + 1]? = some (.cells zero26 23 (0, 0)) := by rw [hb2.block _ hlt]; exact g2
  have hpl := putN_length L at0 size n size
  go_wp2_with (refine wl_store26 rfl _ _ rfl (w.heap.size + 1) (putN L at0 size n size) rfl rfl _ g3 rfl (by omega) _ rfl ?_)
  refine ret26e (p := 6) (u := 7) rfl rfl (w.heap.size + 1) rfl (putN L at0 size n size) (by omega) (setRow_heap _ _ _ _ _ _ g3) _ rfl ⟨rfl, ?_⟩
  have hW : Below w.heap.size w w' := (((Below.refl _ _).alloc (Nat.le_refl _) _).alloc (by simp) _).trans (hb1.mono (by simp; omega))
  exact below_setRow (hW.trans (hb2.mono hW.size)) (by omega) _

set_option maxHeartbeats 1000000 in
theorem with_over (L : List Int) (f : Int) (at0 size n : Nat) (w : World) (_hs : at0 + size ≤ 13) (_hs4 : size ≤ 4) (hn : n ≤ 4294967295) (hP : Places w)
    (hpl : ∀ W, Places W → Calls Tryd.prog 31 #[.int .i64 f] W fun e w' => e = .returned (.tuple #[.int .i64 (8 * (at0 : Int)), .int .i64 (8 * (size : Int)), .int .i64 0]) ∧ Below W.heap.size W w') (hb : 8 * (size : Int) < (Lib.bitLen n : Int)) :
    Calls Tryd.prog 32 #[.agg (hv L), .int .i64 f, .int .u32 n] w fun e w' => e = .returned (.tuple #[.agg (hv Z13), .int .i64 10]) ∧ Below w.heap.size w w' := by
  have hp := hP.pos
  have hn' : (n : Int) ≤ 4294967295 := by omega
  have HN : Hid ((n : Int) ≤ 4294967295) := hn'
  have HP : Hid (∀ W, Places W → Calls Tryd.prog 31 #[.int .i64 f] W fun e w' => e = .returned (.tuple #[.int .i64 (8 * (at0 : Int)), .int .i64 (8 * (size : Int)), .int .i64 0]) ∧ Below W.heap.size W w') := hpl
  clear hn hn' hpl
  go_enter Tryd.func32, Tryd.ntmps32
  go_wp2_with fail
  refine (HP.out _ (hP.later hp (((Below.refl _ _).alloc (Nat.le_refl _) _).alloc (by simp) _))).mono ?_
  clear HP
  rintro e w1 ⟨rfl, hb1⟩
  have g2 : w1.heap[w.heap.size + 1]? = some (.cells zero26 23 (0, 0)) := by
    rw [hb1.block _ (by simp)]; exact heap_new _ _ _ (by simp)
  clear hP
  go_wp2_with fail
  refine (Tryd.bits_Len32 _ _ (Int.natCast_nonneg n) HN.out).mono ?_
  rintro e w' ⟨rfl, rfl⟩
  go_wp2_with (refine wl_store26 rfl _ _ rfl (w.heap.size + 1) Z13 rfl rfl _ g2 rfl rfl _ rfl ?_)
  refine ret26e (p := 6) (u := 7) rfl rfl (w.heap.size + 1) rfl Z13 rfl (setRow_heap _ _ _ _ _ _ g2) _ rfl ⟨rfl, ?_⟩
  exact below_setRow ((((Below.refl _ _).alloc (Nat.le_refl _) _).alloc (by simp) _).trans (hb1.mono (by simp; omega))) (by omega) _

def atOf (f : Int) : Nat := (firstOf f / 8).toNat
def sizeOfF (f : Int) : Nat := (widthOf f / 8).toNat
theorem place_facts (f : Int) (h0 : 0 ≤ f) (h1 : f < 5) : firstOf f = 8 * (atOf f : Int) ∧ widthOf f = 8 * (sizeOfF f : Int) ∧ atOf f + sizeOfF f ≤ 13 ∧ sizeOfF f ≤ 4 ∧ 1 ≤ sizeOfF f := by
  rcases (show f = 0 ∨ f = 1 ∨ f = 2 ∨ f = 3 ∨ f = 4 by omega) with h | h | h | h | h <;> subst h <;> decide
theorem place_at (f : Int) (h0 : 0 ≤ f) (h1 : f < 5) : ∀ W, Places W → Calls Tryd.prog 31 #[.int .i64 f] W fun e w' => e = .returned (.tuple #[.int .i64 (8 * (atOf f : Int)), .int .i64 (8 * (sizeOfF f : Int)), .int .i64 0]) ∧ Below W.heap.size W w' := fun W hP => by
  have h := place_in f W h0 h1 hP
  rw [(place_facts f h0 h1).1, (place_facts f h0 h1).2.1] at h
  exact h

theorem with_ok (L : List Int) (hL : Byt L) (f v : Int) (w : World) (h0 : 0 ≤ f) (h1 : f < 5) (hv0 : 0 ≤ v) (hv1 : v < 4294967296) (hP : Places w) (hvw : v < 2 ^ (8 * sizeOfF f)) :
    Calls Tryd.prog 32 #[.agg (hv L), .int .i64 f, .int .u32 v] w fun e w' => e = .returned (.tuple #[.agg (hv (putN L (atOf f) (sizeOfF f) v (sizeOfF f))), .int .i64 0]) ∧ Below w.heap.size w w' := by
  obtain ⟨n, rfl⟩ := Int.eq_ofNat_of_zero_le hv0
  obtain ⟨_, _, a1, a2, _⟩ := place_facts f h0 h1
  have hb := (bitLen_le (8 * sizeOfF f) n (by omega)).2 (by exact_mod_cast hvw)
  exact with_core L hL f (atOf f) (sizeOfF f) n w a1 a2 (by omega) hP (place_at f h0 h1) (by omega)

theorem with_big (L : List Int) (f v : Int) (w : World) (h0 : 0 ≤ f) (h1 : f < 5) (hv0 : 0 ≤ v) (hv1 : v < 4294967296) (hP : Places w) (hvw : ¬ v < 2 ^ (8 * sizeOfF f)) :
    Calls Tryd.prog 32 #[.agg (hv L), .int .i64 f, .int .u32 v] w fun e w' => e = .returned (.tuple #[.agg (hv Z13), .int .i64 10]) ∧ Below w.heap.size w w' := by
  obtain ⟨n, rfl⟩ := Int.eq_ofNat_of_zero_le hv0
  obtain ⟨_, _, a1, a2, _⟩ := place_facts f h0 h1
  have hb : ¬ Lib.bitLen n ≤ 8 * sizeOfF f := fun h => hvw (by exact_mod_cast (bitLen_le (8 * sizeOfF f) n (by omega)).1 h)
  exact with_over L f (atOf f) (sizeOfF f) n w a1 a2 (by omega) hP (place_at f h0 h1) (by omega)
end Go.Proofs.YtplnlmkmaapbaaaDoor
