import Derived.Test.YtnbklmmampdbfaaGreatDoorJ5
import Derived.Test.YtnbklmmampdbfaaGreatDoorJ2
import Derived.Test.YtnbklmmampdbfaaGreatDoorJ1
import Derived.Laws.ResultCell
import Derived.Test.YtnbklmmampdbfaaGreatDoorJ3
import Derived.Maps.AppendAt
import Derived.Test.YtnbklmmampdbfaaGreatDoorJ4
namespace Go.Proofs.YtnbklmmampdbfaaGreatDoor
open Go Go.RowKit
set_option maxRecDepth 20000

theorem u32_xor7 (a b : Nat) (ha : a < 4294967296) (hb : b < 4294967296) : bits .xor .u32 (a : Int) (b : Int) = ((a ^^^ b : Nat) : Int) := by
  have hx : a ^^^ b < 2 ^ 32 := Nat.xor_lt_two_pow (by omega) (by omega)
  have ha' : a % 2 ^ IntKind.u32.bits = a := Nat.mod_eq_of_lt (by simpa [IntKind.bits] using ha)
  have hb' : b % 2 ^ IntKind.u32.bits = b := Nat.mod_eq_of_lt (by simpa [IntKind.bits] using hb)
  simp only [bits, BitVec.ofInt_natCast, BitVec.toNat_xor, BitVec.toNat_ofNat, ha', hb', IntKind.wrap_u32]
  omega
theorem xor_begins (a b : Int) (k : Nat) (ha : 0 ≤ a ∧ a < 4294967296) (hb : 0 ≤ b ∧ b < 4294967296) : (bits .xor .u32 a b / 2 ^ k == 0) = (a / 2 ^ k == b / 2 ^ k) := by
  obtain ⟨m, rfl⟩ := Int.eq_ofNat_of_zero_le ha.1
  obtain ⟨n, rfl⟩ := Int.eq_ofNat_of_zero_le hb.1
  rw [u32_xor7 m n (by omega) (by omega)]
  have c : ∀ x : Nat, ((x : Int) / 2 ^ k) = ((x >>> k : Nat) : Int) := fun x => by rw [Nat.shiftRight_eq_div_pow]; simp
  rw [c, c, c, Nat.shiftRight_xor_distrib, Bool.eq_iff_iff, beq_iff_eq, beq_iff_eq]
  constructor
  · intro h
    have : (m >>> k) ^^^ (n >>> k) = 0 := by exact_mod_cast h
    have h2 : ((m >>> k) ^^^ (n >>> k)) ^^^ (n >>> k) = 0 ^^^ (n >>> k) := by rw [this]
    rw [Nat.xor_assoc, Nat.xor_self, Nat.xor_zero, Nat.zero_xor] at h2
    rw [h2]
  · intro h
    have : m >>> k = n >>> k := by exact_mod_cast h
    rw [this, Nat.xor_self]; rfl
theorem xor_bd (a b : Int) (ha : 0 ≤ a ∧ a < 4294967296) (hb : 0 ≤ b ∧ b < 4294967296) : 0 ≤ bits .xor .u32 a b ∧ bits .xor .u32 a b < 4294967296 := by
  obtain ⟨m, rfl⟩ := Int.eq_ofNat_of_zero_le ha.1
  obtain ⟨n, rfl⟩ := Int.eq_ofNat_of_zero_le hb.1
  rw [u32_xor7 m n (by omega) (by omega)]
  have hx : m ^^^ n < 2 ^ 32 := Nat.xor_lt_two_pow (by omega) (by omega)
  omega

set_option maxHeartbeats 2000000 in
theorem begins7_any (a b n : Int) (ha : 0 ≤ a ∧ a < 4294967296) (hb : 0 ≤ b ∧ b < 4294967296) (w : World) :
    Calls Tryz.prog 65 #[.int .u32 a, .int .u32 b, .int .i64 n] w fun e w' => e = .returned (.bool (beginsM a b n)) ∧ w' = w := by
  have HX : Hid (∀ k, (bits .xor .u32 a b / 2 ^ k == 0) = (a / 2 ^ k == b / 2 ^ k)) := fun k => xor_begins a b k ha hb
  have hx := xor_bd a b ha hb
  have HBG : Hid (beginsM a b n = (bits .xor .u32 a b / 2 ^ (32 - min (max n 0) 32).toNat == 0)) := by show _ = _; unfold beginsM; rw [show 32 - clB n = (32 - min (max n 0) 32).toNat by unfold clB; omega, HX.out]
  by_cases h0 : n < 0
  · have e : clB n = 0 := by unfold clB; omega
    have HB : Hid (beginsM a b n = (bits .xor .u32 a b / 2 ^ 32 == 0)) := by show _ = _; unfold beginsM; rw [e, HX.out]
    clear e
    go_enter Tryz.func65, Tryz.ntmps65
    go_wp2_with fail
    go_ret
    first
      | (rw [HB.out]; exact ⟨rfl, rfl⟩)
      | (rw [HBG.out]; exact ⟨rfl, rfl⟩)
  · by_cases h1 : n ≤ 32
    · have e : 32 - clB n = (32 - n).toNat := by unfold clB; omega
      have HB : Hid (beginsM a b n = (bits .xor .u32 a b / 2 ^ (32 - n).toNat == 0)) := by show _ = _; unfold beginsM; rw [e, HX.out]
      clear e
      have h0' : 0 ≤ n := by omega
      clear h0
      go_enter Tryz.func65, Tryz.ntmps65
      go_wp2_with fail
      go_ret
      first
        | (rw [HB.out]; exact ⟨rfl, rfl⟩)
        | (rw [HBG.out]; exact ⟨rfl, rfl⟩)
    · have e : 32 - clB n = 0 := by unfold clB; omega
      have HB : Hid (beginsM a b n = (bits .xor .u32 a b == 0)) := by show _ = _; unfold beginsM; rw [e, ← HX.out 0, Int.pow_zero, Int.ediv_one]
      clear e
      have h1' : 32 < n := by omega
      have h0' : 0 ≤ n := by omega
      clear h0 h1
      go_enter Tryz.func65, Tryz.ntmps65
      go_wp2_with fail
      go_ret
      first
        | (rw [HB.out]; exact ⟨rfl, rfl⟩)
        | (rw [HBG.out]; exact ⟨rfl, rfl⟩)

set_option maxHeartbeats 2000000 in
theorem swithin_any (v lo hi : Int) (hv : 0 ≤ v ∧ v < 4294967296) (w : World) :
    Calls Tryz.prog 67 #[.int .u32 v, .int .i64 lo, .int .i64 hi] w fun e w' => e = .returned (.bool (decide (lo ≤ v) && decide (v ≤ hi))) ∧ w' = w := by
  obtain ⟨h1, h2⟩ := hv
  by_cases h3 : lo ≤ v
  · by_cases h4 : v ≤ hi
    · rw [decide_eq_true h3, decide_eq_true h4]
      go_enter Tryz.func67, Tryz.ntmps67
      go_wp2_with fail
      go_ret
      exact ⟨rfl, rfl⟩
    · rw [decide_eq_true h3, decide_eq_false h4]
      go_enter Tryz.func67, Tryz.ntmps67
      go_wp2_with fail
      go_ret
      exact ⟨rfl, rfl⟩
  · rw [decide_eq_false h3]
    go_enter Tryz.func67, Tryz.ntmps67
    go_wp2_with fail
    go_ret
    exact ⟨rfl, rfl⟩
/-- A field's number. -/
def fldN (L : List Int) (f : Int) : Int := getN L (atOf f) (sizeOfF f)
theorem fldN_bd (L : List Int) (hL : Byt L) (f : Int) (h0 : 0 ≤ f) (h1 : f < 5) : 0 ≤ fldN L f ∧ fldN L f < 4294967296 := by
  have h := getN_bd L hL (atOf f) (sizeOfF f)
  have hs := (place_facts f h0 h1).2.2.2.1
  have : (256 : Int) ^ sizeOfF f ≤ 4294967296 := by
    rcases (show sizeOfF f = 0 ∨ sizeOfF f = 1 ∨ sizeOfF f = 2 ∨ sizeOfF f = 3 ∨ sizeOfF f = 4 by omega) with h | h | h | h | h <;> rw [h] <;> decide
  unfold fldN
  omega
set_option maxHeartbeats 2000000 in
theorem field7_any (L : List Int) (hL : Byt L) (f : Int) (h0 : 0 ≤ f) (h1 : f < 5) (w : World) (hP : Places w) :
    Calls Tryz.prog 66 #[.agg (hv L), .int .i64 f] w fun e w' => e = .returned (.int .u32 (fldN L f)) ∧ Below w.heap.size w w' := by
  have hl := hL.1
  have hp := hP.pos
  have FC : Hid (∀ W, Places W → Calls Tryz.prog 90 #[.agg (hv L), .int .i64 f] W fun e w' => e = .returned (.tuple #[.int .u32 (fldN L f), .int .i64 0]) ∧ Below W.heap.size W w') := fun W hW => field_ok L hL f W h0 h1 hW
  have KN : Hid ((w.alloc (.cells (hv L) 31)).heap[w.heap.size]? = some (.cells (hv L) 31 (0, 0)) ∧ Places (w.alloc (.cells (hv L) 31)) ∧ Below w.heap.size w (w.alloc (.cells (hv L) 31))) := ⟨heap_new _ _ _ rfl, hP.later hp ((Below.refl _ _).alloc (Nat.le_refl _) _), (Below.refl _ _).alloc (Nat.le_refl _) _⟩
  clear hP hp
  go_enter Tryz.func66, Tryz.ntmps66
  go_wp2_with (refine wl_load26 rfl _ rfl w.heap.size rfl L KN.out.1 hl ?_)
  refine (FC.out _ KN.out.2.1).mono ?_
  rintro e w1 ⟨rfl, hb1⟩
  go_wp2_with fail
  go_ret
  exact ⟨rfl, KN.out.2.2.trans (hb1.mono KN.out.2.2.size)⟩
end Go.Proofs.YtnbklmmampdbfaaGreatDoor
namespace Go.Proofs.YtnbklmmampdbfaaGreatDoor
open Go Go.RowKit
set_option maxRecDepth 20000

def applyR (L : List Int) (x : Ent) : Bool := beginsM (fldN L 0) x.src x.srcBits && beginsM (fldN L 1) x.dst x.dstBits && (decide (x.slow ≤ fldN L 2) && decide (fldN L 2 ≤ x.shigh)) && (decide (x.dlow ≤ fldN L 3) && decide (fldN L 3 ≤ x.dhigh)) && (x.proto == -1 || x.proto == fldN L 4)
/-- Does an entry apply to a header? -/
def applyT (L : List Int) (x : Ent) : Bool := x.dflt || applyR L x
/-- An entry's addresses are numbers of 32 bits. -/
def ent32 (x : Ent) : Prop := (0 ≤ x.src ∧ x.src < 4294967296) ∧ (0 ≤ x.dst ∧ x.dst < 4294967296)
theorem ent_f {w : World} {b : Nat} {x : Ent} {ty : TypeId} {fr : Nat × Nat} (h : w.heap[b]? = some (.cells (entV x) ty fr)) :
    w.cell? ⟨b, 0, none⟩ = some (.bool x.dflt) ∧ w.cell? ⟨b, 1, none⟩ = some (.int .i64 x.prio) ∧ w.cell? ⟨b, 11, none⟩ = some (.int .i64 x.action) := by
  refine ⟨?_, ?_, ?_⟩ <;> (rw [cell_of_row _ _ _ _ _ _ h]; rfl)

set_option maxHeartbeats 16000000 in
set_option maxRecDepth 100000 in
theorem applies_any (x : Ent) (hx : ent32 x) (L : List Int) (hL : Byt L) (w : World) (hP : Places w) :
    Calls Tryz.prog 41 #[.agg (entV x), .agg (hv L)] w fun e w' => e = .returned (.bool (applyT L x)) ∧ Below w.heap.size w w' := by
  have hl := hL.1
  have hp := hP.pos
  obtain ⟨Wa, hWa⟩ : ∃ Wa, Wa = (w.alloc (.cells (entV x) 35)).alloc (.cells (hv L) 31) := ⟨_, rfl⟩
  have b1 : Wa.heap[w.heap.size]? = some (.cells (entV x) 35 (0, 0)) := by rw [hWa]; exact heap_past _ _ _ _ (heap_new _ _ _ rfl)
  have b2 : Wa.heap[w.heap.size + 1]? = some (.cells (hv L) 31 (0, 0)) := by rw [hWa]; exact heap_new _ _ _ (by simp)
  have BA : Below w.heap.size w Wa := by rw [hWa]; exact below2 _ _ _
  have PA : Places Wa := hP.later hp BA
  have pa := PA.pos
  have HBA : Hid (Below w.heap.size w Wa) := BA
  have d0 := (ent_f b1).1
  rw [hWa] at d0
  cases hd : x.dflt with
  | true =>
    rw [hd] at d0
    rw [show applyT L x = true by unfold applyT; rw [hd]; rfl]
    rw [hWa] at HBA
    clear b1 b2 BA PA hWa hP
    go_enter Tryz.func41, Tryz.ntmps41
    go_wp2_with fail
    go_ret
    exact ⟨rfl, HBA.out⟩
  | false =>
    rw [hd] at d0
    rw [show applyT L x = applyR L x by unfold applyT; rw [hd]; rfl]
    have FD0 : Hid (∀ u : Later Wa, Calls Tryz.prog 66 #[.agg (hv L), .int .i64 0] u.world fun e w' => e = .returned (.int .u32 (fldN L 0)) ∧ Below u.world.heap.size u.world w') := fun u => field7_any L hL 0 (by decide) (by decide) u.world (PA.later pa u.below)
    have fb0 := fldN_bd L hL 0 (by decide) (by decide)
    have FD1 : Hid (∀ u : Later Wa, Calls Tryz.prog 66 #[.agg (hv L), .int .i64 1] u.world fun e w' => e = .returned (.int .u32 (fldN L 1)) ∧ Below u.world.heap.size u.world w') := fun u => field7_any L hL 1 (by decide) (by decide) u.world (PA.later pa u.below)
    have fb1 := fldN_bd L hL 1 (by decide) (by decide)
    have FD2 : Hid (∀ u : Later Wa, Calls Tryz.prog 66 #[.agg (hv L), .int .i64 2] u.world fun e w' => e = .returned (.int .u32 (fldN L 2)) ∧ Below u.world.heap.size u.world w') := fun u => field7_any L hL 2 (by decide) (by decide) u.world (PA.later pa u.below)
    have fb2 := fldN_bd L hL 2 (by decide) (by decide)
    have FD3 : Hid (∀ u : Later Wa, Calls Tryz.prog 66 #[.agg (hv L), .int .i64 3] u.world fun e w' => e = .returned (.int .u32 (fldN L 3)) ∧ Below u.world.heap.size u.world w') := fun u => field7_any L hL 3 (by decide) (by decide) u.world (PA.later pa u.below)
    have fb3 := fldN_bd L hL 3 (by decide) (by decide)
    have FD4 : Hid (∀ u : Later Wa, Calls Tryz.prog 66 #[.agg (hv L), .int .i64 4] u.world fun e w' => e = .returned (.int .u32 (fldN L 4)) ∧ Below u.world.heap.size u.world w') := fun u => field7_any L hL 4 (by decide) (by decide) u.world (PA.later pa u.below)
    have fb4 := fldN_bd L hL 4 (by decide) (by decide)
    have HR : Hid (applyR L x = (beginsM (fldN L 0) x.src x.srcBits && beginsM (fldN L 1) x.dst x.dstBits && (decide (x.slow ≤ fldN L 2) && decide (fldN L 2 ≤ x.shigh)) && (decide (x.dlow ≤ fldN L 3) && decide (fldN L 3 ≤ x.dhigh)) && (x.proto == -1 || x.proto == fldN L 4))) := rfl
    obtain ⟨F0, hF0⟩ : ∃ F, F = fldN L 0 := ⟨_, rfl⟩
    rw [← hF0] at FD0 fb0 HR
    clear hF0
    obtain ⟨F1, hF1⟩ : ∃ F, F = fldN L 1 := ⟨_, rfl⟩
    rw [← hF1] at FD1 fb1 HR
    clear hF1
    obtain ⟨F2, hF2⟩ : ∃ F, F = fldN L 2 := ⟨_, rfl⟩
    rw [← hF2] at FD2 fb2 HR
    clear hF2
    obtain ⟨F3, hF3⟩ : ∃ F, F = fldN L 3 := ⟨_, rfl⟩
    rw [← hF3] at FD3 fb3 HR
    clear hF3
    obtain ⟨F4, hF4⟩ : ∃ F, F = fldN L 4 := ⟨_, rfl⟩
    rw [← hF4] at FD4 fb4 HR
    clear hF4
    have BG1 : Hid (∀ W, Calls Tryz.prog 65 #[.int .u32 F0, .int .u32 x.src, .int .i64 x.srcBits] W fun e w' => e = .returned (.bool (beginsM F0 x.src x.srcBits)) ∧ w' = W) := begins7_any _ _ _ fb0 hx.1
    have BG2 : Hid (∀ W, Calls Tryz.prog 65 #[.int .u32 F1, .int .u32 x.dst, .int .i64 x.dstBits] W fun e w' => e = .returned (.bool (beginsM F1 x.dst x.dstBits)) ∧ w' = W) := begins7_any _ _ _ fb1 hx.2
    have WI1 : Hid (∀ W, Calls Tryz.prog 67 #[.int .u32 F2, .int .i64 x.slow, .int .i64 x.shigh] W fun e w' => e = .returned (.bool (decide (x.slow ≤ F2) && decide (F2 ≤ x.shigh))) ∧ w' = W) := swithin_any _ _ _ fb2
    have WI2 : Hid (∀ W, Calls Tryz.prog 67 #[.int .u32 F3, .int .i64 x.dlow, .int .i64 x.dhigh] W fun e w' => e = .returned (.bool (decide (x.dlow ≤ F3) && decide (F3 ≤ x.dhigh))) ∧ w' = W) := swithin_any _ _ _ fb3
    have p41 := fb4.1
    have p42 := fb4.2
    have HP2 : Hid (0 ≤ F4 ∧ F4 < 4294967296) := fb4
    obtain ⟨c1, hc1⟩ : ∃ c, c = beginsM F0 x.src x.srcBits := ⟨_, rfl⟩
    obtain ⟨c2, hc2⟩ : ∃ c, c = beginsM F1 x.dst x.dstBits := ⟨_, rfl⟩
    obtain ⟨c3, hc3⟩ : ∃ c, c = (decide (x.slow ≤ F2) && decide (F2 ≤ x.shigh)) := ⟨_, rfl⟩
    obtain ⟨c4, hc4⟩ : ∃ c, c = (decide (x.dlow ≤ F3) && decide (F3 ≤ x.dhigh)) := ⟨_, rfl⟩
    rw [← hc1] at BG1 HR
    rw [← hc2] at BG2 HR
    rw [← hc3] at WI1 HR
    rw [← hc4] at WI2 HR
    clear hc1 hc2 hc3 hc4 fb0 fb1 fb2 fb3 fb4 PA pa hP hp BA hx hd
    have l2 : ∀ u : Later Wa, u.world.cell? ⟨w.heap.size, 2, none⟩ = some (.int .u32 x.src) := later_cell7 b1 rfl
    have l3 : ∀ u : Later Wa, u.world.cell? ⟨w.heap.size, 3, none⟩ = some (.int .i64 x.srcBits) := later_cell7 b1 rfl
    have l4 : ∀ u : Later Wa, u.world.cell? ⟨w.heap.size, 4, none⟩ = some (.int .u32 x.dst) := later_cell7 b1 rfl
    have l5 : ∀ u : Later Wa, u.world.cell? ⟨w.heap.size, 5, none⟩ = some (.int .i64 x.dstBits) := later_cell7 b1 rfl
    have l6 : ∀ u : Later Wa, u.world.cell? ⟨w.heap.size, 6, none⟩ = some (.int .i64 x.slow) := later_cell7 b1 rfl
    have l7 : ∀ u : Later Wa, u.world.cell? ⟨w.heap.size, 7, none⟩ = some (.int .i64 x.shigh) := later_cell7 b1 rfl
    have l8 : ∀ u : Later Wa, u.world.cell? ⟨w.heap.size, 8, none⟩ = some (.int .i64 x.dlow) := later_cell7 b1 rfl
    have l9 : ∀ u : Later Wa, u.world.cell? ⟨w.heap.size, 9, none⟩ = some (.int .i64 x.dhigh) := later_cell7 b1 rfl
    have l10 : ∀ u : Later Wa, u.world.cell? ⟨w.heap.size, 10, none⟩ = some (.int .i64 x.proto) := later_cell7 b1 rfl
    have ne1 := Later.ne Wa
    cases c1 with
    | false =>
      rw [hWa] at HBA
      go_enter Tryz.func41, Tryz.ntmps41
      go_wp2_with fail
      rw [← hWa]
      refine wp_region_later (by kernel_rfl) (by kernel_rfl) ?_
      refine qlH rfl _ rfl (w.heap.size + 1) rfl L b2 hl ?_
      simp only [Act.put, List.setIfInBounds_toArray, List.set_cons_succ, List.set_cons_zero]
      go_big_quiet_want; go_big_quiet_op
      refine ⟨_, fun u => Calls.later_of (FD0.out u), ?_⟩
      go_big_quiet_on
      go_big_quiet_step (rfl)
      go_big_quiet_step (rfl)
      go_big_quiet_step (rfl)
      go_big_quiet_step (rfl)
      go_big_quiet_want; go_big_quiet_op
      refine ⟨_, fun u => Calls.later_same (BG1.out u.world), ?_⟩
      go_big_quiet_on
      go_big_quiet_step (rfl)
      go_big_quiet_step (rfl)
      go_big_quiet_step (rfl)
      go_big_quiet_step (rfl)
      go_big_quiet_step (rfl)
      go_big_quiet_step (rfl)
      go_big_quiet_step (rfl)
      go_big_quiet_step (rfl)
      go_big_quiet_step (rfl)
      go_big_quiet_step (rfl)
      go_big_quiet_step (rfl)
      go_big_quiet_step (rfl)
      go_big_quiet_step (rfl)
      go_big_quiet_step (rfl)
      go_big_quiet_step (rfl)
      go_big_quiet_step (rfl)
      go_big_quiet_step (rfl)
      go_big_quiet_step (rfl)
      go_big_quiet_step (rfl)
      go_big_quiet_step (rfl)
      go_big_quiet_step (rfl)
      go_big_quiet_step (rfl)
      go_big_quiet_step (rfl)
      go_big_quiet_step (rfl)
      go_big_quiet_step (rfl)
      go_big_quiet_step (rfl)
      go_big_quiet_step (rfl)
      go_big_quiet_step (rfl)
      go_big_quiet_step (rfl)
      go_big_quiet_step (rfl)
      go_big_quiet_step (rfl)
      go_big_quiet_step (rfl)
      go_big_quiet_step (rfl)
      go_big_quiet_step (rfl)
      go_big_quiet_step (rfl)
      go_big_quiet_step (rfl)
      go_big_quiet_step (rfl)
      go_big_quiet_step (rfl)
      go_big_quiet_step (rfl)
      go_big_quiet_step (rfl)
      go_big_quiet_step (rfl)
      refine wpQuiet_nil ?_
      rintro w' ⟨v, rfl⟩
      go_wp2_with fail
      go_ret
      rw [HR.out]
      rw [← hWa] at HBA
      refine ⟨?_, HBA.out.trans (v.below.mono HBA.out.size)⟩
      simp
    | true =>
      cases c2 with
      | false =>
        rw [hWa] at HBA
        go_enter Tryz.func41, Tryz.ntmps41
        go_wp2_with fail
        rw [← hWa]
        refine wp_region_later (by kernel_rfl) (by kernel_rfl) ?_
        refine qlH rfl _ rfl (w.heap.size + 1) rfl L b2 hl ?_
        simp only [Act.put, List.setIfInBounds_toArray, List.set_cons_succ, List.set_cons_zero]
        go_big_quiet_want; go_big_quiet_op
        refine ⟨_, fun u => Calls.later_of (FD0.out u), ?_⟩
        go_big_quiet_on
        go_big_quiet_step (rfl)
        go_big_quiet_step (rfl)
        go_big_quiet_step (rfl)
        go_big_quiet_step (rfl)
        go_big_quiet_want; go_big_quiet_op
        refine ⟨_, fun u => Calls.later_same (BG1.out u.world), ?_⟩
        go_big_quiet_on
        go_big_quiet_step (rfl)
        refine qlH rfl _ rfl (w.heap.size + 1) rfl L b2 hl ?_
        simp only [Act.put, List.setIfInBounds_toArray, List.set_cons_succ, List.set_cons_zero]
        go_big_quiet_want; go_big_quiet_op
        refine ⟨_, fun u => Calls.later_of (FD1.out u), ?_⟩
        go_big_quiet_on
        go_big_quiet_step (rfl)
        go_big_quiet_step (rfl)
        go_big_quiet_step (rfl)
        go_big_quiet_step (rfl)
        go_big_quiet_want; go_big_quiet_op
        refine ⟨_, fun u => Calls.later_same (BG2.out u.world), ?_⟩
        go_big_quiet_on
        go_big_quiet_step (rfl)
        go_big_quiet_step (rfl)
        go_big_quiet_step (rfl)
        go_big_quiet_step (rfl)
        go_big_quiet_step (rfl)
        go_big_quiet_step (rfl)
        go_big_quiet_step (rfl)
        go_big_quiet_step (rfl)
        go_big_quiet_step (rfl)
        go_big_quiet_step (rfl)
        go_big_quiet_step (rfl)
        go_big_quiet_step (rfl)
        go_big_quiet_step (rfl)
        go_big_quiet_step (rfl)
        go_big_quiet_step (rfl)
        go_big_quiet_step (rfl)
        go_big_quiet_step (rfl)
        go_big_quiet_step (rfl)
        go_big_quiet_step (rfl)
        go_big_quiet_step (rfl)
        go_big_quiet_step (rfl)
        go_big_quiet_step (rfl)
        go_big_quiet_step (rfl)
        go_big_quiet_step (rfl)
        go_big_quiet_step (rfl)
        go_big_quiet_step (rfl)
        go_big_quiet_step (rfl)
        go_big_quiet_step (rfl)
        go_big_quiet_step (rfl)
        go_big_quiet_step (rfl)
        go_big_quiet_step (rfl)
        go_big_quiet_step (rfl)
        go_big_quiet_step (rfl)
        refine wpQuiet_nil ?_
        rintro w' ⟨v, rfl⟩
        go_wp2_with fail
        go_ret
        rw [HR.out]
        rw [← hWa] at HBA
        refine ⟨?_, HBA.out.trans (v.below.mono HBA.out.size)⟩
        simp
      | true =>
        cases c3 with
        | false =>
          rw [hWa] at HBA
          go_enter Tryz.func41, Tryz.ntmps41
          go_wp2_with fail
          rw [← hWa]
          refine wp_region_later (by kernel_rfl) (by kernel_rfl) ?_
          refine qlH rfl _ rfl (w.heap.size + 1) rfl L b2 hl ?_
          simp only [Act.put, List.setIfInBounds_toArray, List.set_cons_succ, List.set_cons_zero]
          go_big_quiet_want; go_big_quiet_op
          refine ⟨_, fun u => Calls.later_of (FD0.out u), ?_⟩
          go_big_quiet_on
          go_big_quiet_step (rfl)
          go_big_quiet_step (rfl)
          go_big_quiet_step (rfl)
          go_big_quiet_step (rfl)
          go_big_quiet_want; go_big_quiet_op
          refine ⟨_, fun u => Calls.later_same (BG1.out u.world), ?_⟩
          go_big_quiet_on
          go_big_quiet_step (rfl)
          refine qlH rfl _ rfl (w.heap.size + 1) rfl L b2 hl ?_
          simp only [Act.put, List.setIfInBounds_toArray, List.set_cons_succ, List.set_cons_zero]
          go_big_quiet_want; go_big_quiet_op
          refine ⟨_, fun u => Calls.later_of (FD1.out u), ?_⟩
          go_big_quiet_on
          go_big_quiet_step (rfl)
          go_big_quiet_step (rfl)
          go_big_quiet_step (rfl)
          go_big_quiet_step (rfl)
          go_big_quiet_want; go_big_quiet_op
          refine ⟨_, fun u => Calls.later_same (BG2.out u.world), ?_⟩
          go_big_quiet_on
          go_big_quiet_step (rfl)
          go_big_quiet_step (rfl)
          refine qlH rfl _ rfl (w.heap.size + 1) rfl L b2 hl ?_
          simp only [Act.put, List.setIfInBounds_toArray, List.set_cons_succ, List.set_cons_zero]
          go_big_quiet_want; go_big_quiet_op
          refine ⟨_, fun u => Calls.later_of (FD2.out u), ?_⟩
          go_big_quiet_on
          go_big_quiet_step (rfl)
          go_big_quiet_step (rfl)
          go_big_quiet_step (rfl)
          go_big_quiet_step (rfl)
          go_big_quiet_want; go_big_quiet_op
          refine ⟨_, fun u => Calls.later_same (WI1.out u.world), ?_⟩
          go_big_quiet_on
          go_big_quiet_step (rfl)
          go_big_quiet_step (rfl)
          go_big_quiet_step (rfl)
          go_big_quiet_step (rfl)
          go_big_quiet_step (rfl)
          go_big_quiet_step (rfl)
          go_big_quiet_step (rfl)
          go_big_quiet_step (rfl)
          go_big_quiet_step (rfl)
          go_big_quiet_step (rfl)
          go_big_quiet_step (rfl)
          go_big_quiet_step (rfl)
          go_big_quiet_step (rfl)
          go_big_quiet_step (rfl)
          go_big_quiet_step (rfl)
          go_big_quiet_step (rfl)
          go_big_quiet_step (rfl)
          go_big_quiet_step (rfl)
          go_big_quiet_step (rfl)
          go_big_quiet_step (rfl)
          go_big_quiet_step (rfl)
          go_big_quiet_step (rfl)
          go_big_quiet_step (rfl)
          go_big_quiet_step (rfl)
          refine wpQuiet_nil ?_
          rintro w' ⟨v, rfl⟩
          go_wp2_with fail
          go_ret
          rw [HR.out]
          rw [← hWa] at HBA
          refine ⟨?_, HBA.out.trans (v.below.mono HBA.out.size)⟩
          simp
        | true =>
          cases c4 with
          | false =>
            rw [hWa] at HBA
            go_enter Tryz.func41, Tryz.ntmps41
            go_wp2_with fail
            rw [← hWa]
            refine wp_region_later (by kernel_rfl) (by kernel_rfl) ?_
            refine qlH rfl _ rfl (w.heap.size + 1) rfl L b2 hl ?_
            simp only [Act.put, List.setIfInBounds_toArray, List.set_cons_succ, List.set_cons_zero]
            go_big_quiet_want; go_big_quiet_op
            refine ⟨_, fun u => Calls.later_of (FD0.out u), ?_⟩
            go_big_quiet_on
            go_big_quiet_step (rfl)
            go_big_quiet_step (rfl)
            go_big_quiet_step (rfl)
            go_big_quiet_step (rfl)
            go_big_quiet_want; go_big_quiet_op
            refine ⟨_, fun u => Calls.later_same (BG1.out u.world), ?_⟩
            go_big_quiet_on
            go_big_quiet_step (rfl)
            refine qlH rfl _ rfl (w.heap.size + 1) rfl L b2 hl ?_
            simp only [Act.put, List.setIfInBounds_toArray, List.set_cons_succ, List.set_cons_zero]
            go_big_quiet_want; go_big_quiet_op
            refine ⟨_, fun u => Calls.later_of (FD1.out u), ?_⟩
            go_big_quiet_on
            go_big_quiet_step (rfl)
            go_big_quiet_step (rfl)
            go_big_quiet_step (rfl)
            go_big_quiet_step (rfl)
            go_big_quiet_want; go_big_quiet_op
            refine ⟨_, fun u => Calls.later_same (BG2.out u.world), ?_⟩
            go_big_quiet_on
            go_big_quiet_step (rfl)
            go_big_quiet_step (rfl)
            refine qlH rfl _ rfl (w.heap.size + 1) rfl L b2 hl ?_
            simp only [Act.put, List.setIfInBounds_toArray, List.set_cons_succ, List.set_cons_zero]
            go_big_quiet_want; go_big_quiet_op
            refine ⟨_, fun u => Calls.later_of (FD2.out u), ?_⟩
            go_big_quiet_on
            go_big_quiet_step (rfl)
            go_big_quiet_step (rfl)
            go_big_quiet_step (rfl)
            go_big_quiet_step (rfl)
            go_big_quiet_want; go_big_quiet_op
            refine ⟨_, fun u => Calls.later_same (WI1.out u.world), ?_⟩
            go_big_quiet_on
            go_big_quiet_step (rfl)
            go_big_quiet_step (rfl)
            refine qlH rfl _ rfl (w.heap.size + 1) rfl L b2 hl ?_
            simp only [Act.put, List.setIfInBounds_toArray, List.set_cons_succ, List.set_cons_zero]
            go_big_quiet_want; go_big_quiet_op
            refine ⟨_, fun u => Calls.later_of (FD3.out u), ?_⟩
            go_big_quiet_on
            go_big_quiet_step (rfl)
            go_big_quiet_step (rfl)
            go_big_quiet_step (rfl)
            go_big_quiet_step (rfl)
            go_big_quiet_want; go_big_quiet_op
            refine ⟨_, fun u => Calls.later_same (WI2.out u.world), ?_⟩
            go_big_quiet_on
            go_big_quiet_step (rfl)
            go_big_quiet_step (rfl)
            go_big_quiet_step (rfl)
            go_big_quiet_step (rfl)
            go_big_quiet_step (rfl)
            go_big_quiet_step (rfl)
            go_big_quiet_step (rfl)
            go_big_quiet_step (rfl)
            go_big_quiet_step (rfl)
            go_big_quiet_step (rfl)
            go_big_quiet_step (rfl)
            go_big_quiet_step (rfl)
            go_big_quiet_step (rfl)
            go_big_quiet_step (rfl)
            go_big_quiet_step (rfl)
            refine wpQuiet_nil ?_
            rintro w' ⟨v, rfl⟩
            go_wp2_with fail
            go_ret
            rw [HR.out]
            rw [← hWa] at HBA
            refine ⟨?_, HBA.out.trans (v.below.mono HBA.out.size)⟩
            simp
          | true =>
            by_cases p1 : x.proto = -1
            · have p1' : (x.proto == -1) = true := by simp [p1]
              rw [hWa] at HBA
              have P1 : Hid (x.proto = -1) := p1
              clear p1
              go_enter Tryz.func41, Tryz.ntmps41
              go_wp2_with fail
              rw [← hWa]
              refine wp_region_later (by kernel_rfl) (by kernel_rfl) ?_
              refine qlH rfl _ rfl (w.heap.size + 1) rfl L b2 hl ?_
              simp only [Act.put, List.setIfInBounds_toArray, List.set_cons_succ, List.set_cons_zero]
              go_big_quiet_want; go_big_quiet_op
              refine ⟨_, fun u => Calls.later_of (FD0.out u), ?_⟩
              go_big_quiet_on
              go_big_quiet_step (rfl)
              go_big_quiet_step (rfl)
              go_big_quiet_step (rfl)
              go_big_quiet_step (rfl)
              go_big_quiet_want; go_big_quiet_op
              refine ⟨_, fun u => Calls.later_same (BG1.out u.world), ?_⟩
              go_big_quiet_on
              go_big_quiet_step (rfl)
              refine qlH rfl _ rfl (w.heap.size + 1) rfl L b2 hl ?_
              simp only [Act.put, List.setIfInBounds_toArray, List.set_cons_succ, List.set_cons_zero]
              go_big_quiet_want; go_big_quiet_op
              refine ⟨_, fun u => Calls.later_of (FD1.out u), ?_⟩
              go_big_quiet_on
              go_big_quiet_step (rfl)
              go_big_quiet_step (rfl)
              go_big_quiet_step (rfl)
              go_big_quiet_step (rfl)
              go_big_quiet_want; go_big_quiet_op
              refine ⟨_, fun u => Calls.later_same (BG2.out u.world), ?_⟩
              go_big_quiet_on
              go_big_quiet_step (rfl)
              go_big_quiet_step (rfl)
              refine qlH rfl _ rfl (w.heap.size + 1) rfl L b2 hl ?_
              simp only [Act.put, List.setIfInBounds_toArray, List.set_cons_succ, List.set_cons_zero]
              go_big_quiet_want; go_big_quiet_op
              refine ⟨_, fun u => Calls.later_of (FD2.out u), ?_⟩
              go_big_quiet_on
              go_big_quiet_step (rfl)
              go_big_quiet_step (rfl)
              go_big_quiet_step (rfl)
              go_big_quiet_step (rfl)
              go_big_quiet_want; go_big_quiet_op
              refine ⟨_, fun u => Calls.later_same (WI1.out u.world), ?_⟩
              go_big_quiet_on
              go_big_quiet_step (rfl)
              go_big_quiet_step (rfl)
              refine qlH rfl _ rfl (w.heap.size + 1) rfl L b2 hl ?_
              simp only [Act.put, List.setIfInBounds_toArray, List.set_cons_succ, List.set_cons_zero]
              go_big_quiet_want; go_big_quiet_op
              refine ⟨_, fun u => Calls.later_of (FD3.out u), ?_⟩
              go_big_quiet_on
              go_big_quiet_step (rfl)
              go_big_quiet_step (rfl)
              go_big_quiet_step (rfl)
              go_big_quiet_step (rfl)
              go_big_quiet_want; go_big_quiet_op
              refine ⟨_, fun u => Calls.later_same (WI2.out u.world), ?_⟩
              go_big_quiet_on
              go_big_quiet_step (rfl)
              go_big_quiet_step (rfl)
              go_big_quiet_step (rfl)
              go_big_quiet_step (rfl)
              go_big_quiet_step (rfl)
              go_big_quiet_step (rfl)
              go_big_quiet_step (rfl)
              go_big_quiet_step (rfl)
              go_big_quiet_step (rfl)
              go_big_quiet_step (rfl)
              go_big_quiet_step (rfl)
              go_big_quiet_step (rfl)
              go_big_quiet_step (rfl)
              go_big_quiet_step (rfl)
              go_big_quiet_step (rfl)
              refine wpQuiet_nil ?_
              rintro w' ⟨v, rfl⟩
              go_wp2_with fail
              go_ret
              rw [HR.out]
              rw [← hWa] at HBA
              refine ⟨?_, HBA.out.trans (v.below.mono HBA.out.size)⟩
              rw [P1.out]
              rfl
            · have p1' : (x.proto == -1) = false := by simp [p1]
              rw [hWa] at HBA
              have P1 : Hid ((x.proto == -1) = false) := p1'
              clear p1
              go_enter Tryz.func41, Tryz.ntmps41
              go_wp2_with fail
              rw [← hWa]
              refine wp_region_later (by kernel_rfl) (by kernel_rfl) ?_
              refine qlH rfl _ rfl (w.heap.size + 1) rfl L b2 hl ?_
              simp only [Act.put, List.setIfInBounds_toArray, List.set_cons_succ, List.set_cons_zero]
              go_big_quiet_want; go_big_quiet_op
              refine ⟨_, fun u => Calls.later_of (FD0.out u), ?_⟩
              go_big_quiet_on
              go_big_quiet_step (rfl)
              go_big_quiet_step (rfl)
              go_big_quiet_step (rfl)
              go_big_quiet_step (rfl)
              go_big_quiet_want; go_big_quiet_op
              refine ⟨_, fun u => Calls.later_same (BG1.out u.world), ?_⟩
              go_big_quiet_on
              go_big_quiet_step (rfl)
              refine qlH rfl _ rfl (w.heap.size + 1) rfl L b2 hl ?_
              simp only [Act.put, List.setIfInBounds_toArray, List.set_cons_succ, List.set_cons_zero]
              go_big_quiet_want; go_big_quiet_op
              refine ⟨_, fun u => Calls.later_of (FD1.out u), ?_⟩
              go_big_quiet_on
              go_big_quiet_step (rfl)
              go_big_quiet_step (rfl)
              go_big_quiet_step (rfl)
              go_big_quiet_step (rfl)
              go_big_quiet_want; go_big_quiet_op
              refine ⟨_, fun u => Calls.later_same (BG2.out u.world), ?_⟩
              go_big_quiet_on
              go_big_quiet_step (rfl)
              go_big_quiet_step (rfl)
              refine qlH rfl _ rfl (w.heap.size + 1) rfl L b2 hl ?_
              simp only [Act.put, List.setIfInBounds_toArray, List.set_cons_succ, List.set_cons_zero]
              go_big_quiet_want; go_big_quiet_op
              refine ⟨_, fun u => Calls.later_of (FD2.out u), ?_⟩
              go_big_quiet_on
              go_big_quiet_step (rfl)
              go_big_quiet_step (rfl)
              go_big_quiet_step (rfl)
              go_big_quiet_step (rfl)
              go_big_quiet_want; go_big_quiet_op
              refine ⟨_, fun u => Calls.later_same (WI1.out u.world), ?_⟩
              go_big_quiet_on
              go_big_quiet_step (rfl)
              go_big_quiet_step (rfl)
              refine qlH rfl _ rfl (w.heap.size + 1) rfl L b2 hl ?_
              simp only [Act.put, List.setIfInBounds_toArray, List.set_cons_succ, List.set_cons_zero]
              go_big_quiet_want; go_big_quiet_op
              refine ⟨_, fun u => Calls.later_of (FD3.out u), ?_⟩
              go_big_quiet_on
              go_big_quiet_step (rfl)
              go_big_quiet_step (rfl)
              go_big_quiet_step (rfl)
              go_big_quiet_step (rfl)
              go_big_quiet_want; go_big_quiet_op
              refine ⟨_, fun u => Calls.later_same (WI2.out u.world), ?_⟩
              go_big_quiet_on
              go_big_quiet_step (rfl)
              go_big_quiet_step (rfl)
              go_big_quiet_step (rfl)
              go_big_quiet_step (rfl)
              go_big_quiet_step (rfl)
              go_big_quiet_step (rfl)
              go_big_quiet_step (rfl)
              go_big_quiet_step (rfl)
              refine qlH rfl _ rfl (w.heap.size + 1) rfl L b2 hl ?_
              simp only [Act.put, List.setIfInBounds_toArray, List.set_cons_succ, List.set_cons_zero]
              go_big_quiet_want; go_big_quiet_op
              refine ⟨_, fun u => Calls.later_of (FD4.out u), ?_⟩
              go_big_quiet_on
              go_big_quiet_step (rfl)
              go_big_quiet_step (rfl)
              go_big_quiet_step (rfl)
              go_big_quiet_step (rfl)
              go_big_quiet_step (rfl)
              refine wpQuiet_nil ?_
              rintro w' ⟨v, rfl⟩
              go_wp2_with fail
              go_ret
              rw [HR.out]
              rw [← hWa] at HBA
              refine ⟨?_, HBA.out.trans (v.below.mono HBA.out.size)⟩
              rw [P1.out]
              simp
end Go.Proofs.YtnbklmmampdbfaaGreatDoor
namespace Go.Proofs.YtnbklmmampdbfaaGreatDoor
open Go Go.RowKit
set_option maxRecDepth 20000

/-- The rows of a list: those that are not default by the falling priority, then the default ones. -/
def RowsOf (l R : List Ent) : Prop := ∃ S, Sorted8 (l.filter fun x => !x.dflt) S ∧ R = S ++ l.filter fun x => x.dflt
theorem rowsOf_one {l R R' : List Ent} (h : RowsOf l R) (h' : RowsOf l R') : R = R' := by
  obtain ⟨S, h1, rfl⟩ := h
  obtain ⟨S', h2, rfl⟩ := h'
  rw [desc_one S S' h1.desc h2.desc (h1.alike.trans h2.alike.symm)]
theorem RowsOf.mem {l R : List Ent} (h : RowsOf l R) (x : Ent) : x ∈ R ↔ x ∈ l := by
  obtain ⟨S, h1, rfl⟩ := h
  rw [List.mem_append, h1.alike.mem, List.mem_filter, List.mem_filter]
  cases x.dflt <;> simp
theorem rows_len_le {l : List Ent} (k : Nat) (q : Ent → Bool) : ((l.take k).filter q).length ≤ k := Nat.le_trans (List.length_filter_le _ _) (by rw [List.length_take]; omega)
theorem filter_take_yes {l : List Ent} {k : Nat} {x : Ent} {q : Ent → Bool} (h : l[k]? = some x) (hq : q x = true) : (l.take (k + 1)).filter q = (l.take k).filter q ++ [x] := by
  rw [List.take_add_one, h, List.filter_append]
  simp [hq]
theorem filter_take_no {l : List Ent} {k : Nat} {x : Ent} {q : Ent → Bool} (h : l[k]? = some x) (hq : q x = false) : (l.take (k + 1)).filter q = (l.take k).filter q := by
  rw [List.take_add_one, h, List.filter_append]
  simp [hq]

theorem own_by2 {w w' : World} {B : Nat} {e : TypeId} {s : Nat} {v : Value} {n : Nat} {xs : List Value} {row : Option Nat} (h : w.ownsRow B e s v n xs) (hg : w.grownBy w' row) (hne : v.ownBlock = none ∨ row = none ∨ v.ownBlock ≠ row) : w'.ownsRow B e s v n xs := by
  obtain ⟨h1, h2 | ⟨g, cap, cur, rfl, hB, hcur, h3⟩⟩ := h
  · exact ⟨h1, .inl h2⟩
  · refine ⟨h1, .inr ⟨g, cap, cur, rfl, hB, (hg.block g (Array.getElem?_eq_some_iff.1 hcur).1 ?_).trans hcur, h3⟩⟩
    intro e
    rcases hne with h | h | h
    · cases h
    · rw [h] at e; cases e
    · exact h e
/-- Two rows of one's own lie apart. -/
def Apart8 (a b : Option Nat) : Prop := a = none ∨ b = none ∨ a ≠ b
theorem Apart8.symm {a b : Option Nat} (h : Apart8 a b) : Apart8 b a := by
  rcases h with h | h | h
  · exact .inr (.inl h)
  · exact .inl h
  · exact .inr (.inr fun e => h e.symm)
theorem apart_new {w : World} {B : Nat} {e : TypeId} {s n : Nat} {v u u' : Value} {xs : List Value} (h : w.ownsRow B e s v n xs) (ha : Apart8 u.ownBlock v.ownBlock) (hu : u'.ownBlock = u.ownBlock ∨ u'.ownBlock = some w.heap.size) : Apart8 u'.ownBlock v.ownBlock := by
  rcases hu with hu | hu
  · rw [hu]; exact ha
  · refine .inr (.inr fun e => ?_)
    rw [hu] at e
    have := (h.lt _ e.symm).2
    omega

set_option maxHeartbeats 16000000 in
set_option maxRecDepth 100000 in
theorem rows_any (l : List Ent) (vl : Value) (w : World) (hl : EntsAt w vl l) (hn : l.length ≤ 100000) :
    Calls Tryz.prog 15 #[vl] w fun e w' => (∃ v R, e = .returned v ∧ RowsOf l R ∧ w'.ownsRow w.heap.size 35 12 v R.length (gcells entV R)) ∧ Below w.heap.size w w' := by
  obtain ⟨o, cap, rfl, hc1, hc2⟩ := GSl.slice hl
  obtain ⟨n, hn0⟩ : ∃ n, n = l.length := ⟨_, rfl⟩
  have HN : Hid (n = l.length) := hn0
  rw [← hn0] at hl hc1 hn ⊢
  have HL : Hid (EntsAt w (.slice o n cap) l) := hl
  unfold maxLen at hc2
  have ST : Hid (∀ (m : List Ent) v W, W.ownsRow w.heap.size 35 12 v m.length (gcells entV m) → m.length ≤ 1000000 → Calls Tryz.prog 26 #[v, .func (.func 27) #[] #[]] W fun e w' => e = .returned (.tuple #[]) ∧ ∃ m', Sorted8 m m' ∧ w'.ownsRow w.heap.size 35 12 v m'.length (gcells entV m') ∧ W.grownBy w' v.ownBlock) := fun m v W h1 h2 => sortStable_any _ m v W h1 h2
  clear hl hn0
  go_enter Tryz.func15, Tryz.ntmps15
  go_wp2_with fail
  go_loopw [3, 4, 9] (fun v1 v2 i wr => ∃ (k : Nat) (m1 m2 : List Ent), k ≤ n ∧ i = .int .i64 (k : Int) ∧ Hid (m1 = (l.take k).filter fun x => !x.dflt) ∧ Hid (m2 = (l.take k).filter fun x => x.dflt) ∧ wr.ownsRow w.heap.size 35 12 v1 m1.length (gcells entV m1) ∧ wr.ownsRow w.heap.size 35 12 v2 m2.length (gcells entV m2) ∧ Apart8 v1.ownBlock v2.ownBlock ∧ Below w.heap.size w wr) (fun _ _ i _ => n - (intOf i).toNat)
  case atStart => exact ⟨0, [], [], Nat.zero_le _, rfl, rfl, rfl, World.ownsRow_nil _ _ _ _, World.ownsRow_nil _ _ _ _, .inl rfl, Below.refl _ _⟩
  case round =>
    obtain ⟨k, m1, m2, hk, rfl, E1, E2, ho1, ho2, hne, hb⟩ := hrel
    have O1 : Hid (wr.ownsRow w.heap.size 35 12 u3 m1.length (gcells entV m1)) := ho1
    have O2 : Hid (wr.ownsRow w.heap.size 35 12 u4 m2.length (gcells entV m2)) := ho2
    have NE : Hid (Apart8 u3.ownBlock u4.ownBlock) := hne
    have HB : Hid (Below w.heap.size w wr) := hb
    have ML1 : Hid (m1.length ≤ 100000) := by have := rows_len_le (l := l) k fun x => !x.dflt; rw [← E1.out] at this; exact (by omega : m1.length ≤ 100000)
    have ML2 : Hid (m2.length ≤ 100000) := by have := rows_len_le (l := l) k fun x => x.dflt; rw [← E2.out] at this; exact (by omega : m2.length ≤ 100000)
    clear ho1 ho2 hne hb
    by_cases hlt : k < n
    · have hlt' : (k : Int) < (n : Int) := by omega
      obtain ⟨g, off, cur, ty, fr, x, rfl, hg, hc, hxk⟩ := (GSl.below HL.out HB.out).at k hlt
      have K1 : Hid (wr.heap[g]? = some (.cells cur ty fr)) := hg
      have H1 : Hid (∀ j, j < 12 → cur[off + k * 12 + j]? = (entV x)[j]?) := hc
      have HX : Hid (l[k]? = some x) := hxk
      have KN : Hid ((wr.alloc (.cells (entV x) 35)).heap[wr.heap.size]? = some (.cells (entV x) 35 (0, 0))) := heap_new _ _ _ rfl
      have BWN : Hid (Below w.heap.size w ((wr.alloc (.cells (entV x) 35)).alloc (.cells (entV x) 35))) := (HB.out.alloc HB.out.size _).alloc (by have := HB.out.size; simp; omega) _
      have P1 : Hid (((wr.alloc (.cells (entV x) 35)).alloc (.cells (entV x) 35)).ownsRow w.heap.size 35 12 u3 m1.length (gcells entV m1)) := (O1.out.alloc _).alloc _
      have P2 : Hid (((wr.alloc (.cells (entV x) 35)).alloc (.cells (entV x) 35)).ownsRow w.heap.size 35 12 u4 m2.length (gcells entV m2)) := (O2.out.alloc _).alloc _
      have d0 := (ent_f KN.out).1
      clear hg hc hxk O1 O2
      cases hd : x.dflt with
      | true =>
        rw [hd] at d0
        have HD : Hid (x.dflt = true) := hd
        clear hd
        go_wp2_with (first
          | (refine wl_loadE (E := EntE) EntOk rfl _ rfl g (off + k * 12) rfl cur ty fr (entV x) rfl K1.out H1.out ?_)
          | (refine wl_loadE (E := EntE) EntOk rfl _ rfl wr.heap.size 0 rfl _ _ _ (entV x) rfl KN.out (own_cells _ _) ?_)
          | (refine wl_storeE (E := EntE) EntOk rfl _ _ rfl wr.heap.size (entV x) (ent_fits _) rfl rfl _ (heap_new _ _ _ rfl) rfl _ (setRow_new _ _ _ _ _ rfl) ?_)
          | (refine wl_buildE (E := EntE) EntOk rfl _ rfl (entV x) rfl rfl ?_)
          | (at_builtin; refine of_stopT ?_))
        unfold StopT
        refine wl_appendE (E := EntE) EntOk entV rfl _ _ rfl w.heap.size u4 m2 x (ent_fits _) rfl P2.out (wr.heap.size + 1) 1 rfl (heap_new _ _ _ (by simp)) (by have := ML2.out; omega) (by have := HB.out.size; simp; omega) ?_
        intro v' w3 hown3 hgr3 hv'
        have B3 : Hid (Below w.heap.size w w3) := BWN.out.trans ((Below.refl _ _).grown hgr3 BWN.out.size fun k hk => (P2.out.lt k hk).1)
        have O3 : Hid (w3.ownsRow w.heap.size 35 12 v' (m2 ++ [x]).length (gcells entV (m2 ++ [x]))) := hown3
        have Q3 : Hid (w3.ownsRow w.heap.size 35 12 u3 m1.length (gcells entV m1)) := own_by2 P1.out hgr3 (NE.out)
        have N3 : Hid (Apart8 u3.ownBlock v'.ownBlock) := (apart_new P1.out NE.out.symm hv').symm
        clear hown3 hgr3 hv'
        simp only [Act.put, List.setIfInBounds_toArray, List.set_cons_succ, List.set_cons_zero]
        go_wp2_with fail
        go_roundw
        case rel =>
          refine ⟨k + 1, m1, m2 ++ [x], by omega, by go_num, ?_, ?_, Q3.out, O3.out, N3.out, B3.out⟩
          · show _ = _
            rw [E1.out]; exact (filter_take_no HX.out (by rw [HD.out]; rfl)).symm
          · show _ = _
            rw [E2.out]; exact (filter_take_yes HX.out HD.out).symm
        case measure => simp [intOf]; omega
      | false =>
        rw [hd] at d0
        have HD : Hid (x.dflt = false) := hd
        clear hd
        go_wp2_with (first
          | (refine wl_loadE (E := EntE) EntOk rfl _ rfl g (off + k * 12) rfl cur ty fr (entV x) rfl K1.out H1.out ?_)
          | (refine wl_loadE (E := EntE) EntOk rfl _ rfl wr.heap.size 0 rfl _ _ _ (entV x) rfl KN.out (own_cells _ _) ?_)
          | (refine wl_storeE (E := EntE) EntOk rfl _ _ rfl wr.heap.size (entV x) (ent_fits _) rfl rfl _ (heap_new _ _ _ rfl) rfl _ (setRow_new _ _ _ _ _ rfl) ?_)
          | (refine wl_buildE (E := EntE) EntOk rfl _ rfl (entV x) rfl rfl ?_)
          | (at_builtin; refine of_stopT ?_))
        unfold StopT
        refine wl_appendE (E := EntE) EntOk entV rfl _ _ rfl w.heap.size u3 m1 x (ent_fits _) rfl P1.out (wr.heap.size + 1) 1 rfl (heap_new _ _ _ (by simp)) (by have := ML1.out; omega) (by have := HB.out.size; simp; omega) ?_
        intro v' w3 hown3 hgr3 hv'
        have B3 : Hid (Below w.heap.size w w3) := BWN.out.trans ((Below.refl _ _).grown hgr3 BWN.out.size fun k hk => (P1.out.lt k hk).1)
        have O3 : Hid (w3.ownsRow w.heap.size 35 12 v' (m1 ++ [x]).length (gcells entV (m1 ++ [x]))) := hown3
        have Q3 : Hid (w3.ownsRow w.heap.size 35 12 u4 m2.length (gcells entV m2)) := own_by2 P2.out hgr3 (NE.out.symm)
        have N3 : Hid (Apart8 v'.ownBlock u4.ownBlock) := apart_new P2.out NE.out hv'
        clear hown3 hgr3 hv'
        simp only [Act.put, List.setIfInBounds_toArray, List.set_cons_succ, List.set_cons_zero]
        go_wp2_with fail
        go_roundw
        case rel =>
          refine ⟨k + 1, m1 ++ [x], m2, by omega, by go_num, ?_, ?_, O3.out, Q3.out, N3.out, B3.out⟩
          · show _ = _
            rw [E1.out]; exact (filter_take_yes HX.out (by rw [HD.out]; rfl)).symm
          · show _ = _
            rw [E2.out]; exact (filter_take_no HX.out HD.out).symm
        case measure => simp [intOf]; omega
    · have hlt' : ¬ (k : Int) < (n : Int) := by omega
      have hkn : k = n := by omega
      have EL : Hid (m1 = l.filter (fun x => !x.dflt) ∧ m2 = l.filter fun x => x.dflt) := by
        have e := HN.out
        refine ⟨?_, ?_⟩
        · rw [E1.out, hkn, e, List.take_length]
        · rw [E2.out, hkn, e, List.take_length]
      clear E1 E2 hkn
      go_wp2_with fail
      refine (ST.out m1 u3 _ O1.out (by have := ML1.out; omega)).mono ?_
      rintro e w1 ⟨rfl, m3, hs3, ho3, hg3⟩
      have B1 : Hid (Below w.heap.size w w1) := HB.out.trans ((Below.refl _ _).grown hg3 HB.out.size fun k hk => (O1.out.lt k hk).1)
      have O3 : Hid (w1.ownsRow w.heap.size 35 12 u3 m3.length (gcells entV m3)) := ho3
      have Q2 : Hid (w1.ownsRow w.heap.size 35 12 u4 m2.length (gcells entV m2)) := own_by2 O2.out hg3 NE.out.symm
      have S3 : Hid (Sorted8 m1 m3) := hs3
      clear hs3 ho3 hg3
      go_wp2_with (at_builtin; refine of_stopT ?_)
      unfold StopT
      refine wl_appendL (E := EntE) EntOk entV ent_fits rfl _ _ rfl w.heap.size w.heap.size u3 u4 m3 m2 rfl O3.out rfl Q2.out (by have h1 := ML1.out; have h2 := ML2.out; have h3 := S3.out.len; omega) B1.out.size ?_
      intro v' w3 hown3 hgr3 _
      have B3 : Hid (Below w.heap.size w w3) := B1.out.trans ((Below.refl _ _).grown hgr3 B1.out.size fun k hk => (O3.out.lt k hk).1)
      have O4 : Hid (w3.ownsRow w.heap.size 35 12 v' (m3 ++ m2).length (gcells entV (m3 ++ m2))) := hown3
      clear hown3 hgr3
      simp only [Act.put, List.setIfInBounds_toArray, List.set_cons_succ, List.set_cons_zero]
      go_wp2_with fail
      go_ret
      refine ⟨⟨_, _, rfl, ⟨m3, ?_, ?_⟩, O4.out⟩, B3.out⟩
      · rw [← EL.out.1]; exact S3.out
      · rw [EL.out.2]
end Go.Proofs.YtnbklmmampdbfaaGreatDoor
namespace Go.Proofs.YtnbklmmampdbfaaGreatDoor
open Go Go.RowKit
set_option maxRecDepth 20000

/-- The five lists that are crossed, and the cubes of an entry. -/
def five8 (x : Ent) : List (List CubeT) := [prefL 0 x.src x.srcBits, prefL 1 x.dst x.dstBits, protL x.proto, portP 2 x.slow x.shigh, portP 3 x.dlow x.dhigh]
def cubesT (x : Ent) : List CubeT := if x.dflt then [allC] else meetsL (five8 x)
theorem portP_few (f l h : Int) : (portP f l h).length ≤ 30 := by
  unfold portP
  split
  · rw [portC_len]; exact ran_few l h
  · simp
theorem protL_few (n : Int) : (protL n).length ≤ 1 := by
  unfold protL
  split
  · simp
  · split <;> simp
theorem five_few (x : Ent) : (∀ l ∈ five8 x, l.length ≤ 1000) ∧ ∀ k, (meetsL ((five8 x).take k)).length ≤ 1000 := by
  have h1 := protL_few x.proto
  have h2 := portP_few 2 x.slow x.shigh
  have h3 := portP_few 3 x.dlow x.dhigh
  refine ⟨fun l hl => ?_, ?_⟩
  · simp only [five8, List.mem_cons, List.not_mem_nil, or_false] at hl
    rcases hl with rfl | rfl | rfl | rfl | rfl
    · simp [prefL]
    · simp [prefL]
    all_goals omega
  · have step : ∀ (k m b : Nat) (l : List CubeT), (five8 x)[k]? = some l → (meetsL ((five8 x).take k)).length ≤ m → l.length ≤ b → (meetsL ((five8 x).take (k + 1))).length ≤ m * b := fun k m b l h1 h2 h3 => by
      rw [meetsL_take h1]
      exact Nat.le_trans (crossL_len _ _) (Nat.mul_le_mul h2 h3)
    have s0 : (meetsL ((five8 x).take 0)).length ≤ 1 := Nat.le_of_eq rfl
    have s1 := step 0 1 1 _ rfl s0 (Nat.le_of_eq rfl)
    have s2 := step 1 _ 1 _ rfl s1 (Nat.le_of_eq rfl)
    have s3 := step 2 _ 1 _ rfl s2 h1
    have s4 := step 3 _ 30 _ rfl s3 h2
    have s5 := step 4 _ 30 _ rfl s4 h3
    intro k
    rcases (show k = 0 ∨ k = 1 ∨ k = 2 ∨ k = 3 ∨ k = 4 ∨ 5 ≤ k by omega) with rfl | rfl | rfl | rfl | rfl | hk
    · exact Nat.le_trans s0 (by decide)
    · exact Nat.le_trans s1 (by decide)
    · exact Nat.le_trans s2 (by decide)
    · exact Nat.le_trans s3 (by decide)
    · exact Nat.le_trans s4 (by decide)
    · have e5 : (five8 x).take k = (five8 x).take 5 := by
        rw [List.take_of_length_le (show (five8 x).length ≤ k from hk), List.take_of_length_le (show (five8 x).length ≤ 5 from Nat.le_refl 5)]
      rw [e5]
      exact Nat.le_trans s5 (by decide)
theorem cubes_few (x : Ent) : (cubesT x).length ≤ 1000 := by
  unfold cubesT
  split
  · simp
  · have := (five_few x).2 5
    rwa [List.take_of_length_le (by simp [five8])] at this
theorem byts_meets : ∀ (L : List (List CubeT)), Byts (meetsL L) := by
  intro L
  unfold meetsL
  rcases List.eq_nil_or_concat L with rfl | ⟨L', l, rfl⟩
  · exact byts_one Z_byt Z_byt
  · rw [List.concat_eq_append, List.foldl_append]
    exact byts_crossL _ _
theorem cubes_byts (x : Ent) : Byts (cubesT x) := by
  unfold cubesT
  split
  · exact byts_one Z_byt Z_byt
  · exact byts_meets _
theorem ListsAt.below {w w' : World} {v : Value} {L : List (List CubeT)} (h : ListsAt w v L) (hb : Below w.heap.size w w') : ListsAt w' v L := by
  obtain ⟨g, vs, rfl, hg, hv⟩ := h
  exact ⟨g, vs, rfl, (hb.block g (Array.getElem?_eq_some_iff.1 hg).1).trans hg, fun i l hl => by obtain ⟨u, h1, h2⟩ := hv i l hl; exact ⟨u, h1, h2.below hb⟩⟩
theorem infoSl : ∃ i, Tryz.prog.info? 49 = some i ∧ i.zero = some (.slice none 0 0) ∧ i.size = 1 := by
  cases h : Tryz.prog.info? 49 with
  | none => exact absurd (show (Tryz.prog.info? 49).isSome = true by kernel_rfl) (by rw [h]; simp)
  | some i =>
    have h1 : (Tryz.prog.info? 49).map (fun i => (i.zero, i.size)) = some (some (.slice none 0 0), 1) := by kernel_rfl
    rw [h] at h1
    simp only [Option.map_some, Option.some.injEq, Prod.mk.injEq] at h1
    exact ⟨i, rfl, h1.1, h1.2⟩
theorem load_u32b (W : World) (ad : Addr) (n : Int) (h : W.cell? ad = some (.int .u32 n)) : (Instr.loadAt 33 (.pointer (some ad))).run Tryz.prog W = .ok (.int .u32 n) W := by
  simp [go_sem, h]
def cub_ops : List Oper := [
  { dst := some 27, op := .fieldAddr 35 (.tmp 1) 2, type := 0, pos := "rows.go:41", after := #[], guard := none },
  { dst := some 28, op := .load 33 (.tmp 27), type := 33, pos := "rows.go:41", after := #[{ on := 0, ground := .data }], guard := none },
  { dst := some 29, op := .fieldAddr 35 (.tmp 1) 3, type := 0, pos := "rows.go:41", after := #[], guard := none },
  { dst := some 30, op := .load 3 (.tmp 29), type := 3, pos := "rows.go:41", after := #[{ on := 2, ground := .data }], guard := none },
  { dst := some 31, op := .call { callee := .value (.func 31), args := #[.const (.int .i64 0), .tmp 28, .tmp 30], argTypes := #[3, 33, 3] }, type := 49, pos := "rows.go:41", after := #[{ on := 1, ground := .data }, { on := 3, ground := .data }], guard := none },
  { dst := some 32, op := .fieldAddr 35 (.tmp 1) 4, type := 0, pos := "rows.go:41", after := #[], guard := none },
  { dst := some 33, op := .load 33 (.tmp 32), type := 33, pos := "rows.go:41", after := #[{ on := 5, ground := .data }], guard := none },
  { dst := some 34, op := .fieldAddr 35 (.tmp 1) 5, type := 0, pos := "rows.go:41", after := #[], guard := none },
  { dst := some 35, op := .load 3 (.tmp 34), type := 3, pos := "rows.go:41", after := #[{ on := 7, ground := .data }], guard := none },
  { dst := some 36, op := .call { callee := .value (.func 31), args := #[.const (.int .i64 1), .tmp 33, .tmp 35], argTypes := #[3, 33, 3] }, type := 49, pos := "rows.go:41", after := #[{ on := 6, ground := .data }, { on := 8, ground := .data }, { on := 4, ground := .chain }], guard := none },
  { dst := some 37, op := .fieldAddr 35 (.tmp 1) 10, type := 0, pos := "rows.go:41", after := #[], guard := none },
  { dst := some 38, op := .load 3 (.tmp 37), type := 3, pos := "rows.go:41", after := #[{ on := 10, ground := .data }], guard := none },
  { dst := some 39, op := .call { callee := .value (.func 32), args := #[.tmp 38], argTypes := #[3] }, type := 49, pos := "rows.go:41", after := #[{ on := 11, ground := .data }, { on := 9, ground := .chain }], guard := none },
  { dst := some 40, op := .move (.tmp 3), type := 49, pos := "rows.go:41", after := #[], guard := none },
  { dst := some 41, op := .move (.tmp 5), type := 49, pos := "rows.go:41", after := #[], guard := none },
  { dst := some 42, op := .buildSlice 104 5 #[(0, .tmp 31), (1, .tmp 36), (2, .tmp 39), (3, .tmp 40), (4, .tmp 41)], type := 104, pos := "rows.go:41", after := #[{ on := 4, ground := .data }, { on := 9, ground := .data }, { on := 12, ground := .data }, { on := 13, ground := .data }, { on := 14, ground := .data }], guard := none },
  { dst := some 43, op := .call { callee := .value (.func 30), args := #[.tmp 42], argTypes := #[104] }, type := 49, pos := "rows.go:41", after := #[{ on := 15, ground := .data }, { on := 12, ground := .chain }], guard := none },
  { dst := some 2, op := .assign (.tmp 43), type := 49, pos := "rows.go:41", after := #[{ on := 16, ground := .data }, { on := 16, ground := .chain }, { on := 0, ground := .phase }, { on := 1, ground := .phase }, { on := 2, ground := .phase }, { on := 3, ground := .phase }, { on := 4, ground := .phase }, { on := 5, ground := .phase }, { on := 6, ground := .phase }, { on := 7, ground := .phase }, { on := 8, ground := .phase }, { on := 9, ground := .phase }, { on := 10, ground := .phase }, { on := 11, ground := .phase }, { on := 12, ground := .phase }, { on := 13, ground := .phase }, { on := 14, ground := .phase }, { on := 15, ground := .phase }, { on := 16, ground := .phase }], guard := none }]
def cub_D : List Nat := [27, 28, 29, 30, 31, 32, 33, 34, 35, 36, 37, 38, 39, 40, 41, 42, 43, 2]
def cub_V (p B : Nat) (x : Ent) (vs vd : Value) (i : Nat) (v : Value) (w : World) : Prop :=
  match i with
  | 0 => v = .pointer (some ⟨p, 2, none⟩)
  | 1 => v = .int .u32 x.src
  | 2 => v = .pointer (some ⟨p, 3, none⟩)
  | 3 => v = .int .i64 x.srcBits
  | 4 => Sl w v (prefL 0 x.src x.srcBits)
  | 5 => v = .pointer (some ⟨p, 4, none⟩)
  | 6 => v = .int .u32 x.dst
  | 7 => v = .pointer (some ⟨p, 5, none⟩)
  | 8 => v = .int .i64 x.dstBits
  | 9 => Sl w v (prefL 1 x.dst x.dstBits)
  | 10 => v = .pointer (some ⟨p, 10, none⟩)
  | 11 => v = .int .i64 x.proto
  | 12 => Sl w v (protL x.proto)
  | 13 => v = vs
  | 14 => v = vd
  | 15 => ListsAt w v (five8 x)
  | 16 => w.ownsRow B 37 26 v (meetsL (five8 x)).length (ccells (meetsL (five8 x)))
  | _ => True
theorem cub_mono (p B : Nat) (x : Ent) (vs vd : Value) : ∀ j v w w', cub_V p B x vs vd j v w → Below w.heap.size w w' → cub_V p B x vs vd j v w' := by
  intro j v w w' h hb
  revert h
  unfold cub_V
  split <;> intro h <;> first
    | exact h
    | exact Sl.below h hb
    | exact ListsAt.below h hb
    | exact gown_below h hb

set_option maxHeartbeats 4000000 in
theorem cub_region {id : Nat} {Q : Exit → Act → World → Prop} {a0 : Act} {w0 : World} (hs : 44 ≤ a0.tmps.size) (p : Nat) (x : Ent) (hx : ent32 x) (vs vd : Value) (h1 : a0.eval (.tmp 1) = .pointer (some ⟨p, 0, none⟩)) (h3 : a0.eval (.tmp 3) = vs) (h5 : a0.eval (.tmp 5) = vd)
    (hp : w0.heap[p]? = some (.cells (entV x) 35 (0, 0))) (hvs : Sl w0 vs (portP 2 x.slow x.shigh)) (hvd : Sl w0 vd (portP 3 x.dlow x.dhigh)) (hP : Places w0)
    (hK : ∀ y w' v, Below w0.heap.size w0 w' → w'.ownsRow w0.heap.size 37 26 v (meetsL (five8 x)).length (ccells (meetsL (five8 x))) → Q .normal ((putsD cub_D y a0).put (some 2) v) w') : (Code.region id cub_ops.toArray true).wp Tryz.prog Q a0 w0 := by
  have hDs : ∀ d ∈ cub_D, d < a0.tmps.size := fun d hd => by
    have : d < 44 := by
      revert hd; unfold cub_D; intro hd
      simp only [List.mem_cons, List.not_mem_nil, or_false] at hd
      omega
    omega
  refine region_inv 17 (cub_V p w0.heap.size x vs vd) cub_D (by kernel_rfl) rfl (by kernel_rfl) (by decide) hDs (by kernel_rfl) (by kernel_rfl) (cub_mono p w0.heap.size x vs vd) ?_ ?_
  · intro i o ho hi a w h
    have B : Below w0.heap.size w0 w := (Below.refl _ _).drew.trans h.below
    have hPw : Places w := hP.later hP.pos B
    have e1 : a.eval (.tmp 1) = .pointer (some ⟨p, 0, none⟩) := (h.other 1 (by decide)).trans h1
    have e3 : a.eval (.tmp 3) = vs := (h.other 3 (by decide)).trans h3
    have e5 : a.eval (.tmp 5) = vd := (h.other 5 (by decide)).trans h5
    have bp : w.heap[p]? = some (.cells (entV x) 35 (0, 0)) := (B.block p (Array.getElem?_eq_some_iff.1 hp).1).trans hp
    have c : ∀ j u, (entV x)[j]? = some u → w.cell? ⟨p, j, none⟩ = some u := fun j u hu => by rw [cell_of_row _ _ _ _ _ _ bp]; exact hu
    have fa : ∀ j, (j = 2 ∨ j = 3 ∨ j = 4 ∨ j = 5 ∨ j = 10) → (Instr.fieldAt 35 (.pointer (some ⟨p, 0, none⟩)) j).run Tryz.prog w = .ok (.pointer (some ⟨p, j, none⟩)) w := fun j hj => by
      rcases hj with rfl | rfl | rfl | rfl | rfl <;> simp [go_sem]
    have cp : ∀ vs W, (callFunc 31 vs).run Tryz.prog W = .ok (.enter 31 vs) W := fun vs W => by have hf := Tryz.func31; simp [go_sem]
    have cq : ∀ vs W, (callFunc 32 vs).run Tryz.prog W = .ok (.enter 32 vs) W := fun vs W => by have hf := Tryz.func32; simp [go_sem]
    have cm : ∀ vs W, (callFunc 30 vs).run Tryz.prog W = .ok (.enter 30 vs) W := fun vs W => by have hf := Tryz.func30; simp [go_sem]
    rcases (show i = 0 ∨ i = 1 ∨ i = 2 ∨ i = 3 ∨ i = 4 ∨ i = 5 ∨ i = 6 ∨ i = 7 ∨ i = 8 ∨ i = 9 ∨ i = 10 ∨ i = 11 ∨ i = 12 ∨ i = 13 ∨ i = 14 ∨ i = 15 ∨ i = 16 by omega) with rfl | rfl | rfl | rfl | rfl | rfl | rfl | rfl | rfl | rfl | rfl | rfl | rfl | rfl | rfl | rfl | rfl
    · obtain rfl := Option.some.inj ho
      exact iv_val rfl rfl _ (run_fieldOp rfl _ _ _ ((congrArg (fun y => (Instr.fieldAt 35 y 2).run Tryz.prog w) e1).trans (fa 2 (by decide)))) rfl
    · obtain rfl := Option.some.inj ho
      have f0 : a.eval (.tmp 27) = .pointer (some ⟨p, 2, none⟩) := h.has ⟨0, .data⟩ (by simp) rfl _ 27 rfl rfl
      exact iv_val rfl rfl _ (run_loadOp rfl _ _ _ _ f0 (load_u32b _ _ _ (c 2 _ rfl))) rfl
    · obtain rfl := Option.some.inj ho
      exact iv_val rfl rfl _ (run_fieldOp rfl _ _ _ ((congrArg (fun y => (Instr.fieldAt 35 y 3).run Tryz.prog w) e1).trans (fa 3 (by decide)))) rfl
    · obtain rfl := Option.some.inj ho
      have f0 : a.eval (.tmp 29) = .pointer (some ⟨p, 3, none⟩) := h.has ⟨2, .data⟩ (by simp) rfl _ 29 rfl rfl
      exact iv_val rfl rfl _ (run_loadOp rfl _ _ _ _ f0 (load_int _ _ _ (c 3 _ rfl))) rfl
    · obtain rfl := Option.some.inj ho
      have f1 : a.eval (.tmp 28) = .int .u32 x.src := h.has ⟨1, .data⟩ (by simp) rfl _ 28 rfl rfl
      have f2 : a.eval (.tmp 30) = .int .i64 x.srcBits := h.has ⟨3, .data⟩ (by simp) rfl _ 30 rfl rfl
      refine iv_call rfl rfl 31 #[.int .i64 0, .int .u32 x.src, .int .i64 x.srcBits] (run_callOps rfl cp _ _ _ (by simp only [List.map_toArray, List.map_cons, List.map_nil, f1, f2]; rfl)) ((prefix8_any 0 x.src x.srcBits (by simp) hx.1.1 hx.1.2 w hPw).mono fun e w' h => ?_)
      obtain ⟨⟨u, r1, r2⟩, r3⟩ := h
      exact ⟨u, r1, r3, r2⟩
    · obtain rfl := Option.some.inj ho
      exact iv_val rfl rfl _ (run_fieldOp rfl _ _ _ ((congrArg (fun y => (Instr.fieldAt 35 y 4).run Tryz.prog w) e1).trans (fa 4 (by decide)))) rfl
    · obtain rfl := Option.some.inj ho
      have f0 : a.eval (.tmp 32) = .pointer (some ⟨p, 4, none⟩) := h.has ⟨5, .data⟩ (by simp) rfl _ 32 rfl rfl
      exact iv_val rfl rfl _ (run_loadOp rfl _ _ _ _ f0 (load_u32b _ _ _ (c 4 _ rfl))) rfl
    · obtain rfl := Option.some.inj ho
      exact iv_val rfl rfl _ (run_fieldOp rfl _ _ _ ((congrArg (fun y => (Instr.fieldAt 35 y 5).run Tryz.prog w) e1).trans (fa 5 (by decide)))) rfl
    · obtain rfl := Option.some.inj ho
      have f0 : a.eval (.tmp 34) = .pointer (some ⟨p, 5, none⟩) := h.has ⟨7, .data⟩ (by simp) rfl _ 34 rfl rfl
      exact iv_val rfl rfl _ (run_loadOp rfl _ _ _ _ f0 (load_int _ _ _ (c 5 _ rfl))) rfl
    · obtain rfl := Option.some.inj ho
      have f1 : a.eval (.tmp 33) = .int .u32 x.dst := h.has ⟨6, .data⟩ (by simp) rfl _ 33 rfl rfl
      have f2 : a.eval (.tmp 35) = .int .i64 x.dstBits := h.has ⟨8, .data⟩ (by simp) rfl _ 35 rfl rfl
      refine iv_call rfl rfl 31 #[.int .i64 1, .int .u32 x.dst, .int .i64 x.dstBits] (run_callOps rfl cp _ _ _ (by simp only [List.map_toArray, List.map_cons, List.map_nil, f1, f2]; rfl)) ((prefix8_any 1 x.dst x.dstBits (by simp) hx.2.1 hx.2.2 w hPw).mono fun e w' h => ?_)
      obtain ⟨⟨u, r1, r2⟩, r3⟩ := h
      exact ⟨u, r1, r3, r2⟩
    · obtain rfl := Option.some.inj ho
      exact iv_val rfl rfl _ (run_fieldOp rfl _ _ _ ((congrArg (fun y => (Instr.fieldAt 35 y 10).run Tryz.prog w) e1).trans (fa 10 (by decide)))) rfl
    · obtain rfl := Option.some.inj ho
      have f0 : a.eval (.tmp 37) = .pointer (some ⟨p, 10, none⟩) := h.has ⟨10, .data⟩ (by simp) rfl _ 37 rfl rfl
      exact iv_val rfl rfl _ (run_loadOp rfl _ _ _ _ f0 (load_int _ _ _ (c 10 _ rfl))) rfl
    · obtain rfl := Option.some.inj ho
      have f1 : a.eval (.tmp 38) = .int .i64 x.proto := h.has ⟨11, .data⟩ (by simp) rfl _ 38 rfl rfl
      refine iv_call rfl rfl 32 #[.int .i64 x.proto] (run_callOps rfl cq _ _ _ (by simp only [List.map_toArray, List.map_cons, List.map_nil, f1])) ((protos_any x.proto w hPw).mono fun e w' h => ?_)
      obtain ⟨⟨u, r1, r2⟩, r3⟩ := h
      exact ⟨u, r1, r3, r2⟩
    · obtain rfl := Option.some.inj ho
      exact iv_val rfl rfl _ (run_moveOp rfl _ _ _ e3) rfl
    · obtain rfl := Option.some.inj ho
      exact iv_val rfl rfl _ (run_moveOp rfl _ _ _ e5) rfl
    · obtain rfl := Option.some.inj ho
      have f1 : Sl w (a.eval (.tmp 31)) (prefL 0 x.src x.srcBits) := h.has ⟨4, .data⟩ (by simp) rfl _ 31 rfl rfl
      have f2 : Sl w (a.eval (.tmp 36)) (prefL 1 x.dst x.dstBits) := h.has ⟨9, .data⟩ (by simp) rfl _ 36 rfl rfl
      have f3 : Sl w (a.eval (.tmp 39)) (protL x.proto) := h.has ⟨12, .data⟩ (by simp) rfl _ 39 rfl rfl
      have f4 : a.eval (.tmp 40) = vs := h.has ⟨13, .data⟩ (by simp) rfl _ 40 rfl rfl
      have f5 : a.eval (.tmp 41) = vd := h.has ⟨14, .data⟩ (by simp) rfl _ 41 rfl rfl
      obtain ⟨o1, c1, g1, _, _⟩ := f1.slice
      obtain ⟨o2, c2, g2, _, _⟩ := f2.slice
      obtain ⟨o3, c3, g3, _, _⟩ := f3.slice
      obtain ⟨o4, c4, g4, _, _⟩ := hvs.slice
      obtain ⟨o5, c5, g5, _, _⟩ := hvd.slice
      have s4 := hvs.below B
      have s5 := hvd.below B
      rw [g1] at f1
      rw [g2] at f2
      rw [g3] at f3
      rw [g4] at f4 s4
      rw [g5] at f5 s5
      obtain ⟨n1, q1⟩ : ∃ n, n = (prefL 0 x.src x.srcBits).length := ⟨_, rfl⟩
      obtain ⟨n2, q2⟩ : ∃ n, n = (prefL 1 x.dst x.dstBits).length := ⟨_, rfl⟩
      obtain ⟨n3, q3⟩ : ∃ n, n = (protL x.proto).length := ⟨_, rfl⟩
      obtain ⟨n4, q4⟩ : ∃ n, n = (portP 2 x.slow x.shigh).length := ⟨_, rfl⟩
      obtain ⟨n5, q5⟩ : ∃ n, n = (portP 3 x.dlow x.dhigh).length := ⟨_, rfl⟩
      rw [← q1] at f1 g1
      rw [← q2] at f2 g2
      rw [← q3] at f3 g3
      rw [← q4] at f4 s4
      rw [← q5] at f5 s5
      refine iv_list rfl ?_
      obtain ⟨ie, hie, hz, hsi⟩ := infoSl
      refine wpList_buildSlice rfl _ 49 5 _ rfl #[.slice o1 n1 c1, .slice o2 n2 c2, .slice o3 n3 c3, .slice o4 n4 c4, .slice o5 n5 c5] ie (.slice none 0 0) Tryz.underlying104 hie hz (by rw [hsi]; decide) (by rw [hsi]; decide) (by simp only [List.map_toArray, List.map_cons, List.map_nil, g1, g2, g3, f4, f5, hsi]; kernel_rfl) ?_
      have BB : Below w.heap.size w (w.alloc (.cells #[.slice o1 n1 c1, .slice o2 n2 c2, .slice o3 n3 c3, .slice o4 n4 c4, .slice o5 n5 c5] 49)) := (Below.refl _ _).alloc (Nat.le_refl _) _
      refine ⟨_, rfl, BB, fun _ _ => ⟨_, _, rfl, heap_new _ _ _ rfl, fun i l hl => ?_⟩⟩
      rcases (show i = 0 ∨ i = 1 ∨ i = 2 ∨ i = 3 ∨ i = 4 ∨ 5 ≤ i by omega) with rfl | rfl | rfl | rfl | rfl | hi5
      · obtain rfl := Option.some.inj hl
        exact ⟨_, rfl, f1.below BB⟩
      · obtain rfl := Option.some.inj hl
        exact ⟨_, rfl, f2.below BB⟩
      · obtain rfl := Option.some.inj hl
        exact ⟨_, rfl, f3.below BB⟩
      · obtain rfl := Option.some.inj hl
        exact ⟨_, rfl, s4.below BB⟩
      · obtain rfl := Option.some.inj hl
        exact ⟨_, rfl, s5.below BB⟩
      · rw [List.getElem?_eq_none (by simpa [five8] using hi5)] at hl
        cases hl
    · obtain rfl := Option.some.inj ho
      have f1 : ListsAt w (a.eval (.tmp 42)) (five8 x) := h.has ⟨15, .data⟩ (by simp) rfl _ 42 rfl rfl
      refine iv_call rfl rfl 30 #[a.eval (.tmp 42)] (run_callOps rfl cm _ _ _ (by simp)) ((meets_any (five8 x) _ w f1 (by simp [five8]) (five_few x).1 (five_few x).2).mono fun e w' h => ?_)
      obtain ⟨⟨u, r1, r2⟩, r3⟩ := h
      exact ⟨u, r1, r3, gown_base r2 B.size⟩
  · intro a w hb hsz hdf hot hh
    have f1 : w.ownsRow w0.heap.size 37 26 (a.eval (.tmp 43)) (meetsL (five8 x)).length (ccells (meetsL (five8 x))) := hh 16 _ 43 (by decide) rfl rfl
    obtain ⟨v, hv⟩ : ∃ v, a.eval (.tmp 43) = v := ⟨_, rfl⟩
    rw [hv] at f1
    refine wpOp_assign rfl rfl _ rfl v hv (some 2) rfl ?_
    show Q .normal (a.put (some 2) v) w
    rw [puts_form hsz hdf hot hDs]
    exact hK _ w v hb f1

set_option maxHeartbeats 4000000 in
set_option maxRecDepth 100000 in
theorem cubes_any (x : Ent) (hx : ent32 x) (w : World) (hP : Places w) :
    Calls Tryz.prog 16 #[.agg (entV x)] w fun e w' => (∃ v, e = .returned v ∧ w'.ownsRow w.heap.size 37 26 v (cubesT x).length (ccells (cubesT x))) ∧ Below w.heap.size w w' := by
  have hZl := Z_byt.1
  have K0 : Hid ((w.alloc (.cells (entV x) 35)).heap[w.heap.size]? = some (.cells (entV x) 35 (0, 0))) := heap_new _ _ _ rfl
  have B0 : Hid (Below w.heap.size w (w.alloc (.cells (entV x) 35))) := (Below.refl _ _).alloc (Nat.le_refl _) _
  have c : ∀ j u, (entV x)[j]? = some u → (w.alloc (.cells (entV x) 35)).cell? ⟨w.heap.size, j, none⟩ = some u := fun j u hu => by rw [cell_of_row _ _ _ _ _ _ K0.out]; exact hu
  have d0 := c 0 (.bool x.dflt) rfl
  cases hd : x.dflt with
  | true =>
    rw [hd] at d0
    have HA : Hid (∀ W, Calls Tryz.prog 14 #[] W fun e w' => e = .returned (.agg (cv Z Z)) ∧ Below W.heap.size W w') := all8
    rw [show cubesT x = [allC] by unfold cubesT; rw [if_pos hd]]
    clear c hd hP
    go_enter Tryz.func16, Tryz.ntmps16
    go_wp2_with fail
    refine (HA.out _).mono ?_
    rintro e w1 ⟨rfl, hb1⟩
    have B1 : Hid (Below w.heap.size w w1) := B0.out.trans (hb1.mono B0.out.size)
    clear hb1
    go_wp2_with (refine wl_build1 rfl _ rfl Z Z hZl hZl rfl ?_)
    go_ret
    exact ⟨⟨_, rfl, gown_base (own_one8 w1 Z Z Z_byt Z_byt) B1.out.size⟩, B1.out.alloc B1.out.size _⟩
  | false =>
    rw [hd] at d0
    have c6 := c 6 (.int .i64 x.slow) rfl
    have c7 := c 7 (.int .i64 x.shigh) rfl
    have CE : Hid (cubesT x = meetsL (five8 x)) := by show _ = _; unfold cubesT; rw [if_neg (by rw [hd]; decide)]
    have HPW : Hid (∀ W, Below w.heap.size w W → Places W) := fun W hb => hP.later hP.pos hb
    have PP : Hid (∀ (f l h : Int) W, Places W → Calls Tryz.prog 29 #[.int .i64 f, .int .i64 l, .int .i64 h] W fun e w' => ∃ u, e = .returned (.tuple #[u, .int .i64 (portE f l h)]) ∧ Sl w' u (portP f l h) ∧ Below W.heap.size W w') := fun f l h W hW => ports_any f l h W hW
    clear c hd hP
    go_enter Tryz.func16, Tryz.ntmps16
    go_wp2_with fail
    refine (PP.out 2 x.slow x.shigh _ (HPW.out _ B0.out)).mono ?_
    rintro e w1 ⟨vs, rfl, hs1, hb1⟩
    have B1 : Hid (Below w.heap.size w w1) := B0.out.trans (hb1.mono B0.out.size)
    have K1 : Hid (w1.heap[w.heap.size]? = some (.cells (entV x) 35 (0, 0))) := (hb1.block _ (by simp)).trans K0.out
    have S1 : Hid (Sl w1 vs (portP 2 x.slow x.shigh)) := hs1
    have c8 : w1.cell? ⟨w.heap.size, 8, none⟩ = some (.int .i64 x.dlow) := by rw [cell_of_row _ _ _ _ _ _ K1.out]; rfl
    have c9 : w1.cell? ⟨w.heap.size, 9, none⟩ = some (.int .i64 x.dhigh) := by rw [cell_of_row _ _ _ _ _ _ K1.out]; rfl
    clear hs1 hb1 d0 c6 c7
    go_wp2_with fail
    refine (PP.out 3 x.dlow x.dhigh _ (HPW.out _ B1.out)).mono ?_
    rintro e w2 ⟨vd, rfl, hs2, hb2⟩
    have B2 : Hid (Below w.heap.size w w2) := B1.out.trans (hb2.mono B1.out.size)
    have K2 : Hid (w2.heap[w.heap.size]? = some (.cells (entV x) 35 (0, 0))) := (hb2.block _ (Array.getElem?_eq_some_iff.1 K1.out).1).trans K1.out
    have S2 : Hid (Sl w2 vs (portP 2 x.slow x.shigh)) := S1.out.below hb2
    have S3 : Hid (Sl w2 vd (portP 3 x.dlow x.dhigh)) := hs2
    clear hs2 hb2 c8 c9
    go_upto_region 5 with fail
    refine cub_region (by exact Nat.le_of_eq rfl) w.heap.size x hx vs vd rfl rfl rfl K2.out S2.out S3.out (HPW.out _ B2.out) ?_
    intro y w3 v hb3 ho3
    have B3 : Hid (Below w.heap.size w w3) := B2.out.trans (hb3.mono B2.out.size)
    have O3 : Hid (w3.ownsRow w.heap.size 37 26 v (cubesT x).length (ccells (cubesT x))) := by rw [CE.out]; exact gown_base ho3 B2.out.size
    clear hb3 ho3
    simp only [putsD, cub_D, List.foldl_cons, List.foldl_nil, Act.put, List.setIfInBounds_toArray, List.set_cons_succ, List.set_cons_zero]
    go_wp2_with fail
    go_ret
    exact ⟨⟨_, rfl, O3.out⟩, B3.out⟩
end Go.Proofs.YtnbklmmampdbfaaGreatDoor
namespace Go.Proofs.YtnbklmmampdbfaaGreatDoor
open Go Go.RowKit
set_option maxRecDepth 20000

/-- What an entry, and a list's rows, come to. -/
def pq8 (x : Ent) : List (CubeT × Int) := (cubesT x).map fun c => (c, x.action)
def pairsT (R : List Ent) : List (CubeT × Int) := R.flatMap pq8
def rulesOf (P : List (CubeT × Int)) : List RuleM := P.zipIdx.map fun q => ⟨(q.2 : Int), q.1.1, q.1.2⟩
theorem rulesOf_snoc (P : List (CubeT × Int)) (q : CubeT × Int) : rulesOf (P ++ [q]) = rulesOf P ++ [⟨(P.length : Int), q.1, q.2⟩] := by
  unfold rulesOf
  rw [List.zipIdx_append, List.map_append]
  simp
theorem rulesOf_len (P : List (CubeT × Int)) : (rulesOf P).length = P.length := by simp [rulesOf]
theorem pairs_take {R : List Ent} {k : Nat} {x : Ent} (h : R[k]? = some x) : pairsT (R.take (k + 1)) = pairsT (R.take k) ++ pq8 x := by
  unfold pairsT
  rw [List.take_add_one, h]
  simp
theorem pairs_le (R : List Ent) (k : Nat) : (pairsT (R.take k)).length ≤ (pairsT R).length := by
  conv => rhs; rw [← List.take_append_drop k R]
  unfold pairsT
  rw [List.flatMap_append, List.length_append]
  omega
theorem pairs_part {R : List Ent} {k : Nat} {x : Ent} (h : R[k]? = some x) (j : Nat) : (pairsT (R.take k) ++ (pq8 x).take j).length ≤ (pairsT R).length := by
  have h1 := pairs_le R (k + 1)
  rw [pairs_take h, List.length_append] at h1
  rw [List.length_append, List.length_take]
  omega
theorem pq_at {x : Ent} {j : Nat} {c : CubeT} (h : (cubesT x)[j]? = some c) : (pq8 x)[j]? = some (c, x.action) := by
  unfold pq8
  rw [List.getElem?_map, h]
  rfl
theorem take_snoc {α : Type} {l : List α} {j : Nat} {c : α} (h : l[j]? = some c) : l.take (j + 1) = l.take j ++ [c] := by
  rw [List.take_add_one, h]
  rfl
theorem blk_by {w w' : World} {B : Nat} {e : TypeId} {s n : Nat} {v : Value} {xs : List Value} (hv : w.ownsRow B e s v n xs) (hg : w.grownBy w' v.ownBlock) {g : Nat} {cs : Array Value} {t : TypeId} {fr : Nat × Nat} (h : w.heap[g]? = some (.cells cs t fr)) (hne : t ≠ e) : w'.heap[g]? = some (.cells cs t fr) := by
  refine (hg.block g (Array.getElem?_eq_some_iff.1 h).1 fun hq => ?_).trans h
  obtain ⟨_, ⟨rfl, _⟩ | ⟨g1, cap, cur, rfl, _, h1, _⟩⟩ := hv
  · cases hq
  · simp only [Value.ownBlock, Option.some.injEq] at hq
    subst hq
    rw [h] at h1
    simp at h1
    exact hne h1.2.1
theorem own_by8 {w w' : World} {B B' : Nat} {e e' : TypeId} {s s' n n' : Nat} {v u : Value} {xs ys : List Value} (hv : w.ownsRow B e s v n xs) (hg : w.grownBy w' v.ownBlock) (h : w.ownsRow B' e' s' u n' ys) (hne : e ≠ e') : w'.ownsRow B' e' s' u n' ys := own_grown hg h (fun g hq => own_apart hv h hne g hq)
def okQ (P : List (CubeT × Int)) : Prop := ∀ q ∈ P, Byt q.1.1 ∧ Byt q.1.2
theorem okQ_rules {P : List (CubeT × Int)} (h : okQ P) : ∀ r ∈ rulesOf P, okR8 r := fun r hr => by
  unfold rulesOf at hr
  obtain ⟨q, hq, rfl⟩ := List.mem_map.1 hr
  have := List.mem_zipIdx hq
  exact h q.1 (by rw [this.2.2]; exact List.getElem_mem _)
theorem okQ_pairs (R : List Ent) : okQ (pairsT R) := fun q hq => by
  unfold pairsT pq8 at hq
  obtain ⟨x, _, hq⟩ := List.mem_flatMap.1 hq
  obtain ⟨c, hc, rfl⟩ := List.mem_map.1 hq
  exact cubes_byts x c hc

theorem rowsOf_len {l R : List Ent} (h : RowsOf l R) : R.length = l.length := by
  obtain ⟨S, h1, rfl⟩ := h
  rw [List.length_append, h1.len]
  have : ∀ m : List Ent, (m.filter fun x => !x.dflt).length + (m.filter fun x => x.dflt).length = m.length := fun m => by
    induction m with
    | nil => rfl
    | cons x m ih => cases hd : x.dflt <;> simp [hd] <;> omega
  exact this l
/-- What Expand answers. -/
def ExpR (B : Nat) (w : World) (R : List Ent) (m : Int) (e : Ending) : Prop :=
  (∃ u, e = .returned (.tuple #[u, .int .i64 0]) ∧ (pairsT R).length ≤ bnd4 m ∧ w.ownsRow B 39 28 u (rulesOf (pairsT R)).length (gcells ruleV (rulesOf (pairsT R)))) ∨ (e = .returned (.tuple #[.slice none 0 0, .int .i64 4]) ∧ bnd4 m < (pairsT R).length)

set_option maxHeartbeats 16000000 in
set_option maxRecDepth 100000 in
theorem expand_any (l : List Ent) (h320 : ∀ x ∈ l, ent32 x) (hn : l.length ≤ 100000) (m : Int) (vl : Value) (w : World) (hl : EntsAt w vl l) (hP : Places w) :
    Calls Tryz.prog 6 #[vl, .int .i64 m] w fun e w' => (∃ R, RowsOf l R ∧ ExpR w.heap.size w' R m e) ∧ Below w.heap.size w w' := by
  have RW : Hid (Calls Tryz.prog 15 #[vl] w fun e w' => (∃ v R, e = .returned v ∧ RowsOf l R ∧ w'.ownsRow w.heap.size 35 12 v R.length (gcells entV R)) ∧ Below w.heap.size w w') := rows_any l vl w hl hn
  have CU : Hid (∀ (x : Ent) W, ent32 x → Below w.heap.size w W → Calls Tryz.prog 16 #[.agg (entV x)] W fun e w' => (∃ v, e = .returned v ∧ w'.ownsRow W.heap.size 37 26 v (cubesT x).length (ccells (cubesT x))) ∧ Below W.heap.size W w') := fun x W h1 h2 => cubes_any x h1 W (hP.later hP.pos h2)
  have H32 : Hid (∀ x ∈ l, ent32 x) := h320
  obtain ⟨mx, hmx⟩ : ∃ mx, mx = max m 0 := ⟨_, rfl⟩
  have HMX : Hid (mx = max m 0) := hmx
  obtain ⟨b, hb⟩ : ∃ b, b = bnd4 m := ⟨_, rfl⟩
  have HMN : Hid ((b : Int) = min mx 2048) := by show _ = _; rw [hb, bnd4_eq, hmx]
  have hb2 : b ≤ 2048 := by rw [hb]; exact bnd4_le m
  have HBE : Hid (b = bnd4 m) := hb
  clear h320 hl hP hmx hb
  go_enter Tryz.func6, Tryz.ntmps6
  go_wp2_with (first
    | (refine wl_maxI rfl _ _ rfl m 0 mx rfl rfl HMX.out ?_)
    | (refine wl_minI rfl _ _ rfl mx 2048 (b : Int) rfl rfl HMN.out ?_))
  refine RW.out.mono ?_
  rintro e w1 ⟨⟨vR, R, rfl, hR, hown⟩, hb1⟩
  have HR : Hid (RowsOf l R) := hR
  have OR : Hid (w1.ownsRow w.heap.size 35 12 vR R.length (gcells entV R)) := hown
  have B1 : Hid (Below w.heap.size w w1) := hb1
  obtain ⟨oR, cR, rfl⟩ := gown_slice hown
  obtain ⟨nR, hnR⟩ : ∃ n, n = R.length := ⟨_, rfl⟩
  have HNR : Hid (nR = R.length) := hnR
  rw [← hnR] at OR ⊢
  have hnR2 : nR ≤ 100000 := by rw [hnR, rowsOf_len hR]; exact hn
  clear hR hown hb1 RW
  go_wp2_with fail
  go_loopw [6, 17] (fun v i wr => ∃ (k : Nat) (Q : List (CubeT × Int)), k ≤ nR ∧ i = .int .i64 (k : Int) ∧ Hid (Q = pairsT (R.take k)) ∧ Q.length ≤ b ∧ wr.ownsRow w.heap.size 39 28 v (rulesOf Q).length (gcells ruleV (rulesOf Q)) ∧ wr.ownsRow w.heap.size 35 12 (.slice oR nR cR) nR (gcells entV R) ∧ Below w.heap.size w wr) (fun _ i _ => nR - (intOf i).toNat)
  case atStart => exact ⟨0, [], Nat.zero_le _, rfl, rfl, Nat.zero_le _, World.ownsRow_nil _ _ _ _, OR.out, B1.out⟩
  case round =>
    clear OR B1
    obtain ⟨k, Q, hk, rfl, HQ, hQb, ho, hr, hb⟩ := hrel
    have HO : Hid (wr.ownsRow w.heap.size 39 28 u6 (rulesOf Q).length (gcells ruleV (rulesOf Q))) := ho
    have OR : Hid (wr.ownsRow w.heap.size 35 12 (.slice oR nR cR) nR (gcells entV R)) := hr
    have HB : Hid (Below w.heap.size w wr) := hb
    clear ho hr hb
    by_cases hlt : k < nR
    · have hlt' : (k : Int) < (nR : Int) := by omega
      have hsl : EntsAt wr (.slice oR nR cR) R := by
        have := OR.out
        rw [HNR.out] at this ⊢
        exact gsl_of (E := EntE) this fun _ _ => rfl
      obtain ⟨g, off, cur, ty, fr, x, rfl, hg, hc, hxk⟩ := hsl.at k hlt
      have K1 : Hid (wr.heap[g]? = some (.cells cur ty fr)) := hg
      have H1 : Hid (∀ j, j < 12 → cur[off + k * 12 + j]? = (entV x)[j]?) := hc
      have HX : Hid (R[k]? = some x) := hxk
      have HX2 : Hid (ent32 x) := H32.out x ((HR.out.mem x).1 (List.mem_of_getElem? hxk))
      have KN : Hid ((wr.alloc (.cells (entV x) 35)).heap[wr.heap.size]? = some (.cells (entV x) 35 (0, 0))) := heap_new _ _ _ rfl
      have BN : Hid (Below w.heap.size w (wr.alloc (.cells (entV x) 35))) := HB.out.alloc HB.out.size _
      have HLT : Hid (k < nR) := hlt
      clear hg hc hxk hsl hlt
      go_wp2_with (first
        | (refine wl_loadE (E := EntE) EntOk rfl _ rfl g (off + k * 12) rfl cur ty fr (entV x) rfl K1.out H1.out ?_)
        | (refine wl_loadE (E := EntE) EntOk rfl _ rfl wr.heap.size 0 rfl _ _ _ (entV x) rfl KN.out (own_cells _ _) ?_)
        | (refine wl_storeE (E := EntE) EntOk rfl _ _ rfl wr.heap.size (entV x) (ent_fits _) rfl rfl _ (heap_new _ _ _ rfl) rfl _ (setRow_new _ _ _ _ _ rfl) ?_))
      refine (CU.out x _ HX2.out BN.out).mono ?_
      rintro e w2 ⟨⟨vc, rfl, hoc⟩, hb2'⟩
      obtain ⟨gx, hgx⟩ : ∃ gx, gx = wr.heap.size := ⟨_, rfl⟩
      have KX : Hid (w2.heap[gx]? = some (.cells (entV x) 35 (0, 0))) := by rw [hgx]; exact (hb2'.block _ (by simp)).trans KN.out
      have BX : Hid (Below w.heap.size w w2) := BN.out.trans (hb2'.mono BN.out.size)
      have OX : Hid (w2.ownsRow w.heap.size 39 28 u6 (rulesOf Q).length (gcells ruleV (rulesOf Q))) := gown_below (HO.out.alloc _) hb2'
      have RX : Hid (w2.ownsRow w.heap.size 35 12 (.slice (some ⟨g, off, none⟩) nR cR) nR (gcells entV R)) := gown_below (OR.out.alloc _) hb2'
      have CX : Hid (w2.ownsRow w.heap.size 37 26 vc (cubesT x).length (ccells (cubesT x))) := gown_base hoc BN.out.size
      obtain ⟨oc, cc, rfl⟩ := gown_slice hoc
      obtain ⟨nc, hnc⟩ : ∃ n, n = (cubesT x).length := ⟨_, rfl⟩
      have HNC : Hid (nc = (cubesT x).length) := hnc
      have hnc2 : nc ≤ 1000 := by rw [hnc]; exact cubes_few x
      rw [← hnc] at CX ⊢
      rw [← hgx]
      clear hoc hb2' hnc hgx HO OR HB KN BN K1
      go_wp2_with fail
      go_loopw [6, 24] (fun v i w3 => ∃ (j : Nat) (P : List (CubeT × Int)), j ≤ nc ∧ i = .int .i64 (j : Int) ∧ Hid (P = Q ++ (pq8 x).take j) ∧ P.length ≤ b ∧ w3.ownsRow w.heap.size 39 28 v (rulesOf P).length (gcells ruleV (rulesOf P)) ∧ w3.ownsRow w.heap.size 35 12 (.slice (some ⟨g, off, none⟩) nR cR) nR (gcells entV R) ∧ w3.ownsRow w.heap.size 37 26 (.slice oc nc cc) nc (ccells (cubesT x)) ∧ w3.heap[gx]? = some (.cells (entV x) 35 (0, 0)) ∧ Below w.heap.size w w3) (fun _ i _ => nc - (intOf i).toNat)
      case atStart => exact ⟨0, Q, Nat.zero_le _, rfl, by show _ = _; simp, hQb, OX.out, RX.out, CX.out, KX.out, BX.out⟩
      case round =>
        clear OX RX CX KX BX
        obtain ⟨j, P, hj, rfl, HPE, hPb, ho, hr, hcx, hkx, hbx⟩ := hrel
        have OX : Hid (wr.ownsRow w.heap.size 39 28 u6 (rulesOf P).length (gcells ruleV (rulesOf P))) := ho
        have RX : Hid (wr.ownsRow w.heap.size 35 12 (.slice (some ⟨g, off, none⟩) nR cR) nR (gcells entV R)) := hr
        have CX : Hid (wr.ownsRow w.heap.size 37 26 (.slice oc nc cc) nc (ccells (cubesT x))) := hcx
        have KX : Hid (wr.heap[gx]? = some (.cells (entV x) 35 (0, 0))) := hkx
        have BX : Hid (Below w.heap.size w wr) := hbx
        obtain ⟨oP, cP, rfl⟩ := gown_slice ho
        clear ho hr hcx hkx hbx
        by_cases hjt : j < nc
        · have hjt' : (j : Int) < (nc : Int) := by omega
          have hsl : Sl wr (.slice oc nc cc) (cubesT x) := by
            have := CX.out
            rw [HNC.out] at this ⊢
            exact sl_of this (cubes_byts x)
          obtain ⟨g2, off2, cur2, ty2, fr2, U, N, rfl, hg2, hc2', hcj, hU, hN⟩ := hsl.at j hjt
          have hUl := hU.1
          have hNl := hN.1
          have HUN : Hid (Byt U ∧ Byt N) := ⟨hU, hN⟩
          have K2 : Hid (wr.heap[g2]? = some (.cells cur2 ty2 fr2)) := hg2
          have H2 : Hid (∀ q, q < 26 → cur2[off2 + j * 26 + q]? = (cv U N)[q]?) := hc2'
          have HCJ : Hid ((pq8 x)[j]? = some ((U, N), x.action)) := pq_at hcj
          have KC : Hid ((wr.alloc (.cells (cv U N) 37)).heap[wr.heap.size]? = some (.cells (cv U N) 37 (0, 0))) := heap_new _ _ _ rfl
          have KE : Hid ((wr.alloc (.cells (cv U N) 37)).heap[gx]? = some (.cells (entV x) 35 (0, 0))) := heap_past _ _ _ _ KX.out
          have ce : (wr.alloc (.cells (cv U N) 37)).cell? ⟨gx, 11, none⟩ = some (.int .i64 x.action) := by rw [cell_of_row _ _ _ _ _ _ KE.out]; rfl
          have PL : Hid ((rulesOf P).length = P.length) := rulesOf_len P
          obtain ⟨nP, hnP⟩ : ∃ n, n = (rulesOf P).length := ⟨_, rfl⟩
          have HNP : Hid (nP = (rulesOf P).length) := hnP
          have hnPb : nP ≤ b := by rw [hnP, PL.out]; exact hPb
          rw [← hnP]
          clear hg2 hc2' hcj hU hN hsl hnP
          by_cases hfull : nP = b
          · have hfull' : ((nP : Int) == (b : Int)) = true := by simp [hfull]
            have HERR : Hid (bnd4 m < (pairsT R).length) := by
              have h1 := pairs_part HX.out (j + 1)
              rw [take_snoc HCJ.out, ← List.append_assoc, ← HQ.out, ← HPE.out, List.length_append] at h1
              have h2 := HNP.out
              have h3 := PL.out
              have h4 := HBE.out
              simp only [List.length_cons, List.length_nil] at h1
              show _ < _
              omega
            clear hfull
            go_wp2_with (first
              | (refine wl_loadCat rfl _ rfl g2 (off2 + j * 26) rfl cur2 ty2 fr2 U N hUl hNl K2.out H2.out ?_)
              | (refine wl_storeC rfl _ _ rfl wr.heap.size U N rfl rfl _ (heap_new _ _ _ rfl) rfl hUl hNl _ (setRow_new _ _ _ _ _ rfl) ?_))
            go_ret2
            exact ⟨⟨R, HR.out, .inr ⟨rfl, HERR.out⟩⟩, BX.out.alloc BX.out.size _⟩
          · have hfull' : ((nP : Int) == (b : Int)) = false := by simp; omega
            have HPN : Hid (P ++ [((U, N), x.action)] = Q ++ (pq8 x).take (j + 1)) := by
              show _ = _
              rw [take_snoc HCJ.out, ← List.append_assoc, ← HPE.out]
            have HRN : Hid (rulesOf (P ++ [((U, N), x.action)]) = rulesOf P ++ [⟨(nP : Int), (U, N), x.action⟩]) := by
              show _ = _
              rw [rulesOf_snoc, HNP.out, PL.out]
            have HRK : Hid (okR8 ⟨(nP : Int), (U, N), x.action⟩) := HUN.out
            have hsz := ruleV_size HRK.out
            have BB : Hid (Below wr.heap.size wr ((wr.alloc (.cells (cv U N) 37)).alloc (.cells (ruleV ⟨(nP : Int), (U, N), x.action⟩) 39))) := ((Below.refl _ _).alloc (Nat.le_refl _) _).alloc (by simp) _
            have OB : Hid (((wr.alloc (.cells (cv U N) 37)).alloc (.cells (ruleV ⟨(nP : Int), (U, N), x.action⟩) 39)).ownsRow w.heap.size 39 28 (.slice oP nP cP) (rulesOf P).length (gcells ruleV (rulesOf P))) := by
              have := gown_below OX.out BB.out
              rw [← HNP.out] at this ⊢; exact this
            clear hfull
            go_wp2_with (first
              | (refine wl_loadCat rfl _ rfl g2 (off2 + j * 26) rfl cur2 ty2 fr2 U N hUl hNl K2.out H2.out ?_)
              | (refine wl_storeC rfl _ _ rfl wr.heap.size U N rfl rfl _ (heap_new _ _ _ rfl) rfl hUl hNl _ (setRow_new _ _ _ _ _ rfl) ?_)
              | (refine wl_loadC rfl _ rfl wr.heap.size rfl U N KC.out hUl hNl ?_)
              | (refine wl_buildR rfl _ _ _ rfl (nP : Int) U N x.action hUl hNl rfl rfl rfl ?_)
              | (refine wl_buildE (E := RuleE) RuleOk rfl _ rfl (ruleV ⟨(nP : Int), (U, N), x.action⟩) hsz rfl ?_)
              | (at_builtin; refine of_stopT ?_))
            unfold StopT
            refine wl_appendE (E := RuleE) RuleOk ruleV rfl _ _ rfl w.heap.size (.slice oP nP cP) (rulesOf P) ⟨(nP : Int), (U, N), x.action⟩ (rule_fits HRK.out) rfl OB.out (wr.heap.size + 1) 1 rfl (heap_new _ _ _ (by simp)) (by have := HNP.out; omega) (by have := BX.out.size; simp; omega) ?_
            intro v' w3 hown3 hgr3 _
            have B3 : Hid (Below w.heap.size w w3) := (BX.out.trans (BB.out.mono BX.out.size)).trans ((Below.refl _ _).grown hgr3 (BX.out.trans (BB.out.mono BX.out.size)).size fun k hk => (OB.out.lt k hk).1)
            have O3 : Hid (w3.ownsRow w.heap.size 39 28 v' (rulesOf (P ++ [((U, N), x.action)])).length (gcells ruleV (rulesOf (P ++ [((U, N), x.action)])))) := by rw [HRN.out]; exact hown3
            have R3 : Hid (w3.ownsRow w.heap.size 35 12 (.slice (some ⟨g, off, none⟩) nR cR) nR (gcells entV R)) := own_by8 OB.out hgr3 (gown_below RX.out BB.out) (by decide)
            have C3 : Hid (w3.ownsRow w.heap.size 37 26 (.slice (some ⟨g2, off2, none⟩) nc cc) nc (ccells (cubesT x))) := own_by8 OB.out hgr3 (gown_below CX.out BB.out) (by decide)
            have K3 : Hid (w3.heap[gx]? = some (.cells (entV x) 35 (0, 0))) := blk_by OB.out hgr3 ((BB.out.block _ (Array.getElem?_eq_some_iff.1 KX.out).1).trans KX.out) (by decide)
            clear hown3 hgr3
            simp only [Act.put, List.setIfInBounds_toArray, List.set_cons_succ, List.set_cons_zero]
            go_wp2_with fail
            go_roundw
            case rel => exact ⟨j + 1, P ++ [((U, N), x.action)], by omega, by go_num, HPN.out, by have h1 := HNP.out; have h2 := PL.out; simp at hfull' ⊢; omega, O3.out, R3.out, C3.out, K3.out, B3.out⟩
            case measure => simp [intOf]; omega
        · have hjt' : ¬ (j : Int) < (nc : Int) := by omega
          have HE : Hid (P = pairsT (R.take (k + 1))) := by
            have h1 := HNC.out
            show _ = _
            rw [pairs_take HX.out, ← HQ.out, HPE.out, List.take_of_length_le (by unfold pq8; rw [List.length_map]; omega)]
          go_wp2_with fail
          go_roundw
          case rel =>
            have := HLT.out
            exact ⟨k + 1, P, by omega, by go_num, HE.out, hPb, OX.out, RX.out, BX.out⟩
          case measure =>
            have := HLT.out
            simp [intOf]; omega
    · have hlt' : ¬ (k : Int) < (nR : Int) := by omega
      have HE : Hid (Q = pairsT R) := by
        have e := HNR.out
        show _ = _
        rw [HQ.out, List.take_of_length_le (by omega)]
      go_wp2_with fail
      go_ret2
      refine ⟨⟨R, HR.out, .inl ⟨_, rfl, ?_, ?_⟩⟩, HB.out⟩
      · rw [← HE.out, ← HBE.out]; exact hQb
      · rw [← HE.out]; exact HO.out
end Go.Proofs.YtnbklmmampdbfaaGreatDoor
namespace Go.Proofs.YtnbklmmampdbfaaGreatDoor
open Go Go.RowKit
set_option maxRecDepth 20000

/-- Each rule with its place. -/
def renum (T : List RuleM) : List RuleM := T.zipIdx.map fun q => ⟨(q.2 : Int), q.1.cube, q.1.action⟩
def renumTo (T : List RuleM) (k : Nat) : List RuleM := renum (T.take k) ++ T.drop k
theorem renum_len (T : List RuleM) : (renum T).length = T.length := by simp [renum]
theorem renumTo_all (T : List RuleM) : renumTo T T.length = renum T := by simp [renumTo]
theorem renumTo_len (T : List RuleM) (k : Nat) : (renumTo T k).length = T.length := by
  unfold renumTo
  rw [List.length_append, renum_len, List.length_take, List.length_drop]
  omega
theorem renum_snoc (T : List RuleM) (r : RuleM) : renum (T ++ [r]) = renum T ++ [⟨(T.length : Int), r.cube, r.action⟩] := by
  unfold renum
  rw [List.zipIdx_append, List.map_append]
  simp
theorem renumTo_next {T : List RuleM} {k : Nat} {r : RuleM} (h : T[k]? = some r) : renumTo T (k + 1) = (renumTo T k).set k ⟨(k : Int), r.cube, r.action⟩ := by
  obtain ⟨hk, rfl⟩ := List.getElem?_eq_some_iff.1 h
  unfold renumTo
  rw [List.take_succ_eq_append_getElem hk, renum_snoc, List.length_take, show min k T.length = k by omega, List.set_append_right _ _ (by rw [renum_len, List.length_take]; omega), renum_len, List.length_take, show k - min k T.length = 0 by omega]
  rw [show T.drop k = T[k] :: T.drop (k + 1) from List.drop_eq_getElem_cons hk, List.set_cons_zero]
  simp
theorem renumTo_at {T : List RuleM} {k : Nat} {r : RuleM} (h : T[k]? = some r) : (renumTo T k)[k]? = some r := by
  obtain ⟨hk, rfl⟩ := List.getElem?_eq_some_iff.1 h
  unfold renumTo
  rw [List.getElem?_append_right (by rw [renum_len, List.length_take]; omega), renum_len, List.length_take, show k - min k T.length = 0 by omega, List.getElem?_drop]
  exact h
theorem ok_renum {T : List RuleM} (h : ∀ r ∈ T, okR8 r) : ∀ r ∈ renum T, okR8 r := fun r hr => by
  unfold renum at hr
  obtain ⟨q, hq, rfl⟩ := List.mem_map.1 hr
  have := List.mem_zipIdx hq
  exact h q.1 (by rw [this.2.2]; exact List.getElem_mem _)
theorem ok_renumTo {T : List RuleM} (h : ∀ r ∈ T, okR8 r) (k : Nat) : ∀ r ∈ renumTo T k, okR8 r := fun r hr => by
  unfold renumTo at hr
  rcases List.mem_append.1 hr with hr | hr
  · exact ok_renum (fun q hq => h q (List.mem_of_mem_take hq)) r hr
  · exact h r (List.mem_of_mem_drop hr)
theorem ok_trim {l : List RuleM} (h : ∀ r ∈ l, okR8 r) : ∀ r ∈ trimT l, okR8 r := fun r hr => by
  rcases trimO_sub withinR l [] r hr with h1 | h1
  · simp at h1
  · exact h r h1
/-- What a list's rows are compiled to, and the error. -/
def compT (R : List Ent) : List RuleM × Int := if 2048 < (pairsT R).length then ([], 16) else if 512 < (trimT (rulesOf (pairsT R))).length then ([], 16) else (renum (trimT (rulesOf (pairsT R))), 0)

theorem gcells_set {α : Type} {enc : α → Array Value} {s : Nat} {C : List α} (hC : ∀ c ∈ C, (enc c).size = s) {k : Nat} {c' : α} (hc' : (enc c').size = s) (t : Nat) (ht : t < C.length * s) :
    (gcells enc (C.set k c'))[t]? = if t / s = k then (enc c')[t % s]? else (gcells enc C)[t]? := by
  have s0 : 0 < s := by
    rcases Nat.eq_zero_or_pos s with h | h
    · subst h; simp at ht
    · exact h
  have hi : t / s < C.length := (Nat.div_lt_iff_lt_mul s0).2 ht
  have hj : t % s < s := Nat.mod_lt _ s0
  have h1 := gcells_at enc s (C.set k c') (fun c hc => by
    rcases List.mem_or_eq_of_mem_set hc with h | rfl
    · exact hC c h
    · exact hc') (t / s) (by rw [List.length_set]; exact hi) (t % s) hj
  rw [Nat.div_add_mod] at h1
  rw [h1, List.getElem_set]
  by_cases h : t / s = k
  · rw [if_pos h, if_pos h.symm]
  · rw [if_neg h, if_neg (fun e => h e.symm)]
    have h2 := gcells_at enc s C hC (t / s) hi (t % s) hj
    rw [Nat.div_add_mod] at h2
    exact h2.symm
/-- A field of an element of one's own row is set. -/
theorem own_setField {α : Type} {enc : α → Array Value} {w : World} {B : Nat} {e : TypeId} {s : Nat} {g n cap : Nat} {C : List α} (h : w.ownsRow B e s (.slice (some ⟨g, 0, none⟩) n cap) C.length (gcells enc C)) (hC : ∀ c ∈ C, (enc c).size = s) {k : Nat} {c' : α} (hk : k < C.length) (hc' : (enc c').size = s) (v : Value)
    (h0 : (enc c')[0]? = some v) (hq : ∀ q, 0 < q → q < s → (enc c')[q]? = (enc C[k])[q]?) : (w.setCell ⟨g, k * s, none⟩ v).ownsRow B e s (.slice (some ⟨g, 0, none⟩) n cap) (C.set k c').length (gcells enc (C.set k c')) := by
  obtain ⟨h1, ⟨h2, _⟩ | ⟨g', cap', cur, h2, hB, hcur, h5, h6, h7, h4⟩⟩ := h
  · cases h2
  · simp only [Value.slice.injEq, Option.some.injEq, Addr.mk.injEq] at h2
    obtain ⟨⟨rfl, _⟩, hnn, rfl⟩ := h2
    have s0 : 0 < s := by
      have := hC C[k] (List.getElem_mem _)
      rcases Nat.eq_zero_or_pos s with h | h
      · subst h
        have h8 := (Array.getElem?_eq_some_iff.1 h0).1
        omega
      · exact h
    have hks : k * s < C.length * s := Nat.mul_lt_mul_of_pos_right hk s0
    refine ⟨?_, .inr ⟨g, cap, cur.setIfInBounds (k * s) v, by rw [List.length_set, hnn], hB, ?_, by rw [List.length_set]; exact h5, h6, by rw [Array.size_setIfInBounds]; exact h7, ?_⟩⟩
    · have : ∀ D : List α, (∀ c ∈ D, (enc c).size = s) → (gcells enc D).length = D.length * s := by
        intro D
        induction D with
        | nil => intro _; simp [gcells]
        | cons c D ih => intro hD; rw [gcells_cons, List.length_append, ih (fun d hd => hD d (by simp [hd])), Array.length_toList, hD c (by simp), List.length_cons, Nat.add_mul, Nat.one_mul, Nat.add_comm]
      exact this _ fun c hc => by
        rcases List.mem_or_eq_of_mem_set hc with h | rfl
        · exact hC c h
        · exact hc'
    · simp [World.setCell, Array.getElem?_modify, hcur]
    · apply List.ext_getElem?
      intro t
      rw [List.length_set]
      by_cases ht : t < C.length * s
      · rw [List.getElem?_take_of_lt ht, gcells_set hC hc' t ht, ← h4, List.getElem?_take_of_lt ht, Array.getElem?_toList, Array.getElem?_toList, Array.getElem?_setIfInBounds]
        by_cases e : k * s = t
        · subst e
          rw [if_pos rfl, if_pos (Nat.mul_div_cancel k s0), Nat.mul_mod_left, h0, if_pos]
          have hcap : C.length * s ≤ cap * s := Nat.mul_le_mul_right s h5
          omega
        · rw [if_neg e]
          by_cases e2 : t / s = k
          · rw [if_pos e2]
            have hm := Nat.div_add_mod t s
            rw [e2] at hm
            have hj : t % s < s := Nat.mod_lt _ s0
            rw [hq (t % s) (by rw [Nat.mul_comm] at hm; omega) hj]
            have h8 := gcells_at enc s C hC k hk (t % s) hj
            rw [hm, ← h4, List.getElem?_take_of_lt ht, Array.getElem?_toList] at h8
            exact h8
          · rw [if_neg e2]
      · rw [List.getElem?_take_eq_none (by omega), List.getElem?_eq_none]
        have hl : (gcells enc (C.set k c')).length = C.length * s := by
          have : ∀ D : List α, (∀ c ∈ D, (enc c).size = s) → (gcells enc D).length = D.length * s := by
            intro D
            induction D with
            | nil => intro _; simp [gcells]
            | cons c D ih => intro hD; rw [gcells_cons, List.length_append, ih (fun d hd => hD d (by simp [hd])), Array.length_toList, hD c (by simp), List.length_cons, Nat.add_mul, Nat.one_mul, Nat.add_comm]
          rw [this _ fun c hc => by
            rcases List.mem_or_eq_of_mem_set hc with h | rfl
            · exact hC c h
            · exact hc', List.length_set]
        omega
theorem rule_set {r : RuleM} (h : okR8 r) (v : Int) : (ruleV ⟨v, r.cube, r.action⟩)[0]? = some (.int .i64 v) ∧ ∀ q, 0 < q → q < 28 → (ruleV ⟨v, r.cube, r.action⟩)[q]? = (ruleV r)[q]? := by
  have h' : okR8 ⟨v, r.cube, r.action⟩ := h
  refine ⟨(rule_at h').1, fun q h0 h1 => ?_⟩
  by_cases e : q = 27
  · subst e
    rw [(rule_at h').2.2, (rule_at h).2.2]
  · obtain ⟨j, rfl⟩ : ∃ j, q = 1 + j := ⟨q - 1, by omega⟩
    rw [(rule_at h').2.1 j (by omega), (rule_at h).2.1 j (by omega)]

/-- What Compile answers. -/
def CompR (B : Nat) (w : World) (R : List Ent) (e : Ending) : Prop :=
  ∃ u, e = .returned (.tuple #[u, .int .i64 (compT R).2]) ∧ w.ownsRow B 39 28 u (compT R).1.length (gcells ruleV (compT R).1)
theorem comp_ok (R : List Ent) : ∀ r ∈ (compT R).1, okR8 r := fun r hr => by
  unfold compT at hr
  split at hr
  · simp at hr
  · split at hr
    · simp at hr
    · exact ok_renum (ok_trim (okQ_rules (okQ_pairs R))) r hr

set_option maxHeartbeats 16000000 in
set_option maxRecDepth 100000 in
theorem compile_any (l : List Ent) (h32 : ∀ x ∈ l, ent32 x) (hn : l.length ≤ 100000) (vl : Value) (w : World) (hl : EntsAt w vl l) (hP : Places w) :
    Calls Tryz.prog 9 #[vl] w fun e w' => (∃ R, RowsOf l R ∧ CompR w.heap.size w' R e) ∧ Below w.heap.size w w' := by
  have EX : Hid (Calls Tryz.prog 6 #[vl, .int .i64 2048] w fun e w' => (∃ R, RowsOf l R ∧ ExpR w.heap.size w' R 2048 e) ∧ Below w.heap.size w w') := expand_any l h32 hn 2048 vl w hl hP
  have TR : Hid (∀ (L : List RuleM) v W, (∀ r ∈ L, okR8 r) → L.length ≤ 100000 → RulesAt W v L → Calls Tryz.prog 20 #[v] W fun e w' => (∃ v, e = .returned v ∧ w'.ownsRow W.heap.size 39 28 v (trimT L).length (gcells ruleV (trimT L))) ∧ Below W.heap.size W w') := fun L v W h1 h2 h3 => trim_any L h1 h2 v W h3
  clear h32 hl hP
  go_enter Tryz.func9, Tryz.ntmps9
  go_wp2_with fail
  refine EX.out.mono ?_
  rintro e w1 ⟨⟨R, hR, hE⟩, hb1⟩
  have HR : Hid (RowsOf l R) := hR
  have B1 : Hid (Below w.heap.size w w1) := hb1
  clear EX hR hb1
  rw [show ExpR w.heap.size w1 R 2048 e = ((∃ u, e = .returned (.tuple #[u, .int .i64 0]) ∧ (pairsT R).length ≤ 2048 ∧ w1.ownsRow w.heap.size 39 28 u (rulesOf (pairsT R)).length (gcells ruleV (rulesOf (pairsT R)))) ∨ (e = .returned (.tuple #[.slice none 0 0, .int .i64 4]) ∧ 2048 < (pairsT R).length)) from rfl] at hE
  rcases hE with ⟨u, rfl, hle, hown⟩ | ⟨rfl, hmany⟩
  · have HLE : Hid ((pairsT R).length ≤ 2048) := hle
    have HK : Hid (∀ r ∈ rulesOf (pairsT R), okR8 r) := okQ_rules (okQ_pairs R)
    have RA : Hid (RulesAt w1 u (rulesOf (pairsT R))) := gsl_of (E := RuleE) hown fun c hc => ruleV_size (HK.out c hc)
    have HL2 : Hid ((rulesOf (pairsT R)).length ≤ 100000) := by show _ ≤ _; rw [rulesOf_len]; omega
    obtain ⟨o1, c1, rfl⟩ := gown_slice hown
    clear hle hown
    go_wp2_with fail
    refine (TR.out _ _ _ HK.out HL2.out RA.out).mono ?_
    rintro e w2 ⟨⟨v, rfl, ho2⟩, hb2⟩
    have B2 : Hid (Below w.heap.size w w2) := B1.out.trans (hb2.mono B1.out.size)
    obtain ⟨T, hT⟩ : ∃ T, T = trimT (rulesOf (pairsT R)) := ⟨_, rfl⟩
    rw [← hT] at ho2
    have HT : Hid (T = trimT (rulesOf (pairsT R))) := hT
    have HTK : Hid (∀ r ∈ T, okR8 r) := by rw [hT]; exact ok_trim HK.out
    have O2 : Hid (w2.ownsRow w.heap.size 39 28 v T.length (gcells ruleV T)) := gown_base ho2 B1.out.size
    have HTL : Hid (T.length ≤ 2048) := by
      show _ ≤ _
      have h1 := trimO_len withinR (rulesOf (pairsT R)) []
      have h2 := HLE.out
      rw [rulesOf_len, List.length_nil] at h1
      rw [hT]
      unfold trimT
      omega
    obtain ⟨o2, c2, rfl⟩ := gown_slice ho2
    obtain ⟨nT, hnT⟩ : ∃ n, n = T.length := ⟨_, rfl⟩
    have HNT : Hid (nT = T.length) := hnT
    have hnT2 : nT ≤ 2048 := by rw [hnT]; exact HTL.out
    rw [← hnT] at O2 ⊢
    clear ho2 hb2 hT hnT
    by_cases hbig : 512 < nT
    · have hbig' : (512 : Int) < (nT : Int) := by omega
      have HC : Hid (compT R = ([], 16)) := by
        show _ = _
        unfold compT
        rw [if_neg (by have := HLE.out; omega), if_pos (by rw [← HT.out, ← HNT.out]; exact hbig)]
      go_wp2_with fail
      go_ret2
      refine ⟨⟨R, HR.out, _, by rw [HC.out]; rfl, ?_⟩, B2.out⟩
      rw [HC.out]
      exact World.ownsRow_nil _ _ _ _
    · have hbig' : ¬ (512 : Int) < (nT : Int) := by omega
      have HC : Hid (compT R = (renum T, 0)) := by
        show _ = _
        unfold compT
        rw [if_neg (by have := HLE.out; omega), if_neg (by rw [← HT.out, ← HNT.out]; exact hbig), ← HT.out]
      have O3 : Hid (w2.ownsRow w.heap.size 39 28 (.slice o2 nT c2) (renumTo T 0).length (gcells ruleV (renumTo T 0))) := by
        have := O2.out
        rw [HNT.out] at this ⊢
        have e0 : renumTo T 0 = T := by simp [renumTo, renum]
        rw [e0]
        exact this
      clear O2 hbig
      go_wp2_with fail
      go_loopw [7, 22] (fun v i wr => ∃ (k : Nat) (z : Value), k ≤ nT ∧ i = .int .i64 (k : Int) ∧ v = z ∧ wr.ownsRow w.heap.size 39 28 (.slice o2 nT c2) (renumTo T k).length (gcells ruleV (renumTo T k)) ∧ Below w.heap.size w wr) (fun _ i _ => nT - (intOf i).toNat)
      case atStart => exact ⟨0, _, Nat.zero_le _, rfl, rfl, O3.out, B2.out⟩
      case round =>
        clear O3 B2
        obtain ⟨k, z, hk, rfl, rfl, ho, hb⟩ := hrel
        have HO : Hid (wr.ownsRow w.heap.size 39 28 (.slice o2 nT c2) (renumTo T k).length (gcells ruleV (renumTo T k))) := ho
        have HB : Hid (Below w.heap.size w wr) := hb
        clear ho hb
        by_cases hlt : k < nT
        · have hlt' : (k : Int) < (nT : Int) := by omega
          obtain ⟨r, hr⟩ : ∃ r, T[k]? = some r := ⟨_, List.getElem?_eq_getElem (by rw [← HNT.out]; exact hlt)⟩
          have hrok : okR8 r := HTK.out r (List.mem_of_getElem? hr)
          have hk2 : k < (renumTo T k).length := by rw [renumTo_len, ← HNT.out]; exact hlt
          have hrk : (renumTo T k)[k] = r := by
            have := renumTo_at hr
            rw [List.getElem?_eq_getElem hk2] at this
            exact Option.some.inj this
          have hall : ∀ c ∈ renumTo T k, (ruleV c).size = 28 := fun c hc => ruleV_size (ok_renumTo HTK.out k c hc)
          obtain ⟨_, ⟨h2, _⟩ | ⟨g, cap', cur, h2, hB, hcur, h5, h6, h7, h4⟩⟩ := id HO.out
          · simp only [Value.slice.injEq] at h2
            omega
          · simp only [Value.slice.injEq] at h2
            obtain ⟨rfl, _, rfl⟩ := h2
            have hcell : wr.cell? ⟨g, k * 28, none⟩ = some (.int .i64 r.order) := by
              rw [cell_of_row _ _ _ _ _ _ hcur]
              have h8 := gcells_at ruleV 28 (renumTo T k) hall k hk2 0 (by decide)
              rw [← h4, List.getElem?_take_of_lt (by have := Nat.mul_lt_mul_of_pos_right hk2 (show 0 < 28 by decide); omega), Array.getElem?_toList, hrk, (rule_at hrok).1, Nat.add_zero, Nat.mul_comm] at h8
              exact h8
            have hfr : wr.frozen? ⟨g, k * 28, none⟩ = false := by simp [World.frozen?, hcur]
            have OS : Hid ((wr.setCell ⟨g, k * 28, none⟩ (.int .i64 (k : Int))).ownsRow w.heap.size 39 28 (.slice (some ⟨g, 0, none⟩) nT c2) (renumTo T (k + 1)).length (gcells ruleV (renumTo T (k + 1)))) := by
              rw [renumTo_next hr]
              exact own_setField HO.out hall hk2 (ruleV_size (show okR8 ⟨(k : Int), r.cube, r.action⟩ from hrok)) _ (rule_set hrok _).1 (fun q q0 q1 => by rw [hrk]; exact (rule_set hrok _).2 q q0 q1)
            have BS : Hid (Below w.heap.size w (wr.setCell ⟨g, k * 28, none⟩ (.int .i64 (k : Int)))) := HB.out.setCell (p := ⟨g, k * 28, none⟩) hB _
            clear hcur h4 hall hrk hr hrok hk2 h5 h6 h7
            go_wp2_with fail
            go_roundw
            case rel => exact ⟨k + 1, _, by omega, by go_num, rfl, OS.out, BS.out⟩
            case measure => simp [intOf]; omega
        · have hlt' : ¬ (k : Int) < (nT : Int) := by omega
          have HE : Hid (renumTo T k = renum T) := by
            have e := HNT.out
            show _ = _
            rw [show k = T.length by omega, renumTo_all]
          go_wp2_with fail
          go_ret2
          refine ⟨⟨R, HR.out, _, by rw [HC.out]; rfl, ?_⟩, HB.out⟩
          rw [HC.out, ← HE.out]
          exact HO.out
  · have HC : Hid (compT R = ([], 16)) := by
      show _ = _
      unfold compT
      rw [if_pos hmany]
    clear hmany
    go_wp2_with fail
    go_ret2
    refine ⟨⟨R, HR.out, _, by rw [HC.out]; rfl, ?_⟩, B1.out⟩
    rw [HC.out]
    exact World.ownsRow_nil _ _ _ _
end Go.Proofs.YtnbklmmampdbfaaGreatDoor
namespace Go.Proofs.YtnbklmmampdbfaaGreatDoor
open Go Go.RowKit
set_option maxRecDepth 20000

/-- The worlds that hold two blocks. -/
structure Keep (g1 : Nat) (o1 : Obj) (g2 : Nat) (o2 : Obj) where
  world : World
  k1 : world.heap[g1]? = some o1
  k2 : world.heap[g2]? = some o2

theorem qN' {C : World → Prop} {ops : Array Oper} {Q : Act → Prop} {rest : List Oper} {o : Oper} {a : Act} (hw : Region.wanted o (yielded ops a.tmps) = true) (x : Operand) (ho : o.op = .load 3 x)
    (g k : Nat) (hx : a.eval x = .pointer (some ⟨g, k, none⟩)) (cs : Array Value) (t : TypeId) (fr : Nat × Nat) (n : Int) (hg : ∀ w', C w' → w'.heap[g]? = some (.cells cs t fr)) (hc : cs[k]? = some (.int .i64 n))
    (h : wpQuiet Tryz.prog ops C Q rest (a.put o.dst (.int .i64 n))) : wpQuiet Tryz.prog ops C Q (o :: rest) a := by
  refine BigFrame.wpQuiet_want hw fun K hK => ⟨.int .i64 n, fun w hC => ?_, hK _ h⟩
  unfold Oper.quietAt execOp
  simp only [ho, hx, Instr.loadAt, Instr.sureAddr, Sem.run_bind, Sem.run_pure, Result.andThen_ok, load_num w g k cs t fr n (hg w hC) hc]
  exact ⟨rfl, rfl⟩
theorem qH' {C : World → Prop} {ops : Array Oper} {Q : Act → Prop} {rest : List Oper} {o : Oper} {a : Act} (hw : Region.wanted o (yielded ops a.tmps) = true) (x : Operand) (ho : o.op = .load 31 x)
    (g : Nat) (hx : a.eval x = .pointer (some ⟨g, 0, none⟩)) (L : List Int) (hg : ∀ w', C w' → w'.heap[g]? = some (.cells (hv L) 31 (0, 0))) (hL : L.length = 13)
    (h : wpQuiet Tryz.prog ops C Q rest (a.put o.dst (.agg (hv L)))) : wpQuiet Tryz.prog ops C Q (o :: rest) a :=
  q_load_row hw 31 x ho g hx 31 (hv L) (0, 0) _ hg Tryz.underlying31 rfl (size26 L hL) h
theorem wpOp_buildC {ops : Array Oper} {Q : Exit → Act → World → Prop} {i : Nat} {o : Oper} {K : Act → World → Prop} {a : Act} {w : World} (hi : ops[i]? = some o) (hw : Region.wanted o (yielded ops a.tmps) = true) (x : Operand) (ho : o.op = .buildSlice 49 1 #[(0, x)]) (V M : List Int) (hV : V.length = 13) (hM : M.length = 13) (hx : a.eval x = .agg (cv V M)) (d : Option Tmp) (hd : o.dst = d)
    (hK : K (a.put d (.slice (some ⟨w.heap.size, 0, none⟩) 1 1)) (w.alloc (.cells (cv V M) 37))) : wpOp Tryz.prog ops Q i K a w := by
  subst hd
  refine wpOp_wanted hi hw ?_
  obtain ⟨ie, hie, hz, hs, _⟩ := infoC
  refine wp_buildSlice 49 37 1 _ ho (cv V M) ie (.agg zeroC) Tryz.underlying49 hie hz (by rw [hs]; decide) (by rw [hs]; decide) ?_ hK
  have hsz := cv_size V M hV hM
  simp only [List.map_toArray, List.map_cons, List.map_nil, hx, Instr.fill, hs, Nat.zero_mul, Value.cells, hsz]
  rw [if_neg (by simp)]
  congr 1
  exact fold_all _ _ (by rw [hsz]; simp)
theorem wpOp_append1 {ops : Array Oper} {Q : Exit → Act → World → Prop} {i : Nat} {o : Oper} {K : Act → World → Prop} {a : Act} {w : World} (hi : ops[i]? = some o) (hw : Region.wanted o (yielded ops a.tmps) = true) (s x : Operand) (ho : o.op = .call { callee := .builtin .append, args := #[s, x], argTypes := #[49, 49] })
    (base : Nat) (v : Value) (C : List (List Int × List Int)) (V M : List Int) (hV : V.length = 13) (hM : M.length = 13) (hs : a.eval s = v) (hown : w.ownsRow base 37 26 v C.length (ccells C)) (g cap : Nat) (hx : a.eval x = .slice (some ⟨g, 0, none⟩) 1 cap) (hg : w.heap[g]? = some (.cells (cv V M) 37 (0, 0)))
    (hn : C.length ≤ 1000000) (hbase : base ≤ w.heap.size) (d : Option Tmp) (hd : o.dst = d)
    (hK : ∀ v' w', w'.ownsRow base 37 26 v' (C ++ [(V, M)]).length (ccells (C ++ [(V, M)])) → w.grownBy w' v.ownBlock → K (a.put d v') w') : wpOp Tryz.prog ops Q i K a w := by
  subst hd
  refine wpOp_wanted hi hw ?_
  obtain ⟨i0, hi0, hz0, hz1, hz2⟩ := infoC
  have hsz := cv_size V M hV hM
  obtain ⟨v', w', hr, h2, h3, _, _⟩ := run_append_own_at (P := Tryz.prog) w base 49 o.type 37 i0 (.agg zeroC) 26 26 Tryz.underlying49 hi0 hz0 hz1 hz2 rfl (by decide) v _ _ hown ⟨g, 0, none⟩ 1 cap (cv V M).toList (by simp [hsz]) (fun j y hy => by
      have hadd : (⟨g, 0, none⟩ : Addr).add j = ⟨g, j, none⟩ := by unfold Addr.add; split <;> simp_all
      rw [hadd, cell_of_row w g j _ _ _ hg, ← hy]
      simp) (fun u hu => (Array.all_eq_true_iff_forall_mem.1 (cv_one V M)) u (by simpa using hu)) (by unfold maxLen; omega) (by omega) hbase
  unfold Oper.wp execOp
  simp only [ho, resolve, invoke, builtin, Sem.run_bind, Sem.run_pure, Result.andThen_ok, List.map_toArray, List.map_cons, List.map_nil, hs, hx, hr]
  refine hK v' w' ?_ h3
  rw [List.length_append, ccells_append, ccells_one]; exact h2

set_option maxHeartbeats 4000000 in
theorem rports_ok (f l h : Int) (hf : f = 2 ∨ f = 3) (w : World) :
    Calls Tryz.prog 36 #[.int .i64 f, .int .i64 l, .int .i64 h] w fun e w' => ∃ u, e = .returned (.tuple #[u, .int .i64 (ranE l h)]) ∧ w'.ownsRow w.heap.size 37 26 u (portC f (ran l h)).length (ccells (portC f (ran l h))) ∧ Below w.heap.size w w' := by
  have hs := size_23 f hf
  have R1 : Hid (∀ W, Calls Tryz.prog 33 #[.int .i64 l, .int .i64 h] W fun e w' => ∃ u, e = .returned (.tuple #[u, .int .i64 (ranE l h)]) ∧ w'.ownsRow W.heap.size 102 2 u (ran l h).length (pcells (ran l h)) ∧ Below W.heap.size W w') := rrange_any l h
  have HM : Hid (∀ (k : Nat) (p : Nat × Nat), (ran l h)[k]? = some p → p.2 ≤ 16 ∧ p.1 ≤ 65535) := fun k p => ran_mem
  have RWA : Hid (∀ a : Nat, a ≤ 65535 → ∀ W, Calls Tryz.prog 58 #[.agg zero26, .int .i64 f, .int .u32 (a : Int)] W fun e w' => e = .returned (.tuple #[.agg (hv (fh f (a : Int))), .int .i64 0]) ∧ Below W.heap.size W w') := fun a ha W => rwith_at f a W (by omega) (by omega) (by rw [hs]; exact Nat.lt_of_le_of_lt ha (by decide))
  have FRA : Hid (∀ a b : Nat, b ≤ 16 → ∀ W, Calls Tryz.prog 59 #[.agg (hv (fh f (a : Int))), .int .i64 f, .int .i64 (b : Int)] W fun e w' => e = .returned (.agg (cv (pxV f a b) (pxM f b))) ∧ Below W.heap.size W w') := fun a b hb W => front_at f a b W (by omega) (by omega) (by omega)
  have hfew := ran_few l h
  obtain ⟨P, hPp⟩ : ∃ P, P = ran l h := ⟨_, rfl⟩
  obtain ⟨E, hE⟩ : ∃ E, E = ranE l h := ⟨_, rfl⟩
  rw [← hPp] at R1 HM hfew ⊢
  rw [← hE] at R1 ⊢
  obtain ⟨n, hn⟩ : ∃ n, n = P.length := ⟨_, rfl⟩
  have HN : Hid (n = P.length) := hn
  clear hPp hs hE
  rcases hf with rfl | rfl
  · go_enter Tryz.func36, Tryz.ntmps36
    go_wp2_with fail
    refine (R1.out _).mono ?_
    rintro e w3 ⟨u, rfl, ho3, hb3⟩
    have S3 := sp_of ho3
    obtain ⟨o, cap, rfl, _, hcap⟩ := S3.slice
    rw [← hn] at S3 hfew ⊢
    have HS3 : Hid (Sp w3 (.slice o n cap) P) := S3
    have n0 := heap_new w3 (.cells #[] 37) _ rfl
    clear S3 ho3 hn
    go_wp2_with fail
    go_loopw [10, 11] (fun out i wr => ∃ k : Nat, k ≤ n ∧ i = .int .i64 (k : Int) ∧ ∃ D, D = portC 2 (P.take k) ∧ D.length ≤ k ∧ wr.ownsRow w3.heap.size 37 26 out D.length (ccells D) ∧ Below w3.heap.size w3 wr) (fun _ i _ => n - (intOf i).toNat)
    case atStart => exact ⟨0, Nat.zero_le _, rfl, [], rfl, Nat.le_refl _, ⟨rfl, Or.inr ⟨w3.heap.size, 0, #[], rfl, Nat.le_refl _, n0, Nat.le_refl _, by decide, rfl, rfl⟩⟩, (Below.refl _ _).alloc (Nat.le_refl _) _⟩
    case round =>
      clear n0
      obtain ⟨k, hk, rfl, D, hD, hDl, hown, hb⟩ := hrel
      have HD : Hid (D = portC 2 (P.take k)) := hD
      have OWN : Hid (wr.ownsRow w3.heap.size 37 26 u10 D.length (ccells D)) := hown
      have B1 := hb3.trans (hb.mono hb3.size)
      have hz := hb.size
      clear hD hown
      by_cases hlt : k < n
      · obtain ⟨g, off, cur, t, fr, p, rfl, hg, hc, hpk⟩ := HS3.out.at k hlt
        have hp2 := HM.out k p hpk
        have hg3 := (Array.getElem?_eq_some_iff.1 hg).1
        have k1 : wr.heap[g]? = some (.cells cur t fr) := (hb.block g hg3).trans hg
        have HT : Hid (portC 2 (P.take (k + 1)) = portC 2 (P.take k) ++ [(pxV 2 p.1 p.2, pxM 2 p.2)]) := portC_take hpk
        obtain ⟨a, b⟩ := p
        simp only at hp2 hc HT
        have hc0 : cur[off + k * 2]? = some (.int .i64 (a : Int)) := hc 0 (by decide)
        have hc1 : cur[off + k * 2 + 1]? = some (.int .i64 (b : Int)) := hc 1 (by decide)
        have HC1 : Hid (cur[off + k * 2 + 1]? = some (.int .i64 (b : Int))) := hc1
        have x0 : wr.cell? ⟨g, off + k * 2, none⟩ = some (.int .i64 (a : Int)) := by rw [cell_of_row _ _ _ _ _ _ k1]; exact hc0
        have RW : Hid (∀ W, Calls Tryz.prog 58 #[.agg zero26, .int .i64 2, .int .u32 (a : Int)] W fun e w' => e = .returned (.tuple #[.agg (hv (fh 2 (a : Int))), .int .i64 0]) ∧ Below W.heap.size W w') := RWA.out a hp2.2
        have FR : Hid (∀ W, Calls Tryz.prog 59 #[.agg (hv (fh 2 (a : Int))), .int .i64 2, .int .i64 (b : Int)] W fun e w' => e = .returned (.agg (cv (pxV 2 a b) (pxM 2 b))) ∧ Below W.heap.size W w') := FRA.out a b hp2.1
        have hLl := (fh_byt 2 (a : Int) (by omega) (by omega)).1
        have hVl := (pxV_byt 2 a b).1
        have hMl := (pxM_byt 2 b).1
        obtain ⟨L, hL⟩ : ∃ L, L = fh 2 (a : Int) := ⟨_, rfl⟩
        obtain ⟨V, hV⟩ : ∃ V, V = pxV 2 a b := ⟨_, rfl⟩
        obtain ⟨M, hM⟩ : ∃ M, M = pxM 2 b := ⟨_, rfl⟩
        rw [← hL] at RW FR hLl
        rw [← hV] at FR HT hVl
        rw [← hM] at FR HT hMl
        obtain ⟨ha1, ha2⟩ := hp2
        clear hg hc hpk hV hM hL hc0 hc1
        go_wp2_with fail
        refine (RW.out _).mono ?_
        rintro e w5 ⟨rfl, hb5⟩
        have hb6 := hb.trans (hb5.mono hb.size)
        have k5 : w5.heap[g]? = some (.cells cur t fr) := (hb5.block g (Array.getElem?_eq_some_iff.1 k1).1).trans k1
        have k6 := heap_past w5 (.cells (hv L) 31) _ _ k5
        have l6 := heap_new w5 (.cells (hv L) 31) _ rfl
        have hb7 := hb6.alloc hb6.size (.cells (hv L) 31)
        have OWN5 : Hid ((w5.alloc (.cells (hv L) 31)).ownsRow w3.heap.size 37 26 u10 D.length (ccells D)) := (own_below OWN.out hb5).alloc _
        have HNB : Hid (∀ q, u10.ownBlock = some q → w3.heap.size ≤ q ∧ q < wr.heap.size) := fun q hq => OWN.out.lt q hq
        have hz5 : wr.heap.size ≤ w5.heap.size := hb5.size
        go_wp2_with (first
          | (refine wl_store26 rfl _ _ rfl w5.heap.size L rfl rfl _ (heap_new _ _ _ rfl) rfl hLl _ (setRow_new _ _ _ _ _ rfl) ?_))
        have hzq : w5.heap.size < (w5.alloc (.cells (hv L) 31)).heap.size := by simp
        obtain ⟨wq, hwq⟩ : ∃ wq, wq = w5.alloc (.cells (hv L) 31) := ⟨_, rfl⟩
        rw [← hwq] at k6 l6 hb7 OWN5 hzq ⊢
        have hz7 := hb7.size
        clear hwq hb5 hb6 k5 k1 x0 RW OWN hb
        refine region_cut (fun a a' w' => ∃ v' y45 y46 y47 y48 y49 y50 y51 y52 y53 y54 y55, a' = ((((((((((((a.put (some 10) v').put (some 45) y45).put (some 46) y46).put (some 47) y47).put (some 48) y48).put (some 49) y49).put (some 50) y50).put (some 51) y51).put (some 52) y52).put (some 53) y53).put (some 54) y54).put (some 55) y55) ∧ w'.ownsRow w3.heap.size 37 26 v' (D ++ [(V, M)]).length (ccells (D ++ [(V, M)])) ∧ Below w3.heap.size w3 w') ?_ ?_
        · have ne1 : Nonempty (Keep w5.heap.size (.cells (hv L) 31) g (.cells cur t fr)) := ⟨⟨wq, l6, k6⟩⟩
          refine region_beginS (fun w' => ∃ z : Keep w5.heap.size (.cells (hv L) 31) g (.cells cur t fr), w' = z.world) 12 rfl (by kernel_rfl) ?_
          refine region_reads 0 8 4 rfl (by kernel_rfl) (by kernel_rfl) (by kernel_rfl) (by intro d v c a w h; exact absurd h.1 (by simp)) ⟨⟨wq.drew, l6, k6⟩, rfl⟩ ?_
          simp only [List.drop_zero, List.take_succ_cons, List.take_zero]
          go_big_quiet_step (fail)
          refine qH' rfl _ rfl w5.heap.size rfl L (by rintro w' ⟨z, rfl⟩; exact z.k1) hLl ?_
          simp only [Act.put, List.setIfInBounds_toArray, List.set_cons_succ, List.set_cons_zero]
          go_big_quiet_step (fail)
          go_big_quiet_step (fail)
          go_big_quiet_step (fail)
          go_big_quiet_step (fail)
          go_big_quiet_step (fail)
          refine qN' rfl _ rfl g (off + k * 2 + 1) rfl cur t fr (b : Int) (by rintro w' ⟨z, rfl⟩; exact z.k2) HC1.out ?_
          simp only [Act.put, List.setIfInBounds_toArray, List.set_cons_succ, List.set_cons_zero]
          refine wpQuiet_nil ?_
          refine wpAnyH_all (rs := [8]) (by kernel_rfl) (by decide) ?_
          intro i hi
          obtain rfl := List.mem_singleton.1 hi
          refine wpOp_call rfl rfl 59 #[.tmp 46, .tmp 47, .tmp 52] (by intro b w; have hf := Tryz.func59; simp [go_sem]) #[.agg (hv L), .int .i64 2, .int .i64 (b : Int)] rfl (fun v w' => v = .agg (cv V M) ∧ Below wq.drew.heap.size wq.drew w') ((FR.out _).mono fun e w' h => ⟨_, h.1, rfl, h.2⟩) (some 53) rfl ?_
          rintro v w6 ⟨rfl, hb6⟩
          have hW6 : Below wq.heap.size wq w6 := (Below.refl _ _).drew.trans hb6
          have l7 : w6.heap[w5.heap.size]? = some (.cells (hv L) 31 (0, 0)) := (hW6.block _ (by omega)).trans l6
          have k7 : w6.heap[g]? = some (.cells cur t fr) := (hW6.block _ (by omega)).trans k6
          have hb8 := hb7.trans (hW6.mono hb7.size)
          have hz6 := hW6.size
          refine ⟨⟨⟨w6, l7, k7⟩, rfl⟩, ?_⟩
          simp only [Act.put, List.setIfInBounds_toArray, List.set_cons_succ, List.set_cons_zero]
          refine wpAnyH_all (rs := [9]) (by kernel_rfl) (by decide) ?_
          intro i hi
          obtain rfl := List.mem_singleton.1 hi
          refine wpOp_buildC rfl rfl _ rfl V M hVl hMl rfl (some 54) rfl ?_
          have l8 := heap_past w6 (.cells (cv V M) 37) _ _ l7
          have k8 := heap_past w6 (.cells (cv V M) 37) _ _ k7
          have c8 := heap_new w6 (.cells (cv V M) 37) _ rfl
          have hb9 := hb8.alloc hb8.size (.cells (cv V M) 37)
          have OWN8 := (own_below OWN5.out hW6).alloc (.cells (cv V M) 37)
          refine ⟨⟨⟨_, l8, k8⟩, rfl⟩, ?_⟩
          simp only [Act.put, List.setIfInBounds_toArray, List.set_cons_succ, List.set_cons_zero]
          refine wpAnyH_all (rs := [10]) (by kernel_rfl) (by decide) ?_
          intro i hi
          obtain rfl := List.mem_singleton.1 hi
          refine wpOp_append1 rfl rfl _ _ rfl w3.heap.size _ D V M hVl hMl rfl OWN8 _ 1 rfl c8 (by omega) (by simp; omega) (some 55) rfl ?_
          intro v' w9 hown9 hgr
          have l9 : w9.heap[w5.heap.size]? = some (.cells (hv L) 31 (0, 0)) := by
            rw [hgr.block _ (by simp; omega) (fun hq => by have := HNB.out _ hq.symm; omega)]; exact l8
          have k9 : w9.heap[g]? = some (.cells cur t fr) := by
            rw [hgr.block _ (by simp; omega) (fun hq => by have := HNB.out _ hq.symm; omega)]; exact k8
          have hb10 : Below w3.heap.size w3 w9 := hb9.grown hgr (by simp; omega) (fun q hq => (HNB.out q hq).1)
          refine ⟨⟨⟨w9, l9, k9⟩, rfl⟩, ?_⟩
          simp only [Act.put, List.setIfInBounds_toArray, List.set_cons_succ, List.set_cons_zero]
          refine wpAnyH_all (rs := [11]) (by kernel_rfl) (by decide) ?_
          intro i hi
          obtain rfl := List.mem_singleton.1 hi
          refine wpOp_assign rfl rfl _ rfl v' rfl (some 10) rfl ?_
          refine ⟨⟨⟨w9, l9, k9⟩, rfl⟩, ?_⟩
          refine wpAnyH_done (by kernel_rfl) ?_ _
          exact ⟨rfl, v', _, _, _, _, _, _, _, _, _, _, _, rfl, hown9, hb10⟩
        · rintro a' w' ⟨v', y45, y46, y47, y48, y49, y50, y51, y52, y53, y54, y55, rfl, hown9, hb10⟩
          simp only [Act.put, List.setIfInBounds_toArray, List.set_cons_succ, List.set_cons_zero]
          have HD8 : Hid (D ++ [(V, M)] = portC 2 (P.take (k + 1))) := by
            show _ = _
            rw [HT.out, HD.out]
          have OWN8 : Hid (w'.ownsRow w3.heap.size 37 26 v' (D ++ [(V, M)]).length (ccells (D ++ [(V, M)]))) := hown9
          have HL8 : Hid ((D ++ [(V, M)]).length ≤ k + 1) := by
            show _ ≤ _
            rw [List.length_append]; simpa using hDl
          clear hown9 OWN5 hb7 k6 l6
          go_wp2_with fail
          go_roundw
          case rel => exact ⟨k + 1, by omega, by go_num, D ++ [(V, M)], HD8.out, HL8.out, OWN8.out, hb10⟩
          case measure => simp [intOf]; omega
      · obtain rfl : k = n := by omega
        have HE : Hid (D = portC 2 P) := by
          show _ = _
          rw [HD.out, HN.out, List.take_length]
        go_wp2_with fail
        go_ret2
        refine ⟨u10, rfl, ?_, B1⟩
        rw [← HE.out]
        exact own_base OWN.out hb3.size
  · go_enter Tryz.func36, Tryz.ntmps36
    go_wp2_with fail
    refine (R1.out _).mono ?_
    rintro e w3 ⟨u, rfl, ho3, hb3⟩
    have S3 := sp_of ho3
    obtain ⟨o, cap, rfl, _, hcap⟩ := S3.slice
    rw [← hn] at S3 hfew ⊢
    have HS3 : Hid (Sp w3 (.slice o n cap) P) := S3
    have n0 := heap_new w3 (.cells #[] 37) _ rfl
    clear S3 ho3 hn
    go_wp2_with fail
    go_loopw [10, 11] (fun out i wr => ∃ k : Nat, k ≤ n ∧ i = .int .i64 (k : Int) ∧ ∃ D, D = portC 3 (P.take k) ∧ D.length ≤ k ∧ wr.ownsRow w3.heap.size 37 26 out D.length (ccells D) ∧ Below w3.heap.size w3 wr) (fun _ i _ => n - (intOf i).toNat)
    case atStart => exact ⟨0, Nat.zero_le _, rfl, [], rfl, Nat.le_refl _, ⟨rfl, Or.inr ⟨w3.heap.size, 0, #[], rfl, Nat.le_refl _, n0, Nat.le_refl _, by decide, rfl, rfl⟩⟩, (Below.refl _ _).alloc (Nat.le_refl _) _⟩
    case round =>
      clear n0
      obtain ⟨k, hk, rfl, D, hD, hDl, hown, hb⟩ := hrel
      have HD : Hid (D = portC 3 (P.take k)) := hD
      have OWN : Hid (wr.ownsRow w3.heap.size 37 26 u10 D.length (ccells D)) := hown
      have B1 := hb3.trans (hb.mono hb3.size)
      have hz := hb.size
      clear hD hown
      by_cases hlt : k < n
      · obtain ⟨g, off, cur, t, fr, p, rfl, hg, hc, hpk⟩ := HS3.out.at k hlt
        have hp2 := HM.out k p hpk
        have hg3 := (Array.getElem?_eq_some_iff.1 hg).1
        have k1 : wr.heap[g]? = some (.cells cur t fr) := (hb.block g hg3).trans hg
        have HT : Hid (portC 3 (P.take (k + 1)) = portC 3 (P.take k) ++ [(pxV 3 p.1 p.2, pxM 3 p.2)]) := portC_take hpk
        obtain ⟨a, b⟩ := p
        simp only at hp2 hc HT
        have hc0 : cur[off + k * 2]? = some (.int .i64 (a : Int)) := hc 0 (by decide)
        have hc1 : cur[off + k * 2 + 1]? = some (.int .i64 (b : Int)) := hc 1 (by decide)
        have HC1 : Hid (cur[off + k * 2 + 1]? = some (.int .i64 (b : Int))) := hc1
        have x0 : wr.cell? ⟨g, off + k * 2, none⟩ = some (.int .i64 (a : Int)) := by rw [cell_of_row _ _ _ _ _ _ k1]; exact hc0
        have RW : Hid (∀ W, Calls Tryz.prog 58 #[.agg zero26, .int .i64 3, .int .u32 (a : Int)] W fun e w' => e = .returned (.tuple #[.agg (hv (fh 3 (a : Int))), .int .i64 0]) ∧ Below W.heap.size W w') := RWA.out a hp2.2
        have FR : Hid (∀ W, Calls Tryz.prog 59 #[.agg (hv (fh 3 (a : Int))), .int .i64 3, .int .i64 (b : Int)] W fun e w' => e = .returned (.agg (cv (pxV 3 a b) (pxM 3 b))) ∧ Below W.heap.size W w') := FRA.out a b hp2.1
        have hLl := (fh_byt 3 (a : Int) (by omega) (by omega)).1
        have hVl := (pxV_byt 3 a b).1
        have hMl := (pxM_byt 3 b).1
        obtain ⟨L, hL⟩ : ∃ L, L = fh 3 (a : Int) := ⟨_, rfl⟩
        obtain ⟨V, hV⟩ : ∃ V, V = pxV 3 a b := ⟨_, rfl⟩
        obtain ⟨M, hM⟩ : ∃ M, M = pxM 3 b := ⟨_, rfl⟩
        rw [← hL] at RW FR hLl
        rw [← hV] at FR HT hVl
        rw [← hM] at FR HT hMl
        obtain ⟨ha1, ha2⟩ := hp2
        clear hg hc hpk hV hM hL hc0 hc1
        go_wp2_with fail
        refine (RW.out _).mono ?_
        rintro e w5 ⟨rfl, hb5⟩
        have hb6 := hb.trans (hb5.mono hb.size)
        have k5 : w5.heap[g]? = some (.cells cur t fr) := (hb5.block g (Array.getElem?_eq_some_iff.1 k1).1).trans k1
        have k6 := heap_past w5 (.cells (hv L) 31) _ _ k5
        have l6 := heap_new w5 (.cells (hv L) 31) _ rfl
        have hb7 := hb6.alloc hb6.size (.cells (hv L) 31)
        have OWN5 : Hid ((w5.alloc (.cells (hv L) 31)).ownsRow w3.heap.size 37 26 u10 D.length (ccells D)) := (own_below OWN.out hb5).alloc _
        have HNB : Hid (∀ q, u10.ownBlock = some q → w3.heap.size ≤ q ∧ q < wr.heap.size) := fun q hq => OWN.out.lt q hq
        have hz5 : wr.heap.size ≤ w5.heap.size := hb5.size
        go_wp2_with (first
          | (refine wl_store26 rfl _ _ rfl w5.heap.size L rfl rfl _ (heap_new _ _ _ rfl) rfl hLl _ (setRow_new _ _ _ _ _ rfl) ?_))
        have hzq : w5.heap.size < (w5.alloc (.cells (hv L) 31)).heap.size := by simp
        obtain ⟨wq, hwq⟩ : ∃ wq, wq = w5.alloc (.cells (hv L) 31) := ⟨_, rfl⟩
        rw [← hwq] at k6 l6 hb7 OWN5 hzq ⊢
        have hz7 := hb7.size
        clear hwq hb5 hb6 k5 k1 x0 RW OWN hb
        refine region_cut (fun a a' w' => ∃ v' y45 y46 y47 y48 y49 y50 y51 y52 y53 y54 y55, a' = ((((((((((((a.put (some 10) v').put (some 45) y45).put (some 46) y46).put (some 47) y47).put (some 48) y48).put (some 49) y49).put (some 50) y50).put (some 51) y51).put (some 52) y52).put (some 53) y53).put (some 54) y54).put (some 55) y55) ∧ w'.ownsRow w3.heap.size 37 26 v' (D ++ [(V, M)]).length (ccells (D ++ [(V, M)])) ∧ Below w3.heap.size w3 w') ?_ ?_
        · have ne1 : Nonempty (Keep w5.heap.size (.cells (hv L) 31) g (.cells cur t fr)) := ⟨⟨wq, l6, k6⟩⟩
          refine region_beginS (fun w' => ∃ z : Keep w5.heap.size (.cells (hv L) 31) g (.cells cur t fr), w' = z.world) 12 rfl (by kernel_rfl) ?_
          refine region_reads 0 8 4 rfl (by kernel_rfl) (by kernel_rfl) (by kernel_rfl) (by intro d v c a w h; exact absurd h.1 (by simp)) ⟨⟨wq.drew, l6, k6⟩, rfl⟩ ?_
          simp only [List.drop_zero, List.take_succ_cons, List.take_zero]
          go_big_quiet_step (fail)
          refine qH' rfl _ rfl w5.heap.size rfl L (by rintro w' ⟨z, rfl⟩; exact z.k1) hLl ?_
          simp only [Act.put, List.setIfInBounds_toArray, List.set_cons_succ, List.set_cons_zero]
          go_big_quiet_step (fail)
          go_big_quiet_step (fail)
          go_big_quiet_step (fail)
          go_big_quiet_step (fail)
          go_big_quiet_step (fail)
          refine qN' rfl _ rfl g (off + k * 2 + 1) rfl cur t fr (b : Int) (by rintro w' ⟨z, rfl⟩; exact z.k2) HC1.out ?_
          simp only [Act.put, List.setIfInBounds_toArray, List.set_cons_succ, List.set_cons_zero]
          refine wpQuiet_nil ?_
          refine wpAnyH_all (rs := [8]) (by kernel_rfl) (by decide) ?_
          intro i hi
          obtain rfl := List.mem_singleton.1 hi
          refine wpOp_call rfl rfl 59 #[.tmp 46, .tmp 47, .tmp 52] (by intro b w; have hf := Tryz.func59; simp [go_sem]) #[.agg (hv L), .int .i64 3, .int .i64 (b : Int)] rfl (fun v w' => v = .agg (cv V M) ∧ Below wq.drew.heap.size wq.drew w') ((FR.out _).mono fun e w' h => ⟨_, h.1, rfl, h.2⟩) (some 53) rfl ?_
          rintro v w6 ⟨rfl, hb6⟩
          have hW6 : Below wq.heap.size wq w6 := (Below.refl _ _).drew.trans hb6
          have l7 : w6.heap[w5.heap.size]? = some (.cells (hv L) 31 (0, 0)) := (hW6.block _ (by omega)).trans l6
          have k7 : w6.heap[g]? = some (.cells cur t fr) := (hW6.block _ (by omega)).trans k6
          have hb8 := hb7.trans (hW6.mono hb7.size)
          have hz6 := hW6.size
          refine ⟨⟨⟨w6, l7, k7⟩, rfl⟩, ?_⟩
          simp only [Act.put, List.setIfInBounds_toArray, List.set_cons_succ, List.set_cons_zero]
          refine wpAnyH_all (rs := [9]) (by kernel_rfl) (by decide) ?_
          intro i hi
          obtain rfl := List.mem_singleton.1 hi
          refine wpOp_buildC rfl rfl _ rfl V M hVl hMl rfl (some 54) rfl ?_
          have l8 := heap_past w6 (.cells (cv V M) 37) _ _ l7
          have k8 := heap_past w6 (.cells (cv V M) 37) _ _ k7
          have c8 := heap_new w6 (.cells (cv V M) 37) _ rfl
          have hb9 := hb8.alloc hb8.size (.cells (cv V M) 37)
          have OWN8 := (own_below OWN5.out hW6).alloc (.cells (cv V M) 37)
          refine ⟨⟨⟨_, l8, k8⟩, rfl⟩, ?_⟩
          simp only [Act.put, List.setIfInBounds_toArray, List.set_cons_succ, List.set_cons_zero]
          refine wpAnyH_all (rs := [10]) (by kernel_rfl) (by decide) ?_
          intro i hi
          obtain rfl := List.mem_singleton.1 hi
          refine wpOp_append1 rfl rfl _ _ rfl w3.heap.size _ D V M hVl hMl rfl OWN8 _ 1 rfl c8 (by omega) (by simp; omega) (some 55) rfl ?_
          intro v' w9 hown9 hgr
          have l9 : w9.heap[w5.heap.size]? = some (.cells (hv L) 31 (0, 0)) := by
            rw [hgr.block _ (by simp; omega) (fun hq => by have := HNB.out _ hq.symm; omega)]; exact l8
          have k9 : w9.heap[g]? = some (.cells cur t fr) := by
            rw [hgr.block _ (by simp; omega) (fun hq => by have := HNB.out _ hq.symm; omega)]; exact k8
          have hb10 : Below w3.heap.size w3 w9 := hb9.grown hgr (by simp; omega) (fun q hq => (HNB.out q hq).1)
          refine ⟨⟨⟨w9, l9, k9⟩, rfl⟩, ?_⟩
          simp only [Act.put, List.setIfInBounds_toArray, List.set_cons_succ, List.set_cons_zero]
          refine wpAnyH_all (rs := [11]) (by kernel_rfl) (by decide) ?_
          intro i hi
          obtain rfl := List.mem_singleton.1 hi
          refine wpOp_assign rfl rfl _ rfl v' rfl (some 10) rfl ?_
          refine ⟨⟨⟨w9, l9, k9⟩, rfl⟩, ?_⟩
          refine wpAnyH_done (by kernel_rfl) ?_ _
          exact ⟨rfl, v', _, _, _, _, _, _, _, _, _, _, _, rfl, hown9, hb10⟩
        · rintro a' w' ⟨v', y45, y46, y47, y48, y49, y50, y51, y52, y53, y54, y55, rfl, hown9, hb10⟩
          simp only [Act.put, List.setIfInBounds_toArray, List.set_cons_succ, List.set_cons_zero]
          have HD8 : Hid (D ++ [(V, M)] = portC 3 (P.take (k + 1))) := by
            show _ = _
            rw [HT.out, HD.out]
          have OWN8 : Hid (w'.ownsRow w3.heap.size 37 26 v' (D ++ [(V, M)]).length (ccells (D ++ [(V, M)]))) := hown9
          have HL8 : Hid ((D ++ [(V, M)]).length ≤ k + 1) := by
            show _ ≤ _
            rw [List.length_append]; simpa using hDl
          clear hown9 OWN5 hb7 k6 l6
          go_wp2_with fail
          go_roundw
          case rel => exact ⟨k + 1, by omega, by go_num, D ++ [(V, M)], HD8.out, HL8.out, OWN8.out, hb10⟩
          case measure => simp [intOf]; omega
      · obtain rfl : k = n := by omega
        have HE : Hid (D = portC 3 P) := by
          show _ = _
          rw [HD.out, HN.out, List.take_length]
        go_wp2_with fail
        go_ret2
        refine ⟨u10, rfl, ?_, B1⟩
        rw [← HE.out]
        exact own_base OWN.out hb3.size

set_option maxHeartbeats 1000000 in
theorem rports_field (f l h : Int) (hf : ¬ (f = 2 ∨ f = 3)) (w : World) :
    Calls Tryz.prog 36 #[.int .i64 f, .int .i64 l, .int .i64 h] w fun e w' => e = .returned (.tuple #[.slice none 0 0, .int .i64 1]) ∧ w' = w := by
  have n2 : (f != 2) = true := by simp; omega
  have n3 : (f != 3) = true := by simp; omega
  clear hf
  go_enter Tryz.func36, Tryz.ntmps36
  go_wp2_with fail
  go_ret2
  exact ⟨rfl, rfl⟩

theorem rports_any (f l h : Int) (w : World) :
    Calls Tryz.prog 36 #[.int .i64 f, .int .i64 l, .int .i64 h] w fun e w' => ∃ u, e = .returned (.tuple #[u, .int .i64 (portE f l h)]) ∧ Sl w' u (portP f l h) ∧ Below w.heap.size w w' := by
  have none0 : ∀ w' : World, Sl w' (.slice none 0 0) [] := fun w' => sl_of (C := []) (World.ownsRow_nil w' w.heap.size _ _) (fun c hc => absurd hc (by simp))
  by_cases hf : f = 2 ∨ f = 3
  · refine (rports_ok f l h hf w).mono ?_
    rintro e w' ⟨u, rfl, ho, hb⟩
    have e1 : portE f l h = ranE l h := by unfold portE ranE; rw [decide_eq_true hf, if_pos rfl]
    have e2 : portP f l h = portC f (ran l h) := by
      unfold portP ran
      rw [decide_eq_true hf, Bool.true_and]
      cases isR l h <;> rfl
    rw [e1, e2]
    exact ⟨u, rfl, sl_of ho (byts_portC _ _), hb⟩
  · refine (rports_field f l h hf w).mono ?_
    rintro e w' ⟨rfl, rfl⟩
    unfold portP portE
    rw [decide_eq_false hf, if_neg (by simp), Bool.false_and]
    exact ⟨_, rfl, none0 _, Below.refl _ _⟩
end Go.Proofs.YtnbklmmampdbfaaGreatDoor
namespace Go.Proofs.YtnbklmmampdbfaaGreatDoor
open Go Go.RowKit
set_option maxRecDepth 20000

/-- Have no two of these cubes a header together? -/
def Apart (C : List (List Int × List Int)) : Prop := ∀ (i k : Nat) (U N U' N' : List Int), i < k → C[i]? = some (U, N) → C[k]? = some (U', N') → meets U N U' N' = false
def apartL : List (List Int × List Int) → Bool
  | [] => true
  | c :: C => (C.all fun d => !(meets c.1 c.2 d.1 d.2)) && apartL C
theorem apartL_iff : ∀ {C : List (List Int × List Int)}, apartL C = true ↔ Apart C
  | [] => ⟨fun _ i k U N U' N' _ h1 => by simp at h1, fun _ => rfl⟩
  | c :: C => by
    rw [apartL, Bool.and_eq_true, List.all_eq_true, apartL_iff (C := C)]
    constructor
    · rintro ⟨h1, h2⟩ i k U N U' N' hik hi hk
      obtain ⟨k, rfl⟩ : ∃ k', k = k' + 1 := ⟨k - 1, by omega⟩
      rw [List.getElem?_cons_succ] at hk
      cases i with
      | zero =>
        obtain rfl : c = (U, N) := by simpa using hi
        have := h1 (U', N') (List.mem_of_getElem? hk)
        simpa using this
      | succ i =>
        rw [List.getElem?_cons_succ] at hi
        exact h2 i k U N U' N' (by omega) hi hk
    · intro h
      refine ⟨fun d hd => ?_, fun i k U N U' N' hik hi hk => h (i + 1) (k + 1) U N U' N' (by omega) (by simpa using hi) (by simpa using hk)⟩
      obtain ⟨k, hk, hd⟩ := List.getElem_of_mem hd
      have := h 0 (k + 1) c.1 c.2 d.1 d.2 (by omega) (by simp) (by rw [List.getElem?_cons_succ, List.getElem?_eq_getElem hk, hd])
      rw [this]; rfl
theorem apartL_yes {C : List (List Int × List Int)} (h : Apart C) : apartL C = true := apartL_iff.2 h
theorem apartL_no {C : List (List Int × List Int)} (h : ¬ Apart C) : apartL C = false := by
  cases e : apartL C with
  | false => rfl
  | true => exact absurd (apartL_iff.1 e) h

theorem meets_symm (V M V' M' : List Int) : meets V M V' M' = meets V' M' V M := by
  rw [Bool.eq_iff_iff, meets_iff, meets_iff]
  exact ⟨fun h i hi h1 h2 => (h i hi h2 h1).symm, fun h i hi h1 h2 => (h i hi h2 h1).symm⟩
theorem meetR_form (V M V' M' : List Int) : ∃ A B, A.length = 13 ∧ B.length = 13 ∧ meetR V M V' M' = .tuple #[.agg (cv A B), .bool (meets V M V' M')] := by
  cases h : meets V M V' M'
  · exact ⟨Z, Z, Z_byt.1, Z_byt.1, meetR_no _ _ _ _ h⟩
  · exact ⟨_, _, (meetV_byt _ _ _ _).1, (meetM_byt _ _).1, meetR_yes _ _ _ _ h⟩

end Go.Proofs.YtnbklmmampdbfaaGreatDoor
namespace Go.Proofs.YtnbklmmampdbfaaGreatDoor
open Go Go.RowKit
set_option maxRecDepth 20000

/-- A piece's cube has the headers whose port is one of its numbers. -/
theorem has_port (H : List Int) (hH : Byt H) (f : Int) (hf : f = 2 ∨ f = 3) (a b : Nat) (ha : a ≤ 65535) (hb : b ≤ 16) (hm : a % sz b = 0) : has (pxV f a b) (pxM f b) H = inP (a, b) (fld H f) := by
  have hs := size_23 f hf
  have h := has_field H hH f a b (by omega) (by omega) (by rw [hs]; exact Nat.lt_of_le_of_lt ha (by decide)) (by omega)
  rw [hs] at h
  rw [show has (pxV f a b) (pxM f b) H = _ from h]
  unfold inP
  rw [show 8 * 2 - b = 16 - b by omega]
  show decide (a / sz b = fld H f / sz b) = (decide (a ≤ fld H f) && decide (fld H f < a + sz b))
  have hp := sz_pos b
  generalize fld H f = g
  generalize sz b = s at hm hp
  rw [Bool.eq_iff_iff, decide_eq_true_eq, Bool.and_eq_true, decide_eq_true_eq, decide_eq_true_eq]
  have h1 := Nat.div_add_mod a s
  have h2 := Nat.div_add_mod g s
  have h3 := Nat.mod_lt g hp
  rw [hm, Nat.add_zero] at h1
  constructor
  · intro e
    rw [e] at h1
    omega
  · rintro ⟨h4, h5⟩
    have h6 : a / s ≤ g / s := Nat.div_le_div_right h4
    have h7 : g / s < a / s + 1 := by
      rw [Nat.div_lt_iff_lt_mul hp, Nat.add_mul, Nat.one_mul, Nat.mul_comm, h1]
      exact h5
    omega
theorem rng_mod {h n : Nat} {p : Nat × Nat} (hp : p ∈ rng h n) : p.1 % sz p.2 = 0 ∧ p.1 + sz p.2 ≤ h + 1 := by
  obtain ⟨_, h2, h3⟩ := rng_mem h n p hp
  rw [h3]
  exact (okP_iff _ _ _).1 (gr_is _ _ h2).2.1
theorem rng_apart (h : Nat) : ∀ n, ∀ (i k : Nat) (a b : Nat × Nat), i < k → (rng h n)[i]? = some a → (rng h n)[k]? = some b → a.1 + sz a.2 ≤ b.1 := by
  refine rng_induct h _ (fun n hn => ?_) (fun n hn ih => ?_)
  · rw [rng_nil hn]; intro i k a b _ ha; simp at ha
  · intro i k a b hik ha hb
    rw [rng_cons hn] at ha hb
    obtain ⟨k', rfl⟩ : ∃ k', k = k' + 1 := ⟨k - 1, by omega⟩
    rw [List.getElem?_cons_succ] at hb
    cases i with
    | zero =>
      obtain rfl : a = (n, gr n h) := by simpa using ha.symm
      exact (rng_mem _ _ _ (List.mem_of_getElem? hb)).1
    | succ i =>
      rw [List.getElem?_cons_succ] at ha
      exact ih i k' a b (by omega) ha hb

theorem hasL_ports (H : List Int) (hH : Byt H) (f l h : Int) (hf : f = 2 ∨ f = 3) (c : isR l h = true) : hasL (portC f (ran l h)) H = decide (l ≤ (fld H f : Int) ∧ (fld H f : Int) ≤ h) := by
  have hc := (isR_iff l h).1 c
  have hran : ran l h = rng h.toNat l.toNat := by rw [ran, if_pos c]
  rw [Bool.eq_iff_iff, decide_eq_true_eq]
  have hcn := cnt_rng h.toNat (fld H f) l.toNat
  unfold hasL portC
  rw [List.any_eq_true, hran]
  constructor
  · rintro ⟨x, hx, h1⟩
    rw [List.mem_map] at hx
    obtain ⟨p, hp, rfl⟩ := hx
    have hm := rng_mod hp
    have hmm := rng_mem _ _ _ hp
    rw [has_port H hH f hf p.1 p.2 (by omega) (rng_bits hp) hm.1] at h1
    unfold inP at h1
    rw [Bool.and_eq_true, decide_eq_true_eq, decide_eq_true_eq] at h1
    simp only at h1
    omega
  · intro h1
    rw [if_pos (by omega)] at hcn
    obtain ⟨p, hp⟩ := List.exists_mem_of_length_pos (by rw [hcn]; decide : 0 < ((rng h.toNat l.toNat).filter fun p => inP p (fld H f)).length)
    rw [List.mem_filter] at hp
    have hmm := rng_mem _ _ _ hp.1
    refine ⟨_, List.mem_map.2 ⟨p, hp.1, rfl⟩, ?_⟩
    rw [has_port H hH f hf p.1 p.2 (by omega) (rng_bits hp.1) (rng_mod hp.1).1]
    exact hp.2

theorem has_self (V M : List Int) : has V M V = true := (has_iff _ _ _).2 fun _ _ _ => rfl
theorem apart_ports (f l h : Int) (hf : f = 2 ∨ f = 3) (c : isR l h = true) : Apart (portC f (ran l h)) := by
  have hc := (isR_iff l h).1 c
  have hran : ran l h = rng h.toNat l.toNat := by rw [ran, if_pos c]
  rw [hran]
  intro i k U N U' N' hik h1 h2
  unfold portC at h1 h2
  rw [List.getElem?_map, Option.map_eq_some_iff] at h1 h2
  obtain ⟨p, hp, hp'⟩ := h1
  obtain ⟨q, hq, hq'⟩ := h2
  obtain ⟨rfl, rfl⟩ := Prod.mk.inj hp'
  obtain ⟨rfl, rfl⟩ := Prod.mk.inj hq'
  cases hm : meets (pxV f p.1 p.2) (pxM f p.2) (pxV f q.1 q.2) (pxM f q.2) with
  | false => rfl
  | true =>
    have hs := has_self (meetV (pxV f p.1 p.2) (pxM f p.2) (pxV f q.1 q.2) (pxM f q.2)) (meetM (pxM f p.2) (pxM f q.2))
    rw [has_meet _ _ _ _ _ hm, Bool.and_eq_true] at hs
    have mp := List.mem_of_getElem? hp
    have mq := List.mem_of_getElem? hq
    have gp := rng_mem _ _ _ mp
    have gq := rng_mem _ _ _ mq
    have ha := rng_apart _ _ i k p q hik hp hq
    rw [has_port _ (meetV_byt _ _ _ _) f hf p.1 p.2 (by omega) (rng_bits mp) (rng_mod mp).1, has_port _ (meetV_byt _ _ _ _) f hf q.1 q.2 (by omega) (rng_bits mq) (rng_mod mq).1] at hs
    unfold inP at hs
    simp only [Bool.and_eq_true, decide_eq_true_eq] at hs
    omega

end Go.Proofs.YtnbklmmampdbfaaGreatDoor
namespace Go.Proofs.YtnbklmmampdbfaaGreatDoor
open Go Go.RowKit
set_option maxRecDepth 20000

theorem has_prefix (H : List Int) (hH : Byt H) (f : Int) (hf : f = 0 ∨ f = 1) (v k : Nat) (hvb : v < 2 ^ 32) (hk : k ≤ 32) :
    has (pxV f v k) (pxM f k) H = decide ((fld H f ^^^ v) / 2 ^ (32 - k) = 0) := by
  have hs := size_01 f hf
  have := has_field H hH f v k (by omega) (by omega) (by rw [hs]; exact hvb) (by omega)
  rw [hs] at this
  rw [show has (pxV f v k) (pxM f k) H = _ from this, Bool.eq_iff_iff, decide_eq_true_eq, decide_eq_true_eq, xor_top]
  exact eq_comm

end Go.Proofs.YtnbklmmampdbfaaGreatDoor
namespace Go.Proofs.YtnbklmmampdbfaaGreatDoor
open Go
set_option maxRecDepth 20000

/-- Does the entry at a place stand ahead of the one at another place? -/
def aheadB (x : Ent) (i : Nat) (y : Ent) (j : Nat) : Bool :=
  if x.dflt then y.dflt && decide (i < j) else y.dflt || decide (y.prio < x.prio) || (decide (x.prio = y.prio) && decide (i < j))
def aheadAt (L : List Ent) (i j : Nat) : Prop := ∃ x y, L[i]? = some x ∧ L[j]? = some y ∧ aheadB x i y j = true
theorem ahead_asymm {L : List Ent} {i j : Nat} (h1 : aheadAt L i j) (h2 : aheadAt L j i) : False := by
  obtain ⟨x, y, hx, hy, h⟩ := h1
  obtain ⟨y', x', hy', hx', h'⟩ := h2
  rw [hx] at hx'
  rw [hy] at hy'
  obtain rfl := Option.some.inj hx'
  obtain rfl := Option.some.inj hy'
  unfold aheadB at h h'
  cases hdx : x.dflt <;> cases hdy : y.dflt <;> simp [hdx, hdy] at h h' <;> omega
/-- The places of a list's entries in the order of the rows. -/
structure IsRows (L : List Ent) (R : List Nat) : Prop where
  sorted : R.Pairwise (aheadAt L)
  all : ∀ i, i ∈ R ↔ i < L.length

theorem pairwise_one {α : Type} {r : α → α → Prop} (ha : ∀ a b, r a b → r b a → False) : ∀ R R' : List α, R.Pairwise r → R'.Pairwise r → (∀ a, a ∈ R ↔ a ∈ R') → R = R'
  | [], [], _, _, _ => rfl
  | [], b :: R', _, _, h => absurd ((h b).2 (by simp)) (by simp)
  | a :: R, [], _, _, h => absurd ((h a).1 (by simp)) (by simp)
  | a :: R, b :: R', h1, h2, h => by
    obtain ⟨p1, q1⟩ := List.pairwise_cons.1 h1
    obtain ⟨p2, q2⟩ := List.pairwise_cons.1 h2
    have hab : a = b := by
      rcases List.mem_cons.1 ((h a).1 (by simp)) with e | e
      · exact e
      · rcases List.mem_cons.1 ((h b).2 (by simp)) with e' | e'
        · exact e'.symm
        · exact (ha a b (p1 b e') (p2 a e)).elim
    subst hab
    rw [pairwise_one ha R R' q1 q2 fun c => ?_]
    constructor
    · intro hc
      rcases List.mem_cons.1 ((h c).1 (List.mem_cons_of_mem _ hc)) with rfl | e
      · exact (ha c c (p1 c hc) (p1 c hc)).elim
      · exact e
    · intro hc
      rcases List.mem_cons.1 ((h c).2 (List.mem_cons_of_mem _ hc)) with rfl | e
      · exact (ha c c (p2 c hc) (p2 c hc)).elim
      · exact e
/-- There is one such order. -/
theorem rows_one {L : List Ent} {R R' : List Nat} (h : IsRows L R) (h' : IsRows L R') : R = R' :=
  pairwise_one (fun _ _ => ahead_asymm) R R' h.sorted h'.sorted fun i => by rw [h.all, h'.all]
theorem find_least {α : Type} {r : α → α → Prop} (ha : ∀ a b, r a b → r b a → False) (q : α → Bool) (a : α) (hq : q a = true) : ∀ R : List α, R.Pairwise r → a ∈ R → (∀ b ∈ R, q b = true → b ≠ a → r a b) → R.find? q = some a
  | [], _, h, _ => by simp at h
  | b :: R, h1, h, hm => by
    obtain ⟨p1, q1⟩ := List.pairwise_cons.1 h1
    rw [List.find?_cons]
    cases hb : q b with
    | true =>
      by_cases e : b = a
      · rw [e]
      · rcases List.mem_cons.1 h with e' | e'
        · exact absurd e'.symm e
        · exact (ha a b (hm b (by simp) hb e) (p1 a e')).elim
    | false =>
      rcases List.mem_cons.1 h with rfl | e'
      · rw [hb] at hq; cases hq
      · exact find_least ha q a hq R q1 e' fun c hc => hm c (List.mem_cons_of_mem _ hc)

/-- Nothing that applies beats the best one. -/
theorem bestGo_max (ap : Ent → Bool) (L : List Ent) : ∀ (l : List Ent) (i : Nat) (b : Option (Nat × Int)), (∀ k, l[k]? = L[i + k]?) →
    (∀ k y, k < i → L[k]? = some y → y.dflt = false → ap y = true → ∃ j p, b = some (j, p) ∧ (y.prio < p ∨ (y.prio = p ∧ j ≤ k))) →
    (∀ j p, b = some (j, p) → j < i) →
    ∀ k y, k < i + l.length → L[k]? = some y → y.dflt = false → ap y = true → ∃ j p, bestGo ap i b l = some (j, p) ∧ (y.prio < p ∨ (y.prio = p ∧ j ≤ k))
  | [], i, b, _, hb, _, k, y, hk, hy, hd, ha => hb k y (by simpa using hk) hy hd ha
  | x :: l, i, b, hL, hb, hj, k, y, hk, hy, hd, ha => by
    rw [bestGo]
    have hx0 : L[i]? = some x := by
      have := hL 0
      simpa using this.symm
    refine bestGo_max ap L l (i + 1) _ (fun k => ?_) (fun k y hk hy hd ha => ?_) (fun j p hjp => ?_) k y (by simp at hk; omega) hy hd ha
    · have := hL (k + 1)
      rw [List.getElem?_cons_succ] at this
      rw [this]; congr 1; omega
    · by_cases hki : k = i
      · subst hki
        rw [hx0] at hy
        obtain rfl := Option.some.inj hy
        cases b with
        | none => exact ⟨k, x.prio, by simp [beats, hd, ha], .inr ⟨rfl, Nat.le_refl _⟩⟩
        | some jp =>
          obtain ⟨j, p⟩ := jp
          by_cases hlt : p < x.prio
          · exact ⟨k, x.prio, by simp [beats, hd, ha, hlt], .inr ⟨rfl, Nat.le_refl _⟩⟩
          · refine ⟨j, p, by simp [beats, hd, ha, hlt], ?_⟩
            have := hj j p rfl
            omega
      · obtain ⟨j, p, h1, h2⟩ := hb k y (by omega) hy hd ha
        subst h1
        by_cases hc : (!x.dflt && ap x && beats x.prio (some (j, p))) = true
        · rw [if_pos hc]
          simp only [Bool.and_eq_true, beats, decide_eq_true_eq] at hc
          exact ⟨i, x.prio, rfl, by left; omega⟩
        · rw [if_neg hc]
          exact ⟨j, p, rfl, h2⟩
    · split at hjp
      · obtain ⟨rfl, rfl⟩ := Prod.mk.inj (Option.some.inj hjp); omega
      · have := hj j p hjp; omega
theorem firstD_first : ∀ (l : List Ent) (i : Nat), (∃ (k : Nat) (x : Ent), firstD i l = some (i + k) ∧ l[k]? = some x ∧ x.dflt = true ∧ ∀ (k' : Nat) (y : Ent), k' < k → l[k']? = some y → y.dflt = false) ∨ (firstD i l = none ∧ ∀ (k : Nat) (y : Ent), l[k]? = some y → y.dflt = false)
  | [], i => .inr ⟨rfl, fun k y h => by simp at h⟩
  | y :: l, i => by
    rw [firstD]
    cases hy : y.dflt with
    | true => exact .inl ⟨0, y, by rw [if_pos rfl]; rfl, rfl, hy, fun k' z hk => by omega⟩
    | false =>
      rw [if_neg (by decide)]
      rcases firstD_first l (i + 1) with ⟨k, x, h1, h2, h3, h4⟩ | ⟨h1, h2⟩
      · refine .inl ⟨k + 1, x, by rw [h1]; congr 1; omega, by simpa using h2, h3, fun k' z hk hz => ?_⟩
        cases k' with
        | zero => obtain rfl : y = z := by simpa using hz
                  exact hy
        | succ k' => exact h4 k' z (by omega) (by simpa using hz)
      · refine .inr ⟨h1, fun k z hz => ?_⟩
        cases k with
        | zero => obtain rfl : y = z := by simpa using hz
                  exact hy
        | succ k => exact h2 k z (by simpa using hz)

def appliesAt (ap : Ent → Bool) (L : List Ent) (i : Nat) : Bool := match L[i]? with | some x => x.dflt || ap x | none => false
/-- THE FIRST OF THE ROWS THAT APPLIES is the entry that says what is done. -/
theorem rows_which (ap : Ent → Bool) {L : List Ent} {R : List Nat} (h : IsRows L R) : R.find? (appliesAt ap L) = whichT ap L := by
  have hin := bestGo_in ap L L 0 none (fun k => by rw [Nat.zero_add]) (fun j p hjp => by cases hjp)
  have hmax := bestGo_max ap L L 0 none (fun k => by rw [Nat.zero_add]) (fun k y hk => absurd hk (Nat.not_lt_zero _)) (fun j p hjp => by cases hjp)
  unfold whichT
  cases hb : bestGo ap 0 none L with
  | some b =>
    obtain ⟨i, p⟩ := b
    obtain ⟨x, hx, hp, hd, ha⟩ := hin i p hb
    have hi := (List.getElem?_eq_some_iff.1 hx).1
    refine find_least (fun _ _ => ahead_asymm) _ i (by unfold appliesAt; rw [hx]; simp [ha]) R h.sorted ((h.all i).2 hi) fun j hj hq hne => ?_
    obtain ⟨y, hy⟩ : ∃ y, L[j]? = some y := ⟨_, List.getElem?_eq_getElem ((h.all j).1 hj)⟩
    refine ⟨x, y, hx, hy, ?_⟩
    have hq : (y.dflt || ap y) = true := by unfold appliesAt at hq; rw [hy] at hq; exact hq
    unfold aheadB
    rw [hd]
    cases hdy : y.dflt with
    | true => simp
    | false =>
      rw [hdy] at hq
      obtain ⟨j', p', h1, h2⟩ := hmax j y (by rw [Nat.zero_add]; exact (h.all j).1 hj) hy hdy (by simpa using hq)
      rw [hb] at h1
      obtain ⟨rfl, rfl⟩ := Prod.mk.inj (Option.some.inj h1)
      simp
      omega
  | none =>
    have hno : ∀ j y, L[j]? = some y → y.dflt = false → ap y = false := fun j y hy hd => by
      cases ha : ap y with
      | false => rfl
      | true =>
        obtain ⟨j', p', h1, _⟩ := hmax j y (by rw [Nat.zero_add]; exact (List.getElem?_eq_some_iff.1 hy).1) hy hd ha
        rw [hb] at h1; cases h1
    rcases firstD_first L 0 with ⟨k, x, h1, h2, h3, h4⟩ | ⟨h1, h2⟩
    · rw [Nat.zero_add] at h1
      show _ = firstD 0 L
      rw [h1]
      refine find_least (fun _ _ => ahead_asymm) _ k (by unfold appliesAt; rw [h2]; simp [h3]) R h.sorted ((h.all k).2 (List.getElem?_eq_some_iff.1 h2).1) fun j hj hq hne => ?_
      obtain ⟨y, hy⟩ : ∃ y, L[j]? = some y := ⟨_, List.getElem?_eq_getElem ((h.all j).1 hj)⟩
      refine ⟨x, y, h2, hy, ?_⟩
      have hq : (y.dflt || ap y) = true := by unfold appliesAt at hq; rw [hy] at hq; exact hq
      unfold aheadB
      rw [h3]
      cases hdy : y.dflt with
      | false =>
        rw [hdy, hno j y hy hdy] at hq
        cases hq
      | true =>
        have : ¬ j < k := fun hlt => by
          have := h4 j y hlt hy
          rw [hdy] at this; cases this
        simp
        omega
    · show _ = firstD 0 L
      rw [h1, List.find?_eq_none]
      intro j hj
      obtain ⟨y, hy⟩ : ∃ y, L[j]? = some y := ⟨_, List.getElem?_eq_getElem ((h.all j).1 hj)⟩
      unfold appliesAt
      rw [hy]
      simp [h2 j y hy, hno j y hy (h2 j y hy)]

/-- Rules that lie within one ahead are left out. -/
def trimGo {α : Type} (within : α → α → Bool) : List α → List α → List α
  | _, [] => []
  | A, r :: l => if A.any (within r) then trimGo within (A ++ [r]) l else r :: trimGo within (A ++ [r]) l
def trimL {α : Type} (within : α → α → Bool) (l : List α) : List α := trimGo within [] l
/-- No header's first rule is another one by it. -/
theorem trim_look {α : Type} (within : α → α → Bool) (has : α → Bool) (hw : ∀ a b, within a b = true → has a = true → has b = true) : ∀ (l A : List α), (∀ a ∈ A, has a = false) → (trimGo within A l).find? has = l.find? has
  | [], _, _ => rfl
  | r :: l, A, hA => by
    rw [trimGo]
    by_cases hr : has r = true
    · have hn : A.any (within r) = false := by
        rw [Bool.eq_false_iff]
        intro h
        obtain ⟨a, ha, h2⟩ := List.any_eq_true.1 h
        have := hw r a h2 hr
        rw [hA a ha] at this; cases this
      rw [if_neg (by rw [hn]; decide), List.find?_cons, List.find?_cons, hr]
    · have hr' : has r = false := by simpa using hr
      have ih := trim_look within has hw l (A ++ [r]) fun a ha => by
        rcases List.mem_append.1 ha with h | h
        · exact hA a h
        · obtain rfl : a = r := by simpa using h
          exact hr'
      split
      · rw [List.find?_cons, hr', ih]
      · rw [List.find?_cons, List.find?_cons, hr', ih]
/-- Trimmed again, it is the same. -/
theorem trim_again {α : Type} (within : α → α → Bool) : ∀ (l A A' : List α), (∀ a ∈ A', a ∈ A) → trimGo within A' (trimGo within A l) = trimGo within A l
  | [], _, _, _ => rfl
  | r :: l, A, A', hs => by
    rw [trimGo]
    by_cases h : A.any (within r) = true
    · rw [if_pos h]
      exact trim_again within l (A ++ [r]) A' fun a ha => List.mem_append_left _ (hs a ha)
    · rw [if_neg h, trimGo, if_neg, trim_again within l (A ++ [r]) (A' ++ [r]) fun a ha => ?_]
      · rcases List.mem_append.1 ha with h1 | h1
        · exact List.mem_append_left _ (hs a h1)
        · exact List.mem_append_right _ h1
      · intro h'
        obtain ⟨a, ha, h2⟩ := List.any_eq_true.1 h'
        exact h (List.any_eq_true.2 ⟨a, hs a ha, h2⟩)
/-- The first rule of what the rows are expanded to. -/
theorem look_expand {α β : Type} (cubes : α → List β) (has : β → Bool) : ∀ rows : List α, ((rows.flatMap fun x => (cubes x).map fun c => (c, x)).find? fun r => has r.1).map (·.2) = rows.find? fun x => (cubes x).any has
  | [] => rfl
  | x :: rows => by
    rw [List.flatMap_cons, List.find?_append, List.find?_cons]
    have ih := look_expand cubes has rows
    cases h : (cubes x).any has with
    | true =>
      obtain ⟨c, hc, h2⟩ := List.any_eq_true.1 h
      cases hf : ((cubes x).map fun c => (c, x)).find? fun r => has r.1 with
      | none =>
        rw [List.find?_eq_none] at hf
        exact absurd h2 (hf (c, x) (List.mem_map.2 ⟨c, hc, rfl⟩))
      | some r =>
        have hm := List.mem_of_find?_eq_some hf
        obtain ⟨c', _, rfl⟩ := List.mem_map.1 hm
        rfl
    | false =>
      have hf : (((cubes x).map fun c => (c, x)).find? fun r => has r.1) = none := by
        rw [List.find?_eq_none]
        intro r hr
        obtain ⟨c, hc, rfl⟩ := List.mem_map.1 hr
        intro h3
        rw [Bool.eq_false_iff] at h
        exact h (List.any_eq_true.2 ⟨c, hc, h3⟩)
      rw [hf]
      exact ih
end Go.Proofs.YtnbklmmampdbfaaGreatDoor
namespace Go.Proofs.YtnbklmmampdbfaaGreatDoor
open Go Go.RowKit
set_option maxRecDepth 20000

theorem wl_build0R {ops : Array Oper} {rest : List Oper} {o : Oper} {a : Act} {w : World} {Q : Exit → Act → World → Prop} {E : El} (H : E.Ok) (hg : o.guard = none) (ho : o.op = .buildSlice E.slice 0 #[])
    (h : wpList Tryz.prog ops Q rest (a.put o.dst (.slice (some ⟨w.heap.size, 0, none⟩) 0 0)) (w.alloc (.cells #[] E.elem))) : wpList Tryz.prog ops Q (o :: rest) a w := by
  obtain ⟨ie, hie, hz, hs, _⟩ := H.info
  refine wpList_plain hg fun _ hK => ?_
  unfold Oper.wp execOp
  have hrun : (Instr.buildSlice E.slice 0 #[]).run Tryz.prog w = .ok (.slice (some ⟨w.heap.size, 0, none⟩) 0 0) (w.alloc (.cells #[] E.elem)) := by
    have h0 : Array.range 0 = #[] := Array.eq_empty_of_size_eq_zero (by simp)
    simp [Instr.buildSlice, run_underlying H.hs, sizeOf, typeInfo, hie, Instr.fill, newRow, h0]
  simp only [ho, Sem.run_bind, List.map_toArray, List.map_nil, hrun, Result.andThen_ok]
  exact hK _ _ h
theorem own0R (w : World) (e : TypeId) (s : Nat) : (w.alloc (.cells #[] e)).ownsRow w.heap.size e s (.slice (some ⟨w.heap.size, 0, none⟩) 0 0) 0 [] := ⟨by simp, .inr ⟨_, 0, #[], rfl, Nat.le_refl _, heap_new _ _ _ rfl, Nat.le_refl _, Nat.zero_le _, by simp, by simp⟩⟩


set_option maxHeartbeats 8000000 in
/-- Two lists alike. -/
theorem rsame8_any (C : List RuleM) (hC : ∀ r ∈ C, okR8 r) (va vb : Value) (w : World) (ha : RulesAt w va C) (hb : RulesAt w vb C) :
    Calls Tryz.prog 8 #[va, vb] w fun e w' => e = .returned (.bool true) ∧ Below w.heap.size w w' := by
  obtain ⟨oa, capa, rfl, hca, hma⟩ := GSl.slice ha
  obtain ⟨ob, capb, rfl, hcb, hmb⟩ := GSl.slice hb
  obtain ⟨n, hn⟩ : ∃ n, n = C.length := ⟨_, rfl⟩
  rw [← hn] at ha hb hca hcb ⊢
  have HA : Hid (RulesAt w (.slice oa n capa) C) := ha
  have HBB : Hid (RulesAt w (.slice ob n capb) C) := hb
  have HOK : Hid (∀ r ∈ C, okR8 r) := hC
  unfold maxLen at hma hmb
  clear ha hb hn hC
  go_enter Tryz.func8, Tryz.ntmps8
  go_wp2_with fail
  go_loopw [5] (fun i wr => ∃ k : Nat, k ≤ n ∧ i = .int .i64 (k : Int) ∧ Below w.heap.size w wr) (fun i _ => n - (intOf i).toNat)
  case atStart => exact ⟨0, Nat.zero_le _, rfl, Below.refl _ _⟩
  case round =>
    obtain ⟨k, hk, rfl, hb⟩ := hrel
    have HB : Hid (Below w.heap.size w wr) := hb
    clear hb
    by_cases hlt : k < n
    · have hlt' : (k : Int) < (n : Int) := by omega
      obtain ⟨g, off, cur, ty, fr, x, rfl, hg, hc, hxk⟩ := (GSl.below HA.out HB.out).at k hlt
      obtain ⟨g2, off2, cur2, ty2, fr2, y, rfl, hg2, hc2, hyk⟩ := (GSl.below HBB.out HB.out).at k hlt
      rw [hxk] at hyk
      obtain rfl := Option.some.inj hyk
      have hx : okR8 x := HOK.out x (List.mem_of_getElem? hxk)
      have e1 : ∀ w, (Op.equalIn 10000 39 (.agg (ruleV x)) (.agg (ruleV x))).run Tryz.prog w = .ok true w := eqR_same hx
      have e2 : ∀ op p q w, (eqGuard op 39 p q (.agg (ruleV x)) (.agg (ruleV x))).run Tryz.prog w = .ok () w := fun op p q w => egR op p q _ _ w
      have hsz := ruleV_size hx
      have K1 : Hid (wr.heap[g]? = some (.cells cur ty fr)) := hg
      have K2 : Hid (wr.heap[g2]? = some (.cells cur2 ty2 fr2)) := hg2
      have H1 : Hid (∀ i, i < 28 → cur[off + k * 28 + i]? = (ruleV x)[i]?) := hc
      have H2 : Hid (∀ i, i < 28 → cur2[off2 + k * 28 + i]? = (ruleV x)[i]?) := hc2
      clear hg hg2 hc hc2 hxk hyk hx
      go_wp2_with fail
      have ne1 := Later.ne wr
      refine wp_region_later (by kernel_rfl) (by kernel_rfl) ?_
      go_big_quiet_step (fail)
      go_big_quiet_step (fail)
      go_big_quiet_step (fail)
      refine qlE (E := RuleE) RuleOk rfl _ rfl g (off + k * 28) rfl cur ty fr (ruleV x) hsz (later_block K1.out) H1.out ?_
      simp only [Act.put, List.setIfInBounds_toArray, List.set_cons_succ, List.set_cons_zero]
      go_big_quiet_step (fail)
      go_big_quiet_step (fail)
      go_big_quiet_step (fail)
      refine qlE (E := RuleE) RuleOk rfl _ rfl g2 (off2 + k * 28) rfl cur2 ty2 fr2 (ruleV x) hsz (later_block K2.out) H2.out ?_
      simp only [Act.put, List.setIfInBounds_toArray, List.set_cons_succ, List.set_cons_zero]
      go_big_quiet_step (fail)
      refine wpQuiet_nil ?_
      rintro w1 ⟨v5, rfl⟩
      have B1 : Hid (Below w.heap.size w v5.world) := HB.out.trans (v5.below.mono HB.out.size)
      go_wp2_with fail
      go_roundw
      case rel => exact ⟨k + 1, by omega, by go_num, B1.out⟩
      case measure => simp [intOf]; omega
    · have hlt' : ¬ (k : Int) < (n : Int) := by omega
      go_wp2_with fail
      go_ret
      exact ⟨rfl, HB.out⟩
/-! The reference's trimming is the same. -/
theorem trimGo_snoc {α : Type} (q : α → α → Bool) : ∀ (t A : List α) (x : α), trimGo q A (t ++ [x]) = trimGo q A t ++ (if (A ++ t).any (q x) then [] else [x])
  | [], A, x => by
    rw [List.nil_append, trimGo, trimGo, trimGo, List.append_nil, List.nil_append]
  | y :: t, A, x => by
    rw [List.cons_append, trimGo, trimGo]
    have e : A ++ y :: t = (A ++ [y]) ++ t := by simp
    split
    · rw [trimGo_snoc q t (A ++ [y]) x, e]
    · rw [trimGo_snoc q t (A ++ [y]) x, e]
      rfl
theorem trim_same {α : Type} (q : α → α → Bool) (hr : ∀ a, q a a = true) (ht : ∀ a b c, q a b = true → q b c = true → q a c = true) : ∀ (l A out : List α), (∀ a ∈ A, ∃ b ∈ out, q a b = true) → (∀ b ∈ out, b ∈ A) → trimO q out l = out ++ trimGo q A l
  | [], A, out, _, _ => by simp [trimO, trimGo]
  | x :: l, A, out, h1, h2 => by
    have e : A.any (q x) = out.any (q x) := by
      rw [Bool.eq_iff_iff, List.any_eq_true, List.any_eq_true]
      constructor
      · rintro ⟨a, ha, hq⟩
        obtain ⟨b, hb, hq2⟩ := h1 a ha
        exact ⟨b, hb, ht _ _ _ hq hq2⟩
      · rintro ⟨b, hb, hq⟩
        exact ⟨b, h2 b hb, hq⟩
    rw [trimO, trimGo, e]
    split
    · rename_i hc
      refine trim_same q hr ht l (A ++ [x]) out (fun a ha => ?_) (fun b hb => List.mem_append_left _ (h2 b hb))
      rcases List.mem_append.1 ha with ha | ha
      · exact h1 a ha
      · obtain rfl : a = x := by simpa using ha
        obtain ⟨b, hb, hq⟩ := List.any_eq_true.1 hc
        exact ⟨b, hb, hq⟩
    · rw [trim_same q hr ht l (A ++ [x]) (out ++ [x]) (fun a ha => ?_) (fun b hb => ?_), List.append_assoc]
      · rfl
      · rcases List.mem_append.1 ha with ha | ha
        · obtain ⟨b, hb, hq⟩ := h1 a ha
          exact ⟨b, List.mem_append_left _ hb, hq⟩
        · obtain rfl : a = x := by simpa using ha
          exact ⟨a, by simp, hr a⟩
      · rcases List.mem_append.1 hb with hb | hb
        · exact List.mem_append_left _ (h2 b hb)
        · exact List.mem_append_right _ hb
theorem withinR_refl (a : RuleM) : withinR a a = true := (within_iff _ _ _ _).2 fun _ _ h => ⟨h, rfl⟩
theorem withinR_trans (a b c : RuleM) (h1 : withinR a b = true) (h2 : withinR b c = true) : withinR a c = true := by
  unfold withinR at h1 h2 ⊢
  rw [within_iff] at h1 h2 ⊢
  intro i hi h
  obtain ⟨k1, k2⟩ := h2 i hi h
  obtain ⟨k3, k4⟩ := h1 i hi k1
  exact ⟨k3, k4.trans k2⟩
theorem trimT_go (l : List RuleM) : trimT l = trimGo withinR [] l := by
  unfold trimT
  rw [trim_same withinR withinR_refl withinR_trans l [] [] (fun a ha => by simp at ha) (fun b hb => by simp at hb)]
  rfl
theorem trimT_take {l : List RuleM} {k : Nat} {r : RuleM} (h : l[k]? = some r) : trimT (l.take (k + 1)) = trimT (l.take k) ++ (if (l.take k).any (withinR r) then [] else [r]) := by
  rw [trimT_go, trimT_go, List.take_add_one, h]
  exact trimGo_snoc withinR _ [] r

set_option maxHeartbeats 8000000 in
set_option maxRecDepth 100000 in
theorem rshut_any (l : List RuleM) (hl0 : ∀ r ∈ l, okR8 r) (vl : Value) (i : Nat) (r : RuleM) (hi : l[i]? = some r) (w : World) (hl : RulesAt w vl l) :
    Calls Tryz.prog 40 #[vl, .int .i64 (i : Int)] w fun e w' => e = .returned (.bool ((l.take i).any (withinR r))) ∧ Below w.heap.size w w' := by
  have WI : Hid (∀ (V M V' M' : List Int) W, Byt V → Byt M → Byt V' → Byt M' → Calls Tryz.prog 64 #[.agg (cv V M), .agg (cv V' M')] W fun e w' => e = .returned (.bool (within V M V' M')) ∧ Below W.heap.size W w') := fun V M V' M' W h1 h2 h3 h4 => rwithin_any V M V' M' h1 h2 h3 h4 W
  obtain ⟨o, cap, rfl, hc1, hc2⟩ := GSl.slice hl
  obtain ⟨n, hn0⟩ : ∃ n, n = l.length := ⟨_, rfl⟩
  have hin : i < n := by rw [hn0]; exact (List.getElem?_eq_some_iff.1 hi).1
  rw [← hn0] at hl hc1 ⊢
  have hr : okR8 r := hl0 r (List.mem_of_getElem? hi)
  have HR : Hid (okR8 r) := hr
  obtain ⟨g, off, cur, ty, fr, r', rfl, hg, hc, hxi⟩ := hl.at i hin
  obtain rfl : r' = r := by rw [hi] at hxi; exact (Option.some.inj hxi).symm
  have KG : Hid (w.heap[g]? = some (.cells cur ty fr)) := hg
  have HL : Hid (RulesAt w (.slice (some ⟨g, off, none⟩) n cap) l) := hl
  have HI : Hid (∀ j, j < 26 → cur[off + i * 28 + 1 + j]? = (cv r'.cube.1 r'.cube.2)[j]?) := fun j hj => by
    have h3 := hc (1 + j) (by show 1 + j < 28; omega)
    rw [(rule_at hr).2.1 j hj] at h3
    rw [← h3]
    congr 1
    show off + i * 28 + 1 + j = off + i * 28 + (1 + j)
    omega
  have HOK : Hid (∀ r ∈ l, okR8 r) := hl0
  unfold maxLen at hc2
  obtain ⟨b, hb⟩ : ∃ b, b = (l.take i).any (withinR r') := ⟨_, rfl⟩
  have HBE : Hid (b = (l.take i).any (withinR r')) := hb
  rw [← hb]
  have iz : (i : Int) < (n : Int) := by omega
  clear hl hn0 hl0 hg hc hxi hr hb hi
  go_enter Tryz.func40, Tryz.ntmps40
  go_wp2_with fail
  go_loopw [5] (fun s wr => ∃ k : Nat, k ≤ i ∧ s = .int .i64 (k : Int) ∧ Hid ((l.take k).any (withinR r') = false) ∧ Below w.heap.size w wr) (fun s _ => i - (intOf s).toNat)
  case atStart => exact ⟨0, Nat.zero_le _, rfl, rfl, Below.refl _ _⟩
  case round =>
    obtain ⟨k, hk, rfl, HF, hb⟩ := hrel
    have HB : Hid (Below w.heap.size w wr) := hb
    clear hb
    by_cases hlt : k < i
    · have hlt' : (k : Int) < (i : Int) := by omega
      have kz : (k : Int) < (n : Int) := by omega
      obtain ⟨g2, off2, cur2, ty2, fr2, a, hadr, hg2, hc2', hak⟩ := (GSl.below HL.out HB.out).at k (by omega)
      simp only [Option.some.injEq, Addr.mk.injEq] at hadr
      obtain ⟨rfl, rfl, _⟩ := hadr
      have ha : okR8 a := HOK.out a (List.mem_of_getElem? hak)
      have HAO : Hid (okR8 a) := ha
      have K2 : Hid (wr.heap[g]? = some (.cells cur2 ty2 fr2)) := hg2
      have K1 : Hid (wr.heap[g]? = some (.cells cur ty fr)) := (HB.out.block _ (Array.getElem?_eq_some_iff.1 KG.out).1).trans KG.out
      have H2 : Hid (∀ j, j < 26 → cur2[off + k * 28 + 1 + j]? = (cv a.cube.1 a.cube.2)[j]?) := fun j hj => by
        have h3 := hc2' (1 + j) (by show 1 + j < 28; omega)
        rw [(rule_at ha).2.1 j hj] at h3
        rw [← h3]
        congr 1
        show off + k * 28 + 1 + j = off + k * 28 + (1 + j)
        omega
      have HAK : Hid (l[k]? = some a) := hak
      clear hg2 hc2' hak ha
      go_wp2_with fail
      have ne1 := Later.ne wr
      refine wp_region_later (by kernel_rfl) (by kernel_rfl) ?_
      go_big_quiet_step (fail)
      go_big_quiet_step (fail)
      go_big_quiet_step (fail)
      go_big_quiet_step (fail)
      refine qlE (E := CubE) CubOk rfl _ rfl g (off + i * 28 + 1) rfl cur ty fr (cv r'.cube.1 r'.cube.2) (cv_size _ _ HR.out.1.1 HR.out.2.1) (later_block K1.out) HI.out ?_
      simp only [Act.put, List.setIfInBounds_toArray, List.set_cons_succ, List.set_cons_zero]
      go_big_quiet_step (fail)
      go_big_quiet_step (fail)
      go_big_quiet_step (fail)
      go_big_quiet_step (fail)
      refine qlE (E := CubE) CubOk rfl _ rfl g (off + k * 28 + 1) rfl cur2 ty2 fr2 (cv a.cube.1 a.cube.2) (cv_size _ _ HAO.out.1.1 HAO.out.2.1) (later_block K2.out) H2.out ?_
      simp only [Act.put, List.setIfInBounds_toArray, List.set_cons_succ, List.set_cons_zero]
      go_big_quiet_want; go_big_quiet_op
      refine ⟨_, fun u => Calls.later_of (WI.out _ _ _ _ u.world HR.out.1 HR.out.2 HAO.out.1 HAO.out.2), ?_⟩
      go_big_quiet_on
      refine wpQuiet_nil ?_
      rintro w1 ⟨v5, rfl⟩
      have B1 : Hid (Below w.heap.size w v5.world) := HB.out.trans (v5.below.mono HB.out.size)
      cases hwi : within r'.cube.1 r'.cube.2 a.cube.1 a.cube.2 with
      | true =>
        have HE : Hid (b = true) := by
          show _ = _
          rw [HBE.out]
          exact any_take_yes (l := l.take i) (k := k) (x := a) (by rw [List.getElem?_take_of_lt hlt]; exact HAK.out) hwi
        clear hwi
        go_wp2_with fail
        go_ret
        exact ⟨by rw [HE.out]; rfl, B1.out⟩
      | false =>
        have HF2 : Hid ((l.take (k + 1)).any (withinR r') = false) := any_take_no HF.out HAK.out hwi
        clear hwi
        go_wp2_with fail
        go_roundw
        case rel => exact ⟨k + 1, by omega, by go_num, HF2, B1.out⟩
        case measure => simp [intOf]; omega
    · have hlt' : ¬ (k : Int) < (i : Int) := by omega
      have HE : Hid (b = false) := by
        show _ = _
        rw [HBE.out]
        have := HF.out
        rwa [show k = i by omega] at this
      go_wp2_with fail
      go_ret
      exact ⟨by rw [HE.out]; rfl, HB.out⟩

set_option maxHeartbeats 8000000 in
set_option maxRecDepth 100000 in
theorem rtrim_any (l : List RuleM) (hl0 : ∀ r ∈ l, okR8 r) (hn1 : l.length ≤ 100000) (vl : Value) (w : World) (hl : RulesAt w vl l) :
    Calls Tryz.prog 21 #[vl] w fun e w' => (∃ v, e = .returned v ∧ w'.ownsRow w.heap.size 39 28 v (trimT l).length (gcells ruleV (trimT l))) ∧ Below w.heap.size w w' := by
  obtain ⟨o, cap, rfl, hc1, hc2⟩ := GSl.slice hl
  obtain ⟨n, hn0⟩ : ∃ n, n = l.length := ⟨_, rfl⟩
  have HN : Hid (n = l.length) := hn0
  rw [← hn0] at hl hc1 hn1 ⊢
  have SH : Hid (∀ (i : Nat) (r : RuleM) W, l[i]? = some r → Below w.heap.size w W → Calls Tryz.prog 40 #[.slice o n cap, .int .i64 (i : Int)] W fun e w' => e = .returned (.bool ((l.take i).any (withinR r))) ∧ Below W.heap.size W w') := fun i r W h1 h2 => rshut_any l hl0 _ i r h1 W (GSl.below hl h2)
  have HL : Hid (RulesAt w (.slice o n cap) l) := hl
  have HOK : Hid (∀ r ∈ l, okR8 r) := hl0
  unfold maxLen at hc2
  clear hl hn0 hl0
  go_enter Tryz.func21, Tryz.ntmps21
  go_wp2_with (refine wl_build0R (E := RuleE) RuleOk rfl rfl ?_)
  go_loopw [3, 4] (fun v i wr => ∃ (k : Nat) (T : List RuleM), k ≤ n ∧ i = .int .i64 (k : Int) ∧ Hid (T = trimT (l.take k)) ∧ T.length ≤ k ∧ wr.ownsRow w.heap.size 39 28 v T.length (gcells ruleV T) ∧ Below w.heap.size w wr) (fun _ i _ => n - (intOf i).toNat)
  case atStart => exact ⟨0, [], Nat.zero_le _, rfl, rfl, Nat.le_refl _, own0R _ _ _, (Below.refl _ _).alloc (Nat.le_refl _) _⟩
  case round =>
    obtain ⟨k, T, hk, rfl, HT, hTk, hown, hb⟩ := hrel
    have HO : Hid (wr.ownsRow w.heap.size 39 28 u3 T.length (gcells ruleV T)) := hown
    have HB : Hid (Below w.heap.size w wr) := hb
    clear hown hb
    by_cases hlt : k < n
    · have hlt' : (k : Int) < (n : Int) := by omega
      obtain ⟨r, hr0⟩ : ∃ r, l[k]? = some r := ⟨_, List.getElem?_eq_getElem (by rw [← HN.out]; exact hlt)⟩
      have hr : okR8 r := HOK.out r (List.mem_of_getElem? hr0)
      have HR : Hid (okR8 r) := hr
      have hsz := ruleV_size hr
      have HNX := trimT_take hr0
      obtain ⟨g, off, cur, ty, fr, r', rfl, hg, hc, hxi⟩ := (GSl.below HL.out HB.out).at k hlt
      obtain rfl : r' = r := by rw [hr0] at hxi; exact (Option.some.inj hxi).symm
      have KG : Hid (wr.heap[g]? = some (.cells cur ty fr)) := hg
      have H1 : Hid (∀ j, j < 28 → cur[off + k * 28 + j]? = (ruleV r')[j]?) := hc
      have HR0 : Hid (l[k]? = some r') := hr0
      obtain ⟨b, hbe⟩ : ∃ b, b = (l.take k).any (withinR r') := ⟨_, rfl⟩
      have HBE : Hid (b = (l.take k).any (withinR r')) := hbe
      rw [← hbe, ← HT.out] at HNX
      have HX : Hid (trimT (l.take (k + 1)) = T ++ (if b = true then [] else [r'])) := HNX
      clear hg hc hxi hr hr0 hbe HNX
      go_wp2_with fail
      refine (SH.out k r' _ HR0.out HB.out).mono ?_
      rw [← HBE.out]
      rintro e w1 ⟨rfl, hb1⟩
      have B1 : Hid (Below w.heap.size w w1) := HB.out.trans (hb1.mono HB.out.size)
      have K1 : Hid (w1.heap[g]? = some (.cells cur ty fr)) := (hb1.block _ (Array.getElem?_eq_some_iff.1 KG.out).1).trans KG.out
      have O1 : Hid (w1.ownsRow w.heap.size 39 28 u3 T.length (gcells ruleV T)) := gown_below HO.out hb1
      clear hb1
      cases b with
      | true =>
        go_wp2_with fail
        go_roundw
        case rel => exact ⟨k + 1, T, by omega, by go_num, by show _ = _; rw [HX.out]; simp, by omega, O1.out, B1.out⟩
        case measure => simp [intOf]; omega
      | false =>
        have ON2 : Hid ((w1.alloc (.cells (ruleV r') 39)).ownsRow w.heap.size 39 28 u3 T.length (gcells ruleV T)) := O1.out.alloc _
        go_wp2_with (first
          | (refine wl_loadE (E := RuleE) RuleOk rfl _ rfl g (off + k * 28) rfl cur ty fr (ruleV r') hsz K1.out H1.out ?_)
          | (refine wl_buildE (E := RuleE) RuleOk rfl _ rfl (ruleV r') hsz rfl ?_)
          | (at_builtin; refine of_stopT ?_))
        unfold StopT
        refine wl_appendE (E := RuleE) RuleOk ruleV rfl _ _ rfl w.heap.size u3 T r' (rule_fits HR.out) rfl ON2.out w1.heap.size 1 rfl (heap_new _ _ _ rfl) (by omega) (by have := B1.out.size; simp; omega) ?_
        intro v' w3 hown3 hgr3 _
        have B3 : Hid (Below w.heap.size w w3) := (B1.out.alloc B1.out.size _).trans ((Below.refl _ _).grown hgr3 (B1.out.alloc B1.out.size _).size fun k hk => (ON2.out.lt k hk).1)
        have O3 : Hid (w3.ownsRow w.heap.size 39 28 v' (T ++ [r']).length (gcells ruleV (T ++ [r']))) := hown3
        clear hown3 hgr3
        simp only [Act.put, List.setIfInBounds_toArray, List.set_cons_succ, List.set_cons_zero]
        go_wp2_with fail
        go_roundw
        case rel => exact ⟨k + 1, T ++ [r'], by omega, by go_num, by show _ = _; rw [HX.out]; simp, by simp; omega, O3.out, B3.out⟩
        case measure => simp [intOf]; omega
    · have hlt' : ¬ (k : Int) < (n : Int) := by omega
      have HE : Hid (T = trimT l) := by
        have e := HN.out
        show _ = _
        rw [HT.out, List.take_of_length_le (by omega)]
      go_wp2_with fail
      go_ret
      exact ⟨⟨_, rfl, by rw [← HE.out]; exact HO.out⟩, HB.out⟩
end Go.Proofs.YtnbklmmampdbfaaGreatDoor
namespace Go.Proofs.YtnbklmmampdbfaaGreatDoor
open Go Go.RowKit
set_option maxRecDepth 20000

/-! The table means the policy: mathematics alone. -/
theorem hasL_cross8 (A B : List CubeT) (H : List Int) : hasL (crossL A B) H = (hasL A H && hasL B H) := by
  unfold hasL
  rw [Bool.eq_iff_iff, Bool.and_eq_true, List.any_eq_true, List.any_eq_true, List.any_eq_true]
  constructor
  · rintro ⟨c, hc, h⟩
    unfold crossL at hc
    rw [List.mem_flatMap] at hc
    obtain ⟨a, ha, hd⟩ := hc
    unfold crossR at hd
    rw [List.mem_map] at hd
    obtain ⟨b, hb, rfl⟩ := hd
    rw [List.mem_filter] at hb
    rw [has_meet _ _ _ _ _ hb.2, Bool.and_eq_true] at h
    exact ⟨⟨a, ha, h.1⟩, ⟨b, hb.1, h.2⟩⟩
  · rintro ⟨⟨a, ha, h1⟩, ⟨b, hb, h2⟩⟩
    have hm := has_meets h1 h2
    refine ⟨(meetV a.1 a.2 b.1 b.2, meetM a.2 b.2), ?_, ?_⟩
    · unfold crossL
      rw [List.mem_flatMap]
      refine ⟨a, ha, ?_⟩
      unfold crossR
      rw [List.mem_map]
      exact ⟨b, List.mem_filter.2 ⟨hb, hm⟩, rfl⟩
    · rw [has_meet _ _ _ _ _ hm, h1, h2]; rfl
theorem hasL_all8 (H : List Int) : hasL [allC] H = true := by
  unfold hasL allC
  rw [List.any_cons, List.any_nil, Bool.or_false, has_iff]
  intro i hi hm
  rw [show bt Z i = false from mk_bt _ i hi] at hm
  cases hm
theorem hasL_fold (H : List Int) : ∀ (L : List (List CubeT)) (A : List CubeT), hasL (L.foldl crossL A) H = (hasL A H && L.all fun B => hasL B H)
  | [], A => by simp
  | B :: L, A => by rw [List.foldl_cons, hasL_fold H L, hasL_cross8, List.all_cons, Bool.and_assoc]
theorem hasL_meets8 (L : List (List CubeT)) (H : List Int) : hasL (meetsL L) H = L.all fun B => hasL B H := by
  unfold meetsL
  rw [hasL_fold, hasL_all8, Bool.true_and]
theorem fldN_eq (H : List Int) (hH : Byt H) (f : Int) : fldN H f = (fld H f : Int) := fld_eq H hH f
theorem hasL_pref8 (H : List Int) (hH : Byt H) (f : Int) (hf : f = 0 ∨ f = 1) (v n : Int) (h0 : 0 ≤ v) (h1 : v < 4294967296) : hasL (prefL f v n) H = beginsM (fldN H f) v n := by
  unfold hasL prefL
  rw [List.any_cons, List.any_nil, Bool.or_false]
  have hs := size_01 f hf
  have hk : clip8 n ≤ 32 := by unfold clip8; omega
  have := has_field H hH f v.toNat (clip8 n) (by omega) (by omega) (by rw [hs]; omega) (by omega)
  rw [hs] at this
  rw [show has (pxV f v.toNat (clip8 n)) (pxM f (clip8 n)) H = _ from this]
  unfold beginsM
  rw [show clB n = clip8 n from rfl, fldN_eq H hH, Bool.eq_iff_iff, decide_eq_true_eq, beq_iff_eq]
  obtain ⟨m, rfl⟩ : ∃ m : Nat, v = m := ⟨v.toNat, by omega⟩
  obtain ⟨k, hk2⟩ : ∃ k, k = 32 - clip8 n := ⟨_, rfl⟩
  rw [show 8 * 4 - clip8 n = k by omega]
  have e1 : ((fld H f : Nat) : Int) / 2 ^ k = ((fld H f / 2 ^ k : Nat) : Int) := by simp
  have e2 : ((m : Nat) : Int) / 2 ^ k = ((m / 2 ^ k : Nat) : Int) := by simp
  rw [e1, e2, show ((m : Int)).toNat = m from rfl]
  constructor
  · intro h; rw [h]
  · intro h; exact (Int.ofNat.inj h).symm
theorem hasL_prot8 (H : List Int) (hH : Byt H) (n : Int) : hasL (protL n) H = (n == -1 || n == fldN H 4) := by
  have hlt := fld_lt H hH 4
  rw [show 8 * sizeOfF 4 = 8 from rfl] at hlt
  unfold protL
  split
  next h => rw [hasL_all8, h]; rfl
  next h =>
    have e : (n == -1) = false := by rw [beq_eq_false_iff_ne]; exact h
    rw [e, Bool.false_or, fldN_eq H hH]
    split
    next h2 =>
      unfold hasL
      rw [List.any_cons, List.any_nil, Bool.or_false]
      show has (pxV 4 n.toNat 8) (pxM 4 8) H = _
      rw [has_proto H hH n.toNat (by omega), Bool.eq_iff_iff, decide_eq_true_eq, beq_iff_eq]
      omega
    next h2 =>
      unfold hasL
      rw [List.any_nil, eq_comm, beq_eq_false_iff_ne]
      omega
theorem hasL_port8 (H : List Int) (hH : Byt H) (f : Int) (hf : f = 2 ∨ f = 3) (l h : Int) (h0 : 0 ≤ l) (h1 : h ≤ 65535) : hasL (portP f l h) H = (decide (l ≤ fldN H f) && decide (fldN H f ≤ h)) := by
  unfold portP
  rw [show decide (f = 2 ∨ f = 3) = true from decide_eq_true hf, Bool.true_and, fldN_eq H hH]
  split
  next c => rw [hasL_ports H hH f l h hf c, Bool.decide_and]
  next c =>
    rw [isR_iff] at c
    unfold hasL
    rw [List.any_nil, Bool.eq_iff_iff, Bool.and_eq_true, decide_eq_true_eq, decide_eq_true_eq]
    constructor
    · intro h; cases h
    · intro h; omega
/-- Ports that can be. -/
def okPt (x : Ent) : Prop := x.dflt = false → 0 ≤ x.slow ∧ x.shigh ≤ 65535 ∧ 0 ≤ x.dlow ∧ x.dhigh ≤ 65535
theorem cubes_has (H : List Int) (hH : Byt H) (x : Ent) (h32 : ent32 x) (hx : okPt x) : hasL (cubesT x) H = applyT H x := by
  unfold cubesT applyT
  cases hd : x.dflt with
  | true => rw [if_pos rfl, hasL_all8]; rfl
  | false =>
    obtain ⟨p1, p2, p3, p4⟩ := hx hd
    rw [if_neg (by simp), hasL_meets8, Bool.false_or]
    unfold five8 applyR
    simp only [List.all_cons, List.all_nil, Bool.and_true]
    rw [hasL_pref8 H hH 0 (.inl rfl) _ _ h32.1.1 h32.1.2, hasL_pref8 H hH 1 (.inr rfl) _ _ h32.2.1 h32.2.2, hasL_prot8 H hH, hasL_port8 H hH 2 (.inl rfl) _ _ p1 p2, hasL_port8 H hH 3 (.inr rfl) _ _ p3 p4]
    cases beginsM (fldN H 0) x.src x.srcBits <;> cases beginsM (fldN H 1) x.dst x.dstBits <;> cases (decide (x.slow ≤ fldN H 2) && decide (fldN H 2 ≤ x.shigh)) <;> cases (decide (x.dlow ≤ fldN H 3) && decide (fldN H 3 ≤ x.dhigh)) <;> cases (x.proto == -1 || x.proto == fldN H 4) <;> rfl
theorem find_map8 {α β : Type} (g : α → β) (p : β → Bool) : ∀ l : List α, (l.map g).find? p = (l.find? fun x => p (g x)).map g
  | [] => rfl
  | x :: l => by
    rw [List.map_cons, List.find?_cons, List.find?_cons]
    cases p (g x) with
    | true => rfl
    | false => exact find_map8 g p l
theorem find_congr8 {α : Type} {p q : α → Bool} : ∀ {l : List α}, (∀ x ∈ l, p x = q x) → l.find? p = l.find? q
  | [], _ => rfl
  | x :: l, h => by
    rw [List.find?_cons, List.find?_cons, h x (by simp), find_congr8 fun y hy => h y (List.mem_cons_of_mem _ hy)]
theorem find_filter8 {α : Type} (p q : α → Bool) : ∀ l : List α, (l.filter p).find? q = l.find? fun x => p x && q x
  | [] => rfl
  | x :: l => by
    rw [List.filter_cons, List.find?_cons]
    cases hp : p x with
    | false => rw [if_neg (by simp), Bool.false_and]; exact find_filter8 p q l
    | true =>
      rw [if_pos rfl, List.find?_cons, Bool.true_and, find_filter8 p q l]
def coreR (r : RuleM) : CubeT × Int := (r.cube, r.action)
theorem core_renum (T : List RuleM) : (renum T).map coreR = T.map coreR := by
  unfold renum
  rw [List.map_map]
  rw [show (coreR ∘ fun q : RuleM × Nat => (⟨(q.2 : Int), q.1.cube, q.1.action⟩ : RuleM)) = coreR ∘ Prod.fst from rfl, ← List.map_map, List.zipIdx_map_fst]
theorem core_rules (P : List (CubeT × Int)) : (rulesOf P).map coreR = P := by
  unfold rulesOf
  rw [List.map_map]
  rw [show (coreR ∘ fun q : (CubeT × Int) × Nat => (⟨(q.2 : Int), q.1.1, q.1.2⟩ : RuleM)) = Prod.fst from rfl, List.zipIdx_map_fst]
def hasP (H : List Int) (q : CubeT × Int) : Bool := has q.1.1 q.1.2 H
theorem core_find {T T' : List RuleM} (h : T.map coreR = T'.map coreR) (H : List Int) : (T.find? (hasR H)).map coreR = (T'.find? (hasR H)).map coreR := by
  have e : ∀ L : List RuleM, (L.find? (hasR H)).map coreR = (L.map coreR).find? (hasP H) := fun L => (find_map8 coreR (hasP H) L).symm
  rw [e, e, h]
theorem look_action {T : List RuleM} {o : Option Int} {H : List Int} (h : (T.find? (hasR H)).map (fun r => r.action) = o) : (lookT T H).1.action = o.getD 0 ∧ (lookT T H).2 = o.isSome := by
  unfold lookT
  subst h
  cases T.find? (hasR H) with
  | none => exact ⟨rfl, rfl⟩
  | some r => exact ⟨rfl, rfl⟩
theorem has_within9 (V M V' M' H : List Int) (h : within V M V' M' = true) (h2 : has V M H = true) : has V' M' H = true := by
  rw [has_iff] at h2 ⊢
  rw [within_iff] at h
  intro i hi hm
  obtain ⟨h3, h4⟩ := h i hi hm
  rw [← h4]; exact h2 i hi h3
/-- The first rule that has a header: of the first row that applies. -/
theorem comp_look (R : List Ent) (H : List Int) (hH : Byt H) (h32 : ∀ x ∈ R, ent32 x) (hp : ∀ x ∈ R, okPt x) (h0 : (compT R).2 = 0) :
    ((compT R).1.find? (hasR H)).map (fun r => r.action) = (R.find? (applyT H)).map fun x => x.action := by
  have e1 : (compT R).1 = renum (trimT (rulesOf (pairsT R))) := by
    unfold compT at h0 ⊢
    split at h0
    · cases h0
    · split at h0
      · cases h0
      · rw [if_neg (by assumption), if_neg (by assumption)]
  have e2 := core_find (core_renum (trimT (rulesOf (pairsT R)))) H
  rw [trimT_go, trim_look withinR (hasR H) (fun a b h1 h2 => has_within9 _ _ _ _ _ h1 h2) _ [] (fun a ha => by simp at ha), ← trimT_go, ← e1] at e2
  have e3 : ((rulesOf (pairsT R)).find? (hasR H)).map coreR = (pairsT R).find? (hasP H) := by
    have := (find_map8 coreR (hasP H) (rulesOf (pairsT R))).symm
    rw [core_rules] at this
    exact this
  rw [e3] at e2
  have e4 : pairsT R = (R.flatMap fun x => (cubesT x).map fun c => (c, x)).map fun q => (q.1, q.2.action) := by
    unfold pairsT
    rw [List.map_flatMap]
    congr 1
    funext x
    unfold pq8
    rw [List.map_map]; rfl
  have e5 := look_expand cubesT (fun c : CubeT => has c.1 c.2 H) R
  rw [find_congr8 (p := fun x => (cubesT x).any fun c => has c.1 c.2 H) (q := applyT H) (fun x hx => cubes_has H hH x (h32 x hx) (hp x hx))] at e5
  rw [e4, find_map8] at e2
  have e6 := congrArg (Option.map fun q : CubeT × Int => q.2) e2
  rw [Option.map_map, Option.map_map] at e6
  rw [← e5, Option.map_map]
  exact e6

/-- The rows' first one that applies. -/
theorem rows_says {l R : List Ent} (h : RowsOf l R) (ap : Ent → Bool) : (saysT ap l).1 = ((R.find? fun x => x.dflt || ap x).map fun x => x.action).getD 0 ∧ (saysT ap l).2 = (R.find? fun x => x.dflt || ap x).isSome := by
  obtain ⟨S, hS, rfl⟩ := h
  have hin := bestGo_in ap l l 0 none (fun k => by rw [Nat.zero_add]) (fun j p hjp => by cases hjp)
  have hmax := bestGo_max ap l l 0 none (fun k => by rw [Nat.zero_add]) (fun k y hk => absurd hk (Nat.not_lt_zero _)) (fun j p hjp => by cases hjp)
  have hmem : ∀ x, x ∈ S ↔ x ∈ l ∧ x.dflt = false := fun x => by
    rw [hS.alike.mem, List.mem_filter, Bool.not_eq_true']
  rw [List.find?_append]
  cases hb : bestGo ap 0 none l with
  | some b =>
    obtain ⟨i, p⟩ := b
    obtain ⟨y, hy, hyp, hyd, hya⟩ := hin i p hb
    have e1 : saysT ap l = (y.action, true) := by
      unfold saysT whichT
      rw [hb]
      simp only [List.getD_eq_getElem?_getD, hy]
      rfl
    have hyS : y ∈ S := (hmem y).2 ⟨List.mem_of_getElem? hy, hyd⟩
    have e2 : S.find? (fun x => x.dflt || ap x) = some y := by
      cases hf : S.find? (fun x => x.dflt || ap x) with
      | none => exact absurd (List.find?_eq_none.1 hf y hyS) (by simp [hya])
      | some z =>
        obtain ⟨hz, A, B, hAB, hA⟩ := List.find?_eq_some_iff_append.1 hf
        have hzS : z ∈ S := by rw [hAB]; simp
        obtain ⟨hzl, hzd⟩ := (hmem z).1 hzS
        rw [hzd, Bool.false_or] at hz
        have hzp : z.prio = p := by
          obtain ⟨k, hk⟩ := List.mem_iff_getElem?.1 hzl
          obtain ⟨j', p', hj', hh⟩ := hmax k z (by rw [Nat.zero_add]; exact (List.getElem?_eq_some_iff.1 hk).1) hk hzd hz
          rw [hb] at hj'
          obtain ⟨rfl, rfl⟩ := Prod.mk.inj (Option.some.inj hj')
          have h1 : z.prio ≤ p := by omega
          have h2 : y.prio ≤ z.prio := by
            have hd := hS.desc
            rw [hAB] at hyS
            unfold Desc at hd
            rw [hAB, List.pairwise_append] at hd
            rcases List.mem_append.1 hyS with hq | hq
            · have := hA y hq; rw [hyd, hya] at this; simp at this
            · rcases List.mem_cons.1 hq with rfl | hq
              · exact Int.le_refl _
              · exact (List.pairwise_cons.1 hd.2.1).1 y hq
          omega
        have e3 : S.find? (fun x => (x.prio == p) && (x.dflt || ap x)) = some z := by
          rw [List.find?_eq_some_iff_append]
          refine ⟨by simp [hzp, hz], A, B, hAB, fun a ha => ?_⟩
          have := hA a ha
          cases hq : (a.dflt || ap a) with
          | true => rw [hq] at this; cases this
          | false => rw [Bool.and_false]; rfl
        have e4 := congrArg (List.find? fun x => x.dflt || ap x) (hS.alike p)
        rw [find_filter8, find_filter8, find_filter8] at e4
        have e5 : l.find? (fun a => !a.dflt && (a.prio == p && (a.dflt || ap a))) = some y := by
          rw [List.find?_eq_some_iff_getElem]
          have hi := (List.getElem?_eq_some_iff.1 hy).1
          have hyi := (List.getElem?_eq_some_iff.1 hy).2
          refine ⟨by simp [hyd, hya, hyp], i, hi, hyi, fun j hj => ?_⟩
          obtain ⟨a, ha⟩ : ∃ a, l[j]'(by omega) = a := ⟨_, rfl⟩
          rw [ha]
          have haj : l[j]? = some a := List.getElem?_eq_some_iff.2 ⟨by omega, ha⟩
          cases hq : (!a.dflt && (a.prio == p && (a.dflt || ap a))) with
          | false => rfl
          | true =>
            exfalso
            rw [Bool.and_eq_true, Bool.and_eq_true] at hq
            obtain ⟨q1, q2, q3⟩ := hq
            rw [Bool.not_eq_true'] at q1
            rw [q1, Bool.false_or] at q3
            obtain ⟨j', p', hj', hh⟩ := hmax j a (by omega) haj q1 q3
            rw [hb] at hj'
            obtain ⟨rfl, rfl⟩ := Prod.mk.inj (Option.some.inj hj')
            rw [beq_iff_eq] at q2
            omega
        exact (e3.symm.trans e4).trans e5
    rw [e1, e2]
    exact ⟨rfl, rfl⟩
  | none =>
    have hno : ∀ x ∈ S, (x.dflt || ap x) = false := fun x hx => by
      obtain ⟨hxl, hxd⟩ := (hmem x).1 hx
      obtain ⟨k, hk⟩ := List.mem_iff_getElem?.1 hxl
      cases ha : ap x with
      | false => rw [hxd]; rfl
      | true =>
        obtain ⟨j', p', hj', hh⟩ := hmax k x (by rw [Nat.zero_add]; exact (List.getElem?_eq_some_iff.1 hk).1) hk hxd ha
        rw [hb] at hj'
        cases hj'
    have e2 : S.find? (fun x => x.dflt || ap x) = none := List.find?_eq_none.2 fun x hx => by rw [hno x hx]; simp
    rw [e2, Option.none_or, find_filter8]
    have e3 : l.find? (fun x => x.dflt && (x.dflt || ap x)) = l.find? fun x => x.dflt := find_congr8 fun x _ => by cases x.dflt <;> simp
    rw [e3]
    unfold saysT whichT
    rw [hb]
    rcases firstD_first l 0 with ⟨k, x, h1, h2, h3, h4⟩ | ⟨h1, h2⟩
    · rw [h1, Nat.zero_add]
      have hk := List.getElem?_eq_some_iff.1 h2
      have hk1 : k < l.length := hk.1
      have e5 : l.find? (fun x => x.dflt) = some x := by
        rw [List.find?_eq_some_iff_getElem]
        refine ⟨h3, k, hk.1, hk.2, fun j hj => ?_⟩
        rw [h4 j _ hj (List.getElem?_eq_some_iff.2 ⟨by omega, rfl⟩)]; rfl
      rw [e5]
      simp only [List.getD_eq_getElem?_getD, h2]
      exact ⟨rfl, rfl⟩
    · rw [h1]
      have e5 : l.find? (fun x => x.dflt) = none := List.find?_eq_none.2 fun x hx => by
        obtain ⟨k, hk⟩ := List.mem_iff_getElem?.1 hx
        rw [h2 k x hk]; simp
      rw [e5]
      exact ⟨rfl, rfl⟩
/-- What the table's first rule says is what the list says. -/
theorem flat_means {l R : List Ent} (h : RowsOf l R) (H : List Int) (hH : Byt H) (h32 : ∀ x ∈ l, ent32 x) (hp : ∀ x ∈ l, okPt x) (h0 : (compT R).2 = 0) :
    (lookT (compT R).1 H).1.action = (saysT (applyT H) l).1 ∧ (lookT (compT R).1 H).2 = (saysT (applyT H) l).2 := by
  have e1 := comp_look R H hH (fun x hx => h32 x ((h.mem x).1 hx)) (fun x hx => hp x ((h.mem x).1 hx)) h0
  obtain ⟨e2, e3⟩ := look_action e1
  obtain ⟨e4, e5⟩ := rows_says h (applyT H)
  have e6 : (fun x : Ent => x.dflt || applyT H x) = applyT H := by
    funext x
    unfold applyT
    cases x.dflt <;> rfl
  rw [e6] at e4 e5
  rw [e2, e3, e4, e5, Option.isSome_map]
  exact ⟨rfl, rfl⟩
end Go.Proofs.YtnbklmmampdbfaaGreatDoor
namespace Go.Proofs.YtnbklmmampdbfaaGreatDoor
open Go Go.RowKit
set_option maxRecDepth 20000

/-! How many cubes an entry has, and that they lie apart. -/
/-- The letters that aren't free lie in some places. -/
def supB (F : Nat → Bool) (c : CubeT) : Prop := ∀ i, i < 104 → bt c.2 i = true → F i = true
theorem sup_meets {F G : Nat → Bool} (hd : ∀ i, F i = true → G i = true → False) {c d : CubeT} (hc : supB F c) (hg : supB G d) : meets c.1 c.2 d.1 d.2 = true :=
  (meets_iff _ _ _ _).2 fun i hi h1 h2 => (hd i (hc i hi h1) (hg i hi h2)).elim
theorem crossR_all {F G : Nat → Bool} (hd : ∀ i, F i = true → G i = true → False) {c : CubeT} {B : List CubeT} (hc : supB F c) (hB : ∀ d ∈ B, supB G d) : crossR c B = B.map fun d => (meetV c.1 c.2 d.1 d.2, meetM c.2 d.2) := by
  unfold crossR
  rw [List.filter_eq_self.2 fun d hdB => sup_meets hd hc (hB d hdB)]
theorem crossL_many {F G : Nat → Bool} (hd : ∀ i, F i = true → G i = true → False) {B : List CubeT} (hB : ∀ d ∈ B, supB G d) : ∀ {A : List CubeT}, (∀ c ∈ A, supB F c) → (crossL A B).length = A.length * B.length
  | [], _ => by simp [crossL]
  | c :: A, hA => by
    have ih := crossL_many hd hB (A := A) fun x hx => hA x (List.mem_cons_of_mem _ hx)
    unfold crossL at ih ⊢
    rw [List.flatMap_cons, List.length_append, ih, crossR_all hd (hA c (by simp)) hB, List.length_map, List.length_cons, Nat.add_mul]
    omega
theorem crossL_sup {F G : Nat → Bool} {A B : List CubeT} (hA : ∀ c ∈ A, supB F c) (hB : ∀ d ∈ B, supB G d) : ∀ c ∈ crossL A B, supB (fun i => F i || G i) c := fun c hc => by
  unfold crossL at hc
  rw [List.mem_flatMap] at hc
  obtain ⟨a, ha, hd⟩ := hc
  unfold crossR at hd
  rw [List.mem_map] at hd
  obtain ⟨b, hb, rfl⟩ := hd
  rw [List.mem_filter] at hb
  intro i hi h
  rw [show bt (meetM a.2 b.2) i = (bt a.2 i || bt b.2 i) from mk_bt _ i hi, Bool.or_eq_true] at h
  show (F i || G i) = true
  rw [Bool.or_eq_true]
  rcases h with h | h
  · exact .inl (hA a ha i hi h)
  · exact .inr (hB b hb.1 i hi h)
theorem sup_px {F : Nat → Bool} (f : Int) (v k : Nat) (hF : ∀ i, 8 * atOf f ≤ i → i < 8 * atOf f + k → F i = true) : supB F (pxV f v k, pxM f k) := fun i hi h => by
  rw [show bt (pxM f k) i = _ from frM_bt _ _ i hi, decide_eq_true_eq] at h
  exact hF i h.1 h.2
theorem sup_all (F : Nat → Bool) : supB F allC := fun i hi h => by
  have h2 : bt Z i = false := mk_bt (fun _ => false) i hi
  rw [show allC.2 = Z from rfl, h2] at h
  cases h
/-- An entry whose numbers can be. -/
def canB (x : Ent) : Bool := isR x.slow x.shigh && isR x.dlow x.dhigh && (decide (-1 ≤ x.proto) && decide (x.proto ≤ 255))
theorem sup_pref {F : Nat → Bool} (f v n : Int) (hF : ∀ i, 8 * atOf f ≤ i → i < 8 * atOf f + 32 → F i = true) : ∀ c ∈ prefL f v n, supB F c := fun c hc => by
  have hk : clip8 n ≤ 32 := by unfold clip8; omega
  unfold prefL at hc
  rw [List.mem_singleton] at hc
  subst hc
  exact sup_px f _ _ fun i h1 h2 => hF i h1 (by omega)
theorem sup_prot {F : Nat → Bool} (n : Int) (hF : ∀ i, 96 ≤ i → i < 104 → F i = true) : ∀ c ∈ protL n, supB F c := fun c hc => by
  unfold protL at hc
  split at hc
  · rw [List.mem_singleton] at hc; subst hc; exact sup_all F
  · split at hc
    · rw [List.mem_singleton] at hc; subst hc; exact sup_px 4 _ _ fun i h1 h2 => hF i h1 h2
    · simp at hc
theorem sup_port {F : Nat → Bool} (f l h : Int) (hF : ∀ i, 8 * atOf f ≤ i → i < 8 * atOf f + 16 → F i = true) : ∀ c ∈ portP f l h, supB F c := fun c hc => by
  unfold portP at hc
  split at hc
  · unfold portC at hc
    rw [List.mem_map] at hc
    obtain ⟨p, hp, rfl⟩ := hc
    obtain ⟨k, hk⟩ := List.mem_iff_getElem?.1 hp
    have := ran_mem hk
    exact sup_px f _ _ fun i h1 h2 => hF i h1 (by omega)
  · simp at hc
theorem portP_len (f l h : Int) (hf : f = 2 ∨ f = 3) : (portP f l h).length = (ran l h).length := by
  unfold portP
  rw [show decide (f = 2 ∨ f = 3) = true from decide_eq_true hf, Bool.true_and]
  split
  · exact portC_len _ _
  · next c => rw [ran, if_neg c]; rfl
theorem ran_none {l h : Int} (c : isR l h = false) : ran l h = [] := by rw [ran, if_neg (by rw [c]; decide)]
/-- The cubes of an entry's first three clauses: at most one. -/
def baseL (x : Ent) : List CubeT := crossL (crossL (crossL [allC] (prefL 0 x.src x.srcBits)) (prefL 1 x.dst x.dstBits)) (protL x.proto)
theorem five_base (x : Ent) : meetsL (five8 x) = crossL (crossL (baseL x) (portP 2 x.slow x.shigh)) (portP 3 x.dlow x.dhigh) := by
  unfold meetsL five8 baseL
  rw [List.foldl_cons, List.foldl_cons, List.foldl_cons, List.foldl_cons, List.foldl_cons, List.foldl_nil]
def f014 (i : Nat) : Bool := decide (i < 64) || decide (96 ≤ i)
theorem base_sup (x : Ent) : ∀ c ∈ baseL x, supB f014 c := fun c hc => by
  have h1 := crossL_sup (F := fun _ => false) (G := fun i => decide (i < 32)) (A := [allC]) (B := prefL 0 x.src x.srcBits) (fun c hc => by rw [List.mem_singleton.1 hc]; exact sup_all _) (sup_pref 0 _ _ fun i h1 h2 => decide_eq_true (by rw [show 8 * atOf 0 = 0 from rfl] at h2; omega))
  have h2 := crossL_sup h1 (sup_pref (F := fun i => decide (32 ≤ i ∧ i < 64)) 1 x.dst x.dstBits fun i h1 h2 => decide_eq_true (by rw [show 8 * atOf 1 = 32 from rfl] at h1 h2; omega))
  have h3 := crossL_sup h2 (sup_prot (F := fun i => decide (96 ≤ i)) x.proto fun i h1 h2 => decide_eq_true (by omega)) c hc
  intro i hi h
  have := h3 i hi h
  unfold f014
  simp only [Bool.or_eq_true, decide_eq_true_eq, Bool.false_eq_true, false_or] at this ⊢
  omega
theorem base_len (x : Ent) : (baseL x).length = (protL x.proto).length := by
  have s0 : ∀ c ∈ [allC], supB (fun _ => false) c := fun c hc => by rw [List.mem_singleton.1 hc]; exact sup_all _
  have s1 := sup_pref (F := fun i => decide (i < 32)) 0 x.src x.srcBits fun i h1 h2 => decide_eq_true (by rw [show 8 * atOf 0 = 0 from rfl] at h2; omega)
  have s2 := sup_pref (F := fun i => decide (32 ≤ i ∧ i < 64)) 1 x.dst x.dstBits fun i h1 h2 => decide_eq_true (by rw [show 8 * atOf 1 = 32 from rfl] at h1 h2; omega)
  have s3 := sup_prot (F := fun i => decide (96 ≤ i)) x.proto fun i h1 h2 => decide_eq_true (by omega)
  have h1 := crossL_sup s0 s1
  have h2 := crossL_sup h1 s2
  unfold baseL
  rw [crossL_many (fun i a b => by simp only [Bool.or_eq_true, decide_eq_true_eq, Bool.false_eq_true, false_or] at a b; omega) s3 h2, crossL_many (fun i a b => by simp only [Bool.or_eq_true, decide_eq_true_eq, Bool.false_eq_true, false_or] at a b; omega) s2 h1, crossL_many (fun i a b => by cases a) s1 s0]
  simp [prefL]
theorem prot_len (n : Int) : (protL n).length = if -1 ≤ n ∧ n ≤ 255 then 1 else 0 := by
  unfold protL
  by_cases h : n = -1
  · rw [if_pos h, if_pos (by omega)]; rfl
  · rw [if_neg h]
    by_cases h2 : 0 ≤ n ∧ n ≤ 255
    · rw [if_pos h2, if_pos (by omega)]; rfl
    · rw [if_neg h2, if_neg (by omega)]; rfl
theorem sup_p2 (x : Ent) : ∀ c ∈ portP 2 x.slow x.shigh, supB (fun i => decide (64 ≤ i ∧ i < 80)) c := sup_port 2 _ _ fun i h1 h2 => decide_eq_true (by rw [show 8 * atOf 2 = 64 from rfl] at h1 h2; omega)
theorem sup_p3 (x : Ent) : ∀ c ∈ portP 3 x.dlow x.dhigh, supB (fun i => decide (80 ≤ i ∧ i < 96)) c := sup_port 3 _ _ fun i h1 h2 => decide_eq_true (by rw [show 8 * atOf 3 = 80 from rfl] at h1 h2; omega)
theorem base_two : ∀ i, f014 i = true → decide (64 ≤ i ∧ i < 80) = true → False := fun i a b => by unfold f014 at a; simp only [Bool.or_eq_true, decide_eq_true_eq] at a b; omega
theorem base_three : ∀ i, (f014 i || decide (64 ≤ i ∧ i < 80)) = true → decide (80 ≤ i ∧ i < 96) = true → False := fun i a b => by unfold f014 at a; simp only [Bool.or_eq_true, decide_eq_true_eq] at a b; omega
/-- How many cubes an entry has. -/
theorem cubes_len (x : Ent) : (cubesT x).length = if x.dflt then 1 else if canB x then (ran x.slow x.shigh).length * (ran x.dlow x.dhigh).length else 0 := by
  unfold cubesT
  cases hd : x.dflt with
  | true => rfl
  | false =>
    rw [if_neg (by decide), if_neg (by decide), five_base, crossL_many base_three (sup_p3 x) (crossL_sup (base_sup x) (sup_p2 x)), crossL_many base_two (sup_p2 x) (base_sup x), base_len, prot_len, portP_len 2 _ _ (.inl rfl), portP_len 3 _ _ (.inr rfl)]
    unfold canB
    by_cases h1 : isR x.slow x.shigh = true
    · by_cases h2 : isR x.dlow x.dhigh = true
      · by_cases h3 : -1 ≤ x.proto ∧ x.proto ≤ 255
        · rw [h1, h2, if_pos h3, if_pos (by simp [h3]), Nat.one_mul]
        · rw [if_neg h3, if_neg (by simp only [Bool.and_eq_true, decide_eq_true_eq]; omega), Nat.zero_mul, Nat.zero_mul]
      · have h2' : isR x.dlow x.dhigh = false := by simpa using h2
        rw [ran_none h2', h2']
        simp
    · have h1' : isR x.slow x.shigh = false := by simpa using h1
      rw [ran_none h1', h1']
      simp

/-- Cubes that have no header in common. -/
def noBoth (c d : CubeT) : Prop := ∀ H, has c.1 c.2 H = true → has d.1 d.2 H = true → False
theorem noBoth_of {c d : CubeT} (h : meets c.1 c.2 d.1 d.2 = false) : noBoth c d := fun H h1 h2 => by
  rw [has_meets h1 h2] at h; cases h
theorem mem_crossR {a b : CubeT} {B : List CubeT} (h : b ∈ crossR a B) : ∃ d ∈ B, ∀ H, has b.1 b.2 H = true → has a.1 a.2 H = true ∧ has d.1 d.2 H = true := by
  unfold crossR at h
  rw [List.mem_map] at h
  obtain ⟨d, hd, rfl⟩ := h
  rw [List.mem_filter] at hd
  refine ⟨d, hd.1, fun H h => ?_⟩
  rw [has_meet _ _ _ _ _ hd.2, Bool.and_eq_true] at h
  exact h
theorem crossR_apart {c : CubeT} {B : List CubeT} (hB : B.Pairwise noBoth) : (crossR c B).Pairwise noBoth := by
  unfold crossR
  rw [List.pairwise_map]
  refine List.Pairwise.imp_of_mem ?_ (hB.filter _)
  intro a b ha hb hab H h1 h2
  rw [has_meet _ _ _ _ _ (List.mem_filter.1 ha).2, Bool.and_eq_true] at h1
  rw [has_meet _ _ _ _ _ (List.mem_filter.1 hb).2, Bool.and_eq_true] at h2
  exact hab H h1.2 h2.2
theorem crossL_apart {A B : List CubeT} (hA : A.Pairwise noBoth) (hB : B.Pairwise noBoth) : (crossL A B).Pairwise noBoth := by
  unfold crossL
  rw [List.pairwise_flatMap]
  refine ⟨fun c _ => crossR_apart hB, hA.imp fun hab x hx y hy H h1 h2 => ?_⟩
  obtain ⟨_, _, p⟩ := mem_crossR hx
  obtain ⟨_, _, q⟩ := mem_crossR hy
  exact hab H (p H h1).1 (q H h2).1
theorem apart_pw {C : List CubeT} (h : Apart C) : C.Pairwise noBoth := by
  rw [List.pairwise_iff_getElem]
  intro i j hi hj hij
  exact noBoth_of (h i j C[i].1 C[i].2 C[j].1 C[j].2 hij (List.getElem?_eq_getElem hi) (List.getElem?_eq_getElem hj))
theorem portP_apart (f l h : Int) (hf : f = 2 ∨ f = 3) : (portP f l h).Pairwise noBoth := by
  unfold portP
  split
  · next c => exact apart_pw (apart_ports f l h hf (by rw [Bool.and_eq_true] at c; exact c.2))
  · exact List.Pairwise.nil
theorem few_apart {C : List CubeT} (h : C.length ≤ 1) : C.Pairwise noBoth := by
  match C, h with
  | [], _ => exact List.Pairwise.nil
  | [c], _ => exact List.pairwise_singleton _ _
theorem cubes_apart (x : Ent) : (cubesT x).Pairwise noBoth := by
  unfold cubesT
  split
  · exact List.pairwise_singleton _ _
  · rw [five_base]
    refine crossL_apart (crossL_apart (few_apart ?_) (portP_apart 2 _ _ (.inl rfl))) (portP_apart 3 _ _ (.inr rfl))
    rw [base_len, prot_len]
    split <;> omega
end Go.Proofs.YtnbklmmampdbfaaGreatDoor
