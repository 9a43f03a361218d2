import Derived.Test.YtnbklmmampdbfaaDoorJ2
import Derived.Test.YtnbklmmampdbfaaDoorJ5
import Derived.Test.YtnbklmmampdbfaaDoorJ3
import Derived.Test.YtnbklmmampdbfaaDoorJ1
import Derived.Laws.ResultCell
import Derived.Test.YtnbklmmampdbfaaDoorJ4
namespace Go.Proofs.YtnbklmmampdbfaaDoor
open Go
set_option maxRecDepth 20000

/-- The best so far with one entry more. -/
def stepB (ap : Ent → Bool) (b : Option (Nat × Int)) (i : Nat) (x : Ent) : Option (Nat × Int) := if !x.dflt && ap x && beats x.prio b then some (i, x.prio) else b
theorem bestGo_snoc (ap : Ent → Bool) (x : Ent) : ∀ (l : List Ent) (i : Nat) (b : Option (Nat × Int)), bestGo ap i b (l ++ [x]) = stepB ap (bestGo ap i b l) (i + l.length) x
  | [], i, b => rfl
  | y :: l, i, b => by
    rw [List.cons_append, bestGo, bestGo, bestGo_snoc ap x l (i + 1)]
    rw [show i + 1 + l.length = i + (y :: l).length by simp; omega]
theorem firstD_snoc (x : Ent) : ∀ (l : List Ent) (i : Nat), firstD i (l ++ [x]) = (firstD i l).or (if x.dflt then some (i + l.length) else none)
  | [], i => by simp [firstD]
  | y :: l, i => by
    rw [List.cons_append, firstD, firstD]
    split
    · rfl
    · rw [firstD_snoc x l (i + 1), show i + 1 + l.length = i + (y :: l).length by simp; omega]
def bestK (ap : Ent → Bool) (l : List Ent) (k : Nat) : Option (Nat × Int) := bestGo ap 0 none (l.take k)
def restK (l : List Ent) (k : Nat) : Option Nat := firstD 0 (l.take k)
theorem bestK_next (ap : Ent → Bool) {l : List Ent} {k : Nat} {x : Ent} (h : l[k]? = some x) : bestK ap l (k + 1) = stepB ap (bestK ap l k) k x := by
  obtain ⟨hk, rfl⟩ := List.getElem?_eq_some_iff.1 h
  unfold bestK
  rw [List.take_succ_eq_append_getElem hk, bestGo_snoc, List.length_take, Nat.min_eq_left (Nat.le_of_lt hk), Nat.zero_add]
theorem restK_next {l : List Ent} {k : Nat} {x : Ent} (h : l[k]? = some x) : restK l (k + 1) = (restK l k).or (if x.dflt then some k else none) := by
  obtain ⟨hk, rfl⟩ := List.getElem?_eq_some_iff.1 h
  unfold restK
  rw [List.take_succ_eq_append_getElem hk, firstD_snoc, List.length_take, Nat.min_eq_left (Nat.le_of_lt hk), Nat.zero_add]
theorem bestK_in (ap : Ent → Bool) {l : List Ent} {k j : Nat} {p : Int} (h : bestK ap l k = some (j, p)) : ∃ x, l[j]? = some x ∧ x.prio = p ∧ x.dflt = false ∧ ap x = true ∧ j < k := by
  unfold bestK at h
  obtain ⟨x, h1, h2, h3, h4⟩ := bestGo_in ap (l.take k) (l.take k) 0 none (fun k => by rw [Nat.zero_add]) (fun j p hjp => by cases hjp) j p h
  have hj : j < k := by
    have := (List.getElem?_eq_some_iff.1 h1).1
    rw [List.length_take] at this
    omega
  rw [List.getElem?_take_of_lt hj] at h1
  exact ⟨x, h1, h2, h3, h4, hj⟩
/-- A place, or -1. -/
def atW : Option Nat → Int
  | none => -1
  | some i => (i : Int)
def bestI (b : Option (Nat × Int)) : Int := atW (b.map (·.1))
def whichI (ap : Ent → Bool) (l : List Ent) : Int := atW (whichT ap l)
theorem whichI_eq (ap : Ent → Bool) (l : List Ent) : whichI ap l = if bestI (bestK ap l l.length) < 0 then atW (restK l l.length) else bestI (bestK ap l l.length) := by
  unfold whichI whichT bestK restK
  rw [List.take_length]
  cases bestGo ap 0 none l with
  | none => rfl
  | some b =>
    obtain ⟨i, p⟩ := b
    rw [if_neg (by show ¬ ((i : Int) < 0); omega)]
    rfl
theorem atW_lt (o : Option Nat) : decide (atW o < 0) = o.isNone := by
  cases o with
  | none => rfl
  | some i => exact decide_eq_false (by show ¬ ((i : Int) < 0); omega)
theorem firstD_lt : ∀ (l : List Ent) (i j : Nat), firstD i l = some j → i ≤ j ∧ ∃ x, l[j - i]? = some x ∧ x.dflt = true
  | [], i, j, h => by simp [firstD] at h
  | y :: l, i, j, h => by
    rw [firstD] at h
    split at h
    · rename_i hy
      obtain rfl := Option.some.inj h
      exact ⟨Nat.le_refl _, y, by rw [Nat.sub_self]; rfl, hy⟩
    · obtain ⟨h1, x, h2, h3⟩ := firstD_lt l (i + 1) j h
      refine ⟨by omega, x, ?_, h3⟩
      rw [show j - i = (j - (i + 1)) + 1 by omega, List.getElem?_cons_succ]
      exact h2
theorem whichT_in {ap : Ent → Bool} {l : List Ent} {i : Nat} (h : whichT ap l = some i) : ∃ x, l[i]? = some x := by
  unfold whichT at h
  cases hb : bestGo ap 0 none l with
  | none =>
    rw [hb] at h
    obtain ⟨_, x, h2, _⟩ := firstD_lt l 0 i h
    exact ⟨x, h2⟩
  | some b =>
    obtain ⟨j, p⟩ := b
    rw [hb] at h
    obtain rfl := Option.some.inj h
    obtain ⟨x, h1, _⟩ := bestGo_in ap l l 0 none (fun k => by rw [Nat.zero_add]) (fun j p hjp => by cases hjp) _ _ hb
    exact ⟨x, h1⟩
/-- What a list says. -/
def saysT (ap : Ent → Bool) (l : List Ent) : Int × Bool := match whichT ap l with
  | none => (0, false)
  | some i => ((l.getD i ⟨false, 0, 0, 0, 0, 0, 0, 0, 0, 0, 0, 0⟩).action, true)
/-- No entry beats the best one. -/
def lessB (b : Option (Nat × Int)) (i : Nat) (p : Int) : Prop := match b with
  | none => False
  | some (j, q) => p < q ∨ p = q ∧ j ≤ i
theorem bestK_most (ap : Ent → Bool) (l : List Ent) : ∀ (k : Nat), k ≤ l.length → ∀ (i : Nat) (x : Ent), i < k → l[i]? = some x → x.dflt = false → ap x = true → lessB (bestK ap l k) i x.prio
  | 0, _, i, x, h, _, _, _ => by omega
  | k + 1, hk, i, x, hi, hx, hd, ha => by
    have hy : l[k]? = some l[k] := List.getElem?_eq_getElem (by omega)
    rw [bestK_next ap hy]
    obtain ⟨y, hye⟩ : ∃ y, y = l[k] := ⟨_, rfl⟩
    rw [← hye] at hy ⊢
    unfold stepB
    by_cases hik : i = k
    · subst hik
      obtain rfl : x = y := Option.some.inj (hx.symm.trans hy)
      rw [hd, ha]
      simp only [Bool.not_false, Bool.true_and]
      cases hb : bestK ap l i with
      | none => rw [if_pos (show beats x.prio none = true from rfl)]; exact .inr ⟨rfl, Nat.le_refl _⟩
      | some b =>
        obtain ⟨j, q⟩ := b
        obtain ⟨_, _, _, _, _, hj⟩ := bestK_in ap hb
        by_cases hq : q < x.prio
        · rw [if_pos (by simp [beats, hq])]; exact .inr ⟨rfl, Nat.le_refl _⟩
        · rw [if_neg (by simp [beats, hq])]
          show x.prio < q ∨ x.prio = q ∧ j ≤ i
          omega
    · have ih := bestK_most ap l k (by omega) i x (by omega) hx hd ha
      cases hb : bestK ap l k with
      | none => rw [hb] at ih; exact ih.elim
      | some b =>
        obtain ⟨j, q⟩ := b
        rw [hb] at ih
        have ih' : x.prio < q ∨ x.prio = q ∧ j ≤ i := ih
        split
        · rename_i hc
          simp only [Bool.and_eq_true, beats, decide_eq_true_eq] at hc
          show x.prio < y.prio ∨ x.prio = y.prio ∧ k ≤ i
          omega
        · exact ih'
/-- What is asked of the entries that apply, against the one that says something. -/
theorem which_most (ap : Ent → Bool) (l : List Ent) {i k : Nat} {y x : Ent} (hw : whichT ap l = some i) (hy : l[i]? = some y) (hx : l[k]? = some x) (hd : x.dflt = false) (ha : ap x = true) : y.dflt = false ∧ ¬ y.prio < x.prio ∧ ¬ (x.prio = y.prio ∧ k < i) := by
  have hk := (List.getElem?_eq_some_iff.1 hx).1
  have h1 := bestK_most ap l l.length (Nat.le_refl _) k x hk hx hd ha
  cases hb : bestK ap l l.length with
  | none => rw [hb] at h1; exact h1.elim
  | some b =>
    obtain ⟨j, q⟩ := b
    obtain ⟨z, hz, hq, hzd, _, _⟩ := bestK_in ap hb
    have hw2 : whichT ap l = some j := by
      unfold whichT
      unfold bestK at hb
      rw [List.take_length] at hb
      rw [hb]
    rw [hw] at hw2
    obtain rfl := Option.some.inj hw2
    obtain rfl : y = z := Option.some.inj (hy.symm.trans hz)
    rw [hb] at h1
    have h2 : x.prio < q ∨ x.prio = q ∧ i ≤ k := h1
    refine ⟨hzd, ?_, ?_⟩ <;> omega

/-! First bits. -/
def clB (n : Int) : Nat := (min (max n 0) 32).toNat
def beginsM (a b n : Int) : Bool := a / 2 ^ (32 - clB n) == b / 2 ^ (32 - clB n)
theorem begins_zero (a b : Int) (ha : 0 ≤ a ∧ a < 4294967296) (hb : 0 ≤ b ∧ b < 4294967296) : a / 2 ^ 32 = b / 2 ^ 32 := by
  have e : (2 : Int) ^ 32 = 4294967296 := by decide
  rw [e]; omega
theorem begins_step (a b : Int) (k : Nat) (hk : k < 32) (h : a / 2 ^ (32 - k) = b / 2 ^ (32 - k)) : (a / 2 ^ (32 - (k + 1)) = b / 2 ^ (32 - (k + 1))) ↔ a / 2 ^ (31 - k) % 2 = b / 2 ^ (31 - k) % 2 := by
  rw [show 32 - (k + 1) = 31 - k by omega]
  have e : ∀ x : Int, x / 2 ^ (32 - k) = x / 2 ^ (31 - k) / 2 := fun x => by
    rw [show 32 - k = (31 - k) + 1 by omega, Int.pow_succ, ← Int.ediv_ediv_of_nonneg (Int.pow_nonneg (by decide))]
  rw [e, e] at h
  constructor
  · intro hh; rw [hh]
  · intro hh; omega
theorem begins_more (a b : Int) (k m : Nat) (hkm : k ≤ m) (hm : m ≤ 32) (h : ¬ a / 2 ^ (32 - k) = b / 2 ^ (32 - k)) : ¬ a / 2 ^ (32 - m) = b / 2 ^ (32 - m) := by
  intro hh
  apply h
  have e : ∀ x : Int, x / 2 ^ (32 - k) = x / 2 ^ (32 - m) / 2 ^ (m - k) := fun x => by
    rw [Int.ediv_ediv_of_nonneg (Int.pow_nonneg (by decide)), ← Int.pow_add, show 32 - m + (m - k) = 32 - k by omega]
  rw [e, e, hh]
end Go.Proofs.YtnbklmmampdbfaaDoor
namespace Go.Proofs.YtnbklmmampdbfaaDoor
open Go Go.RowKit
set_option maxRecDepth 20000

theorem u32_xor7 (a b : Nat) (ha : a < 4294967296) (hb : b < 4294967296) : bits .xor .u32 (a : Int) (b : Int) = ((a ^^^ b : Nat) : Int) := by
  have hx : a ^^^ b < 2 ^ 32 := Nat.xor_lt_two_pow (by omega) (by omega)
  have ha' : a % 2 ^ IntKind.u32.bits = a := Nat.mod_eq_of_lt (by simpa [IntKind.bits] using ha)
  have hb' : b % 2 ^ IntKind.u32.bits = b := Nat.mod_eq_of_lt (by simpa [IntKind.bits] using hb)
  simp only [bits, BitVec.ofInt_natCast, BitVec.toNat_xor, BitVec.toNat_ofNat, ha', hb', IntKind.wrap_u32]
  omega
theorem xor_begins (a b : Int) (k : Nat) (ha : 0 ≤ a ∧ a < 4294967296) (hb : 0 ≤ b ∧ b < 4294967296) : (bits .xor .u32 a b / 2 ^ k == 0) = (a / 2 ^ k == b / 2 ^ k) := by
  obtain ⟨m, rfl⟩ := Int.eq_ofNat_of_zero_le ha.1
  obtain ⟨n, rfl⟩ := Int.eq_ofNat_of_zero_le hb.1
  rw [u32_xor7 m n (by omega) (by omega)]
  have c : ∀ x : Nat, ((x : Int) / 2 ^ k) = ((x >>> k : Nat) : Int) := fun x => by rw [Nat.shiftRight_eq_div_pow]; simp
  rw [c, c, c, Nat.shiftRight_xor_distrib, Bool.eq_iff_iff, beq_iff_eq, beq_iff_eq]
  constructor
  · intro h
    have : (m >>> k) ^^^ (n >>> k) = 0 := by exact_mod_cast h
    have h2 : ((m >>> k) ^^^ (n >>> k)) ^^^ (n >>> k) = 0 ^^^ (n >>> k) := by rw [this]
    rw [Nat.xor_assoc, Nat.xor_self, Nat.xor_zero, Nat.zero_xor] at h2
    rw [h2]
  · intro h
    have : m >>> k = n >>> k := by exact_mod_cast h
    rw [this, Nat.xor_self]; rfl
theorem xor_bd (a b : Int) (ha : 0 ≤ a ∧ a < 4294967296) (hb : 0 ≤ b ∧ b < 4294967296) : 0 ≤ bits .xor .u32 a b ∧ bits .xor .u32 a b < 4294967296 := by
  obtain ⟨m, rfl⟩ := Int.eq_ofNat_of_zero_le ha.1
  obtain ⟨n, rfl⟩ := Int.eq_ofNat_of_zero_le hb.1
  rw [u32_xor7 m n (by omega) (by omega)]
  have hx : m ^^^ n < 2 ^ 32 := Nat.xor_lt_two_pow (by omega) (by omega)
  omega

/-- A field's number. -/
def fldN (L : List Int) (f : Int) : Int := getN L (atOf f) (sizeOfF f)
theorem fldN_bd (L : List Int) (hL : Byt L) (f : Int) (h0 : 0 ≤ f) (h1 : f < 5) : 0 ≤ fldN L f ∧ fldN L f < 4294967296 := by
  have h := getN_bd L hL (atOf f) (sizeOfF f)
  have hs := (place_facts f h0 h1).2.2.2.1
  have : (256 : Int) ^ sizeOfF f ≤ 4294967296 := by
    rcases (show sizeOfF f = 0 ∨ sizeOfF f = 1 ∨ sizeOfF f = 2 ∨ sizeOfF f = 3 ∨ sizeOfF f = 4 by omega) with h | h | h | h | h <;> rw [h] <;> decide
  unfold fldN
  omega
end Go.Proofs.YtnbklmmampdbfaaDoor
namespace Go.Proofs.YtnbklmmampdbfaaDoor
open Go Go.RowKit
set_option maxRecDepth 20000

def applyR (L : List Int) (x : Ent) : Bool := beginsM (fldN L 0) x.src x.srcBits && beginsM (fldN L 1) x.dst x.dstBits && (decide (x.slow ≤ fldN L 2) && decide (fldN L 2 ≤ x.shigh)) && (decide (x.dlow ≤ fldN L 3) && decide (fldN L 3 ≤ x.dhigh)) && (x.proto == -1 || x.proto == fldN L 4)
/-- Does an entry apply to a header? -/
def applyT (L : List Int) (x : Ent) : Bool := x.dflt || applyR L x
/-- An entry's addresses are numbers of 32 bits. -/
def ent32 (x : Ent) : Prop := (0 ≤ x.src ∧ x.src < 4294967296) ∧ (0 ≤ x.dst ∧ x.dst < 4294967296)
theorem ent_f {w : World} {b : Nat} {x : Ent} {ty : TypeId} {fr : Nat × Nat} (h : w.heap[b]? = some (.cells (entV x) ty fr)) :
    w.cell? ⟨b, 0, none⟩ = some (.bool x.dflt) ∧ w.cell? ⟨b, 1, none⟩ = some (.int .i64 x.prio) ∧ w.cell? ⟨b, 11, none⟩ = some (.int .i64 x.action) := by
  refine ⟨?_, ?_, ?_⟩ <;> (rw [cell_of_row _ _ _ _ _ _ h]; rfl)

end Go.Proofs.YtnbklmmampdbfaaDoor
namespace Go.Proofs.YtnbklmmampdbfaaDoor
open Go Go.RowKit
set_option maxRecDepth 20000

/-- The rows of a list: those that are not default by the falling priority, then the default ones. -/
def RowsOf (l R : List Ent) : Prop := ∃ S, Sorted8 (l.filter fun x => !x.dflt) S ∧ R = S ++ l.filter fun x => x.dflt
theorem rowsOf_one {l R R' : List Ent} (h : RowsOf l R) (h' : RowsOf l R') : R = R' := by
  obtain ⟨S, h1, rfl⟩ := h
  obtain ⟨S', h2, rfl⟩ := h'
  rw [desc_one S S' h1.desc h2.desc (h1.alike.trans h2.alike.symm)]
theorem RowsOf.mem {l R : List Ent} (h : RowsOf l R) (x : Ent) : x ∈ R ↔ x ∈ l := by
  obtain ⟨S, h1, rfl⟩ := h
  rw [List.mem_append, h1.alike.mem, List.mem_filter, List.mem_filter]
  cases x.dflt <;> simp
theorem rows_len_le {l : List Ent} (k : Nat) (q : Ent → Bool) : ((l.take k).filter q).length ≤ k := Nat.le_trans (List.length_filter_le _ _) (by rw [List.length_take]; omega)
theorem filter_take_yes {l : List Ent} {k : Nat} {x : Ent} {q : Ent → Bool} (h : l[k]? = some x) (hq : q x = true) : (l.take (k + 1)).filter q = (l.take k).filter q ++ [x] := by
  rw [List.take_add_one, h, List.filter_append]
  simp [hq]
theorem filter_take_no {l : List Ent} {k : Nat} {x : Ent} {q : Ent → Bool} (h : l[k]? = some x) (hq : q x = false) : (l.take (k + 1)).filter q = (l.take k).filter q := by
  rw [List.take_add_one, h, List.filter_append]
  simp [hq]

theorem own_by2 {w w' : World} {B : Nat} {e : TypeId} {s : Nat} {v : Value} {n : Nat} {xs : List Value} {row : Option Nat} (h : w.ownsRow B e s v n xs) (hg : w.grownBy w' row) (hne : v.ownBlock = none ∨ row = none ∨ v.ownBlock ≠ row) : w'.ownsRow B e s v n xs := by
  obtain ⟨h1, h2 | ⟨g, cap, cur, rfl, hB, hcur, h3⟩⟩ := h
  · exact ⟨h1, .inl h2⟩
  · refine ⟨h1, .inr ⟨g, cap, cur, rfl, hB, (hg.block g (Array.getElem?_eq_some_iff.1 hcur).1 ?_).trans hcur, h3⟩⟩
    intro e
    rcases hne with h | h | h
    · cases h
    · rw [h] at e; cases e
    · exact h e
/-- Two rows of one's own lie apart. -/
def Apart8 (a b : Option Nat) : Prop := a = none ∨ b = none ∨ a ≠ b
theorem Apart8.symm {a b : Option Nat} (h : Apart8 a b) : Apart8 b a := by
  rcases h with h | h | h
  · exact .inr (.inl h)
  · exact .inl h
  · exact .inr (.inr fun e => h e.symm)
theorem apart_new {w : World} {B : Nat} {e : TypeId} {s n : Nat} {v u u' : Value} {xs : List Value} (h : w.ownsRow B e s v n xs) (ha : Apart8 u.ownBlock v.ownBlock) (hu : u'.ownBlock = u.ownBlock ∨ u'.ownBlock = some w.heap.size) : Apart8 u'.ownBlock v.ownBlock := by
  rcases hu with hu | hu
  · rw [hu]; exact ha
  · refine .inr (.inr fun e => ?_)
    rw [hu] at e
    have := (h.lt _ e.symm).2
    omega

set_option maxHeartbeats 16000000 in
set_option maxRecDepth 100000 in
theorem rows_any (l : List Ent) (vl : Value) (w : World) (hl : EntsAt w vl l) (hn : l.length ≤ 100000) :
    Calls Tryd.prog 33 #[vl] w fun e w' => (∃ v R, e = .returned v ∧ RowsOf l R ∧ w'.ownsRow w.heap.size 47 12 v R.length (gcells entV R)) ∧ Below w.heap.size w w' := by
  obtain ⟨o, cap, rfl, hc1, hc2⟩ := GSl.slice hl
  obtain ⟨n, hn0⟩ : ∃ n, n = l.length := ⟨_, rfl⟩
  have HN : Hid (n = l.length) := hn0
  rw [← hn0] at hl hc1 hn ⊢
  have HL : Hid (EntsAt w (.slice o n cap) l) := hl
  unfold maxLen at hc2
  have ST : Hid (∀ (m : List Ent) v W, W.ownsRow w.heap.size 47 12 v m.length (gcells entV m) → m.length ≤ 1000000 → Calls Tryd.prog 51 #[v, .func (.func 52) #[] #[]] W fun e w' => e = .returned (.tuple #[]) ∧ ∃ m', Sorted8 m m' ∧ w'.ownsRow w.heap.size 47 12 v m'.length (gcells entV m') ∧ W.grownBy w' v.ownBlock) := fun m v W h1 h2 => sortStable_any _ m v W h1 h2
  clear hl hn0
  go_enter Tryd.func33, Tryd.ntmps33
  go_wp2_with fail
  go_loopw [3, 4, 9] (fun v1 v2 i wr => ∃ (k : Nat) (m1 m2 : List Ent), k ≤ n ∧ i = .int .i64 (k : Int) ∧ Hid (m1 = (l.take k).filter fun x => !x.dflt) ∧ Hid (m2 = (l.take k).filter fun x => x.dflt) ∧ wr.ownsRow w.heap.size 47 12 v1 m1.length (gcells entV m1) ∧ wr.ownsRow w.heap.size 47 12 v2 m2.length (gcells entV m2) ∧ Apart8 v1.ownBlock v2.ownBlock ∧ Below w.heap.size w wr) (fun _ _ i _ => n - (intOf i).toNat)
  case atStart => exact ⟨0, [], [], Nat.zero_le _, rfl, rfl, rfl, World.ownsRow_nil _ _ _ _, World.ownsRow_nil _ _ _ _, .inl rfl, Below.refl _ _⟩
  case round =>
    obtain ⟨k, m1, m2, hk, rfl, E1, E2, ho1, ho2, hne, hb⟩ := hrel
    have O1 : Hid (wr.ownsRow w.heap.size 47 12 u3 m1.length (gcells entV m1)) := ho1
    have O2 : Hid (wr.ownsRow w.heap.size 47 12 u4 m2.length (gcells entV m2)) := ho2
    have NE : Hid (Apart8 u3.ownBlock u4.ownBlock) := hne
    have HB : Hid (Below w.heap.size w wr) := hb
    have ML1 : Hid (m1.length ≤ 100000) := by have := rows_len_le (l := l) k fun x => !x.dflt; rw [← E1.out] at this; exact (by omega : m1.length ≤ 100000)
    have ML2 : Hid (m2.length ≤ 100000) := by have := rows_len_le (l := l) k fun x => x.dflt; rw [← E2.out] at this; exact (by omega : m2.length ≤ 100000)
    clear ho1 ho2 hne hb
    by_cases hlt : k < n
    · have hlt' : (k : Int) < (n : Int) := by omega
      obtain ⟨g, off, cur, ty, fr, x, rfl, hg, hc, hxk⟩ := (GSl.below HL.out HB.out).at k hlt
      have K1 : Hid (wr.heap[g]? = some (.cells cur ty fr)) := hg
      have H1 : Hid (∀ j, j < 12 → cur[off + k * 12 + j]? = (entV x)[j]?) := hc
      have HX : Hid (l[k]? = some x) := hxk
      have KN : Hid ((wr.alloc (.cells (entV x) 47)).heap[wr.heap.size]? = some (.cells (entV x) 47 (0, 0))) := heap_new _ _ _ rfl
      have BWN : Hid (Below w.heap.size w ((wr.alloc (.cells (entV x) 47)).alloc (.cells (entV x) 47))) := (HB.out.alloc HB.out.size _).alloc (by have := HB.out.size; simp; omega) _
      have P1 : Hid (((wr.alloc (.cells (entV x) 47)).alloc (.cells (entV x) 47)).ownsRow w.heap.size 47 12 u3 m1.length (gcells entV m1)) := (O1.out.alloc _).alloc _
      have P2 : Hid (((wr.alloc (.cells (entV x) 47)).alloc (.cells (entV x) 47)).ownsRow w.heap.size 47 12 u4 m2.length (gcells entV m2)) := (O2.out.alloc _).alloc _
      have d0 := (ent_f KN.out).1
      clear hg hc hxk O1 O2
      cases hd : x.dflt with
      | true =>
        rw [hd] at d0
        have HD : Hid (x.dflt = true) := hd
        clear hd
        go_wp2_with (first
          | (refine wl_loadE (E := EntE) EntOk rfl _ rfl g (off + k * 12) rfl cur ty fr (entV x) rfl K1.out H1.out ?_)
          | (refine wl_loadE (E := EntE) EntOk rfl _ rfl wr.heap.size 0 rfl _ _ _ (entV x) rfl KN.out (own_cells _ _) ?_)
          | (refine wl_storeE (E := EntE) EntOk rfl _ _ rfl wr.heap.size (entV x) (ent_fits _) rfl rfl _ (heap_new _ _ _ rfl) rfl _ (setRow_new _ _ _ _ _ rfl) ?_)
          | (refine wl_buildE (E := EntE) EntOk rfl _ rfl (entV x) rfl rfl ?_)
          | (at_builtin; refine of_stopT ?_))
        unfold StopT
        refine wl_appendE (E := EntE) EntOk entV rfl _ _ rfl w.heap.size u4 m2 x (ent_fits _) rfl P2.out (wr.heap.size + 1) 1 rfl (heap_new _ _ _ (by simp)) (by have := ML2.out; omega) (by have := HB.out.size; simp; omega) ?_
        intro v' w3 hown3 hgr3 hv'
        have B3 : Hid (Below w.heap.size w w3) := BWN.out.trans ((Below.refl _ _).grown hgr3 BWN.out.size fun k hk => (P2.out.lt k hk).1)
        have O3 : Hid (w3.ownsRow w.heap.size 47 12 v' (m2 ++ [x]).length (gcells entV (m2 ++ [x]))) := hown3
        have Q3 : Hid (w3.ownsRow w.heap.size 47 12 u3 m1.length (gcells entV m1)) := own_by2 P1.out hgr3 (NE.out)
        have N3 : Hid (Apart8 u3.ownBlock v'.ownBlock) := (apart_new P1.out NE.out.symm hv').symm
        clear hown3 hgr3 hv'
        simp only [Act.put, List.setIfInBounds_toArray, List.set_cons_succ, List.set_cons_zero]
        go_wp2_with fail
        go_roundw
        case rel =>
          refine ⟨k + 1, m1, m2 ++ [x], by omega, by go_num, ?_, ?_, Q3.out, O3.out, N3.out, B3.out⟩
          · show _ = _
            rw [E1.out]; exact (filter_take_no HX.out (by rw [HD.out]; rfl)).symm
          · show _ = _
            rw [E2.out]; exact (filter_take_yes HX.out HD.out).symm
        case measure => simp [intOf]; omega
      | false =>
        rw [hd] at d0
        have HD : Hid (x.dflt = false) := hd
        clear hd
        go_wp2_with (first
          | (refine wl_loadE (E := EntE) EntOk rfl _ rfl g (off + k * 12) rfl cur ty fr (entV x) rfl K1.out H1.out ?_)
          | (refine wl_loadE (E := EntE) EntOk rfl _ rfl wr.heap.size 0 rfl _ _ _ (entV x) rfl KN.out (own_cells _ _) ?_)
          | (refine wl_storeE (E := EntE) EntOk rfl _ _ rfl wr.heap.size (entV x) (ent_fits _) rfl rfl _ (heap_new _ _ _ rfl) rfl _ (setRow_new _ _ _ _ _ rfl) ?_)
          | (refine wl_buildE (E := EntE) EntOk rfl _ rfl (entV x) rfl rfl ?_)
          | (at_builtin; refine of_stopT ?_))
        unfold StopT
        refine wl_appendE (E := EntE) EntOk entV rfl _ _ rfl w.heap.size u3 m1 x (ent_fits _) rfl P1.out (wr.heap.size + 1) 1 rfl (heap_new _ _ _ (by simp)) (by have := ML1.out; omega) (by have := HB.out.size; simp; omega) ?_
        intro v' w3 hown3 hgr3 hv'
        have B3 : Hid (Below w.heap.size w w3) := BWN.out.trans ((Below.refl _ _).grown hgr3 BWN.out.size fun k hk => (P1.out.lt k hk).1)
        have O3 : Hid (w3.ownsRow w.heap.size 47 12 v' (m1 ++ [x]).length (gcells entV (m1 ++ [x]))) := hown3
        have Q3 : Hid (w3.ownsRow w.heap.size 47 12 u4 m2.length (gcells entV m2)) := own_by2 P2.out hgr3 (NE.out.symm)
        have N3 : Hid (Apart8 v'.ownBlock u4.ownBlock) := apart_new P2.out NE.out hv'
        clear hown3 hgr3 hv'
        simp only [Act.put, List.setIfInBounds_toArray, List.set_cons_succ, List.set_cons_zero]
        go_wp2_with fail
        go_roundw
        case rel =>
          refine ⟨k + 1, m1 ++ [x], m2, by omega, by go_num, ?_, ?_, O3.out, Q3.out, N3.out, B3.out⟩
          · show _ = _
            rw [E1.out]; exact (filter_take_yes HX.out (by rw [HD.out]; rfl)).symm
          · show _ = _
            rw [E2.out]; exact (filter_take_no HX.out HD.out).symm
        case measure => simp [intOf]; omega
    · have hlt' : ¬ (k : Int) < (n : Int) := by omega
      have hkn : k = n := by omega
      have EL : Hid (m1 = l.filter (fun x => !x.dflt) ∧ m2 = l.filter fun x => x.dflt) := by
        have e := HN.out
        refine ⟨?_, ?_⟩
        · rw [E1.out, hkn, e, List.take_length]
        · rw [E2.out, hkn, e, List.take_length]
      clear E1 E2 hkn
      go_wp2_with fail
      refine (ST.out m1 u3 _ O1.out (by have := ML1.out; omega)).mono ?_
      rintro e w1 ⟨rfl, m3, hs3, ho3, hg3⟩
      have B1 : Hid (Below w.heap.size w w1) := HB.out.trans ((Below.refl _ _).grown hg3 HB.out.size fun k hk => (O1.out.lt k hk).1)
      have O3 : Hid (w1.ownsRow w.heap.size 47 12 u3 m3.length (gcells entV m3)) := ho3
      have Q2 : Hid (w1.ownsRow w.heap.size 47 12 u4 m2.length (gcells entV m2)) := own_by2 O2.out hg3 NE.out.symm
      have S3 : Hid (Sorted8 m1 m3) := hs3
      clear hs3 ho3 hg3
      go_wp2_with (at_builtin; refine of_stopT ?_)
      unfold StopT
      refine wl_appendL (E := EntE) EntOk entV ent_fits rfl _ _ rfl w.heap.size w.heap.size u3 u4 m3 m2 rfl O3.out rfl Q2.out (by have h1 := ML1.out; have h2 := ML2.out; have h3 := S3.out.len; omega) B1.out.size ?_
      intro v' w3 hown3 hgr3 _
      have B3 : Hid (Below w.heap.size w w3) := B1.out.trans ((Below.refl _ _).grown hgr3 B1.out.size fun k hk => (O3.out.lt k hk).1)
      have O4 : Hid (w3.ownsRow w.heap.size 47 12 v' (m3 ++ m2).length (gcells entV (m3 ++ m2))) := hown3
      clear hown3 hgr3
      simp only [Act.put, List.setIfInBounds_toArray, List.set_cons_succ, List.set_cons_zero]
      go_wp2_with fail
      go_ret
      refine ⟨⟨_, _, rfl, ⟨m3, ?_, ?_⟩, O4.out⟩, B3.out⟩
      · rw [← EL.out.1]; exact S3.out
      · rw [EL.out.2]
end Go.Proofs.YtnbklmmampdbfaaDoor
namespace Go.Proofs.YtnbklmmampdbfaaDoor
open Go Go.RowKit
set_option maxRecDepth 20000

/-- The five lists that are crossed, and the cubes of an entry. -/
def five8 (x : Ent) : List (List CubeT) := [prefL 0 x.src x.srcBits, prefL 1 x.dst x.dstBits, protL x.proto, portP 2 x.slow x.shigh, portP 3 x.dlow x.dhigh]
def cubesT (x : Ent) : List CubeT := if x.dflt then [allC] else meetsL (five8 x)
theorem portP_few (f l h : Int) : (portP f l h).length ≤ 30 := by
  unfold portP
  split
  · rw [portC_len]; exact ran_few l h
  · simp
theorem protL_few (n : Int) : (protL n).length ≤ 1 := by
  unfold protL
  split
  · simp
  · split <;> simp
theorem five_few (x : Ent) : (∀ l ∈ five8 x, l.length ≤ 1000) ∧ ∀ k, (meetsL ((five8 x).take k)).length ≤ 1000 := by
  have h1 := protL_few x.proto
  have h2 := portP_few 2 x.slow x.shigh
  have h3 := portP_few 3 x.dlow x.dhigh
  refine ⟨fun l hl => ?_, ?_⟩
  · simp only [five8, List.mem_cons, List.not_mem_nil, or_false] at hl
    rcases hl with rfl | rfl | rfl | rfl | rfl
    · simp [prefL]
    · simp [prefL]
    all_goals omega
  · have step : ∀ (k m b : Nat) (l : List CubeT), (five8 x)[k]? = some l → (meetsL ((five8 x).take k)).length ≤ m → l.length ≤ b → (meetsL ((five8 x).take (k + 1))).length ≤ m * b := fun k m b l h1 h2 h3 => by
      rw [meetsL_take h1]
      exact Nat.le_trans (crossL_len _ _) (Nat.mul_le_mul h2 h3)
    have s0 : (meetsL ((five8 x).take 0)).length ≤ 1 := Nat.le_of_eq rfl
    have s1 := step 0 1 1 _ rfl s0 (Nat.le_of_eq rfl)
    have s2 := step 1 _ 1 _ rfl s1 (Nat.le_of_eq rfl)
    have s3 := step 2 _ 1 _ rfl s2 h1
    have s4 := step 3 _ 30 _ rfl s3 h2
    have s5 := step 4 _ 30 _ rfl s4 h3
    intro k
    rcases (show k = 0 ∨ k = 1 ∨ k = 2 ∨ k = 3 ∨ k = 4 ∨ 5 ≤ k by omega) with rfl | rfl | rfl | rfl | rfl | hk
    · exact Nat.le_trans s0 (by decide)
    · exact Nat.le_trans s1 (by decide)
    · exact Nat.le_trans s2 (by decide)
    · exact Nat.le_trans s3 (by decide)
    · exact Nat.le_trans s4 (by decide)
    · have e5 : (five8 x).take k = (five8 x).take 5 := by
        rw [List.take_of_length_le (show (five8 x).length ≤ k from hk), List.take_of_length_le (show (five8 x).length ≤ 5 from Nat.le_refl 5)]
      rw [e5]
      exact Nat.le_trans s5 (by decide)
theorem cubes_few (x : Ent) : (cubesT x).length ≤ 1000 := by
  unfold cubesT
  split
  · simp
  · have := (five_few x).2 5
    rwa [List.take_of_length_le (by simp [five8])] at this
theorem byts_meets : ∀ (L : List (List CubeT)), Byts (meetsL L) := by
  intro L
  unfold meetsL
  rcases List.eq_nil_or_concat L with rfl | ⟨L', l, rfl⟩
  · exact byts_one Z_byt Z_byt
  · rw [List.concat_eq_append, List.foldl_append]
    exact byts_crossL _ _
theorem cubes_byts (x : Ent) : Byts (cubesT x) := by
  unfold cubesT
  split
  · exact byts_one Z_byt Z_byt
  · exact byts_meets _
theorem ListsAt.below {w w' : World} {v : Value} {L : List (List CubeT)} (h : ListsAt w v L) (hb : Below w.heap.size w w') : ListsAt w' v L := by
  obtain ⟨g, vs, rfl, hg, hv⟩ := h
  exact ⟨g, vs, rfl, (hb.block g (Array.getElem?_eq_some_iff.1 hg).1).trans hg, fun i l hl => by obtain ⟨u, h1, h2⟩ := hv i l hl; exact ⟨u, h1, h2.below hb⟩⟩
theorem infoSl : ∃ i, Tryd.prog.info? 78 = some i ∧ i.zero = some (.slice none 0 0) ∧ i.size = 1 := by
  cases h : Tryd.prog.info? 78 with
  | none => exact absurd (show (Tryd.prog.info? 78).isSome = true by kernel_rfl) (by rw [h]; simp)
  | some i =>
    have h1 : (Tryd.prog.info? 78).map (fun i => (i.zero, i.size)) = some (some (.slice none 0 0), 1) := by kernel_rfl
    rw [h] at h1
    simp only [Option.map_some, Option.some.injEq, Prod.mk.injEq] at h1
    exact ⟨i, rfl, h1.1, h1.2⟩
theorem load_u32b (W : World) (ad : Addr) (n : Int) (h : W.cell? ad = some (.int .u32 n)) : (Instr.loadAt 45 (.pointer (some ad))).run Tryd.prog W = .ok (.int .u32 n) W := by
  simp [go_sem, h]
def cub_ops : List Oper := [
  { dst := some 27, op := .fieldAddr 47 (.tmp 1) 2, type := 0, pos := "rows.go:41", after := #[], guard := none },
  { dst := some 28, op := .load 45 (.tmp 27), type := 45, pos := "rows.go:41", after := #[{ on := 0, ground := .data }], guard := none },
  { dst := some 29, op := .fieldAddr 47 (.tmp 1) 3, type := 0, pos := "rows.go:41", after := #[], guard := none },
  { dst := some 30, op := .load 3 (.tmp 29), type := 3, pos := "rows.go:41", after := #[{ on := 2, ground := .data }], guard := none },
  { dst := some 31, op := .call { callee := .value (.func 56), args := #[.const (.int .i64 0), .tmp 28, .tmp 30], argTypes := #[3, 45, 3] }, type := 78, pos := "rows.go:41", after := #[{ on := 1, ground := .data }, { on := 3, ground := .data }], guard := none },
  { dst := some 32, op := .fieldAddr 47 (.tmp 1) 4, type := 0, pos := "rows.go:41", after := #[], guard := none },
  { dst := some 33, op := .load 45 (.tmp 32), type := 45, pos := "rows.go:41", after := #[{ on := 5, ground := .data }], guard := none },
  { dst := some 34, op := .fieldAddr 47 (.tmp 1) 5, type := 0, pos := "rows.go:41", after := #[], guard := none },
  { dst := some 35, op := .load 3 (.tmp 34), type := 3, pos := "rows.go:41", after := #[{ on := 7, ground := .data }], guard := none },
  { dst := some 36, op := .call { callee := .value (.func 56), args := #[.const (.int .i64 1), .tmp 33, .tmp 35], argTypes := #[3, 45, 3] }, type := 78, pos := "rows.go:41", after := #[{ on := 6, ground := .data }, { on := 8, ground := .data }, { on := 4, ground := .chain }], guard := none },
  { dst := some 37, op := .fieldAddr 47 (.tmp 1) 10, type := 0, pos := "rows.go:41", after := #[], guard := none },
  { dst := some 38, op := .load 3 (.tmp 37), type := 3, pos := "rows.go:41", after := #[{ on := 10, ground := .data }], guard := none },
  { dst := some 39, op := .call { callee := .value (.func 57), args := #[.tmp 38], argTypes := #[3] }, type := 78, pos := "rows.go:41", after := #[{ on := 11, ground := .data }, { on := 9, ground := .chain }], guard := none },
  { dst := some 40, op := .move (.tmp 3), type := 78, pos := "rows.go:41", after := #[], guard := none },
  { dst := some 41, op := .move (.tmp 5), type := 78, pos := "rows.go:41", after := #[], guard := none },
  { dst := some 42, op := .buildSlice 139 5 #[(0, .tmp 31), (1, .tmp 36), (2, .tmp 39), (3, .tmp 40), (4, .tmp 41)], type := 139, pos := "rows.go:41", after := #[{ on := 4, ground := .data }, { on := 9, ground := .data }, { on := 12, ground := .data }, { on := 13, ground := .data }, { on := 14, ground := .data }], guard := none },
  { dst := some 43, op := .call { callee := .value (.func 55), args := #[.tmp 42], argTypes := #[139] }, type := 78, pos := "rows.go:41", after := #[{ on := 15, ground := .data }, { on := 12, ground := .chain }], guard := none },
  { dst := some 2, op := .assign (.tmp 43), type := 78, pos := "rows.go:41", after := #[{ on := 16, ground := .data }, { on := 16, ground := .chain }, { on := 0, ground := .phase }, { on := 1, ground := .phase }, { on := 2, ground := .phase }, { on := 3, ground := .phase }, { on := 4, ground := .phase }, { on := 5, ground := .phase }, { on := 6, ground := .phase }, { on := 7, ground := .phase }, { on := 8, ground := .phase }, { on := 9, ground := .phase }, { on := 10, ground := .phase }, { on := 11, ground := .phase }, { on := 12, ground := .phase }, { on := 13, ground := .phase }, { on := 14, ground := .phase }, { on := 15, ground := .phase }, { on := 16, ground := .phase }], guard := none }]
def cub_D : List Nat := [27, 28, 29, 30, 31, 32, 33, 34, 35, 36, 37, 38, 39, 40, 41, 42, 43, 2]
def cub_V (p B : Nat) (x : Ent) (vs vd : Value) (i : Nat) (v : Value) (w : World) : Prop :=
  match i with
  | 0 => v = .pointer (some ⟨p, 2, none⟩)
  | 1 => v = .int .u32 x.src
  | 2 => v = .pointer (some ⟨p, 3, none⟩)
  | 3 => v = .int .i64 x.srcBits
  | 4 => Sl w v (prefL 0 x.src x.srcBits)
  | 5 => v = .pointer (some ⟨p, 4, none⟩)
  | 6 => v = .int .u32 x.dst
  | 7 => v = .pointer (some ⟨p, 5, none⟩)
  | 8 => v = .int .i64 x.dstBits
  | 9 => Sl w v (prefL 1 x.dst x.dstBits)
  | 10 => v = .pointer (some ⟨p, 10, none⟩)
  | 11 => v = .int .i64 x.proto
  | 12 => Sl w v (protL x.proto)
  | 13 => v = vs
  | 14 => v = vd
  | 15 => ListsAt w v (five8 x)
  | 16 => w.ownsRow B 33 26 v (meetsL (five8 x)).length (ccells (meetsL (five8 x)))
  | _ => True
theorem cub_mono (p B : Nat) (x : Ent) (vs vd : Value) : ∀ j v w w', cub_V p B x vs vd j v w → Below w.heap.size w w' → cub_V p B x vs vd j v w' := by
  intro j v w w' h hb
  revert h
  unfold cub_V
  split <;> intro h <;> first
    | exact h
    | exact Sl.below h hb
    | exact ListsAt.below h hb
    | exact gown_below h hb

set_option maxHeartbeats 4000000 in
theorem cub_region {id : Nat} {Q : Exit → Act → World → Prop} {a0 : Act} {w0 : World} (hs : 44 ≤ a0.tmps.size) (p : Nat) (x : Ent) (hx : ent32 x) (vs vd : Value) (h1 : a0.eval (.tmp 1) = .pointer (some ⟨p, 0, none⟩)) (h3 : a0.eval (.tmp 3) = vs) (h5 : a0.eval (.tmp 5) = vd)
    (hp : w0.heap[p]? = some (.cells (entV x) 47 (0, 0))) (hvs : Sl w0 vs (portP 2 x.slow x.shigh)) (hvd : Sl w0 vd (portP 3 x.dlow x.dhigh)) (hP : Places w0)
    (hK : ∀ y w' v, Below w0.heap.size w0 w' → w'.ownsRow w0.heap.size 33 26 v (meetsL (five8 x)).length (ccells (meetsL (five8 x))) → Q .normal ((putsD cub_D y a0).put (some 2) v) w') : (Code.region id cub_ops.toArray true).wp Tryd.prog Q a0 w0 := by
  have hDs : ∀ d ∈ cub_D, d < a0.tmps.size := fun d hd => by
    have : d < 44 := by
      revert hd; unfold cub_D; intro hd
      simp only [List.mem_cons, List.not_mem_nil, or_false] at hd
      omega
    omega
  refine region_inv 17 (cub_V p w0.heap.size x vs vd) cub_D (by kernel_rfl) rfl (by kernel_rfl) (by decide) hDs (by kernel_rfl) (by kernel_rfl) (cub_mono p w0.heap.size x vs vd) ?_ ?_
  · intro i o ho hi a w h
    have B : Below w0.heap.size w0 w := (Below.refl _ _).drew.trans h.below
    have hPw : Places w := hP.later hP.pos B
    have e1 : a.eval (.tmp 1) = .pointer (some ⟨p, 0, none⟩) := (h.other 1 (by decide)).trans h1
    have e3 : a.eval (.tmp 3) = vs := (h.other 3 (by decide)).trans h3
    have e5 : a.eval (.tmp 5) = vd := (h.other 5 (by decide)).trans h5
    have bp : w.heap[p]? = some (.cells (entV x) 47 (0, 0)) := (B.block p (Array.getElem?_eq_some_iff.1 hp).1).trans hp
    have c : ∀ j u, (entV x)[j]? = some u → w.cell? ⟨p, j, none⟩ = some u := fun j u hu => by rw [cell_of_row _ _ _ _ _ _ bp]; exact hu
    have fa : ∀ j, (j = 2 ∨ j = 3 ∨ j = 4 ∨ j = 5 ∨ j = 10) → (Instr.fieldAt 47 (.pointer (some ⟨p, 0, none⟩)) j).run Tryd.prog w = .ok (.pointer (some ⟨p, j, none⟩)) w := fun j hj => by
      rcases hj with rfl | rfl | rfl | rfl | rfl <;> simp [go_sem]
    have cp : ∀ vs W, (callFunc 56 vs).run Tryd.prog W = .ok (.enter 56 vs) W := fun vs W => by have hf := Tryd.func56; simp [go_sem]
    have cq : ∀ vs W, (callFunc 57 vs).run Tryd.prog W = .ok (.enter 57 vs) W := fun vs W => by have hf := Tryd.func57; simp [go_sem]
    have cm : ∀ vs W, (callFunc 55 vs).run Tryd.prog W = .ok (.enter 55 vs) W := fun vs W => by have hf := Tryd.func55; simp [go_sem]
    rcases (show i = 0 ∨ i = 1 ∨ i = 2 ∨ i = 3 ∨ i = 4 ∨ i = 5 ∨ i = 6 ∨ i = 7 ∨ i = 8 ∨ i = 9 ∨ i = 10 ∨ i = 11 ∨ i = 12 ∨ i = 13 ∨ i = 14 ∨ i = 15 ∨ i = 16 by omega) with rfl | rfl | rfl | rfl | rfl | rfl | rfl | rfl | rfl | rfl | rfl | rfl | rfl | rfl | rfl | rfl | rfl
    · obtain rfl := Option.some.inj ho
      exact iv_val rfl rfl _ (run_fieldOp rfl _ _ _ ((congrArg (fun y => (Instr.fieldAt 47 y 2).run Tryd.prog w) e1).trans (fa 2 (by decide)))) rfl
    · obtain rfl := Option.some.inj ho
      have f0 : a.eval (.tmp 27) = .pointer (some ⟨p, 2, none⟩) := h.has ⟨0, .data⟩ (by simp) rfl _ 27 rfl rfl
      exact iv_val rfl rfl _ (run_loadOp rfl _ _ _ _ f0 (load_u32b _ _ _ (c 2 _ rfl))) rfl
    · obtain rfl := Option.some.inj ho
      exact iv_val rfl rfl _ (run_fieldOp rfl _ _ _ ((congrArg (fun y => (Instr.fieldAt 47 y 3).run Tryd.prog w) e1).trans (fa 3 (by decide)))) rfl
    · obtain rfl := Option.some.inj ho
      have f0 : a.eval (.tmp 29) = .pointer (some ⟨p, 3, none⟩) := h.has ⟨2, .data⟩ (by simp) rfl _ 29 rfl rfl
      exact iv_val rfl rfl _ (run_loadOp rfl _ _ _ _ f0 (load_int _ _ _ (c 3 _ rfl))) rfl
    · obtain rfl := Option.some.inj ho
      have f1 : a.eval (.tmp 28) = .int .u32 x.src := h.has ⟨1, .data⟩ (by simp) rfl _ 28 rfl rfl
      have f2 : a.eval (.tmp 30) = .int .i64 x.srcBits := h.has ⟨3, .data⟩ (by simp) rfl _ 30 rfl rfl
      refine iv_call rfl rfl 56 #[.int .i64 0, .int .u32 x.src, .int .i64 x.srcBits] (run_callOps rfl cp _ _ _ (by simp only [List.map_toArray, List.map_cons, List.map_nil, f1, f2]; rfl)) ((prefix8_any 0 x.src x.srcBits (by simp) hx.1.1 hx.1.2 w hPw).mono fun e w' h => ?_)
      obtain ⟨⟨u, r1, r2⟩, r3⟩ := h
      exact ⟨u, r1, r3, r2⟩
    · obtain rfl := Option.some.inj ho
      exact iv_val rfl rfl _ (run_fieldOp rfl _ _ _ ((congrArg (fun y => (Instr.fieldAt 47 y 4).run Tryd.prog w) e1).trans (fa 4 (by decide)))) rfl
    · obtain rfl := Option.some.inj ho
      have f0 : a.eval (.tmp 32) = .pointer (some ⟨p, 4, none⟩) := h.has ⟨5, .data⟩ (by simp) rfl _ 32 rfl rfl
      exact iv_val rfl rfl _ (run_loadOp rfl _ _ _ _ f0 (load_u32b _ _ _ (c 4 _ rfl))) rfl
    · obtain rfl := Option.some.inj ho
      exact iv_val rfl rfl _ (run_fieldOp rfl _ _ _ ((congrArg (fun y => (Instr.fieldAt 47 y 5).run Tryd.prog w) e1).trans (fa 5 (by decide)))) rfl
    · obtain rfl := Option.some.inj ho
      have f0 : a.eval (.tmp 34) = .pointer (some ⟨p, 5, none⟩) := h.has ⟨7, .data⟩ (by simp) rfl _ 34 rfl rfl
      exact iv_val rfl rfl _ (run_loadOp rfl _ _ _ _ f0 (load_int _ _ _ (c 5 _ rfl))) rfl
    · obtain rfl := Option.some.inj ho
      have f1 : a.eval (.tmp 33) = .int .u32 x.dst := h.has ⟨6, .data⟩ (by simp) rfl _ 33 rfl rfl
      have f2 : a.eval (.tmp 35) = .int .i64 x.dstBits := h.has ⟨8, .data⟩ (by simp) rfl _ 35 rfl rfl
      refine iv_call rfl rfl 56 #[.int .i64 1, .int .u32 x.dst, .int .i64 x.dstBits] (run_callOps rfl cp _ _ _ (by simp only [List.map_toArray, List.map_cons, List.map_nil, f1, f2]; rfl)) ((prefix8_any 1 x.dst x.dstBits (by simp) hx.2.1 hx.2.2 w hPw).mono fun e w' h => ?_)
      obtain ⟨⟨u, r1, r2⟩, r3⟩ := h
      exact ⟨u, r1, r3, r2⟩
    · obtain rfl := Option.some.inj ho
      exact iv_val rfl rfl _ (run_fieldOp rfl _ _ _ ((congrArg (fun y => (Instr.fieldAt 47 y 10).run Tryd.prog w) e1).trans (fa 10 (by decide)))) rfl
    · obtain rfl := Option.some.inj ho
      have f0 : a.eval (.tmp 37) = .pointer (some ⟨p, 10, none⟩) := h.has ⟨10, .data⟩ (by simp) rfl _ 37 rfl rfl
      exact iv_val rfl rfl _ (run_loadOp rfl _ _ _ _ f0 (load_int _ _ _ (c 10 _ rfl))) rfl
    · obtain rfl := Option.some.inj ho
      have f1 : a.eval (.tmp 38) = .int .i64 x.proto := h.has ⟨11, .data⟩ (by simp) rfl _ 38 rfl rfl
      refine iv_call rfl rfl 57 #[.int .i64 x.proto] (run_callOps rfl cq _ _ _ (by simp only [List.map_toArray, List.map_cons, List.map_nil, f1])) ((protos_any x.proto w hPw).mono fun e w' h => ?_)
      obtain ⟨⟨u, r1, r2⟩, r3⟩ := h
      exact ⟨u, r1, r3, r2⟩
    · obtain rfl := Option.some.inj ho
      exact iv_val rfl rfl _ (run_moveOp rfl _ _ _ e3) rfl
    · obtain rfl := Option.some.inj ho
      exact iv_val rfl rfl _ (run_moveOp rfl _ _ _ e5) rfl
    · obtain rfl := Option.some.inj ho
      have f1 : Sl w (a.eval (.tmp 31)) (prefL 0 x.src x.srcBits) := h.has ⟨4, .data⟩ (by simp) rfl _ 31 rfl rfl
      have f2 : Sl w (a.eval (.tmp 36)) (prefL 1 x.dst x.dstBits) := h.has ⟨9, .data⟩ (by simp) rfl _ 36 rfl rfl
      have f3 : Sl w (a.eval (.tmp 39)) (protL x.proto) := h.has ⟨12, .data⟩ (by simp) rfl _ 39 rfl rfl
      have f4 : a.eval (.tmp 40) = vs := h.has ⟨13, .data⟩ (by simp) rfl _ 40 rfl rfl
      have f5 : a.eval (.tmp 41) = vd := h.has ⟨14, .data⟩ (by simp) rfl _ 41 rfl rfl
      obtain ⟨o1, c1, g1, _, _⟩ := f1.slice
      obtain ⟨o2, c2, g2, _, _⟩ := f2.slice
      obtain ⟨o3, c3, g3, _, _⟩ := f3.slice
      obtain ⟨o4, c4, g4, _, _⟩ := hvs.slice
      obtain ⟨o5, c5, g5, _, _⟩ := hvd.slice
      have s4 := hvs.below B
      have s5 := hvd.below B
      rw [g1] at f1
      rw [g2] at f2
      rw [g3] at f3
      rw [g4] at f4 s4
      rw [g5] at f5 s5
      obtain ⟨n1, q1⟩ : ∃ n, n = (prefL 0 x.src x.srcBits).length := ⟨_, rfl⟩
      obtain ⟨n2, q2⟩ : ∃ n, n = (prefL 1 x.dst x.dstBits).length := ⟨_, rfl⟩
      obtain ⟨n3, q3⟩ : ∃ n, n = (protL x.proto).length := ⟨_, rfl⟩
      obtain ⟨n4, q4⟩ : ∃ n, n = (portP 2 x.slow x.shigh).length := ⟨_, rfl⟩
      obtain ⟨n5, q5⟩ : ∃ n, n = (portP 3 x.dlow x.dhigh).length := ⟨_, rfl⟩
      rw [← q1] at f1 g1
      rw [← q2] at f2 g2
      rw [← q3] at f3 g3
      rw [← q4] at f4 s4
      rw [← q5] at f5 s5
      refine iv_list rfl ?_
      obtain ⟨ie, hie, hz, hsi⟩ := infoSl
      refine wpList_buildSlice rfl _ 78 5 _ rfl #[.slice o1 n1 c1, .slice o2 n2 c2, .slice o3 n3 c3, .slice o4 n4 c4, .slice o5 n5 c5] ie (.slice none 0 0) Tryd.underlying139 hie hz (by rw [hsi]; decide) (by rw [hsi]; decide) (by simp only [List.map_toArray, List.map_cons, List.map_nil, g1, g2, g3, f4, f5, hsi]; kernel_rfl) ?_
      have BB : Below w.heap.size w (w.alloc (.cells #[.slice o1 n1 c1, .slice o2 n2 c2, .slice o3 n3 c3, .slice o4 n4 c4, .slice o5 n5 c5] 78)) := (Below.refl _ _).alloc (Nat.le_refl _) _
      refine ⟨_, rfl, BB, fun _ _ => ⟨_, _, rfl, heap_new _ _ _ rfl, fun i l hl => ?_⟩⟩
      rcases (show i = 0 ∨ i = 1 ∨ i = 2 ∨ i = 3 ∨ i = 4 ∨ 5 ≤ i by omega) with rfl | rfl | rfl | rfl | rfl | hi5
      · obtain rfl := Option.some.inj hl
        exact ⟨_, rfl, f1.below BB⟩
      · obtain rfl := Option.some.inj hl
        exact ⟨_, rfl, f2.below BB⟩
      · obtain rfl := Option.some.inj hl
        exact ⟨_, rfl, f3.below BB⟩
      · obtain rfl := Option.some.inj hl
        exact ⟨_, rfl, s4.below BB⟩
      · obtain rfl := Option.some.inj hl
        exact ⟨_, rfl, s5.below BB⟩
      · rw [List.getElem?_eq_none (by simpa [five8] using hi5)] at hl
        cases hl
    · obtain rfl := Option.some.inj ho
      have f1 : ListsAt w (a.eval (.tmp 42)) (five8 x) := h.has ⟨15, .data⟩ (by simp) rfl _ 42 rfl rfl
      refine iv_call rfl rfl 55 #[a.eval (.tmp 42)] (run_callOps rfl cm _ _ _ (by simp)) ((meets_any (five8 x) _ w f1 (by simp [five8]) (five_few x).1 (five_few x).2).mono fun e w' h => ?_)
      obtain ⟨⟨u, r1, r2⟩, r3⟩ := h
      exact ⟨u, r1, r3, gown_base r2 B.size⟩
  · intro a w hb hsz hdf hot hh
    have f1 : w.ownsRow w0.heap.size 33 26 (a.eval (.tmp 43)) (meetsL (five8 x)).length (ccells (meetsL (five8 x))) := hh 16 _ 43 (by decide) rfl rfl
    obtain ⟨v, hv⟩ : ∃ v, a.eval (.tmp 43) = v := ⟨_, rfl⟩
    rw [hv] at f1
    refine wpOp_assign rfl rfl _ rfl v hv (some 2) rfl ?_
    show Q .normal (a.put (some 2) v) w
    rw [puts_form hsz hdf hot hDs]
    exact hK _ w v hb f1

set_option maxHeartbeats 4000000 in
set_option maxRecDepth 100000 in
theorem cubes_any (x : Ent) (hx : ent32 x) (w : World) (hP : Places w) :
    Calls Tryd.prog 34 #[.agg (entV x)] w fun e w' => (∃ v, e = .returned v ∧ w'.ownsRow w.heap.size 33 26 v (cubesT x).length (ccells (cubesT x))) ∧ Below w.heap.size w w' := by
  have hZl := Z_byt.1
  have K0 : Hid ((w.alloc (.cells (entV x) 47)).heap[w.heap.size]? = some (.cells (entV x) 47 (0, 0))) := heap_new _ _ _ rfl
  have B0 : Hid (Below w.heap.size w (w.alloc (.cells (entV x) 47))) := (Below.refl _ _).alloc (Nat.le_refl _) _
  have c : ∀ j u, (entV x)[j]? = some u → (w.alloc (.cells (entV x) 47)).cell? ⟨w.heap.size, j, none⟩ = some u := fun j u hu => by rw [cell_of_row _ _ _ _ _ _ K0.out]; exact hu
  have d0 := c 0 (.bool x.dflt) rfl
  cases hd : x.dflt with
  | true =>
    rw [hd] at d0
    have HA : Hid (∀ W, Calls Tryd.prog 17 #[] W fun e w' => e = .returned (.agg (cv Z Z)) ∧ Below W.heap.size W w') := all8
    rw [show cubesT x = [allC] by unfold cubesT; rw [if_pos hd]]
    clear c hd hP
    go_enter Tryd.func34, Tryd.ntmps34
    go_wp2_with fail
    refine (HA.out _).mono ?_
    rintro e w1 ⟨rfl, hb1⟩
    have B1 : Hid (Below w.heap.size w w1) := B0.out.trans (hb1.mono B0.out.size)
    clear hb1
    go_wp2_with (refine wl_build1 rfl _ rfl Z Z hZl hZl rfl ?_)
    go_ret
    exact ⟨⟨_, rfl, gown_base (own_one8 w1 Z Z Z_byt Z_byt) B1.out.size⟩, B1.out.alloc B1.out.size _⟩
  | false =>
    rw [hd] at d0
    have c6 := c 6 (.int .i64 x.slow) rfl
    have c7 := c 7 (.int .i64 x.shigh) rfl
    have CE : Hid (cubesT x = meetsL (five8 x)) := by show _ = _; unfold cubesT; rw [if_neg (by rw [hd]; decide)]
    have HPW : Hid (∀ W, Below w.heap.size w W → Places W) := fun W hb => hP.later hP.pos hb
    have PP : Hid (∀ (f l h : Int) W, Places W → Calls Tryd.prog 54 #[.int .i64 f, .int .i64 l, .int .i64 h] W fun e w' => ∃ u, e = .returned (.tuple #[u, .int .i64 (portE f l h)]) ∧ Sl w' u (portP f l h) ∧ Below W.heap.size W w') := fun f l h W hW => ports_any f l h W hW
    clear c hd hP
    go_enter Tryd.func34, Tryd.ntmps34
    go_wp2_with fail
    refine (PP.out 2 x.slow x.shigh _ (HPW.out _ B0.out)).mono ?_
    rintro e w1 ⟨vs, rfl, hs1, hb1⟩
    have B1 : Hid (Below w.heap.size w w1) := B0.out.trans (hb1.mono B0.out.size)
    have K1 : Hid (w1.heap[w.heap.size]? = some (.cells (entV x) 47 (0, 0))) := (hb1.block _ (by simp)).trans K0.out
    have S1 : Hid (Sl w1 vs (portP 2 x.slow x.shigh)) := hs1
    have c8 : w1.cell? ⟨w.heap.size, 8, none⟩ = some (.int .i64 x.dlow) := by rw [cell_of_row _ _ _ _ _ _ K1.out]; rfl
    have c9 : w1.cell? ⟨w.heap.size, 9, none⟩ = some (.int .i64 x.dhigh) := by rw [cell_of_row _ _ _ _ _ _ K1.out]; rfl
    clear hs1 hb1 d0 c6 c7
    go_wp2_with fail
    refine (PP.out 3 x.dlow x.dhigh _ (HPW.out _ B1.out)).mono ?_
    rintro e w2 ⟨vd, rfl, hs2, hb2⟩
    have B2 : Hid (Below w.heap.size w w2) := B1.out.trans (hb2.mono B1.out.size)
    have K2 : Hid (w2.heap[w.heap.size]? = some (.cells (entV x) 47 (0, 0))) := (hb2.block _ (Array.getElem?_eq_some_iff.1 K1.out).1).trans K1.out
    have S2 : Hid (Sl w2 vs (portP 2 x.slow x.shigh)) := S1.out.below hb2
    have S3 : Hid (Sl w2 vd (portP 3 x.dlow x.dhigh)) := hs2
    clear hs2 hb2 c8 c9
    go_upto_region 5 with fail
    refine cub_region (by exact Nat.le_of_eq rfl) w.heap.size x hx vs vd rfl rfl rfl K2.out S2.out S3.out (HPW.out _ B2.out) ?_
    intro y w3 v hb3 ho3
    have B3 : Hid (Below w.heap.size w w3) := B2.out.trans (hb3.mono B2.out.size)
    have O3 : Hid (w3.ownsRow w.heap.size 33 26 v (cubesT x).length (ccells (cubesT x))) := by rw [CE.out]; exact gown_base ho3 B2.out.size
    clear hb3 ho3
    simp only [putsD, cub_D, List.foldl_cons, List.foldl_nil, Act.put, List.setIfInBounds_toArray, List.set_cons_succ, List.set_cons_zero]
    go_wp2_with fail
    go_ret
    exact ⟨⟨_, rfl, O3.out⟩, B3.out⟩
end Go.Proofs.YtnbklmmampdbfaaDoor
namespace Go.Proofs.YtnbklmmampdbfaaDoor
open Go Go.RowKit
set_option maxRecDepth 20000

/-- What an entry, and a list's rows, come to. -/
def pq8 (x : Ent) : List (CubeT × Int) := (cubesT x).map fun c => (c, x.action)
def pairsT (R : List Ent) : List (CubeT × Int) := R.flatMap pq8
def rulesOf (P : List (CubeT × Int)) : List RuleM := P.zipIdx.map fun q => ⟨(q.2 : Int), q.1.1, q.1.2⟩
theorem rulesOf_snoc (P : List (CubeT × Int)) (q : CubeT × Int) : rulesOf (P ++ [q]) = rulesOf P ++ [⟨(P.length : Int), q.1, q.2⟩] := by
  unfold rulesOf
  rw [List.zipIdx_append, List.map_append]
  simp
theorem rulesOf_len (P : List (CubeT × Int)) : (rulesOf P).length = P.length := by simp [rulesOf]
theorem pairs_take {R : List Ent} {k : Nat} {x : Ent} (h : R[k]? = some x) : pairsT (R.take (k + 1)) = pairsT (R.take k) ++ pq8 x := by
  unfold pairsT
  rw [List.take_add_one, h]
  simp
theorem pairs_le (R : List Ent) (k : Nat) : (pairsT (R.take k)).length ≤ (pairsT R).length := by
  conv => rhs; rw [← List.take_append_drop k R]
  unfold pairsT
  rw [List.flatMap_append, List.length_append]
  omega
theorem pairs_part {R : List Ent} {k : Nat} {x : Ent} (h : R[k]? = some x) (j : Nat) : (pairsT (R.take k) ++ (pq8 x).take j).length ≤ (pairsT R).length := by
  have h1 := pairs_le R (k + 1)
  rw [pairs_take h, List.length_append] at h1
  rw [List.length_append, List.length_take]
  omega
theorem pq_at {x : Ent} {j : Nat} {c : CubeT} (h : (cubesT x)[j]? = some c) : (pq8 x)[j]? = some (c, x.action) := by
  unfold pq8
  rw [List.getElem?_map, h]
  rfl
theorem take_snoc {α : Type} {l : List α} {j : Nat} {c : α} (h : l[j]? = some c) : l.take (j + 1) = l.take j ++ [c] := by
  rw [List.take_add_one, h]
  rfl
theorem blk_by {w w' : World} {B : Nat} {e : TypeId} {s n : Nat} {v : Value} {xs : List Value} (hv : w.ownsRow B e s v n xs) (hg : w.grownBy w' v.ownBlock) {g : Nat} {cs : Array Value} {t : TypeId} {fr : Nat × Nat} (h : w.heap[g]? = some (.cells cs t fr)) (hne : t ≠ e) : w'.heap[g]? = some (.cells cs t fr) := by
  refine (hg.block g (Array.getElem?_eq_some_iff.1 h).1 fun hq => ?_).trans h
  obtain ⟨_, ⟨rfl, _⟩ | ⟨g1, cap, cur, rfl, _, h1, _⟩⟩ := hv
  · cases hq
  · simp only [Value.ownBlock, Option.some.injEq] at hq
    subst hq
    rw [h] at h1
    simp at h1
    exact hne h1.2.1
theorem own_by8 {w w' : World} {B B' : Nat} {e e' : TypeId} {s s' n n' : Nat} {v u : Value} {xs ys : List Value} (hv : w.ownsRow B e s v n xs) (hg : w.grownBy w' v.ownBlock) (h : w.ownsRow B' e' s' u n' ys) (hne : e ≠ e') : w'.ownsRow B' e' s' u n' ys := own_grown hg h (fun g hq => own_apart hv h hne g hq)
def okQ (P : List (CubeT × Int)) : Prop := ∀ q ∈ P, Byt q.1.1 ∧ Byt q.1.2
theorem okQ_rules {P : List (CubeT × Int)} (h : okQ P) : ∀ r ∈ rulesOf P, okR8 r := fun r hr => by
  unfold rulesOf at hr
  obtain ⟨q, hq, rfl⟩ := List.mem_map.1 hr
  have := List.mem_zipIdx hq
  exact h q.1 (by rw [this.2.2]; exact List.getElem_mem _)
theorem okQ_pairs (R : List Ent) : okQ (pairsT R) := fun q hq => by
  unfold pairsT pq8 at hq
  obtain ⟨x, _, hq⟩ := List.mem_flatMap.1 hq
  obtain ⟨c, hc, rfl⟩ := List.mem_map.1 hq
  exact cubes_byts x c hc

theorem rowsOf_len {l R : List Ent} (h : RowsOf l R) : R.length = l.length := by
  obtain ⟨S, h1, rfl⟩ := h
  rw [List.length_append, h1.len]
  have : ∀ m : List Ent, (m.filter fun x => !x.dflt).length + (m.filter fun x => x.dflt).length = m.length := fun m => by
    induction m with
    | nil => rfl
    | cons x m ih => cases hd : x.dflt <;> simp [hd] <;> omega
  exact this l
/-- What Expand answers. -/
def ExpR (B : Nat) (w : World) (R : List Ent) (m : Int) (e : Ending) : Prop :=
  (∃ u, e = .returned (.tuple #[u, .int .i64 0]) ∧ (pairsT R).length ≤ bnd4 m ∧ w.ownsRow B 35 28 u (rulesOf (pairsT R)).length (gcells ruleV (rulesOf (pairsT R)))) ∨ (e = .returned (.tuple #[.slice none 0 0, .int .i64 4]) ∧ bnd4 m < (pairsT R).length)

set_option maxHeartbeats 16000000 in
set_option maxRecDepth 100000 in
theorem expand_any (l : List Ent) (h320 : ∀ x ∈ l, ent32 x) (hn : l.length ≤ 100000) (m : Int) (vl : Value) (w : World) (hl : EntsAt w vl l) (hP : Places w) :
    Calls Tryd.prog 20 #[vl, .int .i64 m] w fun e w' => (∃ R, RowsOf l R ∧ ExpR w.heap.size w' R m e) ∧ Below w.heap.size w w' := by
  have RW : Hid (Calls Tryd.prog 33 #[vl] w fun e w' => (∃ v R, e = .returned v ∧ RowsOf l R ∧ w'.ownsRow w.heap.size 47 12 v R.length (gcells entV R)) ∧ Below w.heap.size w w') := rows_any l vl w hl hn
  have CU : Hid (∀ (x : Ent) W, ent32 x → Below w.heap.size w W → Calls Tryd.prog 34 #[.agg (entV x)] W fun e w' => (∃ v, e = .returned v ∧ w'.ownsRow W.heap.size 33 26 v (cubesT x).length (ccells (cubesT x))) ∧ Below W.heap.size W w') := fun x W h1 h2 => cubes_any x h1 W (hP.later hP.pos h2)
  have H32 : Hid (∀ x ∈ l, ent32 x) := h320
  obtain ⟨mx, hmx⟩ : ∃ mx, mx = max m 0 := ⟨_, rfl⟩
  have HMX : Hid (mx = max m 0) := hmx
  obtain ⟨b, hb⟩ : ∃ b, b = bnd4 m := ⟨_, rfl⟩
  have HMN : Hid ((b : Int) = min mx 2048) := by show _ = _; rw [hb, bnd4_eq, hmx]
  have hb2 : b ≤ 2048 := by rw [hb]; exact bnd4_le m
  have HBE : Hid (b = bnd4 m) := hb
  clear h320 hl hP hmx hb
  go_enter Tryd.func20, Tryd.ntmps20
  go_wp2_with (first
    | (refine wl_maxI rfl _ _ rfl m 0 mx rfl rfl HMX.out ?_)
    | (refine wl_minI rfl _ _ rfl mx 2048 (b : Int) rfl rfl HMN.out ?_))
  refine RW.out.mono ?_
  rintro e w1 ⟨⟨vR, R, rfl, hR, hown⟩, hb1⟩
  have HR : Hid (RowsOf l R) := hR
  have OR : Hid (w1.ownsRow w.heap.size 47 12 vR R.length (gcells entV R)) := hown
  have B1 : Hid (Below w.heap.size w w1) := hb1
  obtain ⟨oR, cR, rfl⟩ := gown_slice hown
  obtain ⟨nR, hnR⟩ : ∃ n, n = R.length := ⟨_, rfl⟩
  have HNR : Hid (nR = R.length) := hnR
  rw [← hnR] at OR ⊢
  have hnR2 : nR ≤ 100000 := by rw [hnR, rowsOf_len hR]; exact hn
  clear hR hown hb1 RW
  go_wp2_with fail
  go_loopw [6, 17] (fun v i wr => ∃ (k : Nat) (Q : List (CubeT × Int)), k ≤ nR ∧ i = .int .i64 (k : Int) ∧ Hid (Q = pairsT (R.take k)) ∧ Q.length ≤ b ∧ wr.ownsRow w.heap.size 35 28 v (rulesOf Q).length (gcells ruleV (rulesOf Q)) ∧ wr.ownsRow w.heap.size 47 12 (.slice oR nR cR) nR (gcells entV R) ∧ Below w.heap.size w wr) (fun _ i _ => nR - (intOf i).toNat)
  case atStart => exact ⟨0, [], Nat.zero_le _, rfl, rfl, Nat.zero_le _, World.ownsRow_nil _ _ _ _, OR.out, B1.out⟩
  case round =>
    clear OR B1
    obtain ⟨k, Q, hk, rfl, HQ, hQb, ho, hr, hb⟩ := hrel
    have HO : Hid (wr.ownsRow w.heap.size 35 28 u6 (rulesOf Q).length (gcells ruleV (rulesOf Q))) := ho
    have OR : Hid (wr.ownsRow w.heap.size 47 12 (.slice oR nR cR) nR (gcells entV R)) := hr
    have HB : Hid (Below w.heap.size w wr) := hb
    clear ho hr hb
    by_cases hlt : k < nR
    · have hlt' : (k : Int) < (nR : Int) := by omega
      have hsl : EntsAt wr (.slice oR nR cR) R := by
        have := OR.out
        rw [HNR.out] at this ⊢
        exact gsl_of (E := EntE) this fun _ _ => rfl
      obtain ⟨g, off, cur, ty, fr, x, rfl, hg, hc, hxk⟩ := hsl.at k hlt
      have K1 : Hid (wr.heap[g]? = some (.cells cur ty fr)) := hg
      have H1 : Hid (∀ j, j < 12 → cur[off + k * 12 + j]? = (entV x)[j]?) := hc
      have HX : Hid (R[k]? = some x) := hxk
      have HX2 : Hid (ent32 x) := H32.out x ((HR.out.mem x).1 (List.mem_of_getElem? hxk))
      have KN : Hid ((wr.alloc (.cells (entV x) 47)).heap[wr.heap.size]? = some (.cells (entV x) 47 (0, 0))) := heap_new _ _ _ rfl
      have BN : Hid (Below w.heap.size w (wr.alloc (.cells (entV x) 47))) := HB.out.alloc HB.out.size _
      have HLT : Hid (k < nR) := hlt
      clear hg hc hxk hsl hlt
      go_wp2_with (first
        | (refine wl_loadE (E := EntE) EntOk rfl _ rfl g (off + k * 12) rfl cur ty fr (entV x) rfl K1.out H1.out ?_)
        | (refine wl_loadE (E := EntE) EntOk rfl _ rfl wr.heap.size 0 rfl _ _ _ (entV x) rfl KN.out (own_cells _ _) ?_)
        | (refine wl_storeE (E := EntE) EntOk rfl _ _ rfl wr.heap.size (entV x) (ent_fits _) rfl rfl _ (heap_new _ _ _ rfl) rfl _ (setRow_new _ _ _ _ _ rfl) ?_))
      refine (CU.out x _ HX2.out BN.out).mono ?_
      rintro e w2 ⟨⟨vc, rfl, hoc⟩, hb2'⟩
      obtain ⟨gx, hgx⟩ : ∃ gx, gx = wr.heap.size := ⟨_, rfl⟩
      have KX : Hid (w2.heap[gx]? = some (.cells (entV x) 47 (0, 0))) := by rw [hgx]; exact (hb2'.block _ (by simp)).trans KN.out
      have BX : Hid (Below w.heap.size w w2) := BN.out.trans (hb2'.mono BN.out.size)
      have OX : Hid (w2.ownsRow w.heap.size 35 28 u6 (rulesOf Q).length (gcells ruleV (rulesOf Q))) := gown_below (HO.out.alloc _) hb2'
      have RX : Hid (w2.ownsRow w.heap.size 47 12 (.slice (some ⟨g, off, none⟩) nR cR) nR (gcells entV R)) := gown_below (OR.out.alloc _) hb2'
      have CX : Hid (w2.ownsRow w.heap.size 33 26 vc (cubesT x).length (ccells (cubesT x))) := gown_base hoc BN.out.size
      obtain ⟨oc, cc, rfl⟩ := gown_slice hoc
      obtain ⟨nc, hnc⟩ : ∃ n, n = (cubesT x).length := ⟨_, rfl⟩
      have HNC : Hid (nc = (cubesT x).length) := hnc
      have hnc2 : nc ≤ 1000 := by rw [hnc]; exact cubes_few x
      rw [← hnc] at CX ⊢
      rw [← hgx]
      clear hoc hb2' hnc hgx HO OR HB KN BN K1
      go_wp2_with fail
      go_loopw [6, 24] (fun v i w3 => ∃ (j : Nat) (P : List (CubeT × Int)), j ≤ nc ∧ i = .int .i64 (j : Int) ∧ Hid (P = Q ++ (pq8 x).take j) ∧ P.length ≤ b ∧ w3.ownsRow w.heap.size 35 28 v (rulesOf P).length (gcells ruleV (rulesOf P)) ∧ w3.ownsRow w.heap.size 47 12 (.slice (some ⟨g, off, none⟩) nR cR) nR (gcells entV R) ∧ w3.ownsRow w.heap.size 33 26 (.slice oc nc cc) nc (ccells (cubesT x)) ∧ w3.heap[gx]? = some (.cells (entV x) 47 (0, 0)) ∧ Below w.heap.size w w3) (fun _ i _ => nc - (intOf i).toNat)
      case atStart => exact ⟨0, Q, Nat.zero_le _, rfl, by show _ = _; simp, hQb, OX.out, RX.out, CX.out, KX.out, BX.out⟩
      case round =>
        clear OX RX CX KX BX
        obtain ⟨j, P, hj, rfl, HPE, hPb, ho, hr, hcx, hkx, hbx⟩ := hrel
        have OX : Hid (wr.ownsRow w.heap.size 35 28 u6 (rulesOf P).length (gcells ruleV (rulesOf P))) := ho
        have RX : Hid (wr.ownsRow w.heap.size 47 12 (.slice (some ⟨g, off, none⟩) nR cR) nR (gcells entV R)) := hr
        have CX : Hid (wr.ownsRow w.heap.size 33 26 (.slice oc nc cc) nc (ccells (cubesT x))) := hcx
        have KX : Hid (wr.heap[gx]? = some (.cells (entV x) 47 (0, 0))) := hkx
        have BX : Hid (Below w.heap.size w wr) := hbx
        obtain ⟨oP, cP, rfl⟩ := gown_slice ho
        clear ho hr hcx hkx hbx
        by_cases hjt : j < nc
        · have hjt' : (j : Int) < (nc : Int) := by omega
          have hsl : Sl wr (.slice oc nc cc) (cubesT x) := by
            have := CX.out
            rw [HNC.out] at this ⊢
            exact sl_of this (cubes_byts x)
          obtain ⟨g2, off2, cur2, ty2, fr2, U, N, rfl, hg2, hc2', hcj, hU, hN⟩ := hsl.at j hjt
          have hUl := hU.1
          have hNl := hN.1
          have HUN : Hid (Byt U ∧ Byt N) := ⟨hU, hN⟩
          have K2 : Hid (wr.heap[g2]? = some (.cells cur2 ty2 fr2)) := hg2
          have H2 : Hid (∀ q, q < 26 → cur2[off2 + j * 26 + q]? = (cv U N)[q]?) := hc2'
          have HCJ : Hid ((pq8 x)[j]? = some ((U, N), x.action)) := pq_at hcj
          have KC : Hid ((wr.alloc (.cells (cv U N) 33)).heap[wr.heap.size]? = some (.cells (cv U N) 33 (0, 0))) := heap_new _ _ _ rfl
          have KE : Hid ((wr.alloc (.cells (cv U N) 33)).heap[gx]? = some (.cells (entV x) 47 (0, 0))) := heap_past _ _ _ _ KX.out
          have ce : (wr.alloc (.cells (cv U N) 33)).cell? ⟨gx, 11, none⟩ = some (.int .i64 x.action) := by rw [cell_of_row _ _ _ _ _ _ KE.out]; rfl
          have PL : Hid ((rulesOf P).length = P.length) := rulesOf_len P
          obtain ⟨nP, hnP⟩ : ∃ n, n = (rulesOf P).length := ⟨_, rfl⟩
          have HNP : Hid (nP = (rulesOf P).length) := hnP
          have hnPb : nP ≤ b := by rw [hnP, PL.out]; exact hPb
          rw [← hnP]
          clear hg2 hc2' hcj hU hN hsl hnP
          by_cases hfull : nP = b
          · have hfull' : ((nP : Int) == (b : Int)) = true := by simp [hfull]
            have HERR : Hid (bnd4 m < (pairsT R).length) := by
              have h1 := pairs_part HX.out (j + 1)
              rw [take_snoc HCJ.out, ← List.append_assoc, ← HQ.out, ← HPE.out, List.length_append] at h1
              have h2 := HNP.out
              have h3 := PL.out
              have h4 := HBE.out
              simp only [List.length_cons, List.length_nil] at h1
              show _ < _
              omega
            clear hfull
            go_wp2_with (first
              | (refine wl_loadCat rfl _ rfl g2 (off2 + j * 26) rfl cur2 ty2 fr2 U N hUl hNl K2.out H2.out ?_)
              | (refine wl_storeC rfl _ _ rfl wr.heap.size U N rfl rfl _ (heap_new _ _ _ rfl) rfl hUl hNl _ (setRow_new _ _ _ _ _ rfl) ?_))
            go_ret2
            exact ⟨⟨R, HR.out, .inr ⟨rfl, HERR.out⟩⟩, BX.out.alloc BX.out.size _⟩
          · have hfull' : ((nP : Int) == (b : Int)) = false := by simp; omega
            have HPN : Hid (P ++ [((U, N), x.action)] = Q ++ (pq8 x).take (j + 1)) := by
              show _ = _
              rw [take_snoc HCJ.out, ← List.append_assoc, ← HPE.out]
            have HRN : Hid (rulesOf (P ++ [((U, N), x.action)]) = rulesOf P ++ [⟨(nP : Int), (U, N), x.action⟩]) := by
              show _ = _
              rw [rulesOf_snoc, HNP.out, PL.out]
            have HRK : Hid (okR8 ⟨(nP : Int), (U, N), x.action⟩) := HUN.out
            have hsz := ruleV_size HRK.out
            have BB : Hid (Below wr.heap.size wr ((wr.alloc (.cells (cv U N) 33)).alloc (.cells (ruleV ⟨(nP : Int), (U, N), x.action⟩) 35))) := ((Below.refl _ _).alloc (Nat.le_refl _) _).alloc (by simp) _
            have OB : Hid (((wr.alloc (.cells (cv U N) 33)).alloc (.cells (ruleV ⟨(nP : Int), (U, N), x.action⟩) 35)).ownsRow w.heap.size 35 28 (.slice oP nP cP) (rulesOf P).length (gcells ruleV (rulesOf P))) := by
              have := gown_below OX.out BB.out
              rw [← HNP.out] at this ⊢; exact this
            clear hfull
            go_wp2_with (first
              | (refine wl_loadCat rfl _ rfl g2 (off2 + j * 26) rfl cur2 ty2 fr2 U N hUl hNl K2.out H2.out ?_)
              | (refine wl_storeC rfl _ _ rfl wr.heap.size U N rfl rfl _ (heap_new _ _ _ rfl) rfl hUl hNl _ (setRow_new _ _ _ _ _ rfl) ?_)
              | (refine wl_loadC rfl _ rfl wr.heap.size rfl U N KC.out hUl hNl ?_)
              | (refine wl_buildR rfl _ _ _ rfl (nP : Int) U N x.action hUl hNl rfl rfl rfl ?_)
              | (refine wl_buildE (E := RuleE) RuleOk rfl _ rfl (ruleV ⟨(nP : Int), (U, N), x.action⟩) hsz rfl ?_)
              | (at_builtin; refine of_stopT ?_))
            unfold StopT
            refine wl_appendE (E := RuleE) RuleOk ruleV rfl _ _ rfl w.heap.size (.slice oP nP cP) (rulesOf P) ⟨(nP : Int), (U, N), x.action⟩ (rule_fits HRK.out) rfl OB.out (wr.heap.size + 1) 1 rfl (heap_new _ _ _ (by simp)) (by have := HNP.out; omega) (by have := BX.out.size; simp; omega) ?_
            intro v' w3 hown3 hgr3 _
            have B3 : Hid (Below w.heap.size w w3) := (BX.out.trans (BB.out.mono BX.out.size)).trans ((Below.refl _ _).grown hgr3 (BX.out.trans (BB.out.mono BX.out.size)).size fun k hk => (OB.out.lt k hk).1)
            have O3 : Hid (w3.ownsRow w.heap.size 35 28 v' (rulesOf (P ++ [((U, N), x.action)])).length (gcells ruleV (rulesOf (P ++ [((U, N), x.action)])))) := by rw [HRN.out]; exact hown3
            have R3 : Hid (w3.ownsRow w.heap.size 47 12 (.slice (some ⟨g, off, none⟩) nR cR) nR (gcells entV R)) := own_by8 OB.out hgr3 (gown_below RX.out BB.out) (by decide)
            have C3 : Hid (w3.ownsRow w.heap.size 33 26 (.slice (some ⟨g2, off2, none⟩) nc cc) nc (ccells (cubesT x))) := own_by8 OB.out hgr3 (gown_below CX.out BB.out) (by decide)
            have K3 : Hid (w3.heap[gx]? = some (.cells (entV x) 47 (0, 0))) := blk_by OB.out hgr3 ((BB.out.block _ (Array.getElem?_eq_some_iff.1 KX.out).1).trans KX.out) (by decide)
            clear hown3 hgr3
            simp only [Act.put, List.setIfInBounds_toArray, List.set_cons_succ, List.set_cons_zero]
            go_wp2_with fail
            go_roundw
            case rel => exact ⟨j + 1, P ++ [((U, N), x.action)], by omega, by go_num, HPN.out, by have h1 := HNP.out; have h2 := PL.out; simp at hfull' ⊢; omega, O3.out, R3.out, C3.out, K3.out, B3.out⟩
            case measure => simp [intOf]; omega
        · have hjt' : ¬ (j : Int) < (nc : Int) := by omega
          have HE : Hid (P = pairsT (R.take (k + 1))) := by
            have h1 := HNC.out
            show _ = _
            rw [pairs_take HX.out, ← HQ.out, HPE.out, List.take_of_length_le (by unfold pq8; rw [List.length_map]; omega)]
          go_wp2_with fail
          go_roundw
          case rel =>
            have := HLT.out
            exact ⟨k + 1, P, by omega, by go_num, HE.out, hPb, OX.out, RX.out, BX.out⟩
          case measure =>
            have := HLT.out
            simp [intOf]; omega
    · have hlt' : ¬ (k : Int) < (nR : Int) := by omega
      have HE : Hid (Q = pairsT R) := by
        have e := HNR.out
        show _ = _
        rw [HQ.out, List.take_of_length_le (by omega)]
      go_wp2_with fail
      go_ret2
      refine ⟨⟨R, HR.out, .inl ⟨_, rfl, ?_, ?_⟩⟩, HB.out⟩
      · rw [← HE.out, ← HBE.out]; exact hQb
      · rw [← HE.out]; exact HO.out
end Go.Proofs.YtnbklmmampdbfaaDoor
namespace Go.Proofs.YtnbklmmampdbfaaDoor
open Go Go.RowKit
set_option maxRecDepth 20000

/-- Each rule with its place. -/
def renum (T : List RuleM) : List RuleM := T.zipIdx.map fun q => ⟨(q.2 : Int), q.1.cube, q.1.action⟩
def renumTo (T : List RuleM) (k : Nat) : List RuleM := renum (T.take k) ++ T.drop k
theorem renum_len (T : List RuleM) : (renum T).length = T.length := by simp [renum]
theorem renumTo_all (T : List RuleM) : renumTo T T.length = renum T := by simp [renumTo]
theorem renumTo_len (T : List RuleM) (k : Nat) : (renumTo T k).length = T.length := by
  unfold renumTo
  rw [List.length_append, renum_len, List.length_take, List.length_drop]
  omega
theorem renum_snoc (T : List RuleM) (r : RuleM) : renum (T ++ [r]) = renum T ++ [⟨(T.length : Int), r.cube, r.action⟩] := by
  unfold renum
  rw [List.zipIdx_append, List.map_append]
  simp
theorem renumTo_next {T : List RuleM} {k : Nat} {r : RuleM} (h : T[k]? = some r) : renumTo T (k + 1) = (renumTo T k).set k ⟨(k : Int), r.cube, r.action⟩ := by
  obtain ⟨hk, rfl⟩ := List.getElem?_eq_some_iff.1 h
  unfold renumTo
  rw [List.take_succ_eq_append_getElem hk, renum_snoc, List.length_take, show min k T.length = k by omega, List.set_append_right _ _ (by rw [renum_len, List.length_take]; omega), renum_len, List.length_take, show k - min k T.length = 0 by omega]
  rw [show T.drop k = T[k] :: T.drop (k + 1) from List.drop_eq_getElem_cons hk, List.set_cons_zero]
  simp
theorem renumTo_at {T : List RuleM} {k : Nat} {r : RuleM} (h : T[k]? = some r) : (renumTo T k)[k]? = some r := by
  obtain ⟨hk, rfl⟩ := List.getElem?_eq_some_iff.1 h
  unfold renumTo
  rw [List.getElem?_append_right (by rw [renum_len, List.length_take]; omega), renum_len, List.length_take, show k - min k T.length = 0 by omega, List.getElem?_drop]
  exact h
theorem ok_renum {T : List RuleM} (h : ∀ r ∈ T, okR8 r) : ∀ r ∈ renum T, okR8 r := fun r hr => by
  unfold renum at hr
  obtain ⟨q, hq, rfl⟩ := List.mem_map.1 hr
  have := List.mem_zipIdx hq
  exact h q.1 (by rw [this.2.2]; exact List.getElem_mem _)
theorem ok_renumTo {T : List RuleM} (h : ∀ r ∈ T, okR8 r) (k : Nat) : ∀ r ∈ renumTo T k, okR8 r := fun r hr => by
  unfold renumTo at hr
  rcases List.mem_append.1 hr with hr | hr
  · exact ok_renum (fun q hq => h q (List.mem_of_mem_take hq)) r hr
  · exact h r (List.mem_of_mem_drop hr)
theorem ok_trim {l : List RuleM} (h : ∀ r ∈ l, okR8 r) : ∀ r ∈ trimT l, okR8 r := fun r hr => by
  rcases trimO_sub withinR l [] r hr with h1 | h1
  · simp at h1
  · exact h r h1
/-- What a list's rows are compiled to, and the error. -/
def compT (R : List Ent) : List RuleM × Int := if 2048 < (pairsT R).length then ([], 16) else if 512 < (trimT (rulesOf (pairsT R))).length then ([], 16) else (renum (trimT (rulesOf (pairsT R))), 0)

theorem gcells_set {α : Type} {enc : α → Array Value} {s : Nat} {C : List α} (hC : ∀ c ∈ C, (enc c).size = s) {k : Nat} {c' : α} (hc' : (enc c').size = s) (t : Nat) (ht : t < C.length * s) :
    (gcells enc (C.set k c'))[t]? = if t / s = k then (enc c')[t % s]? else (gcells enc C)[t]? := by
  have s0 : 0 < s := by
    rcases Nat.eq_zero_or_pos s with h | h
    · subst h; simp at ht
    · exact h
  have hi : t / s < C.length := (Nat.div_lt_iff_lt_mul s0).2 ht
  have hj : t % s < s := Nat.mod_lt _ s0
  have h1 := gcells_at enc s (C.set k c') (fun c hc => by
    rcases List.mem_or_eq_of_mem_set hc with h | rfl
    · exact hC c h
    · exact hc') (t / s) (by rw [List.length_set]; exact hi) (t % s) hj
  rw [Nat.div_add_mod] at h1
  rw [h1, List.getElem_set]
  by_cases h : t / s = k
  · rw [if_pos h, if_pos h.symm]
  · rw [if_neg h, if_neg (fun e => h e.symm)]
    have h2 := gcells_at enc s C hC (t / s) hi (t % s) hj
    rw [Nat.div_add_mod] at h2
    exact h2.symm
/-- A field of an element of one's own row is set. -/
theorem own_setField {α : Type} {enc : α → Array Value} {w : World} {B : Nat} {e : TypeId} {s : Nat} {g n cap : Nat} {C : List α} (h : w.ownsRow B e s (.slice (some ⟨g, 0, none⟩) n cap) C.length (gcells enc C)) (hC : ∀ c ∈ C, (enc c).size = s) {k : Nat} {c' : α} (hk : k < C.length) (hc' : (enc c').size = s) (v : Value)
    (h0 : (enc c')[0]? = some v) (hq : ∀ q, 0 < q → q < s → (enc c')[q]? = (enc C[k])[q]?) : (w.setCell ⟨g, k * s, none⟩ v).ownsRow B e s (.slice (some ⟨g, 0, none⟩) n cap) (C.set k c').length (gcells enc (C.set k c')) := by
  obtain ⟨h1, ⟨h2, _⟩ | ⟨g', cap', cur, h2, hB, hcur, h5, h6, h7, h4⟩⟩ := h
  · cases h2
  · simp only [Value.slice.injEq, Option.some.injEq, Addr.mk.injEq] at h2
    obtain ⟨⟨rfl, _⟩, hnn, rfl⟩ := h2
    have s0 : 0 < s := by
      have := hC C[k] (List.getElem_mem _)
      rcases Nat.eq_zero_or_pos s with h | h
      · subst h
        have h8 := (Array.getElem?_eq_some_iff.1 h0).1
        omega
      · exact h
    have hks : k * s < C.length * s := Nat.mul_lt_mul_of_pos_right hk s0
    refine ⟨?_, .inr ⟨g, cap, cur.setIfInBounds (k * s) v, by rw [List.length_set, hnn], hB, ?_, by rw [List.length_set]; exact h5, h6, by rw [Array.size_setIfInBounds]; exact h7, ?_⟩⟩
    · have : ∀ D : List α, (∀ c ∈ D, (enc c).size = s) → (gcells enc D).length = D.length * s := by
        intro D
        induction D with
        | nil => intro _; simp [gcells]
        | cons c D ih => intro hD; rw [gcells_cons, List.length_append, ih (fun d hd => hD d (by simp [hd])), Array.length_toList, hD c (by simp), List.length_cons, Nat.add_mul, Nat.one_mul, Nat.add_comm]
      exact this _ fun c hc => by
        rcases List.mem_or_eq_of_mem_set hc with h | rfl
        · exact hC c h
        · exact hc'
    · simp [World.setCell, Array.getElem?_modify, hcur]
    · apply List.ext_getElem?
      intro t
      rw [List.length_set]
      by_cases ht : t < C.length * s
      · rw [List.getElem?_take_of_lt ht, gcells_set hC hc' t ht, ← h4, List.getElem?_take_of_lt ht, Array.getElem?_toList, Array.getElem?_toList, Array.getElem?_setIfInBounds]
        by_cases e : k * s = t
        · subst e
          rw [if_pos rfl, if_pos (Nat.mul_div_cancel k s0), Nat.mul_mod_left, h0, if_pos]
          have hcap : C.length * s ≤ cap * s := Nat.mul_le_mul_right s h5
          omega
        · rw [if_neg e]
          by_cases e2 : t / s = k
          · rw [if_pos e2]
            have hm := Nat.div_add_mod t s
            rw [e2] at hm
            have hj : t % s < s := Nat.mod_lt _ s0
            rw [hq (t % s) (by rw [Nat.mul_comm] at hm; omega) hj]
            have h8 := gcells_at enc s C hC k hk (t % s) hj
            rw [hm, ← h4, List.getElem?_take_of_lt ht, Array.getElem?_toList] at h8
            exact h8
          · rw [if_neg e2]
      · rw [List.getElem?_take_eq_none (by omega), List.getElem?_eq_none]
        have hl : (gcells enc (C.set k c')).length = C.length * s := by
          have : ∀ D : List α, (∀ c ∈ D, (enc c).size = s) → (gcells enc D).length = D.length * s := by
            intro D
            induction D with
            | nil => intro _; simp [gcells]
            | cons c D ih => intro hD; rw [gcells_cons, List.length_append, ih (fun d hd => hD d (by simp [hd])), Array.length_toList, hD c (by simp), List.length_cons, Nat.add_mul, Nat.one_mul, Nat.add_comm]
          rw [this _ fun c hc => by
            rcases List.mem_or_eq_of_mem_set hc with h | rfl
            · exact hC c h
            · exact hc', List.length_set]
        omega
theorem rule_set {r : RuleM} (h : okR8 r) (v : Int) : (ruleV ⟨v, r.cube, r.action⟩)[0]? = some (.int .i64 v) ∧ ∀ q, 0 < q → q < 28 → (ruleV ⟨v, r.cube, r.action⟩)[q]? = (ruleV r)[q]? := by
  have h' : okR8 ⟨v, r.cube, r.action⟩ := h
  refine ⟨(rule_at h').1, fun q h0 h1 => ?_⟩
  by_cases e : q = 27
  · subst e
    rw [(rule_at h').2.2, (rule_at h).2.2]
  · obtain ⟨j, rfl⟩ : ∃ j, q = 1 + j := ⟨q - 1, by omega⟩
    rw [(rule_at h').2.1 j (by omega), (rule_at h).2.1 j (by omega)]

/-- What Compile answers. -/
def CompR (B : Nat) (w : World) (R : List Ent) (e : Ending) : Prop :=
  ∃ u, e = .returned (.tuple #[u, .int .i64 (compT R).2]) ∧ w.ownsRow B 35 28 u (compT R).1.length (gcells ruleV (compT R).1)
theorem comp_ok (R : List Ent) : ∀ r ∈ (compT R).1, okR8 r := fun r hr => by
  unfold compT at hr
  split at hr
  · simp at hr
  · split at hr
    · simp at hr
    · exact ok_renum (ok_trim (okQ_rules (okQ_pairs R))) r hr

set_option maxHeartbeats 16000000 in
set_option maxRecDepth 100000 in
theorem compile_any (l : List Ent) (h32 : ∀ x ∈ l, ent32 x) (hn : l.length ≤ 100000) (vl : Value) (w : World) (hl : EntsAt w vl l) (hP : Places w) :
    Calls Tryd.prog 9 #[vl] w fun e w' => (∃ R, RowsOf l R ∧ CompR w.heap.size w' R e) ∧ Below w.heap.size w w' := by
  have EX : Hid (Calls Tryd.prog 20 #[vl, .int .i64 2048] w fun e w' => (∃ R, RowsOf l R ∧ ExpR w.heap.size w' R 2048 e) ∧ Below w.heap.size w w') := expand_any l h32 hn 2048 vl w hl hP
  have TR : Hid (∀ (L : List RuleM) v W, (∀ r ∈ L, okR8 r) → L.length ≤ 100000 → RulesAt W v L → Calls Tryd.prog 12 #[v] W fun e w' => (∃ v, e = .returned v ∧ w'.ownsRow W.heap.size 35 28 v (trimT L).length (gcells ruleV (trimT L))) ∧ Below W.heap.size W w') := fun L v W h1 h2 h3 => trim_any L h1 h2 v W h3
  clear h32 hl hP
  go_enter Tryd.func9, Tryd.ntmps9
  go_wp2_with fail
  refine EX.out.mono ?_
  rintro e w1 ⟨⟨R, hR, hE⟩, hb1⟩
  have HR : Hid (RowsOf l R) := hR
  have B1 : Hid (Below w.heap.size w w1) := hb1
  clear EX hR hb1
  rw [show ExpR w.heap.size w1 R 2048 e = ((∃ u, e = .returned (.tuple #[u, .int .i64 0]) ∧ (pairsT R).length ≤ 2048 ∧ w1.ownsRow w.heap.size 35 28 u (rulesOf (pairsT R)).length (gcells ruleV (rulesOf (pairsT R)))) ∨ (e = .returned (.tuple #[.slice none 0 0, .int .i64 4]) ∧ 2048 < (pairsT R).length)) from rfl] at hE
  rcases hE with ⟨u, rfl, hle, hown⟩ | ⟨rfl, hmany⟩
  · have HLE : Hid ((pairsT R).length ≤ 2048) := hle
    have HK : Hid (∀ r ∈ rulesOf (pairsT R), okR8 r) := okQ_rules (okQ_pairs R)
    have RA : Hid (RulesAt w1 u (rulesOf (pairsT R))) := gsl_of (E := RuleE) hown fun c hc => ruleV_size (HK.out c hc)
    have HL2 : Hid ((rulesOf (pairsT R)).length ≤ 100000) := by show _ ≤ _; rw [rulesOf_len]; omega
    obtain ⟨o1, c1, rfl⟩ := gown_slice hown
    clear hle hown
    go_wp2_with fail
    refine (TR.out _ _ _ HK.out HL2.out RA.out).mono ?_
    rintro e w2 ⟨⟨v, rfl, ho2⟩, hb2⟩
    have B2 : Hid (Below w.heap.size w w2) := B1.out.trans (hb2.mono B1.out.size)
    obtain ⟨T, hT⟩ : ∃ T, T = trimT (rulesOf (pairsT R)) := ⟨_, rfl⟩
    rw [← hT] at ho2
    have HT : Hid (T = trimT (rulesOf (pairsT R))) := hT
    have HTK : Hid (∀ r ∈ T, okR8 r) := by rw [hT]; exact ok_trim HK.out
    have O2 : Hid (w2.ownsRow w.heap.size 35 28 v T.length (gcells ruleV T)) := gown_base ho2 B1.out.size
    have HTL : Hid (T.length ≤ 2048) := by
      show _ ≤ _
      have h1 := trimO_len withinR (rulesOf (pairsT R)) []
      have h2 := HLE.out
      rw [rulesOf_len, List.length_nil] at h1
      rw [hT]
      unfold trimT
      omega
    obtain ⟨o2, c2, rfl⟩ := gown_slice ho2
    obtain ⟨nT, hnT⟩ : ∃ n, n = T.length := ⟨_, rfl⟩
    have HNT : Hid (nT = T.length) := hnT
    have hnT2 : nT ≤ 2048 := by rw [hnT]; exact HTL.out
    rw [← hnT] at O2 ⊢
    clear ho2 hb2 hT hnT
    by_cases hbig : 512 < nT
    · have hbig' : (512 : Int) < (nT : Int) := by omega
      have HC : Hid (compT R = ([], 16)) := by
        show _ = _
        unfold compT
        rw [if_neg (by have := HLE.out; omega), if_pos (by rw [← HT.out, ← HNT.out]; exact hbig)]
      go_wp2_with fail
      go_ret2
      refine ⟨⟨R, HR.out, _, by rw [HC.out]; rfl, ?_⟩, B2.out⟩
      rw [HC.out]
      exact World.ownsRow_nil _ _ _ _
    · have hbig' : ¬ (512 : Int) < (nT : Int) := by omega
      have HC : Hid (compT R = (renum T, 0)) := by
        show _ = _
        unfold compT
        rw [if_neg (by have := HLE.out; omega), if_neg (by rw [← HT.out, ← HNT.out]; exact hbig), ← HT.out]
      have O3 : Hid (w2.ownsRow w.heap.size 35 28 (.slice o2 nT c2) (renumTo T 0).length (gcells ruleV (renumTo T 0))) := by
        have := O2.out
        rw [HNT.out] at this ⊢
        have e0 : renumTo T 0 = T := by simp [renumTo, renum]
        rw [e0]
        exact this
      clear O2 hbig
      go_wp2_with fail
      go_loopw [7, 22] (fun v i wr => ∃ (k : Nat) (z : Value), k ≤ nT ∧ i = .int .i64 (k : Int) ∧ v = z ∧ wr.ownsRow w.heap.size 35 28 (.slice o2 nT c2) (renumTo T k).length (gcells ruleV (renumTo T k)) ∧ Below w.heap.size w wr) (fun _ i _ => nT - (intOf i).toNat)
      case atStart => exact ⟨0, _, Nat.zero_le _, rfl, rfl, O3.out, B2.out⟩
      case round =>
        clear O3 B2
        obtain ⟨k, z, hk, rfl, rfl, ho, hb⟩ := hrel
        have HO : Hid (wr.ownsRow w.heap.size 35 28 (.slice o2 nT c2) (renumTo T k).length (gcells ruleV (renumTo T k))) := ho
        have HB : Hid (Below w.heap.size w wr) := hb
        clear ho hb
        by_cases hlt : k < nT
        · have hlt' : (k : Int) < (nT : Int) := by omega
          obtain ⟨r, hr⟩ : ∃ r, T[k]? = some r := ⟨_, List.getElem?_eq_getElem (by rw [← HNT.out]; exact hlt)⟩
          have hrok : okR8 r := HTK.out r (List.mem_of_getElem? hr)
          have hk2 : k < (renumTo T k).length := by rw [renumTo_len, ← HNT.out]; exact hlt
          have hrk : (renumTo T k)[k] = r := by
            have := renumTo_at hr
            rw [List.getElem?_eq_getElem hk2] at this
            exact Option.some.inj this
          have hall : ∀ c ∈ renumTo T k, (ruleV c).size = 28 := fun c hc => ruleV_size (ok_renumTo HTK.out k c hc)
          obtain ⟨_, ⟨h2, _⟩ | ⟨g, cap', cur, h2, hB, hcur, h5, h6, h7, h4⟩⟩ := id HO.out
          · simp only [Value.slice.injEq] at h2
            omega
          · simp only [Value.slice.injEq] at h2
            obtain ⟨rfl, _, rfl⟩ := h2
            have hcell : wr.cell? ⟨g, k * 28, none⟩ = some (.int .i64 r.order) := by
              rw [cell_of_row _ _ _ _ _ _ hcur]
              have h8 := gcells_at ruleV 28 (renumTo T k) hall k hk2 0 (by decide)
              rw [← h4, List.getElem?_take_of_lt (by have := Nat.mul_lt_mul_of_pos_right hk2 (show 0 < 28 by decide); omega), Array.getElem?_toList, hrk, (rule_at hrok).1, Nat.add_zero, Nat.mul_comm] at h8
              exact h8
            have hfr : wr.frozen? ⟨g, k * 28, none⟩ = false := by simp [World.frozen?, hcur]
            have OS : Hid ((wr.setCell ⟨g, k * 28, none⟩ (.int .i64 (k : Int))).ownsRow w.heap.size 35 28 (.slice (some ⟨g, 0, none⟩) nT c2) (renumTo T (k + 1)).length (gcells ruleV (renumTo T (k + 1)))) := by
              rw [renumTo_next hr]
              exact own_setField HO.out hall hk2 (ruleV_size (show okR8 ⟨(k : Int), r.cube, r.action⟩ from hrok)) _ (rule_set hrok _).1 (fun q q0 q1 => by rw [hrk]; exact (rule_set hrok _).2 q q0 q1)
            have BS : Hid (Below w.heap.size w (wr.setCell ⟨g, k * 28, none⟩ (.int .i64 (k : Int)))) := HB.out.setCell (p := ⟨g, k * 28, none⟩) hB _
            clear hcur h4 hall hrk hr hrok hk2 h5 h6 h7
            go_wp2_with fail
            go_roundw
            case rel => exact ⟨k + 1, _, by omega, by go_num, rfl, OS.out, BS.out⟩
            case measure => simp [intOf]; omega
        · have hlt' : ¬ (k : Int) < (nT : Int) := by omega
          have HE : Hid (renumTo T k = renum T) := by
            have e := HNT.out
            show _ = _
            rw [show k = T.length by omega, renumTo_all]
          go_wp2_with fail
          go_ret2
          refine ⟨⟨R, HR.out, _, by rw [HC.out]; rfl, ?_⟩, HB.out⟩
          rw [HC.out, ← HE.out]
          exact HO.out
  · have HC : Hid (compT R = ([], 16)) := by
      show _ = _
      unfold compT
      rw [if_pos hmany]
    clear hmany
    go_wp2_with fail
    go_ret2
    refine ⟨⟨R, HR.out, _, by rw [HC.out]; rfl, ?_⟩, B1.out⟩
    rw [HC.out]
    exact World.ownsRow_nil _ _ _ _
end Go.Proofs.YtnbklmmampdbfaaDoor
namespace Go.Proofs.YtnbklmmampdbfaaDoor
open Go Go.RowKit
set_option maxRecDepth 20000

theorem ent_prio {x : Ent} {cur : Array Value} {off k : Nat} (h : ∀ j, j < 12 → cur[off + k * 12 + j]? = (entV x)[j]?) : cur[off + k * 12 + 1]? = some (.int .i64 x.prio) := h 1 (by decide)
theorem ent_act {x : Ent} {cur : Array Value} {off k : Nat} (h : ∀ j, j < 12 → cur[off + k * 12 + j]? = (entV x)[j]?) : cur[off + k * 12 + 11]? = some (.int .i64 x.action) := h 11 (by decide)
theorem step_no {ap : Ent → Bool} {b : Option (Nat × Int)} {i : Nat} {x : Ent} (h : (!x.dflt && ap x && beats x.prio b) = false) : stepB ap b i x = b := by unfold stepB; rw [h]; rfl
theorem step_yes {ap : Ent → Bool} {b : Option (Nat × Int)} {i : Nat} {x : Ent} (h : (!x.dflt && ap x && beats x.prio b) = true) : stepB ap b i x = some (i, x.prio) := by unfold stepB; rw [h]; rfl

end Go.Proofs.YtnbklmmampdbfaaDoor
namespace Go.Proofs.YtnbklmmampdbfaaDoor
open Go Go.RowKit
set_option maxRecDepth 20000

def own15_ops : List Oper := [
      { dst := some 48, op := .fieldAddr 100 (.tmp 5) 2, type := 0, pos := "reader.go:110", after := #[], guard := none },
      { dst := some 49, op := .load 98 (.tmp 48), type := 98, pos := "reader.go:110", after := #[{ on := 0, ground := .data }], guard := none },
      { dst := some 50, op := .move (.tmp 0), type := 91, pos := "reader.go:110", after := #[], guard := none },
      { dst := some 51, op := .call { callee := .value (.func 65), args := #[.tmp 50], argTypes := #[91] }, type := 67, pos := "reader.go:110", after := #[{ on := 2, ground := .data }], guard := none },
      { dst := some 52, op := .buildSlice 98 1 #[(0, .tmp 51)], type := 98, pos := "reader.go:110", after := #[{ on := 3, ground := .data }], guard := none },
      { dst := some 53, op := .call { callee := .builtin .append, args := #[.tmp 49, .tmp 52], argTypes := #[98, 98] }, type := 98, pos := "reader.go:110", after := #[{ on := 1, ground := .data }, { on := 4, ground := .data }, { on := 3, ground := .chain }], guard := none },
      { dst := some 54, op := .fieldAddr 100 (.tmp 5) 2, type := 0, pos := "reader.go:110", after := #[{ on := 0, ground := .phase }, { on := 1, ground := .phase }, { on := 2, ground := .phase }, { on := 3, ground := .phase }, { on := 4, ground := .phase }, { on := 5, ground := .phase }], guard := none },
      { dst := none, op := .store 98 (.tmp 54) (.tmp 53), type := 0, pos := "reader.go:110", after := #[{ on := 6, ground := .data }, { on := 5, ground := .data }, { on := 5, ground := .chain }, { on := 0, ground := .phase }, { on := 1, ground := .phase }, { on := 2, ground := .phase }, { on := 3, ground := .phase }, { on := 4, ground := .phase }, { on := 5, ground := .phase }], guard := none }]
theorem own15_sizes (a : Act) (hs : 55 ≤ a.tmps.size) : (own15_ops.toArray).size = 8 ∧ 55 ≤ a.tmps.size := ⟨rfl, hs⟩

set_option maxHeartbeats 2000000 in
theorem own15_region {id : Nat} {Q : Exit → Act → World → Prop} {a : Act} {w : World} (hs : 55 ≤ a.tmps.size) (g p : Nat) (h0 : a.eval (.tmp 0) = .pointer (some ⟨g, 0, none⟩)) (hp : a.eval (.tmp 5) = .pointer (some ⟨p, 0, none⟩))
    (cs : Array Value) (hcs : w.heap[p]? = some (.cells cs 100 (0, 0))) (v : Value) (hv : cs[2]? = some v) (hpg : p ≠ g)
    (F : List Fig) (B : Nat) (hown : w.ownsRow B 67 2 v F.length (gcells figV F)) (hF : F.length ≤ 1000) (hB : B ≤ w.heap.size) (hgB : g < B) (c : Fig) (D : World → Prop)
    (hcall : Calls Tryd.prog 65 #[.pointer (some ⟨g, 0, none⟩)] w.drew fun e w' => e = .returned (.agg (figV c)) ∧ w.drew.grownBy w' (some g) ∧ D w')
    (hK : ∀ a' w1 w3 v', (∃ y0 y1 y2 y3 y4 y5 y6, a' = (((((((a.put (some 48) y0).put (some 49) y1).put (some 50) y2).put (some 51) y3).put (some 52) y4).put (some 53) y5).put (some 54) y6)) → D w1 → w.grownBy w1 (some g) → (w1.alloc (.cells (figV c) 67)).grownBy w3 v.ownBlock → w3.ownsRow B 67 2 v' (F ++ [c]).length (gcells figV (F ++ [c])) → w3.heap[p]? = some (.cells cs 100 (0, 0)) →
      Q .normal a' (w3.setCell ⟨p, 2, none⟩ v')) : (Code.region id own15_ops.toArray true).wp Tryd.prog Q a w := by
  have hfa : ∀ W, (Instr.fieldAt 100 (.pointer (some ⟨p, 0, none⟩)) 2).run Tryd.prog W = .ok (.pointer (some ⟨p, 2, none⟩)) W := fun W => by simp [go_sem]
  have hcell : ∀ W : World, W.heap[p]? = some (.cells cs 100 (0, 0)) → W.cell? ⟨p, 2, none⟩ = some v := fun W hW => by rw [cell_of_row _ _ _ _ _ _ hW]; exact hv
  have hplt := (Array.getElem?_eq_some_iff.1 hcs).1
  have keep : ∀ w1, w.drew.grownBy w1 (some g) → w1.heap[p]? = some (.cells cs 100 (0, 0)) := fun w1 hg => (hg.block p hplt (by simp; omega)).trans hcs
  have hvp : v.ownBlock ≠ some p := fun hq => by
    obtain ⟨_, ⟨rfl, _⟩ | ⟨g', cap, cur, rfl, _, h2, _⟩⟩ := hown
    · simp [Value.ownBlock] at hq
    · simp only [Value.ownBlock, Option.some.injEq] at hq
      subst hq
      rw [hcs] at h2
      simp at h2
  refine region_cut (fun a a' w' => ∃ w1 w3 v', (∃ y0 y1 y2 y3 y4 y5 y6, a' = (((((((a.put (some 48) y0).put (some 49) y1).put (some 50) y2).put (some 51) y3).put (some 52) y4).put (some 53) y5).put (some 54) y6)) ∧ D w1 ∧ w.grownBy w1 (some g) ∧ (w1.alloc (.cells (figV c) 67)).grownBy w3 v.ownBlock ∧ w3.ownsRow B 67 2 v' (F ++ [c]).length (gcells figV (F ++ [c])) ∧ w3.heap[p]? = some (.cells cs 100 (0, 0)) ∧ w' = w3.setCell ⟨p, 2, none⟩ v') ?_ ?_
  case refine_2 =>
    rintro a' w' ⟨w1, w3, v', ha, h1, h2, h3, h4, h5, rfl⟩
    exact hK a' w1 w3 v' ha h1 h2 h3 h4 h5
  -- what is left behind the first five operations
  have tail : ∀ (b : Act) (w1 : World), (∃ y0 y1 y2 y3 y4, b = (((((a.put (some 48) y0).put (some 49) y1).put (some 50) y2).put (some 51) y3).put (some 52) y4)) → b.eval (.tmp 49) = v → b.eval (.tmp 52) = .slice (some ⟨w1.heap.size, 0, none⟩) 1 1 → b.eval (.tmp 5) = .pointer (some ⟨p, 0, none⟩) → b.tmps.size = a.tmps.size → w.drew.grownBy w1 (some g) → D w1 →
      wpAnyH Tryd.prog .any own15_ops.toArray (fun e a' w' => e = .normal ∧ ∃ w1 w3 v', (∃ y0 y1 y2 y3 y4 y5 y6, a' = (((((((a.put (some 48) y0).put (some 49) y1).put (some 50) y2).put (some 51) y3).put (some 52) y4).put (some 53) y5).put (some 54) y6)) ∧ D w1 ∧ w.grownBy w1 (some g) ∧ (w1.alloc (.cells (figV c) 67)).grownBy w3 v.ownBlock ∧ w3.ownsRow B 67 2 v' (F ++ [c]).length (gcells figV (F ++ [c])) ∧ w3.heap[p]? = some (.cells cs 100 (0, 0)) ∧ w' = w3.setCell ⟨p, 2, none⟩ v') (fun _ => True) 3 #[true, true, true, true, true, false, false, false] b (w1.alloc (.cells (figV c) 67)) := by
    rintro b w1 ⟨y0, y1, y2, y3, y4, hb⟩ e1 e4 e5 hbs hg1 hD
    have hown1 : (w1.alloc (.cells (figV c) 67)).ownsRow B 67 2 v F.length (gcells figV F) := (own_by (grown_trans (gb_drew w g) hg1) hgB hown).alloc _
    have hz1 := hg1.size
    rw [w_set_heap] at hz1
    refine wpAnyH_all (rs := [5]) (by kernel_rfl) (by decide) ?_
    intro i hi
    obtain rfl := List.mem_singleton.1 hi
    refine wpOp_of_list rfl ?_
    refine wl_appendE (E := FigE) FigOk figV rfl _ _ rfl B v F c (fig_fits _) e1 hown1 w1.heap.size 1 e4 (heap_new _ _ _ rfl) (by omega) (by simp; omega) ?_
    intro v' w3 hown3 hgr3 _
    have hp3 : w3.heap[p]? = some (.cells cs 100 (0, 0)) := (hgr3.block p (by simp; omega) (fun hq => hvp hq.symm)).trans (heap_past _ _ _ _ (keep w1 hg1))
    obtain ⟨o3, cap3, hv3⟩ := gown_slice hown3
    refine ⟨trivial, ?_⟩
    show wpAnyH Tryd.prog .any own15_ops.toArray _ _ 2 _ (b.put (some 53) v') w3
    have s5 : (b.put (some 53) v').eval (.tmp 5) = .pointer (some ⟨p, 0, none⟩) := by rw [eval_put _ _ _ _ (by omega), if_neg (by decide)]; exact e5
    have s6 : (b.put (some 53) v').eval (.tmp 53) = v' := by rw [eval_put _ _ _ _ (by omega), if_pos rfl]
    refine wpAnyH_all (rs := [6]) (by kernel_rfl) (by decide) ?_
    intro i hi
    obtain rfl := List.mem_singleton.1 hi
    refine wpOp_val rfl rfl (.pointer (some ⟨p, 2, none⟩)) (run_fieldOp rfl _ _ _ ((congrArg (fun y => (Instr.fieldAt 100 y 2).run Tryd.prog w3) s5).trans (hfa w3))) (some 54) rfl ?_
    refine ⟨trivial, ?_⟩
    refine wpAnyH_all (rs := [7]) (by kernel_rfl) (by decide) ?_
    intro i hi
    obtain rfl := List.mem_singleton.1 hi
    refine wpOp_skip0 (w' := w3.setCell ⟨p, 2, none⟩ v') rfl rfl ?_ rfl ?_
    · have s7 : ((b.put (some 53) v').put (some 54) (.pointer (some ⟨p, 2, none⟩))).eval (.tmp 54) = .pointer (some ⟨p, 2, none⟩) := by rw [eval_put _ _ _ _ (by rw [size_put]; omega), if_pos rfl]
      have s8 : ((b.put (some 53) v').put (some 54) (.pointer (some ⟨p, 2, none⟩))).eval (.tmp 53) = v' := by rw [eval_put _ _ _ _ (by rw [size_put]; omega), if_neg (by decide)]; exact s6
      have hst := store_cell (ty := 98) (fun W => Tryd.sizeOf98 W) w3 ⟨p, 2, none⟩ v' v ⟨o3, _, cap3, hv3⟩ (hcell w3 hp3) (tc_frozen hp3 rfl)
      exact run_storeOp rfl _ _ _ _ _ s7 s8 hst
    · refine ⟨trivial, wpAnyH_done (by kernel_rfl) ?_ _⟩
      refine ⟨rfl, w1, w3, v', ⟨y0, y1, y2, y3, y4, v', .pointer (some ⟨p, 2, none⟩), ?_⟩, hD, grown_trans (gb_drew w g) hg1, hgr3, hown3, hp3, rfl⟩
      rw [hb]
  have hQ : ∀ (d : Option Tmp) (x : Value) ch (b : Act) (W : World), (fun (e : Exit) (a' : Act) (w' : World) => e = .normal ∧ ∃ w1 w3 v', (∃ y0 y1 y2 y3 y4 y5 y6, a' = (((((((a.put (some 48) y0).put (some 49) y1).put (some 50) y2).put (some 51) y3).put (some 52) y4).put (some 53) y5).put (some 54) y6)) ∧ D w1 ∧ w.grownBy w1 (some g) ∧ (w1.alloc (.cells (figV c) 67)).grownBy w3 v.ownBlock ∧ w3.ownsRow B 67 2 v' (F ++ [c]).length (gcells figV (F ++ [c])) ∧ w3.heap[p]? = some (.cells cs 100 (0, 0)) ∧ w' = w3.setCell ⟨p, 2, none⟩ v') (.panic ch) (Act.put b d x) W → (fun (e : Exit) (a' : Act) (w' : World) => e = .normal ∧ ∃ w1 w3 v', (∃ y0 y1 y2 y3 y4 y5 y6, a' = (((((((a.put (some 48) y0).put (some 49) y1).put (some 50) y2).put (some 51) y3).put (some 52) y4).put (some 53) y5).put (some 54) y6)) ∧ D w1 ∧ w.grownBy w1 (some g) ∧ (w1.alloc (.cells (figV c) 67)).grownBy w3 v.ownBlock ∧ w3.ownsRow B 67 2 v' (F ++ [c]).length (gcells figV (F ++ [c])) ∧ w3.heap[p]? = some (.cells cs 100 (0, 0)) ∧ w' = w3.setCell ⟨p, 2, none⟩ v') (.panic ch) b W := fun _ _ _ _ _ h => absurd h.1 (by simp)
  refine region_beginS (fun _ => True) 8 rfl (by kernel_rfl) ?_
  refine wpAnyH_take (i := 0) (v := .pointer (some ⟨p, 2, none⟩)) rfl (by kernel_rfl) (by kernel_rfl) (by kernel_rfl) (fun c b W => hQ _ _ c b W) (.inl ⟨rfl, fun W _ => run_fieldOp rfl _ _ _ ((congrArg (fun y => (Instr.fieldAt 100 y 2).run Tryd.prog W) hp).trans (hfa W))⟩) trivial ?_
  have a1 : (a.put (some 48) (.pointer (some ⟨p, 2, none⟩))).eval (.tmp 0) = .pointer (some ⟨g, 0, none⟩) := by rw [eval_put _ _ _ _ (by omega), if_neg (by decide)]; exact h0
  refine wpAnyH_take (i := 2) (v := .pointer (some ⟨g, 0, none⟩)) rfl (by kernel_rfl) (by kernel_rfl) (by kernel_rfl) (fun c b W => hQ _ _ c b W) (.inl ⟨rfl, fun W _ => run_moveOp rfl _ _ _ a1⟩) trivial ?_
  have hs2 : ((a.put (some 48) (.pointer (some ⟨p, 2, none⟩))).put (some 50) (.pointer (some ⟨g, 0, none⟩))).tmps.size = a.tmps.size := by rw [size_put, size_put]
  have hcF : ∀ vs W, (callFunc 65 vs).run Tryd.prog W = .ok (.enter 65 vs) W := fun vs W => by have hf := Tryd.func65; simp [go_sem]
  obtain ⟨a2, ha2⟩ : ∃ a2, a2 = ((a.put (some 48) (.pointer (some ⟨p, 2, none⟩))).put (some 50) (.pointer (some ⟨g, 0, none⟩))) := ⟨_, rfl⟩
  have x0 : a2.eval (.tmp 48) = .pointer (some ⟨p, 2, none⟩) := by rw [ha2, eval_put _ _ _ _ (by rw [size_put]; omega), if_neg (by decide), eval_put _ _ _ _ (by omega), if_pos rfl]
  have x2 : a2.eval (.tmp 50) = .pointer (some ⟨g, 0, none⟩) := by rw [ha2, eval_put _ _ _ _ (by rw [size_put]; omega), if_pos rfl]
  have xb : a2.eval (.tmp 5) = .pointer (some ⟨p, 0, none⟩) := by rw [ha2, eval_put _ _ _ _ (by rw [size_put]; omega), if_neg (by decide), eval_put _ _ _ _ (by omega), if_neg (by decide)]; exact hp
  have xs : a2.tmps.size = a.tmps.size := by rw [ha2]; exact hs2
  have comm : ∀ (k j : Nat) (b : Act) (y z : Value), k ≠ j → (b.put (some k) y).put (some j) z = (b.put (some j) z).put (some k) y := fun k j b y z hkj => by
    simp only [Act.put]
    congr 1
    exact Array.setIfInBounds_comm _ _ hkj
  show wpAnyH Tryd.prog .any own15_ops.toArray _ _ 6 _ ((a.put (some 48) (.pointer (some ⟨p, 2, none⟩))).put (some 50) (.pointer (some ⟨g, 0, none⟩))) w.drew
  rw [← ha2]
  have hg0 : w.drew.grownBy w.drew (some g) := gb_refl _ _
  refine wpAnyH_all (rs := [1, 3]) (by kernel_rfl) (by decide) ?_
  intro i hi
  rcases List.mem_cons.1 hi with rfl | hi
  · refine wpOp_val rfl rfl v (run_loadOp rfl _ _ _ _ x0 (load_cell (e := 67) Tryd.underlying98 _ _ _ (hcell _ (keep _ hg0)))) (some 49) rfl ⟨trivial, ?_⟩
    refine wpAnyH_all (rs := [3]) (by kernel_rfl) (by decide) ?_
    intro i hi
    obtain rfl := List.mem_singleton.1 hi
    refine wpOp_callQ rfl rfl 65 #[.pointer (some ⟨g, 0, none⟩)] (run_callOp rfl hcF _ _ _ (by rw [eval_put _ _ _ _ (by omega), if_neg (by decide)]; exact x2)) _ hcall (some 51) rfl ?_ (fun ch w' h => absurd h.1 (by simp)) (fun w' h => absurd h.1 (by simp))
    rintro u w1 ⟨hu, hg1, hD⟩
    obtain rfl : u = .agg (figV c) := by simpa using hu
    refine ⟨trivial, ?_⟩
    refine wpAnyH_all (rs := [4]) (by kernel_rfl) (by decide) ?_
    intro i hi
    obtain rfl := List.mem_singleton.1 hi
    refine wpOp_of_list rfl ?_
    refine wl_buildE (E := FigE) FigOk rfl _ rfl (figV c) rfl (by rw [eval_put _ _ _ _ (by rw [size_put]; omega), if_pos rfl]) ?_
    refine ⟨trivial, ?_⟩
    refine (show wpAnyH Tryd.prog .any own15_ops.toArray _ _ 3 _ (((a2.put (some 49) v).put (some 51) (.agg (figV c))).put (some 52) (.slice (some ⟨w1.heap.size, 0, none⟩) 1 1)) _ from tail (((a2.put (some 49) v).put (some 51) (.agg (figV c))).put (some 52) (.slice (some ⟨w1.heap.size, 0, none⟩) 1 1)) w1 ⟨.pointer (some ⟨p, 2, none⟩), v, .pointer (some ⟨g, 0, none⟩), .agg (figV c), .slice (some ⟨w1.heap.size, 0, none⟩) 1 1, ?_⟩ ?_ ?_ ?_ ?_ hg1 hD)
    · rw [ha2, comm 50 49 _ _ _ (by decide)]
    · rw [eval_put _ _ _ _ (by rw [size_put, size_put]; omega), if_neg (by decide), eval_put _ _ _ _ (by rw [size_put]; omega), if_neg (by decide), eval_put _ _ _ _ (by omega), if_pos rfl]
    · rw [eval_put _ _ _ _ (by rw [size_put, size_put]; omega), if_pos rfl]
    · rw [eval_put _ _ _ _ (by rw [size_put, size_put]; omega), if_neg (by decide), eval_put _ _ _ _ (by rw [size_put]; omega), if_neg (by decide), eval_put _ _ _ _ (by omega), if_neg (by decide)]; exact xb
    · rw [size_put, size_put, size_put]; exact xs
  · obtain rfl := List.mem_singleton.1 hi
    refine wpOp_callQ rfl rfl 65 #[.pointer (some ⟨g, 0, none⟩)] (run_callOp rfl hcF _ _ _ x2) _ hcall (some 51) rfl ?_ (fun ch w' h => absurd h.1 (by simp)) (fun w' h => absurd h.1 (by simp))
    rintro u w1 ⟨hu, hg1, hD⟩
    obtain rfl : u = .agg (figV c) := by simpa using hu
    refine ⟨trivial, ?_⟩
    refine wpAnyH_all (rs := [1, 4]) (by kernel_rfl) (by decide) ?_
    intro i hi
    rcases List.mem_cons.1 hi with rfl | hi
    · refine wpOp_val rfl rfl v (run_loadOp rfl _ _ _ _ (by rw [eval_put _ _ _ _ (by omega), if_neg (by decide)]; exact x0) (load_cell (e := 67) Tryd.underlying98 _ _ _ (hcell _ (keep _ hg1)))) (some 49) rfl ⟨trivial, ?_⟩
      refine wpAnyH_all (rs := [4]) (by kernel_rfl) (by decide) ?_
      intro i hi
      obtain rfl := List.mem_singleton.1 hi
      refine wpOp_of_list rfl ?_
      refine wl_buildE (E := FigE) FigOk rfl _ rfl (figV c) rfl (by rw [eval_put _ _ _ _ (by rw [size_put]; omega), if_neg (by decide), eval_put _ _ _ _ (by omega), if_pos rfl]) ?_
      refine ⟨trivial, ?_⟩
      refine (show wpAnyH Tryd.prog .any own15_ops.toArray _ _ 3 _ (((a2.put (some 51) (.agg (figV c))).put (some 49) v).put (some 52) (.slice (some ⟨w1.heap.size, 0, none⟩) 1 1)) _ from tail (((a2.put (some 51) (.agg (figV c))).put (some 49) v).put (some 52) (.slice (some ⟨w1.heap.size, 0, none⟩) 1 1)) w1 ⟨.pointer (some ⟨p, 2, none⟩), v, .pointer (some ⟨g, 0, none⟩), .agg (figV c), .slice (some ⟨w1.heap.size, 0, none⟩) 1 1, ?_⟩ ?_ ?_ ?_ ?_ hg1 hD)
      · rw [comm 51 49 _ _ _ (by decide), ha2, comm 50 49 _ _ _ (by decide)]
      · rw [eval_put _ _ _ _ (by rw [size_put, size_put]; omega), if_neg (by decide), eval_put _ _ _ _ (by rw [size_put]; omega), if_pos rfl]
      · rw [eval_put _ _ _ _ (by rw [size_put, size_put]; omega), if_pos rfl]
      · rw [eval_put _ _ _ _ (by rw [size_put, size_put]; omega), if_neg (by decide), eval_put _ _ _ _ (by rw [size_put]; omega), if_neg (by decide), eval_put _ _ _ _ (by omega), if_neg (by decide)]; exact xb
      · rw [size_put, size_put, size_put]; exact xs
    · obtain rfl := List.mem_singleton.1 hi
      refine wpOp_of_list rfl ?_
      refine wl_buildE (E := FigE) FigOk rfl _ rfl (figV c) rfl (by rw [eval_put _ _ _ _ (by omega), if_pos rfl]) ?_
      refine ⟨trivial, ?_⟩
      show wpAnyH Tryd.prog .any own15_ops.toArray _ _ 4 _ ((a2.put (some 51) (.agg (figV c))).put (some 52) (.slice (some ⟨w1.heap.size, 0, none⟩) 1 1)) _
      refine wpAnyH_all (rs := [1]) (by kernel_rfl) (by decide) ?_
      intro i hi
      obtain rfl := List.mem_singleton.1 hi
      refine wpOp_val rfl rfl v (run_loadOp rfl _ _ _ _ (by rw [eval_put _ _ _ _ (by rw [size_put]; omega), if_neg (by decide), eval_put _ _ _ _ (by omega), if_neg (by decide)]; exact x0) (load_cell (e := 67) Tryd.underlying98 _ _ _ (hcell _ (heap_past _ _ _ _ (keep _ hg1))))) (some 49) rfl ⟨trivial, ?_⟩
      refine (show wpAnyH Tryd.prog .any own15_ops.toArray _ _ 3 _ (((a2.put (some 51) (.agg (figV c))).put (some 52) (.slice (some ⟨w1.heap.size, 0, none⟩) 1 1)).put (some 49) v) _ from tail (((a2.put (some 51) (.agg (figV c))).put (some 52) (.slice (some ⟨w1.heap.size, 0, none⟩) 1 1)).put (some 49) v) w1 ⟨.pointer (some ⟨p, 2, none⟩), v, .pointer (some ⟨g, 0, none⟩), .agg (figV c), .slice (some ⟨w1.heap.size, 0, none⟩) 1 1, ?_⟩ ?_ ?_ ?_ ?_ hg1 hD)
      · rw [comm 52 49 _ _ _ (by decide), comm 51 49 _ _ _ (by decide), ha2, comm 50 49 _ _ _ (by decide)]
      · rw [eval_put _ _ _ _ (by rw [size_put, size_put]; omega), if_pos rfl]
      · rw [eval_put _ _ _ _ (by rw [size_put, size_put]; omega), if_neg (by decide), eval_put _ _ _ _ (by rw [size_put]; omega), if_pos rfl]
      · rw [eval_put _ _ _ _ (by rw [size_put, size_put]; omega), if_neg (by decide), eval_put _ _ _ _ (by rw [size_put]; omega), if_neg (by decide), eval_put _ _ _ _ (by omega), if_neg (by decide)]; exact xb
      · rw [size_put, size_put, size_put]; exact xs

set_option maxHeartbeats 2000000 in
theorem own15_panics {id : Nat} {Q : Exit → Act → World → Prop} {a : Act} {w : World} (hs : 55 ≤ a.tmps.size) (g p : Nat) (h0 : a.eval (.tmp 0) = .pointer (some ⟨g, 0, none⟩)) (hp : a.eval (.tmp 5) = .pointer (some ⟨p, 0, none⟩))
    (cs : Array Value) (hcs : w.heap[p]? = some (.cells cs 100 (0, 0))) (v : Value) (hv : cs[2]? = some v)
    (ch : List PanicEntry) (D : World → Prop) (hcall : Calls Tryd.prog 65 #[.pointer (some ⟨g, 0, none⟩)] w.drew fun e w' => e = .panicked ch ∧ D w')
    (hK : ∀ a' w', a'.defers = a.defers → D w' → Q (.panic ch) a' w') : (Code.region id own15_ops.toArray true).wp Tryd.prog Q a w := by
  have hfa : ∀ W, (Instr.fieldAt 100 (.pointer (some ⟨p, 0, none⟩)) 2).run Tryd.prog W = .ok (.pointer (some ⟨p, 2, none⟩)) W := fun W => by simp [go_sem]
  have hcell : w.drew.cell? ⟨p, 2, none⟩ = some v := by rw [cell_of_row _ _ _ _ _ _ (show w.drew.heap[p]? = _ from hcs)]; exact hv
  refine Code.wp_mono (Q := fun e a' w' => e = .panic ch ∧ a'.defers = a.defers ∧ D w') (by rintro e a' w' ⟨rfl, hd, h⟩; exact hK a' w' hd h) ?_
  refine region_beginS (fun _ => True) 8 rfl (by kernel_rfl) ?_
  refine wpAnyH_take (i := 0) (v := .pointer (some ⟨p, 2, none⟩)) rfl (by kernel_rfl) (by kernel_rfl) (by kernel_rfl) (fun _ _ _ h => ⟨h.1, h.2.1, h.2.2⟩) (.inl ⟨rfl, fun W _ => run_fieldOp rfl _ _ _ ((congrArg (fun y => (Instr.fieldAt 100 y 2).run Tryd.prog W) hp).trans (hfa W))⟩) trivial ?_
  have a1 : (a.put (some 48) (.pointer (some ⟨p, 2, none⟩))).eval (.tmp 0) = .pointer (some ⟨g, 0, none⟩) := by rw [eval_put _ _ _ _ (by omega), if_neg (by decide)]; exact h0
  refine wpAnyH_take (i := 2) (v := .pointer (some ⟨g, 0, none⟩)) rfl (by kernel_rfl) (by kernel_rfl) (by kernel_rfl) (fun _ _ _ h => ⟨h.1, h.2.1, h.2.2⟩) (.inl ⟨rfl, fun W _ => run_moveOp rfl _ _ _ a1⟩) trivial ?_
  have hs2 : ((a.put (some 48) (.pointer (some ⟨p, 2, none⟩))).put (some 50) (.pointer (some ⟨g, 0, none⟩))).tmps.size = a.tmps.size := by rw [size_put, size_put]
  have hcF : ∀ vs W, (callFunc 65 vs).run Tryd.prog W = .ok (.enter 65 vs) W := fun vs W => by have hf := Tryd.func65; simp [go_sem]
  obtain ⟨a2, ha2⟩ : ∃ a2, a2 = ((a.put (some 48) (.pointer (some ⟨p, 2, none⟩))).put (some 50) (.pointer (some ⟨g, 0, none⟩))) := ⟨_, rfl⟩
  have x0 : a2.eval (.tmp 48) = .pointer (some ⟨p, 2, none⟩) := by rw [ha2, eval_put _ _ _ _ (by rw [size_put]; omega), if_neg (by decide), eval_put _ _ _ _ (by omega), if_pos rfl]
  have x2 : a2.eval (.tmp 50) = .pointer (some ⟨g, 0, none⟩) := by rw [ha2, eval_put _ _ _ _ (by rw [size_put]; omega), if_pos rfl]
  have xs : a2.tmps.size = a.tmps.size := by rw [ha2]; exact hs2
  show wpAnyH Tryd.prog .any own15_ops.toArray _ _ 6 _ ((a.put (some 48) (.pointer (some ⟨p, 2, none⟩))).put (some 50) (.pointer (some ⟨g, 0, none⟩))) w.drew
  rw [← ha2]
  refine wpAnyH_all (rs := [1, 3]) (by kernel_rfl) (by decide) ?_
  intro i hi
  rcases List.mem_cons.1 hi with rfl | hi
  · refine wpOp_val rfl rfl v (run_loadOp rfl _ _ _ _ x0 (load_cell (e := 67) Tryd.underlying98 _ _ _ hcell)) (some 49) rfl ⟨trivial, ?_⟩
    refine wpAnyH_all (rs := [3]) (by kernel_rfl) (by decide) ?_
    intro i hi
    obtain rfl := List.mem_singleton.1 hi
    refine wpOp_callQ rfl rfl 65 #[.pointer (some ⟨g, 0, none⟩)] (run_callOp rfl hcF _ _ _ (by rw [eval_put _ _ _ _ (by omega), if_neg (by decide)]; exact x2)) _ hcall (some 51) rfl (fun v w' h => absurd h.1 (by simp)) (fun ch' w' h => ⟨by rw [Ending.panicked.inj h.1], by rw [ha2]; rfl, h.2⟩) (fun w' h => absurd h.1 (by simp))
  · obtain rfl := List.mem_singleton.1 hi
    refine wpOp_callQ rfl rfl 65 #[.pointer (some ⟨g, 0, none⟩)] (run_callOp rfl hcF _ _ _ x2) _ hcall (some 51) rfl (fun v w' h => absurd h.1 (by simp)) (fun ch' w' h => ⟨by rw [Ending.panicked.inj h.1], by rw [ha2]; rfl, h.2⟩) (fun w' h => absurd h.1 (by simp))
end Go.Proofs.YtnbklmmampdbfaaDoor
namespace Go.Proofs.YtnbklmmampdbfaaDoor
open Go Go.RowKit
set_option maxRecDepth 20000

/-- A clause behind its word: what its numbers come to. -/
def addrC (E : Nat) (t : Tok) (T : List Tok) : Res (Cla × List Tok) := (addrT E T).bind fun y => (takeO E 4 y.2).map fun z => (⟨t.text, (t.pos : Int), y.1 ++ z.1.toList, z.1.isSome, false⟩, z.2)
def portC6 (E : Nat) (t : Tok) (T : List Tok) : Res (Cla × List Tok) := (takeF E T).bind fun x => (takeO E 5 x.2).map fun z => (⟨t.text, (t.pos : Int), x.1 :: z.1.toList, false, z.1.isSome⟩, z.2)
def protC (E : Nat) (t : Tok) (T : List Tok) : Res (Cla × List Tok) := (takeF E T).map fun x => (⟨t.text, (t.pos : Int), [x.1], false, false⟩, x.2)
theorem takeD_len {E : Nat} : ∀ (n : Nat) {T : List Tok} {F : List Fig} {T1 : List Tok}, takeD E n T = .ok (F, T1) → F.length = n
  | 0, T, F, T1, h => by
    have h' : (Except.ok (([] : List Fig), T) : Res (List Fig × List Tok)) = .ok (F, T1) := h
    cases h'
    rfl
  | n + 1, T, F, T1, h => by
    rw [takeD] at h
    cases hK : takeK E 3 T with
    | error x => rw [hK] at h; cases h
    | ok x =>
      rw [hK] at h
      have h1 : ((takeF E x.2).bind fun y => (takeD E n y.2).map fun z => (y.1 :: z.1, z.2)) = .ok (F, T1) := h
      cases hF : takeF E x.2 with
      | error y => rw [hF] at h1; cases h1
      | ok y =>
        rw [hF] at h1
        have h2 : ((takeD E n y.2).map fun z => (y.1 :: z.1, z.2)) = .ok (F, T1) := h1
        cases hD : takeD E n y.2 with
        | error z => rw [hD] at h2; cases h2
        | ok z =>
          rw [hD] at h2
          have h3 : (Except.ok (y.1 :: z.1, z.2) : Res (List Fig × List Tok)) = .ok (F, T1) := h2
          simp at h3
          rw [← h3.1, List.length_cons, takeD_len n (F := z.1) (T1 := z.2) hD]
theorem addrT_len {E : Nat} {T : List Tok} {F : List Fig} {T1 : List Tok} (h : addrT E T = .ok (F, T1)) : F.length = 4 := by
  unfold addrT at h
  cases hF : takeF E T with
  | error y => rw [hF] at h; cases h
  | ok y =>
    rw [hF] at h
    have h2 : ((takeD E 3 y.2).map fun z => (y.1 :: z.1, z.2)) = .ok (F, T1) := h
    cases hD : takeD E 3 y.2 with
    | error z => rw [hD] at h2; cases h2
    | ok z =>
      rw [hD] at h2
      have h3 : (Except.ok (y.1 :: z.1, z.2) : Res (List Fig × List Tok)) = .ok (F, T1) := h2
      simp at h3
      rw [← h3.1, List.length_cons, takeD_len 3 (F := z.1) (T1 := z.2) hD]
theorem rdO_no {E k : Nat} {T : List Tok} (h : (hd E T).kind ≠ k) : takeO E k T = .ok (none, T) ∧ follT E k T = .ok (false, T) := by
  refine ⟨?_, if_neg h⟩
  cases T with
  | nil => rfl
  | cons t T => exact if_neg h
theorem rdO_yes {E k : Nat} (hk : k ≠ 0) {T : List Tok} (h : (hd E T).kind = k) : ∃ T', takeO E k T = (takeF E T').map (fun y => (some y.1, y.2)) ∧ follT E k T = .ok (true, T') := by
  cases T with
  | nil => exact absurd h.symm hk
  | cons t T => exact ⟨T, if_pos h, if_pos h⟩
/-- A clause that was made: its numbers lie in a row of their own. -/
def ClaR (B : Nat) (w : World) (c : Cla) (v : Value) : Prop := ∃ u, v = .agg (claV c u) ∧ FigsOwn B w c.nums u
theorem cla_fits (c : Cla) (u : Value) (hu : ∃ o n k, u = .slice o n k) : Fits ClaE (claV c u) := by
  obtain ⟨o, n, k, rfl⟩ := hu
  exact ⟨rfl, by simp [claV, Value.oneCell']⟩
theorem own_set {w : World} {B : Nat} {e e' : TypeId} {s : Nat} {v : Value} {n : Nat} {xs : List Value} (h : w.ownsRow B e s v n xs) {p i : Nat} {cs : Array Value} {fr : Nat × Nat} (hp : w.heap[p]? = some (.cells cs e' fr)) (hne : e ≠ e') (y : Value) : (w.setCell ⟨p, i, none⟩ y).ownsRow B e s v n xs := by
  obtain ⟨h0, h1 | ⟨g, cap, cur, rfl, hB, hcur, h3⟩⟩ := h
  · exact ⟨h0, .inl h1⟩
  · refine ⟨h0, .inr ⟨g, cap, cur, rfl, hB, ?_, h3⟩⟩
    rw [tc_far (by rintro rfl; rw [hp] at hcur; simp only [Option.some.injEq, Obj.cells.injEq] at hcur; exact hne hcur.2.1.symm) y]
    exact hcur
theorem own_setRow6 {w : World} {B : Nat} {e e' : TypeId} {s : Nat} {v : Value} {n : Nat} {xs : List Value} (h : w.ownsRow B e s v n xs) {p : Nat} {cs : Array Value} {fr : Nat × Nat} (hp : w.heap[p]? = some (.cells cs e' fr)) (hne : e ≠ e') (ys : Array Value) : (w.setRow p ys).ownsRow B e s v n xs := by
  obtain ⟨h0, h1 | ⟨g, cap, cur, rfl, hB, hcur, h3⟩⟩ := h
  · exact ⟨h0, .inl h1⟩
  · refine ⟨h0, .inr ⟨g, cap, cur, rfl, hB, ?_, h3⟩⟩
    rw [setRow_other _ _ _ _ (by rintro rfl; rw [hp] at hcur; simp only [Option.some.injEq, Obj.cells.injEq] at hcur; exact hne hcur.2.1.symm)]
    exact hcur

set_option maxHeartbeats 4000000 in
set_option maxRecDepth 10000 in
theorem clause_src (W0 w : World) (g E : Nat) (t : Tok) (ht : t.text = wSrc) (T : List Tok) (h : Rd W0 w g E T) :
    Calls Tryd.prog 84 #[.pointer (some ⟨g, 0, none⟩), .agg (encT t)] w fun e w' => Took W0 w g E (ClaR w.heap.size) (addrC E t T) e w' := by
  have CF : Hid (∀ W T, Rd W0 W g E T → Calls Tryd.prog 65 #[.pointer (some ⟨g, 0, none⟩)] W fun e w' => Took W0 W g E (fun _ f v => v = .agg (figV f)) (takeF E T) e w') := fun W T h => figure_any W0 W g E T h
  have CA : Hid (∀ W T, Rd W0 W g E T → Calls Tryd.prog 99 #[.pointer (some ⟨g, 0, none⟩)] W fun e w' => Took W0 W g E (FigsOwn W.heap.size) (addrT E T) e w') := fun W T h => address_any W0 W g E T h
  have C4 : Hid (∀ W T, Rd W0 W g E T → Calls Tryd.prog 100 #[.pointer (some ⟨g, 0, none⟩), .int .i64 4] W fun e w' => Took W0 W g E (fun _ b v => v = .bool b) (follT E 4 T) e w') := fun W T h => follows_any W0 W g E 4 (by decide) T h
  have C5 : Hid (∀ W T, Rd W0 W g E T → Calls Tryd.prog 100 #[.pointer (some ⟨g, 0, none⟩), .int .i64 5] W fun e w' => Took W0 W g E (fun _ b v => v = .bool b) (follT E 5 T) e w') := fun W T h => follows_any W0 W g E 5 (by decide) T h
  have hgl := h.size
  have e0 : (t.text == [115, 114, 99]) = true := by rw [ht]; rfl
  have H : Hid (Rd W0 w g E T) := h
  obtain ⟨A, hA⟩ : ∃ A, A = addrC E t T := ⟨_, rfl⟩
  rw [← hA]
  unfold addrC at hA
  have q1 := fun x => tok_cells (heap_past _ x _ _ (heap_new w (.cells (encT t) 88) _ rfl))
  have q2 := fun x y => tok_cells (heap_past _ y _ _ (heap_past _ x _ _ (heap_new w (.cells (encT t) 88) _ rfl)))
  have t1 := fun x => (q1 x).2.1
  have t2 := fun x => (q1 x).2.2.1
  have t5 := fun x y => (q2 x y).2.1
  have t6 := fun x y => (q2 x y).2.2.1
  clear q1 q2
  clear h ht
  go_enter Tryd.func84, Tryd.ntmps84
  go_wp2_with (first
    | (refine wl_storeE (E := ClaE) ClaOk rfl _ _ rfl (w.heap.size + 2) (claV ⟨t.text, (t.pos : Int), [], false, false⟩ (.slice none 0 0)) (cla_fits _ _ ⟨_, _, _, rfl⟩) rfl rfl _ (heap_new _ _ _ (by simp)) rfl _ (setRow_new _ _ _ _ _ (by simp)) ?_))
  refine (CA.out _ T (((H.out.alloc _).alloc _).alloc _)).mono ?_
  cases hF : addrT E T with
  | error x =>
    obtain ⟨c, q⟩ := x
    have HA2 : Hid (A = .error (c, q)) := by show _ = _; rw [hA, hF]; rfl
    clear hA hF
    rintro e w1 ⟨hg1, rfl⟩
    go_wp2_with fail
    rw [HA2.out]
    exact ⟨rfl, grown_trans (gb_alloc (gb_alloc (gb_alloc (gb_refl w g) _) _) _) hg1, rfl⟩
  | ok x =>
    obtain ⟨F, T1⟩ := x
    have HA : Hid (A = (takeO E 4 T1).map fun z => ((⟨t.text, (t.pos : Int), F ++ z.1.toList, z.1.isSome, false⟩ : Cla), z.2)) := by show _ = _; rw [hA, hF]; rfl
    have HFL : Hid (F.length = 4) := addrT_len hF
    clear hA
    rintro e w1 ⟨hg1, ⟨u, rfl, hown1⟩, R1⟩
    obtain ⟨o, cap, rfl⟩ := gown_slice hown1
    have OWN1 : Hid (w1.ownsRow w.heap.size 67 2 (.slice o F.length cap) F.length (gcells figV F)) := gown_base hown1 (by simp; omega)
    have G1 : w.grownBy w1 (some g) := grown_trans (gb_alloc (gb_alloc (gb_alloc (gb_refl w g) _) _) _) hg1
    have z1 : w.heap.size + 3 ≤ w1.heap.size := by have := hg1.size; simp at this; omega
    have r1 : w1.heap[w.heap.size + 1]? = some (.cells (claV ⟨[], 0, [], false, false⟩ (.slice none 0 0)) 100 (0, 0)) := (hg1.block _ (by simp) (by simp; omega)).trans (heap_past _ _ _ _ (heap_new _ _ _ (by simp)))
    have rP : w1.heap[(w.heap.size + 1 + 1)]? = some (.cells (claV ⟨t.text, (t.pos : Int), [], false, false⟩ (.slice none 0 0)) 100 (0, 0)) := (hg1.block _ (by simp) (by simp; omega)).trans (heap_new _ _ _ (by simp))
    have c2 : w1.cell? ⟨(w.heap.size + 1 + 1), 2, none⟩ = some (.slice none 0 0) := by rw [cell_of_row _ _ _ _ _ _ rP]; rfl
    have f2 : w1.frozen? ⟨(w.heap.size + 1 + 1), 2, none⟩ = false := tc_frozen rP rfl
    have R1' : Rd W0 (w1.setCell ⟨(w.heap.size + 1 + 1), 2, none⟩ (.slice o F.length cap)) g E T1 := rd_setCell R1 (by omega) (by omega) _ _
    have G1' : w.grownBy (w1.setCell ⟨(w.heap.size + 1 + 1), 2, none⟩ (.slice o F.length cap)) (some g) := gb_setCell G1 (.inr (by omega)) _ _
    have rP' : (w1.setCell ⟨(w.heap.size + 1 + 1), 2, none⟩ (.slice o F.length cap)).heap[(w.heap.size + 1 + 1)]? = some (.cells (claV ⟨t.text, (t.pos : Int), [], false, false⟩ (.slice o F.length cap)) 100 (0, 0)) := tc_row rP _
    have r1' : (w1.setCell ⟨(w.heap.size + 1 + 1), 2, none⟩ (.slice o F.length cap)).heap[w.heap.size + 1]? = some (.cells (claV ⟨[], 0, [], false, false⟩ (.slice none 0 0)) 100 (0, 0)) := (tc_far (by omega) _).trans r1
    have OWN2 : Hid ((w1.setCell ⟨(w.heap.size + 1 + 1), 2, none⟩ (.slice o F.length cap)).ownsRow w.heap.size 67 2 (.slice o F.length cap) F.length (gcells figV F)) := own_set OWN1.out rP (by decide) _
    have KP : Hid (_ ∧ _ ∧ _ ∧ _) := ⟨R1', G1', rP', r1'⟩
    clear R1 G1 rP r1 R1' G1' rP' r1' OWN1 hg1 hF
    go_wp2_with fail
    refine (C4.out _ T1 KP.out.1).mono ?_
    by_cases hk : (hd E T1).kind = 4
    · obtain ⟨T2, hO, hf4⟩ := rdO_yes (by decide) hk
      rw [hf4]
      rw [hO] at HA
      clear hk hO hf4 c2 f2
      rintro e w2 ⟨hg2, ⟨v, rfl, rfl⟩, R2⟩
      have z2 : w1.heap.size ≤ w2.heap.size := by have := hg2.size; rw [tc_size] at this; simpa using this
      have rP2 : w2.heap[(w.heap.size + 1 + 1)]? = some (.cells (claV ⟨t.text, (t.pos : Int), [], false, false⟩ (.slice o F.length cap)) 100 (0, 0)) := (hg2.block _ (by rw [tc_size]; omega) (by simp; omega)).trans KP.out.2.2.1
      have r12 : w2.heap[w.heap.size + 1]? = some (.cells (claV ⟨[], 0, [], false, false⟩ (.slice none 0 0)) 100 (0, 0)) := (hg2.block _ (by rw [tc_size]; omega) (by simp; omega)).trans KP.out.2.2.2
      have c3 : w2.cell? ⟨(w.heap.size + 1 + 1), 3, none⟩ = some (.bool false) := by rw [cell_of_row _ _ _ _ _ _ rP2]; rfl
      have f3 : w2.frozen? ⟨(w.heap.size + 1 + 1), 3, none⟩ = false := tc_frozen rP2 rfl
      have rP3 : (w2.setCell ⟨(w.heap.size + 1 + 1), 3, none⟩ (.bool true)).heap[(w.heap.size + 1 + 1)]? = some (.cells (claV ⟨t.text, (t.pos : Int), [], true, false⟩ (.slice o F.length cap)) 100 (0, 0)) := tc_row rP2 _
      have r13 : (w2.setCell ⟨(w.heap.size + 1 + 1), 3, none⟩ (.bool true)).heap[w.heap.size + 1]? = some (.cells (claV ⟨[], 0, [], false, false⟩ (.slice none 0 0)) 100 (0, 0)) := (tc_far (by omega) _).trans r12
      have R3 : Rd W0 (w2.setCell ⟨(w.heap.size + 1 + 1), 3, none⟩ (.bool true)) g E T2 := rd_setCell R2 (by omega) (by omega) _ _
      have G3 : w.grownBy (w2.setCell ⟨(w.heap.size + 1 + 1), 3, none⟩ (.bool true)) (some g) := gb_setCell (grown_trans KP.out.2.1 hg2) (.inr (by omega)) _ _
      have OWN3 : Hid ((w2.setCell ⟨(w.heap.size + 1 + 1), 3, none⟩ (.bool true)).ownsRow w.heap.size 67 2 (.slice o F.length cap) F.length (gcells figV F)) := own_set (own_by hg2 hgl.2 OWN2.out) rP2 (by decide) _
      have d3 : (w2.setCell ⟨(w.heap.size + 1 + 1), 3, none⟩ (.bool true)).cell? ⟨(w.heap.size + 1 + 1), 3, none⟩ = some (.bool true) := by rw [cell_of_row _ _ _ _ _ _ rP3]; rfl
      have d4 : (w2.setCell ⟨(w.heap.size + 1 + 1), 3, none⟩ (.bool true)).cell? ⟨(w.heap.size + 1 + 1), 4, none⟩ = some (.bool false) := by rw [cell_of_row _ _ _ _ _ _ rP3]; rfl
      have K3 : Hid (_ ∧ _ ∧ _ ∧ _) := ⟨R3, G3, rP3, r13⟩
      clear hg2 R2 rP2 r12 rP3 r13 R3 G3 OWN2 KP
      go_wp2_with fail
      obtain ⟨w4, hw4⟩ : ∃ w4, w4 = w2.setCell ⟨(w.heap.size + 1 + 1), 3, none⟩ (.bool true) := ⟨_, rfl⟩
      rw [← hw4] at K3 OWN3 ⊢
      have z4 : w4.heap.size = w2.heap.size := by rw [hw4, tc_size]
      clear hw4 d3 d4 c3 f3
      cases hF2 : takeF E T2 with
      | error x =>
        obtain ⟨c, q⟩ := x
        rw [hF2] at HA
        refine own15_panics (Nat.le_of_ble_eq_true rfl) g (w.heap.size + 1 + 1) rfl rfl _ K3.out.2.2.1 (.slice o F.length cap) rfl [{ v := faultV c q, recovered := false }] (fun w' => w.grownBy w' (some g)) ?_ ?_
        · refine (CF.out w4.drew T2 (K3.out.1.below ((Below.refl _ _).drew))).mono ?_
          rw [hF2]
          rintro e w' ⟨hg, rfl⟩
          exact ⟨rfl, grown_trans K3.out.2.1 (grown_trans (gb_drew w4 g) hg)⟩
        · intro a' w' hdf hg
          go_wp2_with fail
          rw [HA.out]
          exact ⟨hdf, hg, rfl⟩
      | ok x =>
        obtain ⟨f2, T3⟩ := x
        rw [hF2] at HA
        refine own15_region (Nat.le_of_ble_eq_true rfl) g (w.heap.size + 1 + 1) rfl rfl _ K3.out.2.2.1 (.slice o F.length cap) rfl (by omega) F w.heap.size OWN3.out (by have := HFL.out; omega) (by omega) hgl.2 f2 (fun w' => w.grownBy w' (some g) ∧ Rd W0 w' g E T3) ?_ ?_
        · refine (CF.out w4.drew T2 (K3.out.1.below ((Below.refl _ _).drew))).mono ?_
          rw [hF2]
          rintro e w' ⟨hg, ⟨v, rfl, rfl⟩, R⟩
          exact ⟨rfl, hg, grown_trans K3.out.2.1 (grown_trans (gb_drew w4 g) hg), R⟩
        · rintro a' w5 w6 v' ⟨y0, y1, y2, y3, y4, y5, y6, rfl⟩ ⟨G5, R5⟩ hg5 hgr6 hown6 hp6
          simp only [Act.put, List.setIfInBounds_toArray, List.set_cons_succ, List.set_cons_zero]
          obtain ⟨o6, cap6, rfl⟩ := gown_slice hown6
          have z5 := hg5.size
          have z6 := hgr6.size
          have own5 := own_by hg5 hgl.2 OWN3.out
          have hub : ∀ k, ((.slice o F.length cap) : Value).ownBlock = some k → w.heap.size ≤ k := fun k hk => (OWN3.out.lt k hk).1
          have r16 : w6.heap[w.heap.size + 1]? = some (.cells (claV ⟨[], 0, [], false, false⟩ (.slice none 0 0)) 100 (0, 0)) := by
            refine (hgr6.block _ (by simp; omega) ?_).trans (heap_past _ _ _ _ ((hg5.block _ (by omega) (by simp; omega)).trans K3.out.2.2.2))
            intro hq
            have hx := hq.symm
            obtain ⟨_, ⟨hv, _⟩ | ⟨g', cap', cur', hv, _, h2, _⟩⟩ := OWN3.out
            · rw [hv] at hx; simp [Value.ownBlock] at hx
            · rw [hv] at hx
              simp only [Value.ownBlock, Option.some.injEq] at hx
              rw [hx, K3.out.2.2.2] at h2
              simp at h2
          have G6 : w.grownBy w6 (some g) := gb_own (gb_alloc G5 _) hgr6 hub
          have R6 : Rd W0 w6 g E T3 := rd_own (R5.alloc _) hgr6 fun k hk => Nat.lt_of_lt_of_le hgl.2 (hub k hk)
          have rP7 : Hid ((w6.setCell ⟨(w.heap.size + 1 + 1), 2, none⟩ (.slice o6 (F ++ [f2]).length cap6)).heap[(w.heap.size + 1 + 1)]? = some (.cells (claV ⟨t.text, (t.pos : Int), F ++ [f2], true, false⟩ (.slice o6 (F ++ [f2]).length cap6)) 100 (0, 0))) := tc_row hp6 _
          have r17 : Hid ((w6.setCell ⟨(w.heap.size + 1 + 1), 2, none⟩ (.slice o6 (F ++ [f2]).length cap6)).heap[w.heap.size + 1]? = some (.cells (claV ⟨[], 0, [], false, false⟩ (.slice none 0 0)) 100 (0, 0))) := (tc_far (by omega) _).trans r16
          have OWN7 : Hid ((w6.setCell ⟨(w.heap.size + 1 + 1), 2, none⟩ (.slice o6 (F ++ [f2]).length cap6)).ownsRow w.heap.size 67 2 (.slice o6 (F ++ [f2]).length cap6) (F ++ [f2]).length (gcells figV (F ++ [f2]))) := own_set hown6 hp6 (by decide) _
          have G7 : Hid (w.grownBy (w6.setCell ⟨(w.heap.size + 1 + 1), 2, none⟩ (.slice o6 (F ++ [f2]).length cap6)) (some g)) := gb_setCell G6 (.inr (by omega)) _ _
          have R7 : Hid (Rd W0 (w6.setCell ⟨(w.heap.size + 1 + 1), 2, none⟩ (.slice o6 (F ++ [f2]).length cap6)) g E T3) := rd_setCell R6 (by omega) (by omega) _ _
          clear hown6 hp6 r16 hgr6 own5 G6 R6 G5 R5 hg5
          go_wp2_with (first
            | (refine wl_loadE (E := ClaE) ClaOk rfl _ rfl (w.heap.size + 1 + 1) 0 rfl _ _ _ (claV ⟨t.text, (t.pos : Int), F ++ [f2], true, false⟩ (.slice o6 (F ++ [f2]).length cap6)) rfl rP7.out (own_cells _ _) ?_)
            | (refine wl_storeE (E := ClaE) ClaOk rfl _ _ rfl (w.heap.size + 1) (claV ⟨t.text, (t.pos : Int), F ++ [f2], true, false⟩ (.slice o6 (F ++ [f2]).length cap6)) (cla_fits _ _ ⟨_, _, _, rfl⟩) rfl rfl _ r17.out rfl _ rfl ?_))
          refine retE (E := ClaE) ClaOk rfl rfl (w.heap.size + 1) rfl (claV ⟨t.text, (t.pos : Int), F ++ [f2], true, false⟩ (.slice o6 (F ++ [f2]).length cap6)) rfl (setRow_heap _ _ _ _ _ _ r17.out) ?_
          rw [HA.out]
          exact ⟨gb_setRow G7.out (.inr (by omega)) _, ⟨_, rfl, _, rfl, own_setRow6 OWN7.out r17.out (by decide) _⟩, rd_setRow R7.out (by omega) (by omega) _⟩
    · obtain ⟨hO, hf4⟩ := rdO_no hk
      rw [hf4]
      rw [hO] at HA
      clear hk hO hf4 c2 f2
      rintro e w2 ⟨hg2, ⟨v, rfl, rfl⟩, R2⟩
      have z2 : w1.heap.size ≤ w2.heap.size := by have := hg2.size; rw [tc_size] at this; simpa using this
      have rP2 : w2.heap[(w.heap.size + 1 + 1)]? = some (.cells (claV ⟨t.text, (t.pos : Int), [], false, false⟩ (.slice o F.length cap)) 100 (0, 0)) := (hg2.block _ (by rw [tc_size]; omega) (by simp; omega)).trans KP.out.2.2.1
      have r12 : w2.heap[w.heap.size + 1]? = some (.cells (claV ⟨[], 0, [], false, false⟩ (.slice none 0 0)) 100 (0, 0)) := (hg2.block _ (by rw [tc_size]; omega) (by simp; omega)).trans KP.out.2.2.2
      have c3 : w2.cell? ⟨(w.heap.size + 1 + 1), 3, none⟩ = some (.bool false) := by rw [cell_of_row _ _ _ _ _ _ rP2]; rfl
      have f3 : w2.frozen? ⟨(w.heap.size + 1 + 1), 3, none⟩ = false := tc_frozen rP2 rfl
      have rP3 : (w2.setCell ⟨(w.heap.size + 1 + 1), 3, none⟩ (.bool false)).heap[(w.heap.size + 1 + 1)]? = some (.cells (claV ⟨t.text, (t.pos : Int), F, false, false⟩ (.slice o F.length cap)) 100 (0, 0)) := tc_row rP2 _
      have r13 : (w2.setCell ⟨(w.heap.size + 1 + 1), 3, none⟩ (.bool false)).heap[w.heap.size + 1]? = some (.cells (claV ⟨[], 0, [], false, false⟩ (.slice none 0 0)) 100 (0, 0)) := (tc_far (by omega) _).trans r12
      have R3 : Rd W0 (w2.setCell ⟨(w.heap.size + 1 + 1), 3, none⟩ (.bool false)) g E T1 := rd_setCell R2 (by omega) (by omega) _ _
      have G3 : w.grownBy (w2.setCell ⟨(w.heap.size + 1 + 1), 3, none⟩ (.bool false)) (some g) := gb_setCell (grown_trans KP.out.2.1 hg2) (.inr (by omega)) _ _
      have OWN3 : Hid ((w2.setCell ⟨(w.heap.size + 1 + 1), 3, none⟩ (.bool false)).ownsRow w.heap.size 67 2 (.slice o F.length cap) F.length (gcells figV F)) := own_set (own_by hg2 hgl.2 OWN2.out) rP2 (by decide) _
      have d3 : (w2.setCell ⟨(w.heap.size + 1 + 1), 3, none⟩ (.bool false)).cell? ⟨(w.heap.size + 1 + 1), 3, none⟩ = some (.bool false) := by rw [cell_of_row _ _ _ _ _ _ rP3]; rfl
      have d4 : (w2.setCell ⟨(w.heap.size + 1 + 1), 3, none⟩ (.bool false)).cell? ⟨(w.heap.size + 1 + 1), 4, none⟩ = some (.bool false) := by rw [cell_of_row _ _ _ _ _ _ rP3]; rfl
      have K3 : Hid (_ ∧ _ ∧ _ ∧ _) := ⟨R3, G3, rP3, r13⟩
      have HA3 : Hid (A = .ok ((⟨t.text, (t.pos : Int), F, false, false⟩ : Cla), T1)) := by show _ = _; rw [HA.out]; simp [Except.map]
      clear hg2 R2 rP2 r12 rP3 r13 R3 G3 OWN2 KP
      go_wp2_with (first
        | (refine wl_loadE (E := ClaE) ClaOk rfl _ rfl (w.heap.size + 1 + 1) 0 rfl _ _ _ (claV ⟨t.text, (t.pos : Int), F, false, false⟩ (.slice o F.length cap)) rfl K3.out.2.2.1 (own_cells _ _) ?_)
        | (refine wl_storeE (E := ClaE) ClaOk rfl _ _ rfl (w.heap.size + 1) (claV ⟨t.text, (t.pos : Int), F, false, false⟩ (.slice o F.length cap)) (cla_fits _ _ ⟨_, _, _, rfl⟩) rfl rfl _ K3.out.2.2.2 rfl _ rfl ?_))
      refine retE (E := ClaE) ClaOk rfl rfl (w.heap.size + 1) rfl (claV ⟨t.text, (t.pos : Int), F, false, false⟩ (.slice o F.length cap)) rfl (setRow_heap _ _ _ _ _ _ K3.out.2.2.2) ?_
      rw [HA3.out]
      exact ⟨gb_setRow K3.out.2.1 (.inr (by omega)) _, ⟨_, rfl, _, rfl, own_setRow6 OWN3.out K3.out.2.2.2 (by decide) _⟩, rd_setRow K3.out.1 (by omega) (by omega) _⟩

set_option maxHeartbeats 4000000 in
set_option maxRecDepth 10000 in
theorem clause_dst (W0 w : World) (g E : Nat) (t : Tok) (ht : t.text = wDst) (T : List Tok) (h : Rd W0 w g E T) :
    Calls Tryd.prog 84 #[.pointer (some ⟨g, 0, none⟩), .agg (encT t)] w fun e w' => Took W0 w g E (ClaR w.heap.size) (addrC E t T) e w' := by
  have CF : Hid (∀ W T, Rd W0 W g E T → Calls Tryd.prog 65 #[.pointer (some ⟨g, 0, none⟩)] W fun e w' => Took W0 W g E (fun _ f v => v = .agg (figV f)) (takeF E T) e w') := fun W T h => figure_any W0 W g E T h
  have CA : Hid (∀ W T, Rd W0 W g E T → Calls Tryd.prog 99 #[.pointer (some ⟨g, 0, none⟩)] W fun e w' => Took W0 W g E (FigsOwn W.heap.size) (addrT E T) e w') := fun W T h => address_any W0 W g E T h
  have C4 : Hid (∀ W T, Rd W0 W g E T → Calls Tryd.prog 100 #[.pointer (some ⟨g, 0, none⟩), .int .i64 4] W fun e w' => Took W0 W g E (fun _ b v => v = .bool b) (follT E 4 T) e w') := fun W T h => follows_any W0 W g E 4 (by decide) T h
  have C5 : Hid (∀ W T, Rd W0 W g E T → Calls Tryd.prog 100 #[.pointer (some ⟨g, 0, none⟩), .int .i64 5] W fun e w' => Took W0 W g E (fun _ b v => v = .bool b) (follT E 5 T) e w') := fun W T h => follows_any W0 W g E 5 (by decide) T h
  have hgl := h.size
  have e0 : (t.text == [115, 114, 99]) = false := by rw [ht]; rfl
  have e1 : (t.text == [100, 115, 116]) = true := by rw [ht]; rfl
  have H : Hid (Rd W0 w g E T) := h
  obtain ⟨A, hA⟩ : ∃ A, A = addrC E t T := ⟨_, rfl⟩
  rw [← hA]
  unfold addrC at hA
  have q1 := fun x => tok_cells (heap_past _ x _ _ (heap_new w (.cells (encT t) 88) _ rfl))
  have q2 := fun x y => tok_cells (heap_past _ y _ _ (heap_past _ x _ _ (heap_new w (.cells (encT t) 88) _ rfl)))
  have t1 := fun x => (q1 x).2.1
  have t2 := fun x => (q1 x).2.2.1
  have t5 := fun x y => (q2 x y).2.1
  have t6 := fun x y => (q2 x y).2.2.1
  clear q1 q2
  clear h ht
  go_enter Tryd.func84, Tryd.ntmps84
  go_wp2_with (first
    | (refine wl_storeE (E := ClaE) ClaOk rfl _ _ rfl (w.heap.size + 2) (claV ⟨t.text, (t.pos : Int), [], false, false⟩ (.slice none 0 0)) (cla_fits _ _ ⟨_, _, _, rfl⟩) rfl rfl _ (heap_new _ _ _ (by simp)) rfl _ (setRow_new _ _ _ _ _ (by simp)) ?_))
  refine (CA.out _ T (((H.out.alloc _).alloc _).alloc _)).mono ?_
  cases hF : addrT E T with
  | error x =>
    obtain ⟨c, q⟩ := x
    have HA2 : Hid (A = .error (c, q)) := by show _ = _; rw [hA, hF]; rfl
    clear hA hF
    rintro e w1 ⟨hg1, rfl⟩
    go_wp2_with fail
    rw [HA2.out]
    exact ⟨rfl, grown_trans (gb_alloc (gb_alloc (gb_alloc (gb_refl w g) _) _) _) hg1, rfl⟩
  | ok x =>
    obtain ⟨F, T1⟩ := x
    have HA : Hid (A = (takeO E 4 T1).map fun z => ((⟨t.text, (t.pos : Int), F ++ z.1.toList, z.1.isSome, false⟩ : Cla), z.2)) := by show _ = _; rw [hA, hF]; rfl
    have HFL : Hid (F.length = 4) := addrT_len hF
    clear hA
    rintro e w1 ⟨hg1, ⟨u, rfl, hown1⟩, R1⟩
    obtain ⟨o, cap, rfl⟩ := gown_slice hown1
    have OWN1 : Hid (w1.ownsRow w.heap.size 67 2 (.slice o F.length cap) F.length (gcells figV F)) := gown_base hown1 (by simp; omega)
    have G1 : w.grownBy w1 (some g) := grown_trans (gb_alloc (gb_alloc (gb_alloc (gb_refl w g) _) _) _) hg1
    have z1 : w.heap.size + 3 ≤ w1.heap.size := by have := hg1.size; simp at this; omega
    have r1 : w1.heap[w.heap.size + 1]? = some (.cells (claV ⟨[], 0, [], false, false⟩ (.slice none 0 0)) 100 (0, 0)) := (hg1.block _ (by simp) (by simp; omega)).trans (heap_past _ _ _ _ (heap_new _ _ _ (by simp)))
    have rP : w1.heap[(w.heap.size + 1 + 1)]? = some (.cells (claV ⟨t.text, (t.pos : Int), [], false, false⟩ (.slice none 0 0)) 100 (0, 0)) := (hg1.block _ (by simp) (by simp; omega)).trans (heap_new _ _ _ (by simp))
    have c2 : w1.cell? ⟨(w.heap.size + 1 + 1), 2, none⟩ = some (.slice none 0 0) := by rw [cell_of_row _ _ _ _ _ _ rP]; rfl
    have f2 : w1.frozen? ⟨(w.heap.size + 1 + 1), 2, none⟩ = false := tc_frozen rP rfl
    have R1' : Rd W0 (w1.setCell ⟨(w.heap.size + 1 + 1), 2, none⟩ (.slice o F.length cap)) g E T1 := rd_setCell R1 (by omega) (by omega) _ _
    have G1' : w.grownBy (w1.setCell ⟨(w.heap.size + 1 + 1), 2, none⟩ (.slice o F.length cap)) (some g) := gb_setCell G1 (.inr (by omega)) _ _
    have rP' : (w1.setCell ⟨(w.heap.size + 1 + 1), 2, none⟩ (.slice o F.length cap)).heap[(w.heap.size + 1 + 1)]? = some (.cells (claV ⟨t.text, (t.pos : Int), [], false, false⟩ (.slice o F.length cap)) 100 (0, 0)) := tc_row rP _
    have r1' : (w1.setCell ⟨(w.heap.size + 1 + 1), 2, none⟩ (.slice o F.length cap)).heap[w.heap.size + 1]? = some (.cells (claV ⟨[], 0, [], false, false⟩ (.slice none 0 0)) 100 (0, 0)) := (tc_far (by omega) _).trans r1
    have OWN2 : Hid ((w1.setCell ⟨(w.heap.size + 1 + 1), 2, none⟩ (.slice o F.length cap)).ownsRow w.heap.size 67 2 (.slice o F.length cap) F.length (gcells figV F)) := own_set OWN1.out rP (by decide) _
    have KP : Hid (_ ∧ _ ∧ _ ∧ _) := ⟨R1', G1', rP', r1'⟩
    clear R1 G1 rP r1 R1' G1' rP' r1' OWN1 hg1 hF
    go_wp2_with fail
    refine (C4.out _ T1 KP.out.1).mono ?_
    by_cases hk : (hd E T1).kind = 4
    · obtain ⟨T2, hO, hf4⟩ := rdO_yes (by decide) hk
      rw [hf4]
      rw [hO] at HA
      clear hk hO hf4 c2 f2
      rintro e w2 ⟨hg2, ⟨v, rfl, rfl⟩, R2⟩
      have z2 : w1.heap.size ≤ w2.heap.size := by have := hg2.size; rw [tc_size] at this; simpa using this
      have rP2 : w2.heap[(w.heap.size + 1 + 1)]? = some (.cells (claV ⟨t.text, (t.pos : Int), [], false, false⟩ (.slice o F.length cap)) 100 (0, 0)) := (hg2.block _ (by rw [tc_size]; omega) (by simp; omega)).trans KP.out.2.2.1
      have r12 : w2.heap[w.heap.size + 1]? = some (.cells (claV ⟨[], 0, [], false, false⟩ (.slice none 0 0)) 100 (0, 0)) := (hg2.block _ (by rw [tc_size]; omega) (by simp; omega)).trans KP.out.2.2.2
      have c3 : w2.cell? ⟨(w.heap.size + 1 + 1), 3, none⟩ = some (.bool false) := by rw [cell_of_row _ _ _ _ _ _ rP2]; rfl
      have f3 : w2.frozen? ⟨(w.heap.size + 1 + 1), 3, none⟩ = false := tc_frozen rP2 rfl
      have rP3 : (w2.setCell ⟨(w.heap.size + 1 + 1), 3, none⟩ (.bool true)).heap[(w.heap.size + 1 + 1)]? = some (.cells (claV ⟨t.text, (t.pos : Int), [], true, false⟩ (.slice o F.length cap)) 100 (0, 0)) := tc_row rP2 _
      have r13 : (w2.setCell ⟨(w.heap.size + 1 + 1), 3, none⟩ (.bool true)).heap[w.heap.size + 1]? = some (.cells (claV ⟨[], 0, [], false, false⟩ (.slice none 0 0)) 100 (0, 0)) := (tc_far (by omega) _).trans r12
      have R3 : Rd W0 (w2.setCell ⟨(w.heap.size + 1 + 1), 3, none⟩ (.bool true)) g E T2 := rd_setCell R2 (by omega) (by omega) _ _
      have G3 : w.grownBy (w2.setCell ⟨(w.heap.size + 1 + 1), 3, none⟩ (.bool true)) (some g) := gb_setCell (grown_trans KP.out.2.1 hg2) (.inr (by omega)) _ _
      have OWN3 : Hid ((w2.setCell ⟨(w.heap.size + 1 + 1), 3, none⟩ (.bool true)).ownsRow w.heap.size 67 2 (.slice o F.length cap) F.length (gcells figV F)) := own_set (own_by hg2 hgl.2 OWN2.out) rP2 (by decide) _
      have d3 : (w2.setCell ⟨(w.heap.size + 1 + 1), 3, none⟩ (.bool true)).cell? ⟨(w.heap.size + 1 + 1), 3, none⟩ = some (.bool true) := by rw [cell_of_row _ _ _ _ _ _ rP3]; rfl
      have d4 : (w2.setCell ⟨(w.heap.size + 1 + 1), 3, none⟩ (.bool true)).cell? ⟨(w.heap.size + 1 + 1), 4, none⟩ = some (.bool false) := by rw [cell_of_row _ _ _ _ _ _ rP3]; rfl
      have K3 : Hid (_ ∧ _ ∧ _ ∧ _) := ⟨R3, G3, rP3, r13⟩
      clear hg2 R2 rP2 r12 rP3 r13 R3 G3 OWN2 KP
      go_wp2_with fail
      obtain ⟨w4, hw4⟩ : ∃ w4, w4 = w2.setCell ⟨(w.heap.size + 1 + 1), 3, none⟩ (.bool true) := ⟨_, rfl⟩
      rw [← hw4] at K3 OWN3 ⊢
      have z4 : w4.heap.size = w2.heap.size := by rw [hw4, tc_size]
      clear hw4 d3 d4 c3 f3
      cases hF2 : takeF E T2 with
      | error x =>
        obtain ⟨c, q⟩ := x
        rw [hF2] at HA
        refine own15_panics (Nat.le_of_ble_eq_true rfl) g (w.heap.size + 1 + 1) rfl rfl _ K3.out.2.2.1 (.slice o F.length cap) rfl [{ v := faultV c q, recovered := false }] (fun w' => w.grownBy w' (some g)) ?_ ?_
        · refine (CF.out w4.drew T2 (K3.out.1.below ((Below.refl _ _).drew))).mono ?_
          rw [hF2]
          rintro e w' ⟨hg, rfl⟩
          exact ⟨rfl, grown_trans K3.out.2.1 (grown_trans (gb_drew w4 g) hg)⟩
        · intro a' w' hdf hg
          go_wp2_with fail
          rw [HA.out]
          exact ⟨hdf, hg, rfl⟩
      | ok x =>
        obtain ⟨f2, T3⟩ := x
        rw [hF2] at HA
        refine own15_region (Nat.le_of_ble_eq_true rfl) g (w.heap.size + 1 + 1) rfl rfl _ K3.out.2.2.1 (.slice o F.length cap) rfl (by omega) F w.heap.size OWN3.out (by have := HFL.out; omega) (by omega) hgl.2 f2 (fun w' => w.grownBy w' (some g) ∧ Rd W0 w' g E T3) ?_ ?_
        · refine (CF.out w4.drew T2 (K3.out.1.below ((Below.refl _ _).drew))).mono ?_
          rw [hF2]
          rintro e w' ⟨hg, ⟨v, rfl, rfl⟩, R⟩
          exact ⟨rfl, hg, grown_trans K3.out.2.1 (grown_trans (gb_drew w4 g) hg), R⟩
        · rintro a' w5 w6 v' ⟨y0, y1, y2, y3, y4, y5, y6, rfl⟩ ⟨G5, R5⟩ hg5 hgr6 hown6 hp6
          simp only [Act.put, List.setIfInBounds_toArray, List.set_cons_succ, List.set_cons_zero]
          obtain ⟨o6, cap6, rfl⟩ := gown_slice hown6
          have z5 := hg5.size
          have z6 := hgr6.size
          have own5 := own_by hg5 hgl.2 OWN3.out
          have hub : ∀ k, ((.slice o F.length cap) : Value).ownBlock = some k → w.heap.size ≤ k := fun k hk => (OWN3.out.lt k hk).1
          have r16 : w6.heap[w.heap.size + 1]? = some (.cells (claV ⟨[], 0, [], false, false⟩ (.slice none 0 0)) 100 (0, 0)) := by
            refine (hgr6.block _ (by simp; omega) ?_).trans (heap_past _ _ _ _ ((hg5.block _ (by omega) (by simp; omega)).trans K3.out.2.2.2))
            intro hq
            have hx := hq.symm
            obtain ⟨_, ⟨hv, _⟩ | ⟨g', cap', cur', hv, _, h2, _⟩⟩ := OWN3.out
            · rw [hv] at hx; simp [Value.ownBlock] at hx
            · rw [hv] at hx
              simp only [Value.ownBlock, Option.some.injEq] at hx
              rw [hx, K3.out.2.2.2] at h2
              simp at h2
          have G6 : w.grownBy w6 (some g) := gb_own (gb_alloc G5 _) hgr6 hub
          have R6 : Rd W0 w6 g E T3 := rd_own (R5.alloc _) hgr6 fun k hk => Nat.lt_of_lt_of_le hgl.2 (hub k hk)
          have rP7 : Hid ((w6.setCell ⟨(w.heap.size + 1 + 1), 2, none⟩ (.slice o6 (F ++ [f2]).length cap6)).heap[(w.heap.size + 1 + 1)]? = some (.cells (claV ⟨t.text, (t.pos : Int), F ++ [f2], true, false⟩ (.slice o6 (F ++ [f2]).length cap6)) 100 (0, 0))) := tc_row hp6 _
          have r17 : Hid ((w6.setCell ⟨(w.heap.size + 1 + 1), 2, none⟩ (.slice o6 (F ++ [f2]).length cap6)).heap[w.heap.size + 1]? = some (.cells (claV ⟨[], 0, [], false, false⟩ (.slice none 0 0)) 100 (0, 0))) := (tc_far (by omega) _).trans r16
          have OWN7 : Hid ((w6.setCell ⟨(w.heap.size + 1 + 1), 2, none⟩ (.slice o6 (F ++ [f2]).length cap6)).ownsRow w.heap.size 67 2 (.slice o6 (F ++ [f2]).length cap6) (F ++ [f2]).length (gcells figV (F ++ [f2]))) := own_set hown6 hp6 (by decide) _
          have G7 : Hid (w.grownBy (w6.setCell ⟨(w.heap.size + 1 + 1), 2, none⟩ (.slice o6 (F ++ [f2]).length cap6)) (some g)) := gb_setCell G6 (.inr (by omega)) _ _
          have R7 : Hid (Rd W0 (w6.setCell ⟨(w.heap.size + 1 + 1), 2, none⟩ (.slice o6 (F ++ [f2]).length cap6)) g E T3) := rd_setCell R6 (by omega) (by omega) _ _
          clear hown6 hp6 r16 hgr6 own5 G6 R6 G5 R5 hg5
          go_wp2_with (first
            | (refine wl_loadE (E := ClaE) ClaOk rfl _ rfl (w.heap.size + 1 + 1) 0 rfl _ _ _ (claV ⟨t.text, (t.pos : Int), F ++ [f2], true, false⟩ (.slice o6 (F ++ [f2]).length cap6)) rfl rP7.out (own_cells _ _) ?_)
            | (refine wl_storeE (E := ClaE) ClaOk rfl _ _ rfl (w.heap.size + 1) (claV ⟨t.text, (t.pos : Int), F ++ [f2], true, false⟩ (.slice o6 (F ++ [f2]).length cap6)) (cla_fits _ _ ⟨_, _, _, rfl⟩) rfl rfl _ r17.out rfl _ rfl ?_))
          refine retE (E := ClaE) ClaOk rfl rfl (w.heap.size + 1) rfl (claV ⟨t.text, (t.pos : Int), F ++ [f2], true, false⟩ (.slice o6 (F ++ [f2]).length cap6)) rfl (setRow_heap _ _ _ _ _ _ r17.out) ?_
          rw [HA.out]
          exact ⟨gb_setRow G7.out (.inr (by omega)) _, ⟨_, rfl, _, rfl, own_setRow6 OWN7.out r17.out (by decide) _⟩, rd_setRow R7.out (by omega) (by omega) _⟩
    · obtain ⟨hO, hf4⟩ := rdO_no hk
      rw [hf4]
      rw [hO] at HA
      clear hk hO hf4 c2 f2
      rintro e w2 ⟨hg2, ⟨v, rfl, rfl⟩, R2⟩
      have z2 : w1.heap.size ≤ w2.heap.size := by have := hg2.size; rw [tc_size] at this; simpa using this
      have rP2 : w2.heap[(w.heap.size + 1 + 1)]? = some (.cells (claV ⟨t.text, (t.pos : Int), [], false, false⟩ (.slice o F.length cap)) 100 (0, 0)) := (hg2.block _ (by rw [tc_size]; omega) (by simp; omega)).trans KP.out.2.2.1
      have r12 : w2.heap[w.heap.size + 1]? = some (.cells (claV ⟨[], 0, [], false, false⟩ (.slice none 0 0)) 100 (0, 0)) := (hg2.block _ (by rw [tc_size]; omega) (by simp; omega)).trans KP.out.2.2.2
      have c3 : w2.cell? ⟨(w.heap.size + 1 + 1), 3, none⟩ = some (.bool false) := by rw [cell_of_row _ _ _ _ _ _ rP2]; rfl
      have f3 : w2.frozen? ⟨(w.heap.size + 1 + 1), 3, none⟩ = false := tc_frozen rP2 rfl
      have rP3 : (w2.setCell ⟨(w.heap.size + 1 + 1), 3, none⟩ (.bool false)).heap[(w.heap.size + 1 + 1)]? = some (.cells (claV ⟨t.text, (t.pos : Int), F, false, false⟩ (.slice o F.length cap)) 100 (0, 0)) := tc_row rP2 _
      have r13 : (w2.setCell ⟨(w.heap.size + 1 + 1), 3, none⟩ (.bool false)).heap[w.heap.size + 1]? = some (.cells (claV ⟨[], 0, [], false, false⟩ (.slice none 0 0)) 100 (0, 0)) := (tc_far (by omega) _).trans r12
      have R3 : Rd W0 (w2.setCell ⟨(w.heap.size + 1 + 1), 3, none⟩ (.bool false)) g E T1 := rd_setCell R2 (by omega) (by omega) _ _
      have G3 : w.grownBy (w2.setCell ⟨(w.heap.size + 1 + 1), 3, none⟩ (.bool false)) (some g) := gb_setCell (grown_trans KP.out.2.1 hg2) (.inr (by omega)) _ _
      have OWN3 : Hid ((w2.setCell ⟨(w.heap.size + 1 + 1), 3, none⟩ (.bool false)).ownsRow w.heap.size 67 2 (.slice o F.length cap) F.length (gcells figV F)) := own_set (own_by hg2 hgl.2 OWN2.out) rP2 (by decide) _
      have d3 : (w2.setCell ⟨(w.heap.size + 1 + 1), 3, none⟩ (.bool false)).cell? ⟨(w.heap.size + 1 + 1), 3, none⟩ = some (.bool false) := by rw [cell_of_row _ _ _ _ _ _ rP3]; rfl
      have d4 : (w2.setCell ⟨(w.heap.size + 1 + 1), 3, none⟩ (.bool false)).cell? ⟨(w.heap.size + 1 + 1), 4, none⟩ = some (.bool false) := by rw [cell_of_row _ _ _ _ _ _ rP3]; rfl
      have K3 : Hid (_ ∧ _ ∧ _ ∧ _) := ⟨R3, G3, rP3, r13⟩
      have HA3 : Hid (A = .ok ((⟨t.text, (t.pos : Int), F, false, false⟩ : Cla), T1)) := by show _ = _; rw [HA.out]; simp [Except.map]
      clear hg2 R2 rP2 r12 rP3 r13 R3 G3 OWN2 KP
      go_wp2_with (first
        | (refine wl_loadE (E := ClaE) ClaOk rfl _ rfl (w.heap.size + 1 + 1) 0 rfl _ _ _ (claV ⟨t.text, (t.pos : Int), F, false, false⟩ (.slice o F.length cap)) rfl K3.out.2.2.1 (own_cells _ _) ?_)
        | (refine wl_storeE (E := ClaE) ClaOk rfl _ _ rfl (w.heap.size + 1) (claV ⟨t.text, (t.pos : Int), F, false, false⟩ (.slice o F.length cap)) (cla_fits _ _ ⟨_, _, _, rfl⟩) rfl rfl _ K3.out.2.2.2 rfl _ rfl ?_))
      refine retE (E := ClaE) ClaOk rfl rfl (w.heap.size + 1) rfl (claV ⟨t.text, (t.pos : Int), F, false, false⟩ (.slice o F.length cap)) rfl (setRow_heap _ _ _ _ _ _ K3.out.2.2.2) ?_
      rw [HA3.out]
      exact ⟨gb_setRow K3.out.2.1 (.inr (by omega)) _, ⟨_, rfl, _, rfl, own_setRow6 OWN3.out K3.out.2.2.2 (by decide) _⟩, rd_setRow K3.out.1 (by omega) (by omega) _⟩

set_option maxHeartbeats 4000000 in
set_option maxRecDepth 10000 in
theorem clause_sport (W0 w : World) (g E : Nat) (t : Tok) (ht : t.text = wSport) (T : List Tok) (h : Rd W0 w g E T) :
    Calls Tryd.prog 84 #[.pointer (some ⟨g, 0, none⟩), .agg (encT t)] w fun e w' => Took W0 w g E (ClaR w.heap.size) (portC6 E t T) e w' := by
  have CF : Hid (∀ W T, Rd W0 W g E T → Calls Tryd.prog 65 #[.pointer (some ⟨g, 0, none⟩)] W fun e w' => Took W0 W g E (fun _ f v => v = .agg (figV f)) (takeF E T) e w') := fun W T h => figure_any W0 W g E T h
  have CA : Hid (∀ W T, Rd W0 W g E T → Calls Tryd.prog 99 #[.pointer (some ⟨g, 0, none⟩)] W fun e w' => Took W0 W g E (FigsOwn W.heap.size) (addrT E T) e w') := fun W T h => address_any W0 W g E T h
  have C4 : Hid (∀ W T, Rd W0 W g E T → Calls Tryd.prog 100 #[.pointer (some ⟨g, 0, none⟩), .int .i64 4] W fun e w' => Took W0 W g E (fun _ b v => v = .bool b) (follT E 4 T) e w') := fun W T h => follows_any W0 W g E 4 (by decide) T h
  have C5 : Hid (∀ W T, Rd W0 W g E T → Calls Tryd.prog 100 #[.pointer (some ⟨g, 0, none⟩), .int .i64 5] W fun e w' => Took W0 W g E (fun _ b v => v = .bool b) (follT E 5 T) e w') := fun W T h => follows_any W0 W g E 5 (by decide) T h
  have hgl := h.size
  have e0 : (t.text == [115, 114, 99]) = false := by rw [ht]; rfl
  have e1 : (t.text == [100, 115, 116]) = false := by rw [ht]; rfl
  have e2 : (t.text == [115, 112, 111, 114, 116]) = true := by rw [ht]; rfl
  have H : Hid (Rd W0 w g E T) := h
  obtain ⟨A, hA⟩ : ∃ A, A = portC6 E t T := ⟨_, rfl⟩
  rw [← hA]
  unfold portC6 at hA
  have q1 := fun x => tok_cells (heap_past _ x _ _ (heap_new w (.cells (encT t) 88) _ rfl))
  have q2 := fun x y => tok_cells (heap_past _ y _ _ (heap_past _ x _ _ (heap_new w (.cells (encT t) 88) _ rfl)))
  have t1 := fun x => (q1 x).2.1
  have t2 := fun x => (q1 x).2.2.1
  have t5 := fun x y => (q2 x y).2.1
  have t6 := fun x y => (q2 x y).2.2.1
  clear q1 q2
  clear h ht
  go_enter Tryd.func84, Tryd.ntmps84
  go_wp2_with (first
    | (refine wl_storeE (E := ClaE) ClaOk rfl _ _ rfl (w.heap.size + 2) (claV ⟨t.text, (t.pos : Int), [], false, false⟩ (.slice none 0 0)) (cla_fits _ _ ⟨_, _, _, rfl⟩) rfl rfl _ (heap_new _ _ _ (by simp)) rfl _ (setRow_new _ _ _ _ _ (by simp)) ?_))
  refine (CF.out _ T (((H.out.alloc _).alloc _).alloc _)).mono ?_
  cases hF : takeF E T with
  | error x =>
    obtain ⟨c, q⟩ := x
    have HA2 : Hid (A = .error (c, q)) := by show _ = _; rw [hA, hF]; rfl
    clear hA hF
    rintro e w1 ⟨hg1, rfl⟩
    go_wp2_with fail
    rw [HA2.out]
    exact ⟨rfl, grown_trans (gb_alloc (gb_alloc (gb_alloc (gb_refl w g) _) _) _) hg1, rfl⟩
  | ok x =>
    obtain ⟨f, T1⟩ := x
    have HA : Hid (A = (takeO E 5 T1).map fun z => ((⟨t.text, (t.pos : Int), f :: z.1.toList, false, z.1.isSome⟩ : Cla), z.2)) := by show _ = _; rw [hA, hF]; rfl
    clear hA
    rintro e w1 ⟨hg1, ⟨v, rfl, rfl⟩, R1⟩
    have G1 : w.grownBy w1 (some g) := grown_trans (gb_alloc (gb_alloc (gb_alloc (gb_refl w g) _) _) _) hg1
    have z1 : w.heap.size + 3 ≤ w1.heap.size := by have := hg1.size; simp at this; omega
    have r1 : w1.heap[w.heap.size + 1]? = some (.cells (claV ⟨[], 0, [], false, false⟩ (.slice none 0 0)) 100 (0, 0)) := (hg1.block _ (by simp) (by simp; omega)).trans (heap_past _ _ _ _ (heap_new _ _ _ (by simp)))
    have rP : w1.heap[(w.heap.size + 1 + 1)]? = some (.cells (claV ⟨t.text, (t.pos : Int), [], false, false⟩ (.slice none 0 0)) 100 (0, 0)) := (hg1.block _ (by simp) (by simp; omega)).trans (heap_new _ _ _ (by simp))
    have OWN1 : Hid ((w1.alloc (.cells (figV f) 67)).ownsRow w.heap.size 67 2 (.slice (some ⟨w1.heap.size, 0, none⟩) 1 1) [f].length (gcells figV [f])) := ⟨rfl, Or.inr ⟨w1.heap.size, 1, figV f, rfl, by omega, heap_new _ _ _ rfl, Nat.le_refl 1, by decide, rfl, rfl⟩⟩
    replace r1 := heap_past _ (.cells (figV f) 67) _ _ r1
    have rP0 := rP
    replace rP := heap_past _ (.cells (figV f) 67) _ _ rP
    replace R1 := R1.alloc (.cells (figV f) 67)
    replace G1 := gb_alloc G1 (.cells (figV f) 67)
    have z1' : (w1.alloc (.cells (figV f) 67)).heap.size = w1.heap.size + 1 := by simp
    have c2 : ∀ x, (w1.alloc x).cell? ⟨(w.heap.size + 1 + 1), 2, none⟩ = some (.slice none 0 0) := fun x => by rw [cell_of_row _ _ _ _ _ _ (heap_past _ x _ _ rP0)]; rfl
    have f2 : ∀ x, (w1.alloc x).frozen? ⟨(w.heap.size + 1 + 1), 2, none⟩ = false := fun x => tc_frozen (heap_past _ x _ _ rP0) rfl
    have R1' : Rd W0 ((w1.alloc (.cells (figV f) 67)).setCell ⟨(w.heap.size + 1 + 1), 2, none⟩ (.slice (some ⟨w1.heap.size, 0, none⟩) 1 1)) g E T1 := rd_setCell R1 (by omega) (by omega) _ _
    have G1' : w.grownBy ((w1.alloc (.cells (figV f) 67)).setCell ⟨(w.heap.size + 1 + 1), 2, none⟩ (.slice (some ⟨w1.heap.size, 0, none⟩) 1 1)) (some g) := gb_setCell G1 (.inr (by omega)) _ _
    have rP' : ((w1.alloc (.cells (figV f) 67)).setCell ⟨(w.heap.size + 1 + 1), 2, none⟩ (.slice (some ⟨w1.heap.size, 0, none⟩) 1 1)).heap[(w.heap.size + 1 + 1)]? = some (.cells (claV ⟨t.text, (t.pos : Int), [], false, false⟩ (.slice (some ⟨w1.heap.size, 0, none⟩) 1 1)) 100 (0, 0)) := tc_row rP _
    have r1' : ((w1.alloc (.cells (figV f) 67)).setCell ⟨(w.heap.size + 1 + 1), 2, none⟩ (.slice (some ⟨w1.heap.size, 0, none⟩) 1 1)).heap[w.heap.size + 1]? = some (.cells (claV ⟨[], 0, [], false, false⟩ (.slice none 0 0)) 100 (0, 0)) := (tc_far (by omega) _).trans r1
    have OWN2 : Hid (((w1.alloc (.cells (figV f) 67)).setCell ⟨(w.heap.size + 1 + 1), 2, none⟩ (.slice (some ⟨w1.heap.size, 0, none⟩) 1 1)).ownsRow w.heap.size 67 2 (.slice (some ⟨w1.heap.size, 0, none⟩) 1 1) [f].length (gcells figV [f])) := own_set OWN1.out rP (by decide) _
    have KP : Hid (_ ∧ _ ∧ _ ∧ _) := ⟨R1', G1', rP', r1'⟩
    clear R1 G1 rP r1 R1' G1' rP' r1' OWN1 hg1 hF z1'
    clear rP0
    go_wp2_with (first
      | (refine wl_buildE (E := FigE) FigOk rfl _ rfl (figV f) rfl rfl ?_))
    refine (C5.out _ T1 KP.out.1).mono ?_
    by_cases hk : (hd E T1).kind = 5
    · obtain ⟨T2, hO, hf4⟩ := rdO_yes (by decide) hk
      rw [hf4]
      rw [hO] at HA
      clear hk hO hf4 c2 f2
      rintro e w2 ⟨hg2, ⟨v, rfl, rfl⟩, R2⟩
      have z2 : w1.heap.size + 1 ≤ w2.heap.size := by have := hg2.size; rw [tc_size] at this; simpa using this
      have rP2 : w2.heap[(w.heap.size + 1 + 1)]? = some (.cells (claV ⟨t.text, (t.pos : Int), [], false, false⟩ (.slice (some ⟨w1.heap.size, 0, none⟩) 1 1)) 100 (0, 0)) := (hg2.block _ (by rw [tc_size]; simp; omega) (by simp; omega)).trans KP.out.2.2.1
      have r12 : w2.heap[w.heap.size + 1]? = some (.cells (claV ⟨[], 0, [], false, false⟩ (.slice none 0 0)) 100 (0, 0)) := (hg2.block _ (by rw [tc_size]; simp; omega) (by simp; omega)).trans KP.out.2.2.2
      have c3 : w2.cell? ⟨(w.heap.size + 1 + 1), 4, none⟩ = some (.bool false) := by rw [cell_of_row _ _ _ _ _ _ rP2]; rfl
      have f3 : w2.frozen? ⟨(w.heap.size + 1 + 1), 4, none⟩ = false := tc_frozen rP2 rfl
      have rP3 : (w2.setCell ⟨(w.heap.size + 1 + 1), 4, none⟩ (.bool true)).heap[(w.heap.size + 1 + 1)]? = some (.cells (claV ⟨t.text, (t.pos : Int), [], false, true⟩ (.slice (some ⟨w1.heap.size, 0, none⟩) 1 1)) 100 (0, 0)) := tc_row rP2 _
      have r13 : (w2.setCell ⟨(w.heap.size + 1 + 1), 4, none⟩ (.bool true)).heap[w.heap.size + 1]? = some (.cells (claV ⟨[], 0, [], false, false⟩ (.slice none 0 0)) 100 (0, 0)) := (tc_far (by omega) _).trans r12
      have R3 : Rd W0 (w2.setCell ⟨(w.heap.size + 1 + 1), 4, none⟩ (.bool true)) g E T2 := rd_setCell R2 (by omega) (by omega) _ _
      have G3 : w.grownBy (w2.setCell ⟨(w.heap.size + 1 + 1), 4, none⟩ (.bool true)) (some g) := gb_setCell (grown_trans KP.out.2.1 hg2) (.inr (by omega)) _ _
      have OWN3 : Hid ((w2.setCell ⟨(w.heap.size + 1 + 1), 4, none⟩ (.bool true)).ownsRow w.heap.size 67 2 (.slice (some ⟨w1.heap.size, 0, none⟩) 1 1) [f].length (gcells figV [f])) := own_set (own_by hg2 hgl.2 OWN2.out) rP2 (by decide) _
      have d3 : (w2.setCell ⟨(w.heap.size + 1 + 1), 4, none⟩ (.bool true)).cell? ⟨(w.heap.size + 1 + 1), 3, none⟩ = some (.bool false) := by rw [cell_of_row _ _ _ _ _ _ rP3]; rfl
      have d4 : (w2.setCell ⟨(w.heap.size + 1 + 1), 4, none⟩ (.bool true)).cell? ⟨(w.heap.size + 1 + 1), 4, none⟩ = some (.bool true) := by rw [cell_of_row _ _ _ _ _ _ rP3]; rfl
      have K3 : Hid (_ ∧ _ ∧ _ ∧ _) := ⟨R3, G3, rP3, r13⟩
      clear hg2 R2 rP2 r12 rP3 r13 R3 G3 OWN2 KP
      go_wp2_with fail
      obtain ⟨w4, hw4⟩ : ∃ w4, w4 = w2.setCell ⟨(w.heap.size + 1 + 1), 4, none⟩ (.bool true) := ⟨_, rfl⟩
      rw [← hw4] at K3 OWN3 ⊢
      have z4 : w4.heap.size = w2.heap.size := by rw [hw4, tc_size]
      clear hw4 d3 d4 c3 f3
      cases hF2 : takeF E T2 with
      | error x =>
        obtain ⟨c, q⟩ := x
        rw [hF2] at HA
        refine own15_panics (Nat.le_of_ble_eq_true rfl) g (w.heap.size + 1 + 1) rfl rfl _ K3.out.2.2.1 (.slice (some ⟨w1.heap.size, 0, none⟩) 1 1) rfl [{ v := faultV c q, recovered := false }] (fun w' => w.grownBy w' (some g)) ?_ ?_
        · refine (CF.out w4.drew T2 (K3.out.1.below ((Below.refl _ _).drew))).mono ?_
          rw [hF2]
          rintro e w' ⟨hg, rfl⟩
          exact ⟨rfl, grown_trans K3.out.2.1 (grown_trans (gb_drew w4 g) hg)⟩
        · intro a' w' hdf hg
          go_wp2_with fail
          rw [HA.out]
          exact ⟨hdf, hg, rfl⟩
      | ok x =>
        obtain ⟨f2, T3⟩ := x
        rw [hF2] at HA
        refine own15_region (Nat.le_of_ble_eq_true rfl) g (w.heap.size + 1 + 1) rfl rfl _ K3.out.2.2.1 (.slice (some ⟨w1.heap.size, 0, none⟩) 1 1) rfl (by omega) [f] w.heap.size OWN3.out (by simp) (by omega) hgl.2 f2 (fun w' => w.grownBy w' (some g) ∧ Rd W0 w' g E T3) ?_ ?_
        · refine (CF.out w4.drew T2 (K3.out.1.below ((Below.refl _ _).drew))).mono ?_
          rw [hF2]
          rintro e w' ⟨hg, ⟨v, rfl, rfl⟩, R⟩
          exact ⟨rfl, hg, grown_trans K3.out.2.1 (grown_trans (gb_drew w4 g) hg), R⟩
        · rintro a' w5 w6 v' ⟨y0, y1, y2, y3, y4, y5, y6, rfl⟩ ⟨G5, R5⟩ hg5 hgr6 hown6 hp6
          simp only [Act.put, List.setIfInBounds_toArray, List.set_cons_succ, List.set_cons_zero]
          obtain ⟨o6, cap6, rfl⟩ := gown_slice hown6
          have z5 := hg5.size
          have z6 := hgr6.size
          have own5 := own_by hg5 hgl.2 OWN3.out
          have hub : ∀ k, ((.slice (some ⟨w1.heap.size, 0, none⟩) 1 1) : Value).ownBlock = some k → w.heap.size ≤ k := fun k hk => (OWN3.out.lt k hk).1
          have r16 : w6.heap[w.heap.size + 1]? = some (.cells (claV ⟨[], 0, [], false, false⟩ (.slice none 0 0)) 100 (0, 0)) := by
            refine (hgr6.block _ (by simp; omega) ?_).trans (heap_past _ _ _ _ ((hg5.block _ (by omega) (by simp; omega)).trans K3.out.2.2.2))
            intro hq
            have hx := hq.symm
            obtain ⟨_, ⟨hv, _⟩ | ⟨g', cap', cur', hv, _, h2, _⟩⟩ := OWN3.out
            · rw [hv] at hx; simp [Value.ownBlock] at hx
            · rw [hv] at hx
              simp only [Value.ownBlock, Option.some.injEq] at hx
              rw [hx, K3.out.2.2.2] at h2
              simp at h2
          have G6 : w.grownBy w6 (some g) := gb_own (gb_alloc G5 _) hgr6 hub
          have R6 : Rd W0 w6 g E T3 := rd_own (R5.alloc _) hgr6 fun k hk => Nat.lt_of_lt_of_le hgl.2 (hub k hk)
          have rP7 : Hid ((w6.setCell ⟨(w.heap.size + 1 + 1), 2, none⟩ (.slice o6 ([f] ++ [f2]).length cap6)).heap[(w.heap.size + 1 + 1)]? = some (.cells (claV ⟨t.text, (t.pos : Int), [f] ++ [f2], false, true⟩ (.slice o6 ([f] ++ [f2]).length cap6)) 100 (0, 0))) := tc_row hp6 _
          have r17 : Hid ((w6.setCell ⟨(w.heap.size + 1 + 1), 2, none⟩ (.slice o6 ([f] ++ [f2]).length cap6)).heap[w.heap.size + 1]? = some (.cells (claV ⟨[], 0, [], false, false⟩ (.slice none 0 0)) 100 (0, 0))) := (tc_far (by omega) _).trans r16
          have OWN7 : Hid ((w6.setCell ⟨(w.heap.size + 1 + 1), 2, none⟩ (.slice o6 ([f] ++ [f2]).length cap6)).ownsRow w.heap.size 67 2 (.slice o6 ([f] ++ [f2]).length cap6) ([f] ++ [f2]).length (gcells figV ([f] ++ [f2]))) := own_set hown6 hp6 (by decide) _
          have G7 : Hid (w.grownBy (w6.setCell ⟨(w.heap.size + 1 + 1), 2, none⟩ (.slice o6 ([f] ++ [f2]).length cap6)) (some g)) := gb_setCell G6 (.inr (by omega)) _ _
          have R7 : Hid (Rd W0 (w6.setCell ⟨(w.heap.size + 1 + 1), 2, none⟩ (.slice o6 ([f] ++ [f2]).length cap6)) g E T3) := rd_setCell R6 (by omega) (by omega) _ _
          clear hown6 hp6 r16 hgr6 own5 G6 R6 G5 R5 hg5
          go_wp2_with (first
            | (refine wl_loadE (E := ClaE) ClaOk rfl _ rfl (w.heap.size + 1 + 1) 0 rfl _ _ _ (claV ⟨t.text, (t.pos : Int), [f] ++ [f2], false, true⟩ (.slice o6 ([f] ++ [f2]).length cap6)) rfl rP7.out (own_cells _ _) ?_)
            | (refine wl_storeE (E := ClaE) ClaOk rfl _ _ rfl (w.heap.size + 1) (claV ⟨t.text, (t.pos : Int), [f] ++ [f2], false, true⟩ (.slice o6 ([f] ++ [f2]).length cap6)) (cla_fits _ _ ⟨_, _, _, rfl⟩) rfl rfl _ r17.out rfl _ rfl ?_))
          refine retE (E := ClaE) ClaOk rfl rfl (w.heap.size + 1) rfl (claV ⟨t.text, (t.pos : Int), [f] ++ [f2], false, true⟩ (.slice o6 ([f] ++ [f2]).length cap6)) rfl (setRow_heap _ _ _ _ _ _ r17.out) ?_
          rw [HA.out]
          exact ⟨gb_setRow G7.out (.inr (by omega)) _, ⟨_, rfl, _, rfl, own_setRow6 OWN7.out r17.out (by decide) _⟩, rd_setRow R7.out (by omega) (by omega) _⟩
    · obtain ⟨hO, hf4⟩ := rdO_no hk
      rw [hf4]
      rw [hO] at HA
      clear hk hO hf4 c2 f2
      rintro e w2 ⟨hg2, ⟨v, rfl, rfl⟩, R2⟩
      have z2 : w1.heap.size + 1 ≤ w2.heap.size := by have := hg2.size; rw [tc_size] at this; simpa using this
      have rP2 : w2.heap[(w.heap.size + 1 + 1)]? = some (.cells (claV ⟨t.text, (t.pos : Int), [], false, false⟩ (.slice (some ⟨w1.heap.size, 0, none⟩) 1 1)) 100 (0, 0)) := (hg2.block _ (by rw [tc_size]; simp; omega) (by simp; omega)).trans KP.out.2.2.1
      have r12 : w2.heap[w.heap.size + 1]? = some (.cells (claV ⟨[], 0, [], false, false⟩ (.slice none 0 0)) 100 (0, 0)) := (hg2.block _ (by rw [tc_size]; simp; omega) (by simp; omega)).trans KP.out.2.2.2
      have c3 : w2.cell? ⟨(w.heap.size + 1 + 1), 4, none⟩ = some (.bool false) := by rw [cell_of_row _ _ _ _ _ _ rP2]; rfl
      have f3 : w2.frozen? ⟨(w.heap.size + 1 + 1), 4, none⟩ = false := tc_frozen rP2 rfl
      have rP3 : (w2.setCell ⟨(w.heap.size + 1 + 1), 4, none⟩ (.bool false)).heap[(w.heap.size + 1 + 1)]? = some (.cells (claV ⟨t.text, (t.pos : Int), [f], false, false⟩ (.slice (some ⟨w1.heap.size, 0, none⟩) 1 1)) 100 (0, 0)) := tc_row rP2 _
      have r13 : (w2.setCell ⟨(w.heap.size + 1 + 1), 4, none⟩ (.bool false)).heap[w.heap.size + 1]? = some (.cells (claV ⟨[], 0, [], false, false⟩ (.slice none 0 0)) 100 (0, 0)) := (tc_far (by omega) _).trans r12
      have R3 : Rd W0 (w2.setCell ⟨(w.heap.size + 1 + 1), 4, none⟩ (.bool false)) g E T1 := rd_setCell R2 (by omega) (by omega) _ _
      have G3 : w.grownBy (w2.setCell ⟨(w.heap.size + 1 + 1), 4, none⟩ (.bool false)) (some g) := gb_setCell (grown_trans KP.out.2.1 hg2) (.inr (by omega)) _ _
      have OWN3 : Hid ((w2.setCell ⟨(w.heap.size + 1 + 1), 4, none⟩ (.bool false)).ownsRow w.heap.size 67 2 (.slice (some ⟨w1.heap.size, 0, none⟩) 1 1) [f].length (gcells figV [f])) := own_set (own_by hg2 hgl.2 OWN2.out) rP2 (by decide) _
      have d3 : (w2.setCell ⟨(w.heap.size + 1 + 1), 4, none⟩ (.bool false)).cell? ⟨(w.heap.size + 1 + 1), 3, none⟩ = some (.bool false) := by rw [cell_of_row _ _ _ _ _ _ rP3]; rfl
      have d4 : (w2.setCell ⟨(w.heap.size + 1 + 1), 4, none⟩ (.bool false)).cell? ⟨(w.heap.size + 1 + 1), 4, none⟩ = some (.bool false) := by rw [cell_of_row _ _ _ _ _ _ rP3]; rfl
      have K3 : Hid (_ ∧ _ ∧ _ ∧ _) := ⟨R3, G3, rP3, r13⟩
      have HA3 : Hid (A = .ok ((⟨t.text, (t.pos : Int), [f], false, false⟩ : Cla), T1)) := by show _ = _; rw [HA.out]; simp [Except.map]
      clear hg2 R2 rP2 r12 rP3 r13 R3 G3 OWN2 KP
      go_wp2_with (first
        | (refine wl_loadE (E := ClaE) ClaOk rfl _ rfl (w.heap.size + 1 + 1) 0 rfl _ _ _ (claV ⟨t.text, (t.pos : Int), [f], false, false⟩ (.slice (some ⟨w1.heap.size, 0, none⟩) 1 1)) rfl K3.out.2.2.1 (own_cells _ _) ?_)
        | (refine wl_storeE (E := ClaE) ClaOk rfl _ _ rfl (w.heap.size + 1) (claV ⟨t.text, (t.pos : Int), [f], false, false⟩ (.slice (some ⟨w1.heap.size, 0, none⟩) 1 1)) (cla_fits _ _ ⟨_, _, _, rfl⟩) rfl rfl _ K3.out.2.2.2 rfl _ rfl ?_))
      refine retE (E := ClaE) ClaOk rfl rfl (w.heap.size + 1) rfl (claV ⟨t.text, (t.pos : Int), [f], false, false⟩ (.slice (some ⟨w1.heap.size, 0, none⟩) 1 1)) rfl (setRow_heap _ _ _ _ _ _ K3.out.2.2.2) ?_
      rw [HA3.out]
      exact ⟨gb_setRow K3.out.2.1 (.inr (by omega)) _, ⟨_, rfl, _, rfl, own_setRow6 OWN3.out K3.out.2.2.2 (by decide) _⟩, rd_setRow K3.out.1 (by omega) (by omega) _⟩

set_option maxHeartbeats 4000000 in
set_option maxRecDepth 10000 in
theorem clause_dport (W0 w : World) (g E : Nat) (t : Tok) (ht : t.text = wDport) (T : List Tok) (h : Rd W0 w g E T) :
    Calls Tryd.prog 84 #[.pointer (some ⟨g, 0, none⟩), .agg (encT t)] w fun e w' => Took W0 w g E (ClaR w.heap.size) (portC6 E t T) e w' := by
  have CF : Hid (∀ W T, Rd W0 W g E T → Calls Tryd.prog 65 #[.pointer (some ⟨g, 0, none⟩)] W fun e w' => Took W0 W g E (fun _ f v => v = .agg (figV f)) (takeF E T) e w') := fun W T h => figure_any W0 W g E T h
  have CA : Hid (∀ W T, Rd W0 W g E T → Calls Tryd.prog 99 #[.pointer (some ⟨g, 0, none⟩)] W fun e w' => Took W0 W g E (FigsOwn W.heap.size) (addrT E T) e w') := fun W T h => address_any W0 W g E T h
  have C4 : Hid (∀ W T, Rd W0 W g E T → Calls Tryd.prog 100 #[.pointer (some ⟨g, 0, none⟩), .int .i64 4] W fun e w' => Took W0 W g E (fun _ b v => v = .bool b) (follT E 4 T) e w') := fun W T h => follows_any W0 W g E 4 (by decide) T h
  have C5 : Hid (∀ W T, Rd W0 W g E T → Calls Tryd.prog 100 #[.pointer (some ⟨g, 0, none⟩), .int .i64 5] W fun e w' => Took W0 W g E (fun _ b v => v = .bool b) (follT E 5 T) e w') := fun W T h => follows_any W0 W g E 5 (by decide) T h
  have hgl := h.size
  have e0 : (t.text == [115, 114, 99]) = false := by rw [ht]; rfl
  have e1 : (t.text == [100, 115, 116]) = false := by rw [ht]; rfl
  have e2 : (t.text == [115, 112, 111, 114, 116]) = false := by rw [ht]; rfl
  have e3 : (t.text == [100, 112, 111, 114, 116]) = true := by rw [ht]; rfl
  have H : Hid (Rd W0 w g E T) := h
  obtain ⟨A, hA⟩ : ∃ A, A = portC6 E t T := ⟨_, rfl⟩
  rw [← hA]
  unfold portC6 at hA
  have q1 := fun x => tok_cells (heap_past _ x _ _ (heap_new w (.cells (encT t) 88) _ rfl))
  have q2 := fun x y => tok_cells (heap_past _ y _ _ (heap_past _ x _ _ (heap_new w (.cells (encT t) 88) _ rfl)))
  have t1 := fun x => (q1 x).2.1
  have t2 := fun x => (q1 x).2.2.1
  have t5 := fun x y => (q2 x y).2.1
  have t6 := fun x y => (q2 x y).2.2.1
  clear q1 q2
  clear h ht
  go_enter Tryd.func84, Tryd.ntmps84
  go_wp2_with (first
    | (refine wl_storeE (E := ClaE) ClaOk rfl _ _ rfl (w.heap.size + 2) (claV ⟨t.text, (t.pos : Int), [], false, false⟩ (.slice none 0 0)) (cla_fits _ _ ⟨_, _, _, rfl⟩) rfl rfl _ (heap_new _ _ _ (by simp)) rfl _ (setRow_new _ _ _ _ _ (by simp)) ?_))
  refine (CF.out _ T (((H.out.alloc _).alloc _).alloc _)).mono ?_
  cases hF : takeF E T with
  | error x =>
    obtain ⟨c, q⟩ := x
    have HA2 : Hid (A = .error (c, q)) := by show _ = _; rw [hA, hF]; rfl
    clear hA hF
    rintro e w1 ⟨hg1, rfl⟩
    go_wp2_with fail
    rw [HA2.out]
    exact ⟨rfl, grown_trans (gb_alloc (gb_alloc (gb_alloc (gb_refl w g) _) _) _) hg1, rfl⟩
  | ok x =>
    obtain ⟨f, T1⟩ := x
    have HA : Hid (A = (takeO E 5 T1).map fun z => ((⟨t.text, (t.pos : Int), f :: z.1.toList, false, z.1.isSome⟩ : Cla), z.2)) := by show _ = _; rw [hA, hF]; rfl
    clear hA
    rintro e w1 ⟨hg1, ⟨v, rfl, rfl⟩, R1⟩
    have G1 : w.grownBy w1 (some g) := grown_trans (gb_alloc (gb_alloc (gb_alloc (gb_refl w g) _) _) _) hg1
    have z1 : w.heap.size + 3 ≤ w1.heap.size := by have := hg1.size; simp at this; omega
    have r1 : w1.heap[w.heap.size + 1]? = some (.cells (claV ⟨[], 0, [], false, false⟩ (.slice none 0 0)) 100 (0, 0)) := (hg1.block _ (by simp) (by simp; omega)).trans (heap_past _ _ _ _ (heap_new _ _ _ (by simp)))
    have rP : w1.heap[(w.heap.size + 1 + 1)]? = some (.cells (claV ⟨t.text, (t.pos : Int), [], false, false⟩ (.slice none 0 0)) 100 (0, 0)) := (hg1.block _ (by simp) (by simp; omega)).trans (heap_new _ _ _ (by simp))
    have OWN1 : Hid ((w1.alloc (.cells (figV f) 67)).ownsRow w.heap.size 67 2 (.slice (some ⟨w1.heap.size, 0, none⟩) 1 1) [f].length (gcells figV [f])) := ⟨rfl, Or.inr ⟨w1.heap.size, 1, figV f, rfl, by omega, heap_new _ _ _ rfl, Nat.le_refl 1, by decide, rfl, rfl⟩⟩
    replace r1 := heap_past _ (.cells (figV f) 67) _ _ r1
    have rP0 := rP
    replace rP := heap_past _ (.cells (figV f) 67) _ _ rP
    replace R1 := R1.alloc (.cells (figV f) 67)
    replace G1 := gb_alloc G1 (.cells (figV f) 67)
    have z1' : (w1.alloc (.cells (figV f) 67)).heap.size = w1.heap.size + 1 := by simp
    have c2 : ∀ x, (w1.alloc x).cell? ⟨(w.heap.size + 1 + 1), 2, none⟩ = some (.slice none 0 0) := fun x => by rw [cell_of_row _ _ _ _ _ _ (heap_past _ x _ _ rP0)]; rfl
    have f2 : ∀ x, (w1.alloc x).frozen? ⟨(w.heap.size + 1 + 1), 2, none⟩ = false := fun x => tc_frozen (heap_past _ x _ _ rP0) rfl
    have R1' : Rd W0 ((w1.alloc (.cells (figV f) 67)).setCell ⟨(w.heap.size + 1 + 1), 2, none⟩ (.slice (some ⟨w1.heap.size, 0, none⟩) 1 1)) g E T1 := rd_setCell R1 (by omega) (by omega) _ _
    have G1' : w.grownBy ((w1.alloc (.cells (figV f) 67)).setCell ⟨(w.heap.size + 1 + 1), 2, none⟩ (.slice (some ⟨w1.heap.size, 0, none⟩) 1 1)) (some g) := gb_setCell G1 (.inr (by omega)) _ _
    have rP' : ((w1.alloc (.cells (figV f) 67)).setCell ⟨(w.heap.size + 1 + 1), 2, none⟩ (.slice (some ⟨w1.heap.size, 0, none⟩) 1 1)).heap[(w.heap.size + 1 + 1)]? = some (.cells (claV ⟨t.text, (t.pos : Int), [], false, false⟩ (.slice (some ⟨w1.heap.size, 0, none⟩) 1 1)) 100 (0, 0)) := tc_row rP _
    have r1' : ((w1.alloc (.cells (figV f) 67)).setCell ⟨(w.heap.size + 1 + 1), 2, none⟩ (.slice (some ⟨w1.heap.size, 0, none⟩) 1 1)).heap[w.heap.size + 1]? = some (.cells (claV ⟨[], 0, [], false, false⟩ (.slice none 0 0)) 100 (0, 0)) := (tc_far (by omega) _).trans r1
    have OWN2 : Hid (((w1.alloc (.cells (figV f) 67)).setCell ⟨(w.heap.size + 1 + 1), 2, none⟩ (.slice (some ⟨w1.heap.size, 0, none⟩) 1 1)).ownsRow w.heap.size 67 2 (.slice (some ⟨w1.heap.size, 0, none⟩) 1 1) [f].length (gcells figV [f])) := own_set OWN1.out rP (by decide) _
    have KP : Hid (_ ∧ _ ∧ _ ∧ _) := ⟨R1', G1', rP', r1'⟩
    clear R1 G1 rP r1 R1' G1' rP' r1' OWN1 hg1 hF z1'
    clear rP0
    go_wp2_with (first
      | (refine wl_buildE (E := FigE) FigOk rfl _ rfl (figV f) rfl rfl ?_))
    refine (C5.out _ T1 KP.out.1).mono ?_
    by_cases hk : (hd E T1).kind = 5
    · obtain ⟨T2, hO, hf4⟩ := rdO_yes (by decide) hk
      rw [hf4]
      rw [hO] at HA
      clear hk hO hf4 c2 f2
      rintro e w2 ⟨hg2, ⟨v, rfl, rfl⟩, R2⟩
      have z2 : w1.heap.size + 1 ≤ w2.heap.size := by have := hg2.size; rw [tc_size] at this; simpa using this
      have rP2 : w2.heap[(w.heap.size + 1 + 1)]? = some (.cells (claV ⟨t.text, (t.pos : Int), [], false, false⟩ (.slice (some ⟨w1.heap.size, 0, none⟩) 1 1)) 100 (0, 0)) := (hg2.block _ (by rw [tc_size]; simp; omega) (by simp; omega)).trans KP.out.2.2.1
      have r12 : w2.heap[w.heap.size + 1]? = some (.cells (claV ⟨[], 0, [], false, false⟩ (.slice none 0 0)) 100 (0, 0)) := (hg2.block _ (by rw [tc_size]; simp; omega) (by simp; omega)).trans KP.out.2.2.2
      have c3 : w2.cell? ⟨(w.heap.size + 1 + 1), 4, none⟩ = some (.bool false) := by rw [cell_of_row _ _ _ _ _ _ rP2]; rfl
      have f3 : w2.frozen? ⟨(w.heap.size + 1 + 1), 4, none⟩ = false := tc_frozen rP2 rfl
      have rP3 : (w2.setCell ⟨(w.heap.size + 1 + 1), 4, none⟩ (.bool true)).heap[(w.heap.size + 1 + 1)]? = some (.cells (claV ⟨t.text, (t.pos : Int), [], false, true⟩ (.slice (some ⟨w1.heap.size, 0, none⟩) 1 1)) 100 (0, 0)) := tc_row rP2 _
      have r13 : (w2.setCell ⟨(w.heap.size + 1 + 1), 4, none⟩ (.bool true)).heap[w.heap.size + 1]? = some (.cells (claV ⟨[], 0, [], false, false⟩ (.slice none 0 0)) 100 (0, 0)) := (tc_far (by omega) _).trans r12
      have R3 : Rd W0 (w2.setCell ⟨(w.heap.size + 1 + 1), 4, none⟩ (.bool true)) g E T2 := rd_setCell R2 (by omega) (by omega) _ _
      have G3 : w.grownBy (w2.setCell ⟨(w.heap.size + 1 + 1), 4, none⟩ (.bool true)) (some g) := gb_setCell (grown_trans KP.out.2.1 hg2) (.inr (by omega)) _ _
      have OWN3 : Hid ((w2.setCell ⟨(w.heap.size + 1 + 1), 4, none⟩ (.bool true)).ownsRow w.heap.size 67 2 (.slice (some ⟨w1.heap.size, 0, none⟩) 1 1) [f].length (gcells figV [f])) := own_set (own_by hg2 hgl.2 OWN2.out) rP2 (by decide) _
      have d3 : (w2.setCell ⟨(w.heap.size + 1 + 1), 4, none⟩ (.bool true)).cell? ⟨(w.heap.size + 1 + 1), 3, none⟩ = some (.bool false) := by rw [cell_of_row _ _ _ _ _ _ rP3]; rfl
      have d4 : (w2.setCell ⟨(w.heap.size + 1 + 1), 4, none⟩ (.bool true)).cell? ⟨(w.heap.size + 1 + 1), 4, none⟩ = some (.bool true) := by rw [cell_of_row _ _ _ _ _ _ rP3]; rfl
      have K3 : Hid (_ ∧ _ ∧ _ ∧ _) := ⟨R3, G3, rP3, r13⟩
      clear hg2 R2 rP2 r12 rP3 r13 R3 G3 OWN2 KP
      go_wp2_with fail
      obtain ⟨w4, hw4⟩ : ∃ w4, w4 = w2.setCell ⟨(w.heap.size + 1 + 1), 4, none⟩ (.bool true) := ⟨_, rfl⟩
      rw [← hw4] at K3 OWN3 ⊢
      have z4 : w4.heap.size = w2.heap.size := by rw [hw4, tc_size]
      clear hw4 d3 d4 c3 f3
      cases hF2 : takeF E T2 with
      | error x =>
        obtain ⟨c, q⟩ := x
        rw [hF2] at HA
        refine own15_panics (Nat.le_of_ble_eq_true rfl) g (w.heap.size + 1 + 1) rfl rfl _ K3.out.2.2.1 (.slice (some ⟨w1.heap.size, 0, none⟩) 1 1) rfl [{ v := faultV c q, recovered := false }] (fun w' => w.grownBy w' (some g)) ?_ ?_
        · refine (CF.out w4.drew T2 (K3.out.1.below ((Below.refl _ _).drew))).mono ?_
          rw [hF2]
          rintro e w' ⟨hg, rfl⟩
          exact ⟨rfl, grown_trans K3.out.2.1 (grown_trans (gb_drew w4 g) hg)⟩
        · intro a' w' hdf hg
          go_wp2_with fail
          rw [HA.out]
          exact ⟨hdf, hg, rfl⟩
      | ok x =>
        obtain ⟨f2, T3⟩ := x
        rw [hF2] at HA
        refine own15_region (Nat.le_of_ble_eq_true rfl) g (w.heap.size + 1 + 1) rfl rfl _ K3.out.2.2.1 (.slice (some ⟨w1.heap.size, 0, none⟩) 1 1) rfl (by omega) [f] w.heap.size OWN3.out (by simp) (by omega) hgl.2 f2 (fun w' => w.grownBy w' (some g) ∧ Rd W0 w' g E T3) ?_ ?_
        · refine (CF.out w4.drew T2 (K3.out.1.below ((Below.refl _ _).drew))).mono ?_
          rw [hF2]
          rintro e w' ⟨hg, ⟨v, rfl, rfl⟩, R⟩
          exact ⟨rfl, hg, grown_trans K3.out.2.1 (grown_trans (gb_drew w4 g) hg), R⟩
        · rintro a' w5 w6 v' ⟨y0, y1, y2, y3, y4, y5, y6, rfl⟩ ⟨G5, R5⟩ hg5 hgr6 hown6 hp6
          simp only [Act.put, List.setIfInBounds_toArray, List.set_cons_succ, List.set_cons_zero]
          obtain ⟨o6, cap6, rfl⟩ := gown_slice hown6
          have z5 := hg5.size
          have z6 := hgr6.size
          have own5 := own_by hg5 hgl.2 OWN3.out
          have hub : ∀ k, ((.slice (some ⟨w1.heap.size, 0, none⟩) 1 1) : Value).ownBlock = some k → w.heap.size ≤ k := fun k hk => (OWN3.out.lt k hk).1
          have r16 : w6.heap[w.heap.size + 1]? = some (.cells (claV ⟨[], 0, [], false, false⟩ (.slice none 0 0)) 100 (0, 0)) := by
            refine (hgr6.block _ (by simp; omega) ?_).trans (heap_past _ _ _ _ ((hg5.block _ (by omega) (by simp; omega)).trans K3.out.2.2.2))
            intro hq
            have hx := hq.symm
            obtain ⟨_, ⟨hv, _⟩ | ⟨g', cap', cur', hv, _, h2, _⟩⟩ := OWN3.out
            · rw [hv] at hx; simp [Value.ownBlock] at hx
            · rw [hv] at hx
              simp only [Value.ownBlock, Option.some.injEq] at hx
              rw [hx, K3.out.2.2.2] at h2
              simp at h2
          have G6 : w.grownBy w6 (some g) := gb_own (gb_alloc G5 _) hgr6 hub
          have R6 : Rd W0 w6 g E T3 := rd_own (R5.alloc _) hgr6 fun k hk => Nat.lt_of_lt_of_le hgl.2 (hub k hk)
          have rP7 : Hid ((w6.setCell ⟨(w.heap.size + 1 + 1), 2, none⟩ (.slice o6 ([f] ++ [f2]).length cap6)).heap[(w.heap.size + 1 + 1)]? = some (.cells (claV ⟨t.text, (t.pos : Int), [f] ++ [f2], false, true⟩ (.slice o6 ([f] ++ [f2]).length cap6)) 100 (0, 0))) := tc_row hp6 _
          have r17 : Hid ((w6.setCell ⟨(w.heap.size + 1 + 1), 2, none⟩ (.slice o6 ([f] ++ [f2]).length cap6)).heap[w.heap.size + 1]? = some (.cells (claV ⟨[], 0, [], false, false⟩ (.slice none 0 0)) 100 (0, 0))) := (tc_far (by omega) _).trans r16
          have OWN7 : Hid ((w6.setCell ⟨(w.heap.size + 1 + 1), 2, none⟩ (.slice o6 ([f] ++ [f2]).length cap6)).ownsRow w.heap.size 67 2 (.slice o6 ([f] ++ [f2]).length cap6) ([f] ++ [f2]).length (gcells figV ([f] ++ [f2]))) := own_set hown6 hp6 (by decide) _
          have G7 : Hid (w.grownBy (w6.setCell ⟨(w.heap.size + 1 + 1), 2, none⟩ (.slice o6 ([f] ++ [f2]).length cap6)) (some g)) := gb_setCell G6 (.inr (by omega)) _ _
          have R7 : Hid (Rd W0 (w6.setCell ⟨(w.heap.size + 1 + 1), 2, none⟩ (.slice o6 ([f] ++ [f2]).length cap6)) g E T3) := rd_setCell R6 (by omega) (by omega) _ _
          clear hown6 hp6 r16 hgr6 own5 G6 R6 G5 R5 hg5
          go_wp2_with (first
            | (refine wl_loadE (E := ClaE) ClaOk rfl _ rfl (w.heap.size + 1 + 1) 0 rfl _ _ _ (claV ⟨t.text, (t.pos : Int), [f] ++ [f2], false, true⟩ (.slice o6 ([f] ++ [f2]).length cap6)) rfl rP7.out (own_cells _ _) ?_)
            | (refine wl_storeE (E := ClaE) ClaOk rfl _ _ rfl (w.heap.size + 1) (claV ⟨t.text, (t.pos : Int), [f] ++ [f2], false, true⟩ (.slice o6 ([f] ++ [f2]).length cap6)) (cla_fits _ _ ⟨_, _, _, rfl⟩) rfl rfl _ r17.out rfl _ rfl ?_))
          refine retE (E := ClaE) ClaOk rfl rfl (w.heap.size + 1) rfl (claV ⟨t.text, (t.pos : Int), [f] ++ [f2], false, true⟩ (.slice o6 ([f] ++ [f2]).length cap6)) rfl (setRow_heap _ _ _ _ _ _ r17.out) ?_
          rw [HA.out]
          exact ⟨gb_setRow G7.out (.inr (by omega)) _, ⟨_, rfl, _, rfl, own_setRow6 OWN7.out r17.out (by decide) _⟩, rd_setRow R7.out (by omega) (by omega) _⟩
    · obtain ⟨hO, hf4⟩ := rdO_no hk
      rw [hf4]
      rw [hO] at HA
      clear hk hO hf4 c2 f2
      rintro e w2 ⟨hg2, ⟨v, rfl, rfl⟩, R2⟩
      have z2 : w1.heap.size + 1 ≤ w2.heap.size := by have := hg2.size; rw [tc_size] at this; simpa using this
      have rP2 : w2.heap[(w.heap.size + 1 + 1)]? = some (.cells (claV ⟨t.text, (t.pos : Int), [], false, false⟩ (.slice (some ⟨w1.heap.size, 0, none⟩) 1 1)) 100 (0, 0)) := (hg2.block _ (by rw [tc_size]; simp; omega) (by simp; omega)).trans KP.out.2.2.1
      have r12 : w2.heap[w.heap.size + 1]? = some (.cells (claV ⟨[], 0, [], false, false⟩ (.slice none 0 0)) 100 (0, 0)) := (hg2.block _ (by rw [tc_size]; simp; omega) (by simp; omega)).trans KP.out.2.2.2
      have c3 : w2.cell? ⟨(w.heap.size + 1 + 1), 4, none⟩ = some (.bool false) := by rw [cell_of_row _ _ _ _ _ _ rP2]; rfl
      have f3 : w2.frozen? ⟨(w.heap.size + 1 + 1), 4, none⟩ = false := tc_frozen rP2 rfl
      have rP3 : (w2.setCell ⟨(w.heap.size + 1 + 1), 4, none⟩ (.bool false)).heap[(w.heap.size + 1 + 1)]? = some (.cells (claV ⟨t.text, (t.pos : Int), [f], false, false⟩ (.slice (some ⟨w1.heap.size, 0, none⟩) 1 1)) 100 (0, 0)) := tc_row rP2 _
      have r13 : (w2.setCell ⟨(w.heap.size + 1 + 1), 4, none⟩ (.bool false)).heap[w.heap.size + 1]? = some (.cells (claV ⟨[], 0, [], false, false⟩ (.slice none 0 0)) 100 (0, 0)) := (tc_far (by omega) _).trans r12
      have R3 : Rd W0 (w2.setCell ⟨(w.heap.size + 1 + 1), 4, none⟩ (.bool false)) g E T1 := rd_setCell R2 (by omega) (by omega) _ _
      have G3 : w.grownBy (w2.setCell ⟨(w.heap.size + 1 + 1), 4, none⟩ (.bool false)) (some g) := gb_setCell (grown_trans KP.out.2.1 hg2) (.inr (by omega)) _ _
      have OWN3 : Hid ((w2.setCell ⟨(w.heap.size + 1 + 1), 4, none⟩ (.bool false)).ownsRow w.heap.size 67 2 (.slice (some ⟨w1.heap.size, 0, none⟩) 1 1) [f].length (gcells figV [f])) := own_set (own_by hg2 hgl.2 OWN2.out) rP2 (by decide) _
      have d3 : (w2.setCell ⟨(w.heap.size + 1 + 1), 4, none⟩ (.bool false)).cell? ⟨(w.heap.size + 1 + 1), 3, none⟩ = some (.bool false) := by rw [cell_of_row _ _ _ _ _ _ rP3]; rfl
      have d4 : (w2.setCell ⟨(w.heap.size + 1 + 1), 4, none⟩ (.bool false)).cell? ⟨(w.heap.size + 1 + 1), 4, none⟩ = some (.bool false) := by rw [cell_of_row _ _ _ _ _ _ rP3]; rfl
      have K3 : Hid (_ ∧ _ ∧ _ ∧ _) := ⟨R3, G3, rP3, r13⟩
      have HA3 : Hid (A = .ok ((⟨t.text, (t.pos : Int), [f], false, false⟩ : Cla), T1)) := by show _ = _; rw [HA.out]; simp [Except.map]
      clear hg2 R2 rP2 r12 rP3 r13 R3 G3 OWN2 KP
      go_wp2_with (first
        | (refine wl_loadE (E := ClaE) ClaOk rfl _ rfl (w.heap.size + 1 + 1) 0 rfl _ _ _ (claV ⟨t.text, (t.pos : Int), [f], false, false⟩ (.slice (some ⟨w1.heap.size, 0, none⟩) 1 1)) rfl K3.out.2.2.1 (own_cells _ _) ?_)
        | (refine wl_storeE (E := ClaE) ClaOk rfl _ _ rfl (w.heap.size + 1) (claV ⟨t.text, (t.pos : Int), [f], false, false⟩ (.slice (some ⟨w1.heap.size, 0, none⟩) 1 1)) (cla_fits _ _ ⟨_, _, _, rfl⟩) rfl rfl _ K3.out.2.2.2 rfl _ rfl ?_))
      refine retE (E := ClaE) ClaOk rfl rfl (w.heap.size + 1) rfl (claV ⟨t.text, (t.pos : Int), [f], false, false⟩ (.slice (some ⟨w1.heap.size, 0, none⟩) 1 1)) rfl (setRow_heap _ _ _ _ _ _ K3.out.2.2.2) ?_
      rw [HA3.out]
      exact ⟨gb_setRow K3.out.2.1 (.inr (by omega)) _, ⟨_, rfl, _, rfl, own_setRow6 OWN3.out K3.out.2.2.2 (by decide) _⟩, rd_setRow K3.out.1 (by omega) (by omega) _⟩

set_option maxHeartbeats 4000000 in
set_option maxRecDepth 10000 in
theorem clause_proto (W0 w : World) (g E : Nat) (t : Tok) (ht : t.text = wProto) (T : List Tok) (h : Rd W0 w g E T) :
    Calls Tryd.prog 84 #[.pointer (some ⟨g, 0, none⟩), .agg (encT t)] w fun e w' => Took W0 w g E (ClaR w.heap.size) (protC E t T) e w' := by
  have CF : Hid (∀ W T, Rd W0 W g E T → Calls Tryd.prog 65 #[.pointer (some ⟨g, 0, none⟩)] W fun e w' => Took W0 W g E (fun _ f v => v = .agg (figV f)) (takeF E T) e w') := fun W T h => figure_any W0 W g E T h
  have CA : Hid (∀ W T, Rd W0 W g E T → Calls Tryd.prog 99 #[.pointer (some ⟨g, 0, none⟩)] W fun e w' => Took W0 W g E (FigsOwn W.heap.size) (addrT E T) e w') := fun W T h => address_any W0 W g E T h
  have C4 : Hid (∀ W T, Rd W0 W g E T → Calls Tryd.prog 100 #[.pointer (some ⟨g, 0, none⟩), .int .i64 4] W fun e w' => Took W0 W g E (fun _ b v => v = .bool b) (follT E 4 T) e w') := fun W T h => follows_any W0 W g E 4 (by decide) T h
  have C5 : Hid (∀ W T, Rd W0 W g E T → Calls Tryd.prog 100 #[.pointer (some ⟨g, 0, none⟩), .int .i64 5] W fun e w' => Took W0 W g E (fun _ b v => v = .bool b) (follT E 5 T) e w') := fun W T h => follows_any W0 W g E 5 (by decide) T h
  have hgl := h.size
  have e0 : (t.text == [115, 114, 99]) = false := by rw [ht]; rfl
  have e1 : (t.text == [100, 115, 116]) = false := by rw [ht]; rfl
  have e2 : (t.text == [115, 112, 111, 114, 116]) = false := by rw [ht]; rfl
  have e3 : (t.text == [100, 112, 111, 114, 116]) = false := by rw [ht]; rfl
  have e4 : (t.text == [112, 114, 111, 116, 111]) = true := by rw [ht]; rfl
  have H : Hid (Rd W0 w g E T) := h
  obtain ⟨A, hA⟩ : ∃ A, A = protC E t T := ⟨_, rfl⟩
  rw [← hA]
  unfold protC at hA
  have q1 := fun x => tok_cells (heap_past _ x _ _ (heap_new w (.cells (encT t) 88) _ rfl))
  have q2 := fun x y => tok_cells (heap_past _ y _ _ (heap_past _ x _ _ (heap_new w (.cells (encT t) 88) _ rfl)))
  have t1 := fun x => (q1 x).2.1
  have t2 := fun x => (q1 x).2.2.1
  have t5 := fun x y => (q2 x y).2.1
  have t6 := fun x y => (q2 x y).2.2.1
  clear q1 q2
  clear h ht
  go_enter Tryd.func84, Tryd.ntmps84
  go_wp2_with (first
    | (refine wl_storeE (E := ClaE) ClaOk rfl _ _ rfl (w.heap.size + 2) (claV ⟨t.text, (t.pos : Int), [], false, false⟩ (.slice none 0 0)) (cla_fits _ _ ⟨_, _, _, rfl⟩) rfl rfl _ (heap_new _ _ _ (by simp)) rfl _ (setRow_new _ _ _ _ _ (by simp)) ?_))
  refine (CF.out _ T (((H.out.alloc _).alloc _).alloc _)).mono ?_
  cases hF : takeF E T with
  | error x =>
    obtain ⟨c, q⟩ := x
    have HA2 : Hid (A = .error (c, q)) := by show _ = _; rw [hA, hF]; rfl
    clear hA hF
    rintro e w1 ⟨hg1, rfl⟩
    go_wp2_with fail
    rw [HA2.out]
    exact ⟨rfl, grown_trans (gb_alloc (gb_alloc (gb_alloc (gb_refl w g) _) _) _) hg1, rfl⟩
  | ok x =>
    obtain ⟨f, T1⟩ := x
    have HA : Hid (A = .ok ((⟨t.text, (t.pos : Int), [f], false, false⟩ : Cla), T1)) := by show _ = _; rw [hA, hF]; rfl
    clear hA
    rintro e w1 ⟨hg1, ⟨v, rfl, rfl⟩, R1⟩
    have G1 : w.grownBy w1 (some g) := grown_trans (gb_alloc (gb_alloc (gb_alloc (gb_refl w g) _) _) _) hg1
    have z1 : w.heap.size + 3 ≤ w1.heap.size := by have := hg1.size; simp at this; omega
    have r1 : w1.heap[w.heap.size + 1]? = some (.cells (claV ⟨[], 0, [], false, false⟩ (.slice none 0 0)) 100 (0, 0)) := (hg1.block _ (by simp) (by simp; omega)).trans (heap_past _ _ _ _ (heap_new _ _ _ (by simp)))
    have rP : w1.heap[(w.heap.size + 1 + 1)]? = some (.cells (claV ⟨t.text, (t.pos : Int), [], false, false⟩ (.slice none 0 0)) 100 (0, 0)) := (hg1.block _ (by simp) (by simp; omega)).trans (heap_new _ _ _ (by simp))
    have OWN1 : Hid ((w1.alloc (.cells (figV f) 67)).ownsRow w.heap.size 67 2 (.slice (some ⟨w1.heap.size, 0, none⟩) 1 1) [f].length (gcells figV [f])) := ⟨rfl, Or.inr ⟨w1.heap.size, 1, figV f, rfl, by omega, heap_new _ _ _ rfl, Nat.le_refl 1, by decide, rfl, rfl⟩⟩
    replace r1 := heap_past _ (.cells (figV f) 67) _ _ r1
    have rP0 := rP
    replace rP := heap_past _ (.cells (figV f) 67) _ _ rP
    replace R1 := R1.alloc (.cells (figV f) 67)
    replace G1 := gb_alloc G1 (.cells (figV f) 67)
    have z1' : (w1.alloc (.cells (figV f) 67)).heap.size = w1.heap.size + 1 := by simp
    have c2 : ∀ x, (w1.alloc x).cell? ⟨(w.heap.size + 1 + 1), 2, none⟩ = some (.slice none 0 0) := fun x => by rw [cell_of_row _ _ _ _ _ _ (heap_past _ x _ _ rP0)]; rfl
    have f2 : ∀ x, (w1.alloc x).frozen? ⟨(w.heap.size + 1 + 1), 2, none⟩ = false := fun x => tc_frozen (heap_past _ x _ _ rP0) rfl
    have R1' : Rd W0 ((w1.alloc (.cells (figV f) 67)).setCell ⟨(w.heap.size + 1 + 1), 2, none⟩ (.slice (some ⟨w1.heap.size, 0, none⟩) 1 1)) g E T1 := rd_setCell R1 (by omega) (by omega) _ _
    have G1' : w.grownBy ((w1.alloc (.cells (figV f) 67)).setCell ⟨(w.heap.size + 1 + 1), 2, none⟩ (.slice (some ⟨w1.heap.size, 0, none⟩) 1 1)) (some g) := gb_setCell G1 (.inr (by omega)) _ _
    have rP' : ((w1.alloc (.cells (figV f) 67)).setCell ⟨(w.heap.size + 1 + 1), 2, none⟩ (.slice (some ⟨w1.heap.size, 0, none⟩) 1 1)).heap[(w.heap.size + 1 + 1)]? = some (.cells (claV ⟨t.text, (t.pos : Int), [], false, false⟩ (.slice (some ⟨w1.heap.size, 0, none⟩) 1 1)) 100 (0, 0)) := tc_row rP _
    have r1' : ((w1.alloc (.cells (figV f) 67)).setCell ⟨(w.heap.size + 1 + 1), 2, none⟩ (.slice (some ⟨w1.heap.size, 0, none⟩) 1 1)).heap[w.heap.size + 1]? = some (.cells (claV ⟨[], 0, [], false, false⟩ (.slice none 0 0)) 100 (0, 0)) := (tc_far (by omega) _).trans r1
    have OWN2 : Hid (((w1.alloc (.cells (figV f) 67)).setCell ⟨(w.heap.size + 1 + 1), 2, none⟩ (.slice (some ⟨w1.heap.size, 0, none⟩) 1 1)).ownsRow w.heap.size 67 2 (.slice (some ⟨w1.heap.size, 0, none⟩) 1 1) [f].length (gcells figV [f])) := own_set OWN1.out rP (by decide) _
    have KP : Hid (_ ∧ _ ∧ _ ∧ _) := ⟨R1', G1', rP', r1'⟩
    clear R1 G1 rP r1 R1' G1' rP' r1' OWN1 hg1 hF z1'
    have c3 : ∀ x y, ((w1.alloc x).setCell ⟨(w.heap.size + 1 + 1), 2, none⟩ y).cell? ⟨(w.heap.size + 1 + 1), 3, none⟩ = some (.bool false) := fun x y => by rw [cell_of_row _ _ _ _ _ _ (tc_row (heap_past _ x _ _ rP0) y)]; rfl
    have c4 : ∀ x y, ((w1.alloc x).setCell ⟨(w.heap.size + 1 + 1), 2, none⟩ y).cell? ⟨(w.heap.size + 1 + 1), 4, none⟩ = some (.bool false) := fun x y => by rw [cell_of_row _ _ _ _ _ _ (tc_row (heap_past _ x _ _ rP0) y)]; rfl
    clear rP0
    go_wp2_with (first
      | (refine wl_buildE (E := FigE) FigOk rfl _ rfl (figV f) rfl rfl ?_)
      | (refine wl_loadE (E := ClaE) ClaOk rfl _ rfl (w.heap.size + 1 + 1) 0 rfl _ _ _ (claV ⟨t.text, (t.pos : Int), [f], false, false⟩ (.slice (some ⟨w1.heap.size, 0, none⟩) 1 1)) rfl KP.out.2.2.1 (own_cells _ _) ?_)
      | (refine wl_storeE (E := ClaE) ClaOk rfl _ _ rfl (w.heap.size + 1) (claV ⟨t.text, (t.pos : Int), [f], false, false⟩ (.slice (some ⟨w1.heap.size, 0, none⟩) 1 1)) (cla_fits _ _ ⟨_, _, _, rfl⟩) rfl rfl _ KP.out.2.2.2 rfl _ rfl ?_))
    refine retE (E := ClaE) ClaOk rfl rfl (w.heap.size + 1) rfl (claV ⟨t.text, (t.pos : Int), [f], false, false⟩ (.slice (some ⟨w1.heap.size, 0, none⟩) 1 1)) rfl (setRow_heap _ _ _ _ _ _ KP.out.2.2.2) ?_
    rw [HA.out]
    exact ⟨gb_setRow KP.out.2.1 (.inr (by omega)) _, ⟨_, rfl, _, rfl, own_setRow6 OWN2.out KP.out.2.2.2 (by decide) _⟩, rd_setRow KP.out.1 (by omega) (by omega) _⟩
end Go.Proofs.YtnbklmmampdbfaaDoor
