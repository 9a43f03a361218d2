import Derived.Test.YthddlchkbnmcaaaGreatDoorJ1
import Derived.Test.YthddlchkbnmcaaaGreatDoorJ2
namespace Go.Proofs.YthddlchkbnmcaaaGreatDoor
open Go
set_option maxRecDepth 20000

/-- What a line means. -/
structure Ent where
  dflt : Bool
  prio : Int
  action : Int
  src : Int
  srcBits : Int
  dst : Int
  dstBits : Int
  slow : Int
  shigh : Int
  dlow : Int
  dhigh : Int
  proto : Int

abbrev ResI (α : Type) := Except (Nat × Int) α
def mustN (c : Cla) : Nat := if isAddrW c.word then (if c.slash then 5 else 4) else if isPortW c.word then (if c.dash then 2 else 1) else if c.word == wProto then 1 else 0
def mostN (w : List UInt8) (k : Nat) : Int := if isPortW w then 65535 else if !(w == wProto) && k == 4 then 32 else 255
/-- The first number of a clause that may not be. -/
def faultN (c : Cla) (first : Int) : Nat → List Fig → ResI Unit
  | _, [] => .ok ()
  | k, x :: l => if decide (x.n < 0) || decide (mostN c.word k < x.n) || (c.dash && isPortW c.word && k == 1 && decide (x.n < first)) then .error (10, x.pos) else faultN c first (k + 1) l
def nth (c : Cla) (k : Nat) : Int := (c.nums.getD k ⟨0, 0⟩).n
def faultC (had : List Cla) (c : Cla) : ResI Unit :=
  if mustN c == 0 || c.nums.length != mustN c then .error (8, c.pos) else if had.any (fun d => d.word == c.word) then .error (9, c.pos) else faultN c (nth c 0) 0 c.nums
def faultCs : List Cla → List Cla → ResI Unit
  | _, [] => .ok ()
  | had, c :: l => (faultC had c).bind fun _ => faultCs (had ++ [c]) l
/-- What is wrong with a line first, and where. -/
def faultR (r : Raw) : ResI Unit := if decide (r.prio.n < 0) || decide (65535 < r.prio.n) then .error (10, r.prio.pos) else faultCs [] r.clauses

def findC (w : List UInt8) (l : List Cla) : Option Cla := l.find? fun c => c.word == w
def preOf (l : List Cla) (w : List UInt8) : Int × Int := match findC w l with
  | none => (0, 0)
  | some c => (((nth c 0 * 256 + nth c 1) * 256 + nth c 2) * 256 + nth c 3, if c.slash then nth c 4 else 32)
def porOf (l : List Cla) (w : List UInt8) : Int × Int := match findC w l with
  | none => (0, 65535)
  | some c => (nth c 0, if c.dash then nth c 1 else nth c 0)
def proOf (l : List Cla) : Int := match findC wProto l with
  | none => -1
  | some c => nth c 0
def actOf (r : Raw) : Int := if r.drop then 0 else r.port.n
/-- What a line without faults means. -/
def meaning (r : Raw) : Ent := if r.dflt then ⟨true, 0, actOf r, 0, 0, 0, 0, 0, 0, 0, 0, 0⟩ else
  ⟨false, r.prio.n, actOf r, (preOf r.clauses wSrc).1, (preOf r.clauses wSrc).2, (preOf r.clauses wDst).1, (preOf r.clauses wDst).2, (porOf r.clauses wSport).1, (porOf r.clauses wSport).2, (porOf r.clauses wDport).1, (porOf r.clauses wDport).2, proOf r.clauses⟩
/-- Lines, one behind the other. -/
def checkGo (size : Int) : Nat → Bool → List Raw → ResI (List Ent)
  | _, had, [] => if had then .ok [] else .error (11, size)
  | i, had, r :: l => if 64 ≤ i then .error (4, r.pos) else if r.dflt && had then .error (9, r.pos) else
    (if r.dflt then .ok () else faultR r).bind fun _ => if !r.drop && (decide (r.port.n < 1) || decide (99 < r.port.n)) then .error (10, r.port.pos) else (checkGo size (i + 1) (had || r.dflt) l).map fun m => meaning r :: m
/-- What a text means. -/
def readT (S : List UInt8) : ResI (List Ent) := match parseT S with
  | .error x => .error (x.1, (x.2 : Int))
  | .ok l => checkGo (S.length : Int) 0 false l

def fig0 (n : Int) : Fig := ⟨n, 0⟩
def portC7 (w : List UInt8) (a b : Int) : Cla := if a = b then ⟨w, 0, [fig0 a], false, false⟩ else ⟨w, 0, [fig0 a, fig0 b], false, true⟩
def partP (w : List UInt8) (a b : Int) : List Cla := if a = 0 ∧ b = 65535 then [] else [portC7 w a b]
/-- An entry as it may be. -/
structure okE (x : Ent) : Prop where
  act : 0 ≤ x.action ∧ x.action ≤ 99
  zero : x.dflt = true → x = ⟨true, 0, x.action, 0, 0, 0, 0, 0, 0, 0, 0, 0⟩
  prio : 0 ≤ x.prio ∧ x.prio ≤ 65535
  src : 0 ≤ x.src ∧ x.src < 4294967296 ∧ 0 ≤ x.srcBits ∧ x.srcBits ≤ 32
  dst : 0 ≤ x.dst ∧ x.dst < 4294967296 ∧ 0 ≤ x.dstBits ∧ x.dstBits ≤ 32
  sp : 0 ≤ x.slow ∧ x.slow ≤ x.shigh ∧ x.shigh ≤ 65535
  dp : 0 ≤ x.dlow ∧ x.dlow ≤ x.dhigh ∧ x.dhigh ≤ 65535
  proto : x.dflt = false → -1 ≤ x.proto ∧ x.proto ≤ 255

theorem portW_not {w : List UInt8} (hw : isPortW w = true) : isAddrW w = false := by
  unfold isPortW at hw
  simp only [Bool.or_eq_true, beq_iff_eq] at hw
  rcases hw with rfl | rfl <;> decide
theorem portC7_word (w : List UInt8) (a b : Int) : (portC7 w a b).word = w := by unfold portC7; split <;> rfl
theorem partP_word {w : List UInt8} {v n : Int} {c : Cla} (h : c ∈ partP w v n) : c.word = w := by
  unfold partP at h
  split at h
  · simp at h
  · rw [List.mem_singleton.1 h]; exact portC7_word _ _ _
end Go.Proofs.YthddlchkbnmcaaaGreatDoor
namespace Go.Proofs.YthddlchkbnmcaaaGreatDoor
open Go
set_option maxRecDepth 20000

theorem find_none {w w' : List UInt8} {l : List Cla} (h : ∀ c ∈ l, c.word = w') (hw : w' ≠ w) : findC w l = none := by
  unfold findC
  rw [List.find?_eq_none]
  intro c hc
  rw [h c hc]
  simpa using hw
theorem nP (w w' : List UInt8) (hw : w' ≠ w) (v n : Int) : findC w (partP w' v n) = none := find_none (fun _ h => partP_word h) hw
theorem faultCs_append : ∀ (a had b : List Cla), faultCs had (a ++ b) = (faultCs had a).bind fun _ => faultCs (had ++ a) b
  | [], had, b => by rw [List.nil_append, List.append_nil]; rfl
  | c :: a, had, b => by
    rw [List.cons_append, faultCs, faultCs]
    cases faultC had c with
    | error e => rfl
    | ok u =>
      simp only [Except.bind]
      rw [faultCs_append a (had ++ [c]) b, List.append_assoc]
      rfl
theorem faultN_in (c : Cla) (first : Int) : ∀ (l : List Fig) (k : Nat), faultN c first k l = .ok () → ∀ (j : Nat) (x : Fig), l[j]? = some x → 0 ≤ x.n ∧ x.n ≤ mostN c.word (k + j) ∧ (c.dash = true → isPortW c.word = true → k + j = 1 → first ≤ x.n)
  | [], _, _, j, x, hx => by simp at hx
  | y :: l, k, h, j, x, hx => by
    rw [faultN] at h
    split at h
    · cases h
    · rename_i hc
      simp only [Bool.or_eq_true, Bool.and_eq_true, decide_eq_true_eq, beq_iff_eq, not_or] at hc
      cases j with
      | zero =>
        obtain rfl : y = x := by simpa using hx
        rw [Nat.add_zero]
        refine ⟨by omega, by omega, fun h1 h2 h3 => ?_⟩
        have := hc.2
        by_cases h4 : y.n < first
        · exact absurd ⟨⟨⟨h1, h2⟩, h3⟩, h4⟩ this
        · omega
      | succ j =>
        have := faultN_in c first l (k + 1) h j x (by simpa using hx)
        rw [show k + (j + 1) = k + 1 + j by omega]
        exact this
def goodC (c : Cla) : Prop := mustN c ≠ 0 ∧ c.nums.length = mustN c ∧ ∀ (j : Nat) (x : Fig), c.nums[j]? = some x → 0 ≤ x.n ∧ x.n ≤ mostN c.word j ∧ (c.dash = true → isPortW c.word = true → j = 1 → nth c 0 ≤ x.n)
theorem bindI {α β : Type} {x : ResI α} {f : α → ResI β} {b : β} (h : x.bind f = .ok b) : ∃ a, x = .ok a ∧ f a = .ok b := by
  cases x with
  | error e => simp [Except.bind] at h
  | ok a => exact ⟨a, rfl, h⟩
theorem faultCs_in : ∀ (l had : List Cla), faultCs had l = .ok () → ∀ c ∈ l, goodC c
  | [], _, _, c, hc => by simp at hc
  | d :: l, had, h, c, hc => by
    rw [faultCs] at h
    obtain ⟨_, h1, h2⟩ := bindI h
    rcases List.mem_cons.1 hc with rfl | hc
    · unfold faultC at h1
      split at h1
      · cases h1
      · rename_i hm
        split at h1
        · cases h1
        · simp only [Bool.or_eq_true, beq_iff_eq, bne_iff_ne, ne_eq, not_or, Decidable.not_not] at hm
          refine ⟨hm.1, hm.2, fun j x hx => ?_⟩
          have := faultN_in c (nth c 0) c.nums 0 h1 j x hx
          rw [Nat.zero_add] at this
          exact this
    · exact faultCs_in l (had ++ [d]) h2 c hc
theorem nth_in {c : Cla} (h : goodC c) {k : Nat} (hk : k < mustN c) : 0 ≤ nth c k ∧ nth c k ≤ mostN c.word k ∧ (c.dash = true → isPortW c.word = true → k = 1 → nth c 0 ≤ nth c k) := by
  have hl : k < c.nums.length := by rw [h.2.1]; exact hk
  have hx : c.nums[k]? = some c.nums[k] := List.getElem?_eq_getElem hl
  have e : nth c k = c.nums[k].n := by unfold nth; rw [List.getD_eq_getElem?_getD, hx]; rfl
  rw [e]
  exact h.2.2 k _ hx
theorem find_in {w : List UInt8} {l : List Cla} {c : Cla} (h : findC w l = some c) : c ∈ l ∧ c.word = w := by
  unfold findC at h
  exact ⟨List.mem_of_find?_eq_some h, by simpa using List.find?_some h⟩
end Go.Proofs.YthddlchkbnmcaaaGreatDoor
namespace Go.Proofs.YthddlchkbnmcaaaGreatDoor
open Go
set_option maxRecDepth 20000

/-! Which entry says something of a header: 'ap' tells whether an entry applies. -/
/-- The greatest priority that applies and isn't a default, the first of several: the place of the best so far, and its priority. -/
def beats (p : Int) : Option (Nat × Int) → Bool
  | none => true
  | some b => decide (b.2 < p)
def bestGo (ap : Ent → Bool) : Nat → Option (Nat × Int) → List Ent → Option (Nat × Int)
  | _, b, [] => b
  | i, b, x :: l => bestGo ap (i + 1) (if !x.dflt && ap x && beats x.prio b then some (i, x.prio) else b) l
def firstD : Nat → List Ent → Option Nat
  | _, [] => none
  | i, x :: l => if x.dflt then some i else firstD (i + 1) l
def whichT (ap : Ent → Bool) (l : List Ent) : Option Nat := match bestGo ap 0 none l with
  | some (i, _) => some i
  | none => firstD 0 l
theorem bestGo_in (ap : Ent → Bool) (L : List Ent) : ∀ (l : List Ent) (i : Nat) (b : Option (Nat × Int)), (∀ k, l[k]? = L[i + k]?) → (∀ j p, b = some (j, p) → ∃ x, L[j]? = some x ∧ x.prio = p ∧ x.dflt = false ∧ ap x = true) → ∀ j p, bestGo ap i b l = some (j, p) → ∃ x, L[j]? = some x ∧ x.prio = p ∧ x.dflt = false ∧ ap x = true
  | [], i, b, _, hb, j, p, h => hb j p h
  | x :: l, i, b, hL, hb, j, p, h => by
    rw [bestGo] at h
    refine bestGo_in ap L l (i + 1) _ (fun k => ?_) (fun j p hjp => ?_) j p h
    · have := hL (k + 1)
      rw [List.getElem?_cons_succ] at this
      rw [this]; congr 1; omega
    · split at hjp
      · rename_i hc
        simp only [Bool.and_eq_true, Bool.not_eq_true'] at hc
        obtain ⟨rfl, rfl⟩ := Prod.mk.inj (Option.some.inj hjp)
        have := hL 0
        simp only [List.getElem?_cons_zero, Nat.add_zero] at this
        exact ⟨x, this.symm, rfl, hc.1.1, hc.1.2⟩
      · exact hb j p hjp
end Go.Proofs.YthddlchkbnmcaaaGreatDoor
namespace Go.Proofs.YthddlchkbnmcaaaGreatDoor
open Go
set_option maxRecDepth 20000

section
variable {α : Type} {p : α → Int}
/-- Sorted block by block, from a place on. -/
def BlkD (p : α → Int) (f : Nat → α) (s lo n : Nat) : Prop := ∀ i j, lo ≤ i → i < j → j < n → i / s = j / s → p (f j) ≤ p (f i)
theorem div_ge {t q j : Nat} (ht : 0 < t) (h : t * q ≤ j) : q ≤ j / t := (Nat.le_div_iff_mul_le ht).2 (by rw [Nat.mul_comm]; exact h)
theorem ge_of_div {t q i : Nat} (ht : 0 < t) (h : q ≤ i / t) : t * q ≤ i := by
  have := (Nat.le_div_iff_mul_le ht).1 h
  rwa [Nat.mul_comm] at this
theorem div_of_in {t q i : Nat} (h1 : t * q ≤ i) (h2 : i < t * q + t) : i / t = q := by
  refine Nat.div_eq_of_lt_le ?_ ?_
  · rw [Nat.mul_comm]; exact h1
  · rw [Nat.add_mul, Nat.one_mul, Nat.mul_comm q t]; exact h2
theorem Merged.whole {f g : Nat → α} {a b n : Nat} (h : Merged p f g a b) (hab : a ≤ b) (hb : b ≤ n) : Alike p (segF g 0 n) (segF f 0 n) := by
  have e : ∀ u : Nat → α, segF u 0 n = segF u 0 a ++ (segF u a (b - a) ++ segF u b (n - b)) := fun u => by
    rw [show n = a + ((b - a) + (n - b)) by omega, segF_add, segF_add, show 0 + a + (b - a) = b by omega, Nat.zero_add, show a + (b - a + (n - b)) - b = n - b by omega]
  rw [e, e]
  refine Alike.app ?_ (Alike.app h.alike ?_)
  · rw [segF_congr (f := g) (g := f) (a := 0) (b := 0) fun i hi => h.out _ (by omega)]; exact Alike.refl _ _
  · rw [segF_congr (f := g) (g := f) (a := b) (b := b) fun i hi => h.out _ (by omega)]; exact Alike.refl _ _
/-- A block more. -/
theorem blk_more {f g : Nat → α} {t q n b : Nat} (ht : 0 < t) (h : BlkD p f t 0 (t * q)) (hb1 : t * q ≤ b) (hb2 : b ≤ t * q + t) (m : Merged p f g (t * q) b) (hn : n = b) : BlkD p g t 0 n := by
  subst hn
  intro i j _ hij hj he
  by_cases c : t * q ≤ j
  · have hi : t * q ≤ i := ge_of_div ht (by rw [he]; exact div_ge ht c)
    exact m.desc i j hi hij hj
  · rw [m.out i (by omega), m.out j (by omega)]
    exact h i j (Nat.zero_le _) hij (by omega) he
/-- What lies behind stays. -/
theorem blk_behind {f g : Nat → α} {s a b n : Nat} (h : BlkD p f s a n) (hab : a ≤ b) (m : Merged p f g a b) : BlkD p g s b n := fun i j hi hij hj he => by
  rw [m.out i (by omega), m.out j (by omega)]
  exact h i j (by omega) hij hj he
theorem blk_desc {f : Nat → α} {s q a n : Nat} (h : BlkD p f s a n) (ha : a ≤ s * q) {b : Nat} (hb : b ≤ s * q + s) (hn : b ≤ n) : DescF p f (s * q) b := fun i j hi hij hj =>
  h i j (by omega) hij (by omega) (by rw [div_of_in hi (by omega), div_of_in (t := s) (q := q) (i := j) (by omega) (by omega)])
theorem blk_all {f : Nat → α} {s n : Nat} (h : BlkD p f s 0 n) (hs : n ≤ s) : DescF p f 0 n := fun i j hi hij hj =>
  h i j hi hij hj (by rw [Nat.div_eq_of_lt (by omega), Nat.div_eq_of_lt (by omega)])
theorem blk_none (f : Nat → α) (s : Nat) : BlkD p f s 0 0 := fun i j _ _ hj _ => by omega
end
end Go.Proofs.YthddlchkbnmcaaaGreatDoor
namespace Go.Proofs.YthddlchkbnmcaaaGreatDoor
open Go
set_option maxRecDepth 20000

/-- Does the entry at a place stand ahead of the one at another place? -/
def aheadB (x : Ent) (i : Nat) (y : Ent) (j : Nat) : Bool :=
  if x.dflt then y.dflt && decide (i < j) else y.dflt || decide (y.prio < x.prio) || (decide (x.prio = y.prio) && decide (i < j))
def aheadAt (L : List Ent) (i j : Nat) : Prop := ∃ x y, L[i]? = some x ∧ L[j]? = some y ∧ aheadB x i y j = true
theorem ahead_asymm {L : List Ent} {i j : Nat} (h1 : aheadAt L i j) (h2 : aheadAt L j i) : False := by
  obtain ⟨x, y, hx, hy, h⟩ := h1
  obtain ⟨y', x', hy', hx', h'⟩ := h2
  rw [hx] at hx'
  rw [hy] at hy'
  obtain rfl := Option.some.inj hx'
  obtain rfl := Option.some.inj hy'
  unfold aheadB at h h'
  cases hdx : x.dflt <;> cases hdy : y.dflt <;> simp [hdx, hdy] at h h' <;> omega
/-- The places of a list's entries in the order of the rows. -/
structure IsRows (L : List Ent) (R : List Nat) : Prop where
  sorted : R.Pairwise (aheadAt L)
  all : ∀ i, i ∈ R ↔ i < L.length

theorem pairwise_one {α : Type} {r : α → α → Prop} (ha : ∀ a b, r a b → r b a → False) : ∀ R R' : List α, R.Pairwise r → R'.Pairwise r → (∀ a, a ∈ R ↔ a ∈ R') → R = R'
  | [], [], _, _, _ => rfl
  | [], b :: R', _, _, h => absurd ((h b).2 (by simp)) (by simp)
  | a :: R, [], _, _, h => absurd ((h a).1 (by simp)) (by simp)
  | a :: R, b :: R', h1, h2, h => by
    obtain ⟨p1, q1⟩ := List.pairwise_cons.1 h1
    obtain ⟨p2, q2⟩ := List.pairwise_cons.1 h2
    have hab : a = b := by
      rcases List.mem_cons.1 ((h a).1 (by simp)) with e | e
      · exact e
      · rcases List.mem_cons.1 ((h b).2 (by simp)) with e' | e'
        · exact e'.symm
        · exact (ha a b (p1 b e') (p2 a e)).elim
    subst hab
    rw [pairwise_one ha R R' q1 q2 fun c => ?_]
    constructor
    · intro hc
      rcases List.mem_cons.1 ((h c).1 (List.mem_cons_of_mem _ hc)) with rfl | e
      · exact (ha c c (p1 c hc) (p1 c hc)).elim
      · exact e
    · intro hc
      rcases List.mem_cons.1 ((h c).2 (List.mem_cons_of_mem _ hc)) with rfl | e
      · exact (ha c c (p2 c hc) (p2 c hc)).elim
      · exact e
/-- Nothing that applies beats the best one. -/
theorem bestGo_max (ap : Ent → Bool) (L : List Ent) : ∀ (l : List Ent) (i : Nat) (b : Option (Nat × Int)), (∀ k, l[k]? = L[i + k]?) →
    (∀ k y, k < i → L[k]? = some y → y.dflt = false → ap y = true → ∃ j p, b = some (j, p) ∧ (y.prio < p ∨ (y.prio = p ∧ j ≤ k))) →
    (∀ j p, b = some (j, p) → j < i) →
    ∀ k y, k < i + l.length → L[k]? = some y → y.dflt = false → ap y = true → ∃ j p, bestGo ap i b l = some (j, p) ∧ (y.prio < p ∨ (y.prio = p ∧ j ≤ k))
  | [], i, b, _, hb, _, k, y, hk, hy, hd, ha => hb k y (by simpa using hk) hy hd ha
  | x :: l, i, b, hL, hb, hj, k, y, hk, hy, hd, ha => by
    rw [bestGo]
    have hx0 : L[i]? = some x := by
      have := hL 0
      simpa using this.symm
    refine bestGo_max ap L l (i + 1) _ (fun k => ?_) (fun k y hk hy hd ha => ?_) (fun j p hjp => ?_) k y (by simp at hk; omega) hy hd ha
    · have := hL (k + 1)
      rw [List.getElem?_cons_succ] at this
      rw [this]; congr 1; omega
    · by_cases hki : k = i
      · subst hki
        rw [hx0] at hy
        obtain rfl := Option.some.inj hy
        cases b with
        | none => exact ⟨k, x.prio, by simp [beats, hd, ha], .inr ⟨rfl, Nat.le_refl _⟩⟩
        | some jp =>
          obtain ⟨j, p⟩ := jp
          by_cases hlt : p < x.prio
          · exact ⟨k, x.prio, by simp [beats, hd, ha, hlt], .inr ⟨rfl, Nat.le_refl _⟩⟩
          · refine ⟨j, p, by simp [beats, hd, ha, hlt], ?_⟩
            have := hj j p rfl
            omega
      · obtain ⟨j, p, h1, h2⟩ := hb k y (by omega) hy hd ha
        subst h1
        by_cases hc : (!x.dflt && ap x && beats x.prio (some (j, p))) = true
        · rw [if_pos hc]
          simp only [Bool.and_eq_true, beats, decide_eq_true_eq] at hc
          exact ⟨i, x.prio, rfl, by left; omega⟩
        · rw [if_neg hc]
          exact ⟨j, p, rfl, h2⟩
    · split at hjp
      · obtain ⟨rfl, rfl⟩ := Prod.mk.inj (Option.some.inj hjp); omega
      · have := hj j p hjp; omega
theorem firstD_first : ∀ (l : List Ent) (i : Nat), (∃ (k : Nat) (x : Ent), firstD i l = some (i + k) ∧ l[k]? = some x ∧ x.dflt = true ∧ ∀ (k' : Nat) (y : Ent), k' < k → l[k']? = some y → y.dflt = false) ∨ (firstD i l = none ∧ ∀ (k : Nat) (y : Ent), l[k]? = some y → y.dflt = false)
  | [], i => .inr ⟨rfl, fun k y h => by simp at h⟩
  | y :: l, i => by
    rw [firstD]
    cases hy : y.dflt with
    | true => exact .inl ⟨0, y, by rw [if_pos rfl]; rfl, rfl, hy, fun k' z hk => by omega⟩
    | false =>
      rw [if_neg (by decide)]
      rcases firstD_first l (i + 1) with ⟨k, x, h1, h2, h3, h4⟩ | ⟨h1, h2⟩
      · refine .inl ⟨k + 1, x, by rw [h1]; congr 1; omega, by simpa using h2, h3, fun k' z hk hz => ?_⟩
        cases k' with
        | zero => obtain rfl : y = z := by simpa using hz
                  exact hy
        | succ k' => exact h4 k' z (by omega) (by simpa using hz)
      · refine .inr ⟨h1, fun k z hz => ?_⟩
        cases k with
        | zero => obtain rfl : y = z := by simpa using hz
                  exact hy
        | succ k => exact h2 k z (by simpa using hz)

/-- Rules that lie within one ahead are left out. -/
def trimGo {α : Type} (within : α → α → Bool) : List α → List α → List α
  | _, [] => []
  | A, r :: l => if A.any (within r) then trimGo within (A ++ [r]) l else r :: trimGo within (A ++ [r]) l
/-- No header's first rule is another one by it. -/
theorem trim_look {α : Type} (within : α → α → Bool) (has : α → Bool) (hw : ∀ a b, within a b = true → has a = true → has b = true) : ∀ (l A : List α), (∀ a ∈ A, has a = false) → (trimGo within A l).find? has = l.find? has
  | [], _, _ => rfl
  | r :: l, A, hA => by
    rw [trimGo]
    by_cases hr : has r = true
    · have hn : A.any (within r) = false := by
        rw [Bool.eq_false_iff]
        intro h
        obtain ⟨a, ha, h2⟩ := List.any_eq_true.1 h
        have := hw r a h2 hr
        rw [hA a ha] at this; cases this
      rw [if_neg (by rw [hn]; decide), List.find?_cons, List.find?_cons, hr]
    · have hr' : has r = false := by simpa using hr
      have ih := trim_look within has hw l (A ++ [r]) fun a ha => by
        rcases List.mem_append.1 ha with h | h
        · exact hA a h
        · obtain rfl : a = r := by simpa using h
          exact hr'
      split
      · rw [List.find?_cons, hr', ih]
      · rw [List.find?_cons, List.find?_cons, hr', ih]
/-- The first rule of what the rows are expanded to. -/
theorem look_expand {α β : Type} (cubes : α → List β) (has : β → Bool) : ∀ rows : List α, ((rows.flatMap fun x => (cubes x).map fun c => (c, x)).find? fun r => has r.1).map (·.2) = rows.find? fun x => (cubes x).any has
  | [] => rfl
  | x :: rows => by
    rw [List.flatMap_cons, List.find?_append, List.find?_cons]
    have ih := look_expand cubes has rows
    cases h : (cubes x).any has with
    | true =>
      obtain ⟨c, hc, h2⟩ := List.any_eq_true.1 h
      cases hf : ((cubes x).map fun c => (c, x)).find? fun r => has r.1 with
      | none =>
        rw [List.find?_eq_none] at hf
        exact absurd h2 (hf (c, x) (List.mem_map.2 ⟨c, hc, rfl⟩))
      | some r =>
        have hm := List.mem_of_find?_eq_some hf
        obtain ⟨c', _, rfl⟩ := List.mem_map.1 hm
        rfl
    | false =>
      have hf : (((cubes x).map fun c => (c, x)).find? fun r => has r.1) = none := by
        rw [List.find?_eq_none]
        intro r hr
        obtain ⟨c, hc, rfl⟩ := List.mem_map.1 hr
        intro h3
        rw [Bool.eq_false_iff] at h
        exact h (List.any_eq_true.2 ⟨c, hc, h3⟩)
      rw [hf]
      exact ih
end Go.Proofs.YthddlchkbnmcaaaGreatDoor
namespace Go.Proofs.YthddlchkbnmcaaaGreatDoor
open Go
set_option maxRecDepth 20000

/-- Does an entry take the place of the best one so far? -/
def better (x y : Ent) : Bool := (y.dflt && !x.dflt) || (!y.dflt && !x.dflt && decide (y.prio < x.prio))
theorem better_ahead {x y : Ent} (i j : Nat) (h : better x y = true) : aheadB x i y j = true := by
  unfold better at h
  unfold aheadB
  cases hx : x.dflt <;> cases hy : y.dflt <;> simp [hx, hy] at h ⊢
  left; exact h
theorem ahead_of_not {x y : Ent} {i j : Nat} (h : better x y = false) (hij : j < i) : aheadB y j x i = true := by
  unfold better at h
  unfold aheadB
  cases hx : x.dflt <;> cases hy : y.dflt <;> simp [hx, hy] at h ⊢ <;> omega
theorem ahead_trans {L : List Ent} {i j k : Nat} (h1 : aheadAt L i j) (h2 : aheadAt L j k) : aheadAt L i k := by
  obtain ⟨x, y, hx, hy, h⟩ := h1
  obtain ⟨y', z, hy', hz, h'⟩ := h2
  rw [hy] at hy'
  obtain rfl := Option.some.inj hy'
  refine ⟨x, z, hx, hz, ?_⟩
  unfold aheadB at h h' ⊢
  cases hdx : x.dflt <;> cases hdy : y.dflt <;> cases hdz : z.dflt <;> simp [hdx, hdy, hdz] at h h' ⊢ <;> omega

/-- The first of the rows, so far. -/
structure PartRows (L : List Ent) (R : List Nat) : Prop where
  sorted : R.Pairwise (aheadAt L)
  within : ∀ i ∈ R, i < L.length
  first : ∀ i ∈ R, ∀ j, j < L.length → j ∉ R → aheadAt L i j
theorem PartRows.nil (L : List Ent) : PartRows L [] := ⟨List.Pairwise.nil, fun i h => by simp at h, fun i h => by simp at h⟩
/-- The best of those that are left. -/
def IsBest (L : List Ent) (R : List Nat) (n b : Nat) : Prop := b < n ∧ b ∉ R ∧ ∀ j, j < n → j ∉ R → j ≠ b → aheadAt L b j
theorem best_new {L : List Ent} {R : List Nat} {n : Nat} (h : ∀ j, j < n → j ∈ R) (hn : n ∉ R) : IsBest L R (n + 1) n :=
  ⟨Nat.lt_succ_self n, hn, fun j hj hR hne => absurd (h j (by omega)) hR⟩
theorem best_done {L : List Ent} {R : List Nat} {n b : Nat} (h : IsBest L R n b) (hn : n ∈ R) : IsBest L R (n + 1) b :=
  ⟨by have := h.1; omega, h.2.1, fun j hj hR hne => by
    by_cases e : j = n
    · subst e; exact absurd hn hR
    · exact h.2.2 j (by omega) hR hne⟩
theorem best_stay {L : List Ent} {R : List Nat} {n b : Nat} {x y : Ent} (h : IsBest L R n b) (hx : L[n]? = some x) (hy : L[b]? = some y) (hb : better x y = false) : IsBest L R (n + 1) b :=
  ⟨by have := h.1; omega, h.2.1, fun j hj hR hne => by
    by_cases e : j = n
    · subst e; exact ⟨y, x, hy, hx, ahead_of_not hb h.1⟩
    · exact h.2.2 j (by omega) hR hne⟩
theorem best_turn {L : List Ent} {R : List Nat} {n b : Nat} {x y : Ent} (h : IsBest L R n b) (hx : L[n]? = some x) (hy : L[b]? = some y) (hb : better x y = true) (hn : n ∉ R) : IsBest L R (n + 1) n := by
  have hnb : aheadAt L n b := ⟨x, y, hx, hy, better_ahead n b hb⟩
  refine ⟨Nat.lt_succ_self n, hn, fun j hj hR hne => ?_⟩
  by_cases e : j = b
  · subst e; exact hnb
  · exact ahead_trans hnb (h.2.2 j (by omega) hR e)
theorem PartRows.snoc {L : List Ent} {R : List Nat} {b : Nat} (h : PartRows L R) (hb : IsBest L R L.length b) : PartRows L (R ++ [b]) := by
  refine ⟨?_, fun i hi => ?_, fun i hi j hj hn => ?_⟩
  · rw [List.pairwise_append]
    refine ⟨h.sorted, by simp, fun i hi j hj => ?_⟩
    obtain rfl : j = b := by simpa using hj
    exact h.first i hi j hb.1 hb.2.1
  · rcases List.mem_append.1 hi with hi | hi
    · exact h.within i hi
    · obtain rfl : i = b := by simpa using hi
      exact hb.1
  · have hn1 : j ∉ R := fun e => hn (List.mem_append_left _ e)
    have hn2 : j ≠ b := fun e => hn (by simp [e])
    rcases List.mem_append.1 hi with hi | hi
    · exact h.first i hi j hj hn1
    · obtain rfl : i = b := by simpa using hi
      exact hb.2.2 j hj hn1 hn2
theorem few_places : ∀ (n : Nat) (R : List Nat), R.Nodup → (∀ i ∈ R, i < n) → R.length ≤ n
  | 0, R, _, h => by
    cases R with
    | nil => exact Nat.le_refl _
    | cons a R => exact absurd (h a (by simp)) (Nat.not_lt_zero _)
  | n + 1, R, hd, h => by
    by_cases hn : n ∈ R
    · have h1 := few_places n (R.erase n) (hd.erase n) fun i hi => by
        have := (hd.mem_erase_iff).1 hi
        have h2 := h i this.2
        have h3 := this.1
        omega
      rw [List.length_erase_of_mem hn] at h1
      omega
    · have := few_places n R hd fun i hi => by
        have h2 := h i hi
        have h3 : i ≠ n := fun e => hn (e ▸ hi)
        omega
      omega
theorem PartRows.nodup {L : List Ent} {R : List Nat} (h : PartRows L R) : R.Nodup :=
  List.Pairwise.imp (fun {a b} hab e => by subst e; exact ahead_asymm hab hab) h.sorted
/-- All of the rows. -/
theorem PartRows.rows {L : List Ent} {R : List Nat} (h : PartRows L R) (hn : R.length = L.length) : IsRows L R := by
  refine ⟨h.sorted, fun i => ⟨h.within i, fun hi => ?_⟩⟩
  by_cases hR : i ∈ R
  · exact hR
  · have := few_places L.length (i :: R) (List.nodup_cons.2 ⟨hR, h.nodup⟩) fun j hj => by
      rcases List.mem_cons.1 hj with rfl | hj
      · exact hi
      · exact h.within j hj
    simp at this
    omega
theorem rows_left {L : List Ent} {R : List Nat} (hn : R.length < L.length) : ∃ i, i < L.length ∧ i ∉ R := by
  by_cases hc : ∃ i, i < L.length ∧ i ∉ R
  · exact hc
  · exfalso
    have hall : ∀ i, i < L.length → i ∈ R := fun i hi => by
      by_cases hR : i ∈ R
      · exact hR
      · exact absurd ⟨i, hi, hR⟩ hc
    have hsub : (List.range L.length).length ≤ R.length := by
      have key : ∀ (m : Nat) (S : List Nat), (∀ i, i < m → i ∈ S) → m ≤ S.length := by
        intro m
        induction m with
        | zero => intro S _; exact Nat.zero_le _
        | succ m ih =>
          intro S hS
          have hm := hS m (Nat.lt_succ_self m)
          have := ih (S.erase m) fun i hi => (List.mem_erase_of_ne (by omega)).2 (hS i (by omega))
          rw [List.length_erase_of_mem hm] at this
          have hp : 0 < S.length := List.length_pos_of_mem hm
          omega
      rw [List.length_range]
      exact key _ R hall
    rw [List.length_range] at hsub
    omega
/-- The entries at some places. -/
def entZ8 : Ent := ⟨false, 0, 0, 0, 0, 0, 0, 0, 0, 0, 0, 0⟩
def entsOf (l : List Ent) (R : List Nat) : List Ent := R.map fun i => l.getD i entZ8
end Go.Proofs.YthddlchkbnmcaaaGreatDoor
namespace Go.Proofs.YthddlchkbnmcaaaGreatDoor
open Go Go.RowKit
set_option maxRecDepth 20000

theorem wl_min7 {ops : Array Oper} {rest : List Oper} {o : Oper} {a : Act} {w : World} {Q : Exit → Act → World → Prop} (hgd : o.guard = none) (x y : Operand) (ho : o.op = .call { callee := .builtin .min, args := #[x, y], argTypes := #[3, 3] })
    (p q r : Int) (hx : a.eval x = .int .i64 p) (hy : a.eval y = .int .i64 q) (hr : r = min p q) (h : wpList Tryz.prog ops Q rest (a.put o.dst (.int .i64 r)) w) : wpList Tryz.prog ops Q (o :: rest) a w := by
  obtain ⟨dst, op, ty, pos, after, guard⟩ := o
  subst ho
  have hr : (execOp a.eval ⟨dst, .call { callee := .builtin .min, args := #[x, y], argTypes := #[3, 3] }, ty, pos, after, guard⟩).run Tryz.prog w = .ok (.value (.int .i64 r)) w := by
    subst hr
    by_cases h1 : p ≤ q
    · rw [show min p q = p by omega]
      unfold execOp
      simp [resolve, invoke, builtin, hx, hy, Builtin.min_, Builtin.min2]
      all_goals omega
    · rw [show min p q = q by omega]
      unfold execOp
      simp [resolve, invoke, builtin, hx, hy, Builtin.min_, Builtin.min2]
      all_goals omega
  refine wpList_plain hgd fun K hK => ?_
  unfold Oper.wp
  rw [hr]
  exact hK _ _ h

theorem GSl.take7 {α : Type} {E : El} {enc : α → Array Value} {w : World} {o : Option Addr} {n cap : Nat} {C : List α} (h : GSl E enc w (.slice o n cap) C) {k : Nat} (hk : k ≤ n) : GSl E enc w (.slice o k cap) (C.take k) := by
  obtain ⟨o', cap', h1, h2, h3, h4⟩ := h
  simp only [Value.slice.injEq] at h1
  obtain ⟨rfl, rfl, rfl⟩ := h1
  have hl : (C.take k).length = k := by rw [List.length_take]; omega
  refine ⟨o, cap, by rw [hl], by rw [hl]; omega, h3, fun i hi => ?_⟩
  rw [hl] at hi
  obtain ⟨g, off, cur, t, fr, e1, e2, e3⟩ := h4 i (by omega)
  refine ⟨g, off, cur, t, fr, e1, e2, fun j hj => ?_⟩
  rw [List.getElem_take]
  exact e3 j hj
end Go.Proofs.YthddlchkbnmcaaaGreatDoor
