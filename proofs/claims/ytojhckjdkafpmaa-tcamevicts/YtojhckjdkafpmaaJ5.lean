import Derived.Test.YtojhckjdkafpmaaJ4
import Derived.Deep.Slices
import Derived.Sort.LotA
namespace Go.Proofs.Ytojhckjdkafpmaa
open Go.ChangeShapes Go.WideShapes Go.ChangeAt Go.WideMaps Go.WideElems Go.RowKit
set_option maxRecDepth 20000

theorem El.Ok.cellsOf {E : El} (H : E.Ok) : Try.prog.cellsOf E.elem = E.size := by
  obtain ⟨i, h1, _, h2, _⟩ := H.info
  simp [Program.cellsOf, h1, h2]

/-- A slice that comes in, of elements that are opened one by one. -/
theorem open_any {E : El} (HE : E.Ok) {α : Type} [Inhabited α] (row : α → Array Value) (hrow : ∀ a, (row a).size = E.size) (Q : α → Prop) {H : Type} {enc : TypeId × Value → H} {W : World} {base : Nat} {spare : Nat → Bool} {held : Bool}
    (elem : ∀ (fuel : Nat) (cs : List Value) (x : DataW H × List MemPlace), cs.length = E.size → DataW.trod enc Try.prog W base spare held fuel E.elem cs = some x → ∃ a, cs = (row a).toList ∧ Q a)
    {fuel : Nat} {v : Value} {x : DataW H × List MemPlace} (hf : DataW.trod enc Try.prog W base spare held fuel E.slice [v] = some x) : ∃ C : List α, GSl E row W v C ∧ ∀ c ∈ C, Q c := by
  have hp := HE.hp
  rcases Deep.open_slice HE.hs hf with ⟨h0, _⟩ | ⟨a, len, cap, m, n, D, Pl, h0, hb, hl, hm, hmm, _, hx⟩
  · obtain rfl : v = .slice none 0 0 := by simpa using h0
    exact ⟨[], gsl_nil E row W, fun c hc => absurd hc (by simp)⟩
  · obtain rfl : v = .slice (some a) len cap := by simpa using h0
    rw [HE.cellsOf] at hx
    have hlm : len ≤ m := by rw [hmm]; split <;> omega
    have each : ∀ i, i < len → ∃ c : α, Q c ∧ ∀ j, j < E.size → W.cell? (a.add (i * E.size + j)) = (row c)[j]? := fun i hi => by
      obtain ⟨cs', h1, h2⟩ := hx i (by omega)
      obtain ⟨_, hlen, hcell⟩ := World.cells?_some h1
      obtain ⟨c, h3, h4⟩ := elem _ cs' _ hlen h2
      refine ⟨c, h4, fun j hj => ?_⟩
      have := hcell j hj
      rw [Deep.add_add] at this
      rw [this, h3]
      simp
    obtain ⟨f, hf⟩ := Deep.choose_lt each
    refine ⟨(List.range len).map f, ⟨some a, cap, by simp, by simpa using hl, hm, fun i hi => ?_⟩, fun c hc => ?_⟩
    · have hi' : i < len := by simpa using hi
      have h1 := (hf i hi').2
      obtain ⟨g, off, sp⟩ := a
      have hj : ∀ j, j < E.size → ∃ cur t fr, W.heap[g]? = some (.cells cur t fr) ∧ cur[off + i * E.size + j]? = (row (f i))[j]? ∧ (i * E.size + j = 0 → sp = none) := fun j hj => by
        have h2 := h1 j hj
        obtain ⟨y, hy⟩ : ∃ y, (row (f i))[j]? = some y := ⟨_, Array.getElem?_eq_getElem (by rw [hrow]; exact hj)⟩
        rw [hy] at h2 ⊢
        unfold World.cell? at h2
        split at h2
        · rename_i cur t fr hq
          have hbk : (Addr.add ⟨g, off, sp⟩ (i * E.size + j)).block = g := by unfold Addr.add; split <;> rfl
          have hof : (Addr.add ⟨g, off, sp⟩ (i * E.size + j)).off = off + i * E.size + j := by unfold Addr.add; split <;> simp_all [Nat.add_assoc]
          rw [hbk] at hq
          rw [hof] at h2
          split at h2
          · cases h2
          · rename_i hsp
            refine ⟨cur, t, fr, hq, h2, fun h0 => ?_⟩
            unfold Addr.add at hsp
            rw [if_pos h0] at hsp
            simpa using hsp
        · cases h2
      have hsp : sp = none := by
        obtain ⟨cur, t, fr, h2, h3, h4⟩ := hj 0 hp
        by_cases hi0 : i = 0
        · exact h4 (by rw [hi0]; simp)
        · have h5 := (hf 0 (by omega)).2 0 hp
          obtain ⟨y, hy⟩ : ∃ y, (row (f 0))[0]? = some y := ⟨_, Array.getElem?_eq_getElem (by rw [hrow]; exact hp)⟩
          rw [hy] at h5
          unfold World.cell? at h5
          split at h5
          · split at h5
            · cases h5
            · rename_i hs
              simpa [Addr.add] using hs
          · cases h5
      subst hsp
      obtain ⟨cur, t, fr, h2, _, _⟩ := hj 0 hp
      refine ⟨g, off, cur, t, fr, rfl, h2, fun j hjl => ?_⟩
      obtain ⟨cur', t', fr', h3, h4, _⟩ := hj j hjl
      rw [h2] at h3
      obtain ⟨rfl, rfl, rfl⟩ : cur = cur' ∧ t = t' ∧ fr = fr' := by simpa using h3
      rw [h4]
      simp
    · rw [List.mem_map] at hc
      obtain ⟨i, hi, rfl⟩ := hc
      exact (hf i (by simpa using hi)).1

/-- A list whose elements hold lists of their own: each row with the value of its inner list. -/
def NSl {α : Type} (E : El) (row : α → Value → Array Value) (R : World → α → Value → Prop) (w : World) (v : Value) (C : List α) : Prop :=
  ∃ P : List (α × Value), P.map (·.1) = C ∧ GSl E (fun p => row p.1 p.2) w v P ∧ ∀ p ∈ P, R w p.1 p.2
theorem NSl.below {α : Type} {E : El} {row : α → Value → Array Value} {R : World → α → Value → Prop} (hR : ∀ w w' a v, Below w.heap.size w w' → R w a v → R w' a v) {w w' : World} {v : Value} {C : List α} (h : NSl E row R w v C) (hb : Below w.heap.size w w') : NSl E row R w' v C := by
  obtain ⟨P, h1, h2, h3⟩ := h
  exact ⟨P, h1, h2.below hb, fun p hp => hR w w' _ _ hb (h3 p hp)⟩
theorem NSl.slice {α : Type} {E : El} {row : α → Value → Array Value} {R : World → α → Value → Prop} {w : World} {v : Value} {C : List α} (h : NSl E row R w v C) : ∃ (o : Option Addr) (cap : Nat), v = .slice o C.length cap ∧ C.length ≤ cap ∧ cap ≤ maxLen := by
  obtain ⟨P, h1, h2, _⟩ := h
  obtain ⟨o, cap, e, h4, h5⟩ := h2.slice
  have hl : P.length = C.length := by rw [← h1, List.length_map]
  rw [hl] at e h4
  exact ⟨o, cap, e, h4, h5⟩
theorem NSl.at {α : Type} {E : El} {row : α → Value → Array Value} {R : World → α → Value → Prop} {w : World} {o : Option Addr} {n cap : Nat} {C : List α} (h : NSl E row R w (.slice o n cap) C) (k : Nat) (hk : k < n) :
    ∃ g off cur t fr, ∃ (c : α) (u : Value), o = some ⟨g, off, none⟩ ∧ w.heap[g]? = some (.cells cur t fr) ∧ (∀ j, j < E.size → cur[off + k * E.size + j]? = (row c u)[j]?) ∧ C[k]? = some c ∧ R w c u := by
  obtain ⟨P, h1, h2, h3⟩ := h
  obtain ⟨g, off, cur, t, fr, c, e1, e2, e3, e4⟩ := h2.at k hk
  exact ⟨g, off, cur, t, fr, c.1, c.2, e1, e2, e3, by rw [← h1, List.getElem?_map, e4]; rfl, h3 c (List.mem_of_getElem? e4)⟩
/-- The same of one's own row. -/
def NOwn {α : Type} (E : El) (row : α → Value → Array Value) (R : World → α → Value → Prop) (w : World) (B : Nat) (v : Value) (C : List α) : Prop :=
  ∃ P : List (α × Value), P.map (·.1) = C ∧ w.ownsRow B E.elem E.size v P.length (gcells (fun p : α × Value => row p.1 p.2) P) ∧ ∀ p ∈ P, R w p.1 p.2
theorem NOwn.sl {α : Type} {E : El} {row : α → Value → Array Value} {R : World → α → Value → Prop} (hrow : ∀ a u, (row a u).size = E.size) {w : World} {B : Nat} {v : Value} {C : List α} (h : NOwn E row R w B v C) : NSl E row R w v C := by
  obtain ⟨P, h1, h2, h3⟩ := h
  exact ⟨P, h1, gsl_of h2 fun c _ => hrow c.1 c.2, h3⟩
theorem NOwn.nil {α : Type} (E : El) (row : α → Value → Array Value) (R : World → α → Value → Prop) (w : World) (B : Nat) : NOwn E row R w B (.slice none 0 0) [] :=
  ⟨[], rfl, World.ownsRow_nil _ _ _ _, fun p hp => by simp at hp⟩
theorem NOwn.below {α : Type} {E : El} {row : α → Value → Array Value} {R : World → α → Value → Prop} (hR : ∀ w w' a v, Below w.heap.size w w' → R w a v → R w' a v) {w w' : World} {B : Nat} {v : Value} {C : List α} (h : NOwn E row R w B v C) (hb : Below w.heap.size w w') : NOwn E row R w' B v C := by
  obtain ⟨P, h1, h2, h3⟩ := h
  exact ⟨P, h1, gown_below h2 hb, fun p hp => hR w w' _ _ hb (h3 p hp)⟩
/-- Rows of two types lie apart. -/
theorem own_apart {w : World} {B B' : Nat} {e e' : TypeId} {s s' : Nat} {v u : Value} {n m : Nat} {xs ys : List Value} (h : w.ownsRow B e s v n xs) (h' : w.ownsRow B' e' s' u m ys) (hne : e ≠ e') : ∀ g, v.ownBlock = some g → u.ownBlock ≠ some g := by
  intro g hg hu
  obtain ⟨_, ⟨rfl, _⟩ | ⟨g1, cap, cur, rfl, _, h1, _⟩⟩ := h
  · simp [Value.ownBlock] at hg
  · obtain ⟨_, ⟨rfl, _⟩ | ⟨g2, cap', cur', rfl, _, h2, _⟩⟩ := h'
    · simp [Value.ownBlock] at hu
    · simp only [Value.ownBlock, Option.some.injEq] at hg hu
      subst hg
      subst hu
      rw [h1] at h2
      simp only [Option.some.injEq, Obj.cells.injEq] at h2
      exact hne h2.2.1
/-- A row stays as it is while another one grows. -/
theorem own_grown {w w' : World} {b : Option Nat} (hgr : w.grownBy w' b) {B : Nat} {e : TypeId} {s : Nat} {u : Value} {m : Nat} {ys : List Value} (h : w.ownsRow B e s u m ys) (hne : ∀ g, b = some g → u.ownBlock ≠ some g) : w'.ownsRow B e s u m ys := by
  obtain ⟨h0, h1 | ⟨g, cap, cur, rfl, hB, hcur, h3⟩⟩ := h
  · exact ⟨h0, .inl h1⟩
  · refine ⟨h0, .inr ⟨g, cap, cur, rfl, hB, ?_, h3⟩⟩
    rw [hgr.block g (Array.getElem?_eq_some_iff.1 hcur).1 (fun hq => hne g hq.symm rfl)]
    exact hcur
theorem NOwn.grown {α : Type} {E : El} {row : α → Value → Array Value} {R : World → α → Value → Prop} {w w' : World} {b : Option Nat} (hgr : w.grownBy w' b) {B : Nat} {v : Value} {C : List α} (h : NOwn E row R w B v C) (hne : ∀ g, b = some g → v.ownBlock ≠ some g) (hR : ∀ a u, R w a u → R w' a u) : NOwn E row R w' B v C := by
  obtain ⟨P, h1, h2, h3⟩ := h
  exact ⟨P, h1, own_grown hgr h2 hne, fun p hp => hR _ _ (h3 p hp)⟩
theorem NOwn.snoc {α : Type} {E : El} {row : α → Value → Array Value} {R : World → α → Value → Prop} {w' : World} {B : Nat} {v' : Value} {C : List α} {c : α} {u : Value} {P : List (α × Value)} (h1 : P.map (·.1) = C) (h2 : w'.ownsRow B E.elem E.size v' (P ++ [(c, u)]).length (gcells (fun p : α × Value => row p.1 p.2) (P ++ [(c, u)])))
    (h3 : ∀ p ∈ P, R w' p.1 p.2) (h4 : R w' c u) : NOwn E row R w' B v' (C ++ [c]) :=
  ⟨P ++ [(c, u)], by rw [List.map_append, h1]; rfl, h2, fun p hp => by
    rcases List.mem_append.1 hp with hp | hp
    · exact h3 p hp
    · obtain rfl : p = (c, u) := by simpa using hp
      exact h4⟩
end Go.Proofs.Ytojhckjdkafpmaa
namespace Go.Proofs.Ytojhckjdkafpmaa
open Go
set_option maxRecDepth 20000

/-! Lists that are sorted by a falling number, those of one number in their order. -/
section
variable {α : Type} (p : α → Int)
/-- No later one has a greater number. -/
def Desc (l : List α) : Prop := l.Pairwise fun x y => p y ≤ p x
/-- Those of each number are the same, in the same order. -/
def Alike (l l' : List α) : Prop := ∀ k : Int, l.filter (fun x => p x == k) = l'.filter (fun x => p x == k)
theorem Alike.refl (l : List α) : Alike p l l := fun _ => rfl
variable {p}
theorem Alike.symm {l l' : List α} (h : Alike p l l') : Alike p l' l := fun k => (h k).symm
theorem Alike.trans {l l' l'' : List α} (h : Alike p l l') (h' : Alike p l' l'') : Alike p l l'' := fun k => (h k).trans (h' k)
theorem Alike.app {a a' b b' : List α} (h : Alike p a a') (h' : Alike p b b') : Alike p (a ++ b) (a' ++ b') := fun k => by
  rw [List.filter_append, List.filter_append, h k, h' k]
theorem Alike.mem {l l' : List α} (h : Alike p l l') (x : α) : x ∈ l ↔ x ∈ l' := by
  have e : ∀ m : List α, x ∈ m ↔ x ∈ m.filter (fun y => p y == p x) := fun m => by simp [List.mem_filter]
  rw [e l, h (p x), ← e l']
theorem alike_swap {X Y : List α} (h : ∀ y ∈ Y, ∀ x ∈ X, p x < p y) : Alike p (X ++ Y) (Y ++ X) := fun k => by
  rw [List.filter_append, List.filter_append]
  cases hx : X.filter (fun x => p x == k) with
  | nil => simp
  | cons x l =>
    have hxm : x ∈ X.filter (fun x => p x == k) := by rw [hx]; simp
    have hy : Y.filter (fun x => p x == k) = [] := by
      rw [List.filter_eq_nil_iff]
      intro y hy hk
      have h1 := (List.mem_filter.1 hxm)
      have := h y hy x h1.1
      simp at hk
      have h2 := h1.2
      simp at h2
      omega
    rw [hy]; simp
theorem desc_one : ∀ (l l' : List α), Desc p l → Desc p l' → Alike p l l' → l = l'
  | [], [], _, _, _ => rfl
  | [], b :: t', _, _, h => absurd ((h.mem b).2 (by simp)) (by simp)
  | a :: t, [], _, _, h => absurd ((h.mem a).1 (by simp)) (by simp)
  | a :: t, b :: t', h1, h2, h => by
    obtain ⟨q1, r1⟩ := List.pairwise_cons.1 h1
    obtain ⟨q2, r2⟩ := List.pairwise_cons.1 h2
    have e : p a = p b := by
      have ha : p a ≤ p b := by
        rcases List.mem_cons.1 ((h.mem a).1 (by simp)) with e | e
        · rw [e]; exact Int.le_refl _
        · exact q2 a e
      have hb : p b ≤ p a := by
        rcases List.mem_cons.1 ((h.mem b).2 (by simp)) with e | e
        · rw [e]; exact Int.le_refl _
        · exact q1 b e
      omega
    have h0 := h (p a)
    rw [List.filter_cons, List.filter_cons, if_pos (by simp), if_pos (by simp [e])] at h0
    obtain ⟨rfl, ht⟩ := List.cons.inj h0
    rw [desc_one t t' r1 r2 fun k => ?_]
    have hk := h k
    rw [List.filter_cons, List.filter_cons] at hk
    by_cases hc : (p a == k) = true
    · rw [if_pos hc, if_pos hc] at hk; exact (List.cons.inj hk).2
    · rw [if_neg hc, if_neg hc] at hk; exact hk
theorem merge_step {X1 X2 Y1 Y2 Z1 Z2 : List α} (hX : Desc p (X1 ++ X2)) (hY : Desc p (Y1 ++ Y2)) (h1 : ∀ x ∈ X1, ∀ y ∈ Y2, p y ≤ p x) (h2 : ∀ y ∈ Y1, ∀ x ∈ X2, p x < p y)
    (d1 : Desc p Z1) (a1 : Alike p Z1 (X1 ++ Y1)) (d2 : Desc p Z2) (a2 : Alike p Z2 (X2 ++ Y2)) : Desc p (Z1 ++ Z2) ∧ Alike p (Z1 ++ Z2) ((X1 ++ X2) ++ (Y1 ++ Y2)) := by
  refine ⟨List.pairwise_append.2 ⟨d1, d2, fun u hu v hv => ?_⟩, ?_⟩
  · have hx := (List.pairwise_append.1 hX).2.2
    have hy := (List.pairwise_append.1 hY).2.2
    rcases List.mem_append.1 ((a1.mem u).1 hu) with u1 | u1 <;> rcases List.mem_append.1 ((a2.mem v).1 hv) with v1 | v1
    · exact hx u u1 v v1
    · exact h1 u u1 v v1
    · have := h2 u u1 v v1; omega
    · exact hy u u1 v v1
  · have e : Alike p (X2 ++ Y1) (Y1 ++ X2) := alike_swap h2
    refine (a1.app a2).trans ?_
    have := ((Alike.refl p X1).app e.symm).app (Alike.refl p Y2)
    simpa [List.append_assoc] using this
end

/-! The same of a part of an array, place by place. -/
section
variable {α : Type}
def segF (f : Nat → α) (a n : Nat) : List α := (List.range n).map fun i => f (a + i)
theorem segF_add (f : Nat → α) (a n m : Nat) : segF f a (n + m) = segF f a n ++ segF f (a + n) m := by
  unfold segF
  rw [List.range_add, List.map_append, List.map_map]
  congr 1
  apply List.map_congr_left
  intro i _
  simp [Nat.add_assoc]
theorem segF_congr {f g : Nat → α} {a b n : Nat} (h : ∀ i, i < n → f (a + i) = g (b + i)) : segF f a n = segF g b n :=
  List.map_congr_left fun i hi => h i (by simpa using hi)
theorem segF_mem {f : Nat → α} {a n : Nat} {x : α} (h : x ∈ segF f a n) : ∃ i, a ≤ i ∧ i < a + n ∧ f i = x := by
  obtain ⟨i, hi, rfl⟩ := List.mem_map.1 h
  exact ⟨a + i, by omega, by have := List.mem_range.1 hi; omega, rfl⟩
theorem segF_zero (f : Nat → α) (a : Nat) : segF f a 0 = [] := rfl
theorem segF_one (f : Nat → α) (a : Nat) : segF f a 1 = [f a] := rfl
variable (p : α → Int)
def DescF (f : Nat → α) (a b : Nat) : Prop := ∀ i j, a ≤ i → i < j → j < b → p (f j) ≤ p (f i)
variable {p}
theorem DescF.seg {f : Nat → α} {a n : Nat} (h : DescF p f a (a + n)) : Desc p (segF f a n) := by
  unfold Desc segF
  rw [List.pairwise_map]
  refine List.Pairwise.imp_of_mem ?_ List.pairwise_lt_range
  intro i j hi hj hij
  have := List.mem_range.1 hj
  exact h _ _ (by omega) (by omega) (by omega)
theorem Desc.of_seg {f : Nat → α} {a n : Nat} (h : Desc p (segF f a n)) : DescF p f a (a + n) := by
  intro i j hi hij hj
  have h' := List.pairwise_iff_getElem.1 h (i - a) (j - a) (by simp [segF]; omega) (by simp [segF]; omega) (by omega)
  simp only [segF, List.getElem_map, List.getElem_range] at h'
  rwa [show a + (i - a) = i by omega, show a + (j - a) = j by omega] at h'
theorem DescF.part {f : Nat → α} {a b a' b' : Nat} (h : DescF p f a b) (h1 : a ≤ a') (h2 : b' ≤ b) : DescF p f a' b' := fun i j hi hij hj => h i j (by omega) hij (by omega)
theorem DescF.congr {f g : Nat → α} {a b : Nat} (h : DescF p f a b) (e : ∀ t, a ≤ t → t < b → g t = f t) : DescF p g a b := fun i j hi hij hj => by
  rw [e i hi (by omega), e j (by omega) hj]; exact h i j hi hij hj
theorem DescF.le {f : Nat → α} {a b : Nat} (h : DescF p f a b) {i j : Nat} (h1 : a ≤ i) (h2 : i ≤ j) (h3 : j < b) : p (f j) ≤ p (f i) := by
  by_cases e : i = j
  · subst e; exact Int.le_refl _
  · exact h i j h1 (by omega) h3

/-- Two parts changed for one another. -/
def swapF (f : Nat → α) (a b n : Nat) : Nat → α := fun t => if a ≤ t ∧ t < a + n then f (t + b - a) else if b ≤ t ∧ t < b + n then f (t + a - b) else f t
/-- [a, m) and [m, b) laid the other way round. -/
def rotF (f : Nat → α) (a m b : Nat) : Nat → α := fun t => if a ≤ t ∧ t < a + (b - m) then f (t + (m - a)) else if a + (b - m) ≤ t ∧ t < b then f (t - (b - m)) else f t
theorem rot_left (f : Nat → α) (m i j : Nat) (hi : i ≤ m) (h : j < i) (h0 : 0 < j) : rotF (swapF f (m - i) m j) (m - (i - j)) m (m + j) = rotF f (m - i) m (m + j) := by
  funext t
  simp only [rotF, swapF]
  repeat' split
  all_goals first | omega | (congr 1; omega) | rfl
theorem rot_right (f : Nat → α) (m i j : Nat) (hi : i ≤ m) (h : i < j) (h0 : 0 < i) : rotF (swapF f (m - i) (m + j - i) i) (m - i) m (m + (j - i)) = rotF f (m - i) m (m + j) := by
  funext t
  simp only [rotF, swapF]
  repeat' split
  all_goals first | omega | (congr 1; omega) | rfl
theorem rot_end (f : Nat → α) (m i : Nat) (hi : i ≤ m) : swapF f (m - i) m i = rotF f (m - i) m (m + i) := by
  funext t
  simp only [rotF, swapF]
  repeat' split
  all_goals first | omega | (congr 1; omega) | rfl
theorem rotF_out (f : Nat → α) {a m b t : Nat} (hm : m ≤ b) (ham : a ≤ m) (h : t < a ∨ b ≤ t) : rotF f a m b t = f t := by
  simp only [rotF]
  rw [if_neg (by omega), if_neg (by omega)]
theorem rotF_seg (f : Nat → α) {a m b : Nat} (ham : a ≤ m) (hmb : m ≤ b) : segF (rotF f a m b) a (b - a) = segF f m (b - m) ++ segF f a (m - a) := by
  rw [show b - a = (b - m) + (m - a) by omega, segF_add]
  congr 1
  · refine segF_congr fun i hi => ?_
    simp only [rotF]
    rw [if_pos (by omega)]; congr 1; omega
  · refine segF_congr fun i hi => ?_
    simp only [rotF]
    rw [if_neg (by omega), if_pos (by omega)]; congr 1; omega
/-- Two neighbours changed. -/
def swp1 (f : Nat → α) (i j : Nat) : Nat → α := fun t => if t = j then f i else if t = i then f j else f t
theorem rot_up (f : Nat → α) (a k : Nat) (hk : a ≤ k) : swp1 (rotF f a (a + 1) (k + 1)) k (k + 1) = rotF f a (a + 1) (k + 2) := by
  funext t
  simp only [rotF, swp1]
  repeat' split
  all_goals first | omega | (congr 1; omega) | rfl
theorem rot_up0 (f : Nat → α) (a : Nat) : rotF f a (a + 1) (a + 1) = f := by
  funext t
  simp only [rotF]
  repeat' split
  all_goals first | omega | (congr 1; omega) | rfl
theorem rot_down (f : Nat → α) (m k : Nat) (hk : k < m) : swp1 (rotF f (k + 1) m (m + 1)) (k + 1) k = rotF f k m (m + 1) := by
  funext t
  simp only [rotF, swp1]
  repeat' split
  all_goals first | omega | (congr 1; omega) | rfl
theorem rot_down0 (f : Nat → α) (m : Nat) : rotF f m m (m + 1) = f := by
  funext t
  simp only [rotF]
  repeat' split
  all_goals first | omega | (congr 1; omega) | rfl
theorem swap_step (f : Nat → α) (a b i : Nat) (h : a + i < b) : swp1 (swapF f a b i) (a + i) (b + i) = swapF f a b (i + 1) := by
  funext t
  simp only [swapF, swp1]
  repeat' split
  all_goals first | omega | (congr 1; omega) | rfl
theorem swap_zero (f : Nat → α) (a b : Nat) : swapF f a b 0 = f := by
  funext t
  simp only [swapF]
  repeat' split
  all_goals first | omega | rfl

theorem rot_none1 (f : Nat → α) (m b : Nat) : rotF f m m b = f := by
  funext t
  simp only [rotF]
  repeat' split
  all_goals first | omega | (congr 1; omega) | rfl
theorem rot_none2 (f : Nat → α) (a m : Nat) : rotF f a m m = f := by
  funext t
  simp only [rotF]
  repeat' split
  all_goals first | omega | (congr 1; omega) | rfl
/-- What comes of two sorted parts that lie side by side. -/
structure Merged (p : α → Int) (f g : Nat → α) (a b : Nat) : Prop where
  out : ∀ t, t < a ∨ b ≤ t → g t = f t
  desc : DescF p g a b
  alike : Alike p (segF g a (b - a)) (segF f a (b - a))
theorem Merged.refl {f : Nat → α} {a b : Nat} (h : DescF p f a b) : Merged p f f a b := ⟨fun _ _ => rfl, h, Alike.refl _ _⟩
/-- THE STEP OF THE MERGE: parted at 'start' and 'end', turned about, both halves merged. -/
theorem merged_step {f g1 g2 : Nat → α} {a m b mid start en : Nat} (h1 : a ≤ start) (h2 : start ≤ m) (h3 : m ≤ en) (h4 : en ≤ b) (hn : start + en = mid + m) (hmid : a ≤ mid ∧ mid ≤ b)
    (hX : DescF p f a m) (hY : DescF p f m b)
    (q1 : start = a ∨ en = b ∨ p (f en) ≤ p (f (start - 1))) (q2 : start = m ∨ en = m ∨ p (f start) < p (f (en - 1)))
    (m1 : Merged p (rotF f start m en) g1 a mid) (m2 : Merged p g1 g2 mid b) : Merged p f g2 a b := by
  have eL : segF (rotF f start m en) a (mid - a) = segF f a (start - a) ++ segF f m (en - m) := by
    rw [show mid - a = (start - a) + (en - m) by omega, segF_add]
    congr 1
    · refine segF_congr fun i hi => rotF_out f h3 h2 (by omega)
    · refine segF_congr fun i hi => ?_
      simp only [rotF]
      rw [if_pos (by omega)]; congr 1; omega
  have eR : segF (rotF f start m en) mid (b - mid) = segF f start (m - start) ++ segF f en (b - en) := by
    rw [show b - mid = (m - start) + (b - en) by omega, segF_add]
    congr 1
    · refine segF_congr fun i hi => ?_
      simp only [rotF]
      rw [if_neg (by omega), if_pos (by omega)]; congr 1; omega
    · refine segF_congr fun i hi => ?_
      rw [rotF_out f h3 h2 (by omega)]
      congr 1; omega
  have eR' : segF g1 mid (b - mid) = segF f start (m - start) ++ segF f en (b - en) := by
    rw [← eR]
    exact segF_congr fun i hi => m1.out _ (by omega)
  have eL' : segF g2 a (mid - a) = segF g1 a (mid - a) := segF_congr fun i hi => m2.out _ (by omega)
  have eX : segF f a (m - a) = segF f a (start - a) ++ segF f start (m - start) := by
    rw [show m - a = (start - a) + (m - start) by omega, segF_add]; congr 2; omega
  have eY : segF f m (b - m) = segF f m (en - m) ++ segF f en (b - en) := by
    rw [show b - m = (en - m) + (b - en) by omega, segF_add]; congr 2; omega
  have eA : segF f a (b - a) = segF f a (m - a) ++ segF f m (b - m) := by
    rw [show b - a = (m - a) + (b - m) by omega, segF_add]; congr 2; omega
  have eG : segF g2 a (b - a) = segF g1 a (mid - a) ++ segF g2 mid (b - mid) := by
    rw [← eL', show b - a = (mid - a) + (b - mid) by omega, segF_add]; congr 2; omega
  have dX : Desc p (segF f a (start - a) ++ segF f start (m - start)) := by
    rw [← eX]; exact DescF.seg (by rw [show a + (m - a) = m by omega]; exact hX)
  have dY : Desc p (segF f m (en - m) ++ segF f en (b - en)) := by
    rw [← eY]; exact DescF.seg (by rw [show m + (b - m) = b by omega]; exact hY)
  have d1 : Desc p (segF g1 a (mid - a)) := DescF.seg (by rw [show a + (mid - a) = mid by omega]; exact m1.desc)
  have d2 : Desc p (segF g2 mid (b - mid)) := DescF.seg (by rw [show mid + (b - mid) = b by omega]; exact m2.desc)
  obtain ⟨D, A⟩ := merge_step dX dY (fun x hx y hy => by
      obtain ⟨i, i1, i2, rfl⟩ := segF_mem hx
      obtain ⟨j, j1, j2, rfl⟩ := segF_mem hy
      have e1 : p (f (start - 1)) ≤ p (f i) := hX.le (by omega) (by omega) (by omega)
      have e2 : p (f j) ≤ p (f en) := hY.le (by omega) (by omega) (by omega)
      omega) (fun y hy x hx => by
      obtain ⟨i, i1, i2, rfl⟩ := segF_mem hx
      obtain ⟨j, j1, j2, rfl⟩ := segF_mem hy
      have e1 : p (f i) ≤ p (f start) := hX.le (by omega) (by omega) (by omega)
      have e2 : p (f (en - 1)) ≤ p (f j) := hY.le (by omega) (by omega) (by omega)
      omega) d1 (by rw [← eL]; exact m1.alike) d2 (by rw [← eR']; exact m2.alike)
  refine ⟨fun t ht => ?_, ?_, ?_⟩
  · rw [m2.out t (by omega), m1.out t (by omega), rotF_out f h3 h2 (by omega)]
  · rw [← eG] at D
    have := Desc.of_seg D
    rwa [show a + (b - a) = b by omega] at this
  · rw [eG, eA, eX, eY]; exact A
/-- Where a half is empty nothing is left to do. -/
theorem merged_none {f : Nat → α} {a m b start en mid : Nat} (h1 : a ≤ start) (h2 : start ≤ m) (h3 : m ≤ en) (h4 : en ≤ b) (hn : start + en = mid + m) (hX : DescF p f a m) (hY : DescF p f m b) (hc : ¬ (a < start ∧ start < mid)) :
    DescF p (rotF f start m en) a mid := by
  by_cases e : start = a
  · subst e
    intro i j hi hij hj
    simp only [rotF]
    rw [if_pos (by omega), if_pos (by omega)]
    exact hY _ _ (by omega) (by omega) (by omega)
  · have : en = m := by omega
    subst this
    refine (hX.part (Nat.le_refl a) (b' := mid) (by omega)).congr fun t h5 h6 => rotF_out f (Nat.le_refl _) h2 (by omega)
theorem merged_none2 {f g : Nat → α} {a m b start en mid : Nat} (h1 : a ≤ start) (h2 : start ≤ m) (h3 : m ≤ en) (h4 : en ≤ b) (hn : start + en = mid + m) (hX : DescF p f a m) (hY : DescF p f m b) (hg : ∀ t, mid ≤ t → g t = rotF f start m en t) (hc : ¬ (mid < en ∧ en < b)) :
    DescF p g mid b := by
  by_cases e : en = b
  · subst e
    intro i j hi hij hj
    rw [hg _ (by omega), hg _ (by omega)]
    simp only [rotF]
    rw [if_neg (by omega), if_pos (by omega), if_neg (by omega), if_pos (by omega)]
    exact hX _ _ (by omega) (by omega) (by omega)
  · have : start = m := by omega
    subst this
    refine (hY.part (a' := mid) (by omega) (Nat.le_refl b)).congr fun t h5 h6 => ?_
    rw [hg t h5]
    by_cases ht : t < en
    · simp only [rotF]
      rw [if_pos (by omega)]; congr 1; omega
    · exact rotF_out f h3 (Nat.le_refl _) (by omega)
/-- ONE ELEMENT ahead of a sorted part. -/
theorem merged_one {f : Nat → α} {a i b : Nat} (h1 : a + 1 ≤ i) (h2 : i ≤ b) (hY : DescF p f (a + 1) b) (q1 : i = a + 1 ∨ p (f a) < p (f (i - 1))) (q2 : i = b ∨ p (f i) ≤ p (f a)) : Merged p f (rotF f a (a + 1) i) a b := by
  have eG : segF (rotF f a (a + 1) i) a (b - a) = (segF f (a + 1) (i - (a + 1)) ++ [f a]) ++ segF f i (b - i) := by
    rw [show b - a = (i - a) + (b - i) by omega, segF_add, rotF_seg f (by omega) h1]
    congr 1
    · rw [show a + 1 - a = 1 by omega, segF_one]
    · rw [show a + (i - a) = i by omega]
      exact segF_congr fun k hk => rotF_out f h1 (by omega) (by omega)
  have eF : segF f a (b - a) = ([f a] ++ segF f (a + 1) (i - (a + 1))) ++ segF f i (b - i) := by
    rw [show b - a = (1 + (i - (a + 1))) + (b - i) by omega, segF_add, segF_add, segF_one]
    congr 2; omega
  have e1 : ∀ y ∈ segF f (a + 1) (i - (a + 1)), p (f a) < p y := fun y hy => by
    obtain ⟨j, j1, j2, rfl⟩ := segF_mem hy
    have := hY.le (i := j) (j := i - 1) (by omega) (by omega) (by omega)
    omega
  have e2 : ∀ y ∈ segF f i (b - i), p y ≤ p (f a) := fun y hy => by
    obtain ⟨j, j1, j2, rfl⟩ := segF_mem hy
    have := hY.le (i := i) (j := j) (by omega) (by omega) (by omega)
    omega
  have dY : Desc p (segF f (a + 1) (i - (a + 1)) ++ segF f i (b - i)) := by
    have := DescF.seg (p := p) (f := f) (a := a + 1) (n := b - (a + 1)) (by rw [show a + 1 + (b - (a + 1)) = b by omega]; exact hY)
    rw [show b - (a + 1) = (i - (a + 1)) + (b - i) by omega, segF_add, show a + 1 + (i - (a + 1)) = i by omega] at this
    exact this
  obtain ⟨y1, y2, y3⟩ := List.pairwise_append.1 dY
  refine ⟨fun t ht => rotF_out f h1 (by omega) (by omega), ?_, ?_⟩
  · have : Desc p (segF (rotF f a (a + 1) i) a (b - a)) := by
      rw [eG]
      refine List.pairwise_append.2 ⟨List.pairwise_append.2 ⟨y1, by simp, fun u hu v hv => ?_⟩, y2, fun u hu v hv => ?_⟩
      · obtain rfl : v = f a := by simpa using hv
        have := e1 u hu; omega
      · rcases List.mem_append.1 hu with hu | hu
        · exact y3 u hu v hv
        · obtain rfl : u = f a := by simpa using hu
          exact e2 v hv
    have := Desc.of_seg this
    rwa [show a + (b - a) = b by omega] at this
  · rw [eG, eF]
    refine Alike.app (Alike.symm (alike_swap ?_)) (Alike.refl _ _)
    intro y hy x hx
    obtain rfl : x = f a := by simpa using hx
    exact e1 y hy
/-- ONE ELEMENT behind a sorted part. -/
theorem merged_last {f : Nat → α} {a i m : Nat} (h1 : a ≤ i) (h2 : i ≤ m) (hX : DescF p f a m) (q1 : i = a ∨ p (f m) ≤ p (f (i - 1))) (q2 : i = m ∨ p (f i) < p (f m)) : Merged p f (rotF f i m (m + 1)) a (m + 1) := by
  have eG : segF (rotF f i m (m + 1)) a (m + 1 - a) = segF f a (i - a) ++ ([f m] ++ segF f i (m - i)) := by
    rw [show m + 1 - a = (i - a) + (m + 1 - i) by omega, segF_add]
    congr 1
    · exact segF_congr fun k hk => rotF_out f (by omega) h2 (by omega)
    · rw [show a + (i - a) = i by omega, rotF_seg f h2 (by omega), show m + 1 - m = 1 by omega, segF_one]
  have eF : segF f a (m + 1 - a) = segF f a (i - a) ++ (segF f i (m - i) ++ [f m]) := by
    rw [show m + 1 - a = (i - a) + ((m - i) + 1) by omega, segF_add, segF_add, segF_one, show a + (i - a) = i by omega, show i + (m - i) = m by omega]
  have e1 : ∀ y ∈ segF f a (i - a), p (f m) ≤ p y := fun y hy => by
    obtain ⟨j, j1, j2, rfl⟩ := segF_mem hy
    have := hX.le (i := j) (j := i - 1) (by omega) (by omega) (by omega)
    omega
  have e2 : ∀ y ∈ segF f i (m - i), p y < p (f m) := fun y hy => by
    obtain ⟨j, j1, j2, rfl⟩ := segF_mem hy
    have := hX.le (i := i) (j := j) (by omega) (by omega) (by omega)
    omega
  have dX : Desc p (segF f a (i - a) ++ segF f i (m - i)) := by
    have := DescF.seg (p := p) (f := f) (a := a) (n := m - a) (by rw [show a + (m - a) = m by omega]; exact hX)
    rw [show m - a = (i - a) + (m - i) by omega, segF_add, show a + (i - a) = i by omega] at this
    exact this
  obtain ⟨y1, y2, y3⟩ := List.pairwise_append.1 dX
  refine ⟨fun t ht => rotF_out f (by omega) h2 (by omega), ?_, ?_⟩
  · have : Desc p (segF (rotF f i m (m + 1)) a (m + 1 - a)) := by
      rw [eG]
      refine List.pairwise_append.2 ⟨y1, List.pairwise_append.2 ⟨by simp, y2, fun u hu v hv => ?_⟩, fun u hu v hv => ?_⟩
      · obtain rfl : u = f m := by simpa using hu
        have := e2 v hv; omega
      · rcases List.mem_append.1 hv with hv | hv
        · obtain rfl : v = f m := by simpa using hv
          exact e1 u hu
        · exact y3 u hu v hv
    have := Desc.of_seg this
    rwa [show a + (m + 1 - a) = m + 1 by omega] at this
  · rw [eG, eF]
    refine Alike.app (Alike.refl _ _) (alike_swap ?_).symm
    intro y hy x hx
    obtain rfl : y = f m := by simpa using hy
    exact e2 x hx
end

/-! The insertion sort is stable. -/
section
open Go.Sort
variable {α : Type} {p : α → Int}
theorem alike_pair {f : Nat → α} {a b j : Nat} (ha : a ≤ j) (hb : j + 1 < b) (h : p (f j) < p (f (j + 1))) : Alike p (segF (swp1 f (j + 1) j) a (b - a)) (segF f a (b - a)) := by
  have e : ∀ g : Nat → α, segF g a (b - a) = segF g a (j - a) ++ (([g j] ++ [g (j + 1)]) ++ segF g (j + 2) (b - (j + 2))) := fun g => by
    rw [show b - a = (j - a) + (2 + (b - (j + 2))) by omega, segF_add, segF_add, show a + (j - a) = j by omega]
    rfl
  rw [e, e]
  have s1 : segF (swp1 f (j + 1) j) a (j - a) = segF f a (j - a) := segF_congr fun i hi => by simp only [swp1]; rw [if_neg (by omega), if_neg (by omega)]
  have s2 : segF (swp1 f (j + 1) j) (j + 2) (b - (j + 2)) = segF f (j + 2) (b - (j + 2)) := segF_congr fun i hi => by simp only [swp1]; rw [if_neg (by omega), if_neg (by omega)]
  rw [s1, s2]
  have s3 : swp1 f (j + 1) j j = f (j + 1) := by simp [swp1]
  have s4 : swp1 f (j + 1) j (j + 1) = f j := by simp [swp1]
  rw [s3, s4]
  refine Alike.app (Alike.refl _ _) (Alike.app (alike_swap ?_).symm (Alike.refl _ _))
  intro y hy x hx
  obtain rfl : y = f (j + 1) := by simpa using hy
  obtain rfl : x = f j := by simpa using hx
  exact h
def ltP (p : α → Int) : α → α → Bool := fun x y => decide (p y < p x)
theorem swo_ltP : SWO (ltP p) := ⟨fun x => by simp [ltP], fun x y z h1 h2 => by simp [ltP] at *; omega, fun x y z h1 h2 => by simp [ltP] at *; omega⟩
end
section
open Go.Sort
variable {α : Type} [Inhabited α] {p : α → Int}
def arrF (d : Array α) : Nat → α := fun i => d[i]!
theorem swp_fun (d : Array α) (i j : Nat) (hi : i < d.size) (hj : j < d.size) : arrF (swp d i j) = swp1 (arrF d) i j := by
  funext t
  unfold arrF swp1
  rw [swp_get d hi hj]
theorem insInner_alike (a b : Nat) : ∀ (j : Nat) (d : Array α), j < b → b ≤ d.size → (insInner (ltP p) a j d).size = d.size ∧ Alike p (segF (arrF (insInner (ltP p) a j d)) a (b - a)) (segF (arrF d) a (b - a))
  | 0, d, _, _ => ⟨rfl, Alike.refl _ _⟩
  | j + 1, d, hj, hb => by
    rw [insInner]
    split
    · rename_i hc
      simp only [Bool.and_eq_true, decide_eq_true_eq, ltP] at hc
      obtain ⟨i1, i2⟩ := insInner_alike a b j (swp d (j + 1) j) (by omega) (by rw [swp_size]; exact hb)
      refine ⟨by rw [i1, swp_size], i2.trans ?_⟩
      rw [swp_fun d (j + 1) j (by omega) (by omega)]
      exact alike_pair (by omega) (by omega) hc.2
    · exact ⟨rfl, Alike.refl _ _⟩
theorem insOuter_alike (a b : Nat) : ∀ (n i : Nat) (d : Array α), b - i = n → b ≤ d.size → (insOuter (ltP p) a b i d).size = d.size ∧ Alike p (segF (arrF (insOuter (ltP p) a b i d)) a (b - a)) (segF (arrF d) a (b - a))
  | 0, i, d, hn, hb => by
    rw [insOuter, if_neg (by omega)]
    exact ⟨rfl, Alike.refl _ _⟩
  | n + 1, i, d, hn, hb => by
    rw [insOuter, if_pos (by omega)]
    obtain ⟨i1, i2⟩ := insInner_alike (p := p) a b i d (by omega) hb
    obtain ⟨j1, j2⟩ := insOuter_alike a b n (i + 1) (insInner (ltP p) a i d) (by omega) (by omega)
    exact ⟨by rw [j1, i1], j2.trans i2⟩
/-- THE INSERTION SORT of a part. -/
theorem ins_merged (d : Array α) (a b : Nat) (hab : a ≤ b) (hb : b ≤ d.size) : (insertionSort (ltP p) d a b).size = d.size ∧ Merged p (arrF d) (arrF (insertionSort (ltP p) d a b)) a b := by
  obtain ⟨⟨h1, h2, _⟩, h3⟩ := insertionSort_holds (lt := ltP p) swo_ltP d a b hab hb
  refine ⟨h1, ⟨h2, fun i j hi hij hj => ?_, (insOuter_alike a b (b - (a + 1)) (a + 1) d rfl hb).2⟩⟩
  have := h3 i j hi hij hj
  simp [ltP] at this
  exact this
end
end Go.Proofs.Ytojhckjdkafpmaa
namespace Go.Proofs.Ytojhckjdkafpmaa

/-- A slot. -/
structure Slt where
  bank : Int
  epoch : Int
  place : Int
  order : Int
  cube : List Int × List Int
  action : Int
  one : Int
  two : Int
  born : Int
  used : Int
  count : Int

section
variable (m : Slt → Bool) (k : Slt → Int)
/-- The first of those that fit with the least number, and what stands ahead of it and behind. -/
def LeastAt (C A : List Slt) (x : Slt) (B : List Slt) : Prop := C = A ++ x :: B ∧ m x = true ∧ (∀ y ∈ A, m y = true → k x < k y) ∧ ∀ y ∈ B, m y = true → k x ≤ k y
def leastF : List Slt → Option (List Slt × Slt × List Slt)
  | [] => none
  | x :: l => match leastF l with
    | none => if m x then some ([], x, l) else none
    | some (A, y, B) => if m x && decide (k x ≤ k y) then some ([], x, l) else some (x :: A, y, B)
variable {m k}
theorem leastF_none {C : List Slt} : leastF m k C = none ↔ ∀ y ∈ C, m y = false := by
  induction C with
  | nil => simp [leastF]
  | cons x l ih =>
    unfold leastF
    cases h : leastF m k l with
    | none =>
      have h1 := ih.1 h
      cases hm : m x with
      | true =>
        rw [if_pos rfl]
        constructor
        · intro e; cases e
        · intro e; have := e x (by simp); rw [hm] at this; cases this
      | false =>
        rw [if_neg (by simp)]
        simp only [true_iff]
        intro y hy
        rcases List.mem_cons.1 hy with rfl | e
        · exact hm
        · exact h1 y e
    | some r =>
      obtain ⟨A, y, B⟩ := r
      constructor
      · intro e
        simp only at e
        split at e <;> cases e
      · intro e
        have := ih.2 fun y hy => e y (List.mem_cons_of_mem _ hy)
        rw [h] at this; cases this
theorem leastF_some {C A B : List Slt} {x : Slt} (h : leastF m k C = some (A, x, B)) : LeastAt m k C A x B := by
  induction C generalizing A x B with
  | nil => cases h
  | cons z l ih =>
    unfold leastF at h
    cases hl : leastF m k l with
    | none =>
      rw [hl] at h
      have h1 := leastF_none.1 hl
      cases hm : m z with
      | true =>
        rw [hm] at h
        simp only [if_true, Option.some.injEq, Prod.mk.injEq] at h
        obtain ⟨rfl, rfl, rfl⟩ := h
        exact ⟨rfl, hm, fun y hy => by simp at hy, fun y hy e => by rw [h1 y hy] at e; cases e⟩
      | false =>
        rw [hm] at h
        simp at h
    | some r =>
      obtain ⟨A', y, B'⟩ := r
      rw [hl] at h
      obtain ⟨e1, e2, e3, e4⟩ := ih hl
      simp only at h
      by_cases hc : (m z && decide (k z ≤ k y)) = true
      · rw [if_pos hc] at h
        simp only [Option.some.injEq, Prod.mk.injEq] at h
        obtain ⟨rfl, rfl, rfl⟩ := h
        simp only [Bool.and_eq_true, decide_eq_true_eq] at hc
        refine ⟨rfl, hc.1, fun y hy => by simp at hy, fun u hu hm => ?_⟩
        rw [e1] at hu
        rcases List.mem_append.1 hu with h1 | h1
        · have := e3 u h1 hm; omega
        · rcases List.mem_cons.1 h1 with rfl | h1
          · exact hc.2
          · have := e4 u h1 hm; omega
      · rw [if_neg hc] at h
        simp only [Option.some.injEq, Prod.mk.injEq] at h
        obtain ⟨rfl, rfl, rfl⟩ := h
        refine ⟨by rw [e1]; rfl, e2, fun u hu hm => ?_, e4⟩
        rcases List.mem_cons.1 hu with rfl | h1
        · simp only [Bool.and_eq_true, decide_eq_true_eq, not_and] at hc
          have := hc hm
          omega
        · exact e3 u h1 hm
theorem least_one {C A A' B B' : List Slt} {x x' : Slt} (h : LeastAt m k C A x B) (h' : LeastAt m k C A' x' B') : A = A' ∧ x = x' ∧ B = B' := by
  obtain ⟨e1, e2, e3, e4⟩ := h
  obtain ⟨g1, g2, g3, g4⟩ := h'
  have e : A ++ x :: B = A' ++ x' :: B' := e1.symm.trans g1
  rcases List.append_eq_append_iff.1 e with ⟨D, h1, h2⟩ | ⟨D, h1, h2⟩
  · cases D with
    | nil =>
      simp at h1 h2
      exact ⟨h1.symm, h2.1, h2.2⟩
    | cons d D =>
      simp only [List.cons_append, List.cons.injEq] at h2
      obtain ⟨rfl, h3⟩ := h2
      have q1 := g3 x (by rw [h1]; simp) e2
      have q2 := e4 x' (by rw [h3]; simp) g2
      omega
  · cases D with
    | nil =>
      simp at h1 h2
      exact ⟨h1, h2.1.symm, h2.2.symm⟩
    | cons d D =>
      simp only [List.cons_append, List.cons.injEq] at h2
      obtain ⟨rfl, h3⟩ := h2
      have q1 := e3 x' (by rw [h1]; simp) g2
      have q2 := g4 x (by rw [h3]; simp) e2
      omega
theorem leastF_iff {C A B : List Slt} {x : Slt} : leastF m k C = some (A, x, B) ↔ LeastAt m k C A x B := by
  refine ⟨leastF_some, fun h => ?_⟩
  cases hl : leastF m k C with
  | none =>
    have := leastF_none.1 hl x (by rw [h.1]; simp)
    rw [h.2.1] at this; cases this
  | some r =>
    obtain ⟨A', x', B'⟩ := r
    obtain ⟨rfl, rfl, rfl⟩ := least_one (leastF_some hl) h
    rfl
/-- Among those of one kind it is the same one. -/
theorem least_filter {L A B : List Slt} {x : Slt} {b : Slt → Bool} (h : LeastAt (fun y => b y && m y) k L A x B) : LeastAt m k (L.filter b) (A.filter b) x (B.filter b) := by
  obtain ⟨e1, e2, e3, e4⟩ := h
  simp only [Bool.and_eq_true] at e2
  refine ⟨?_, e2.2, fun y hy hm => ?_, fun y hy hm => ?_⟩
  · rw [e1, List.filter_append, List.filter_cons, if_pos e2.1]
  · have := List.mem_filter.1 hy
    exact e3 y this.1 (by simp [this.2, hm])
  · have := List.mem_filter.1 hy
    exact e4 y this.1 (by simp [this.2, hm])
theorem leastF_filter (L : List Slt) (b : Slt → Bool) : leastF m k (L.filter b) = (leastF (fun y => b y && m y) k L).map fun r => (r.1.filter b, r.2.1, r.2.2.filter b) := by
  cases h : leastF (fun y => b y && m y) k L with
  | none =>
    rw [Option.map_none]
    refine leastF_none.2 fun y hy => ?_
    have h1 := List.mem_filter.1 hy
    have := leastF_none.1 h y h1.1
    simpa [h1.2] using this
  | some r =>
    obtain ⟨A, x, B⟩ := r
    rw [Option.map_some]
    exact leastF_iff.2 (least_filter (leastF_some h))

variable (m k)
/-- What a search has found among the first n. -/
def FoundTo (L : List Slt) (n : Nat) (c : Int) : Prop :=
  (c = -1 ∧ ∀ j y, j < n → L[j]? = some y → m y = false) ∨ ∃ (i : Nat) (x : Slt), c = (i : Int) ∧ i < n ∧ L[i]? = some x ∧ m x = true ∧ (∀ j y, j < i → L[j]? = some y → m y = true → k x < k y) ∧ ∀ j y, i < j → j < n → L[j]? = some y → m y = true → k x ≤ k y
variable {m k}
theorem found_nil (L : List Slt) : FoundTo m k L 0 (-1) := .inl ⟨rfl, fun j y h => by omega⟩
theorem found_skip {L : List Slt} {n : Nat} {c : Int} {y : Slt} (h : FoundTo m k L n c) (hy : L[n]? = some y) (hm : m y = false) : FoundTo m k L (n + 1) c := by
  rcases h with ⟨h1, h2⟩ | ⟨i, x, h1, h2, h3, h4, h5, h6⟩
  · refine .inl ⟨h1, fun j z hj hz => ?_⟩
    by_cases e : j = n
    · subst e; rw [hy] at hz; cases hz; exact hm
    · exact h2 j z (by omega) hz
  · refine .inr ⟨i, x, h1, by omega, h3, h4, h5, fun j z hi hj hz hmz => ?_⟩
    by_cases e : j = n
    · subst e; rw [hy] at hz; cases hz; rw [hm] at hmz; cases hmz
    · exact h6 j z hi (by omega) hz hmz
theorem found_first {L : List Slt} {n : Nat} {y : Slt} (h : FoundTo m k L n (-1)) (hy : L[n]? = some y) (hm : m y = true) : FoundTo m k L (n + 1) (n : Int) := by
  rcases h with ⟨_, h2⟩ | ⟨i, x, h1, _⟩
  · exact .inr ⟨n, y, rfl, by omega, hy, hm, fun j z hj hz hmz => (by rw [h2 j z hj hz] at hmz; cases hmz), fun j z hi hj => by omega⟩
  · omega
theorem found_take {L : List Slt} {n i : Nat} {x y : Slt} (h : FoundTo m k L n (i : Int)) (hx : L[i]? = some x) (hy : L[n]? = some y) (hm : m y = true) (hk : k y < k x) : FoundTo m k L (n + 1) (n : Int) := by
  rcases h with ⟨h1, _⟩ | ⟨i', x', h1, h2, h3, h4, h5, h6⟩
  · omega
  · obtain rfl : i = i' := by omega
    rw [hx] at h3
    cases h3
    refine .inr ⟨n, y, rfl, by omega, hy, hm, fun j z hj hz hmz => ?_, fun j z hi hj => by omega⟩
    rcases Nat.lt_trichotomy j i with e | e | e
    · have := h5 j z e hz hmz; omega
    · subst e; rw [hx] at hz; cases hz; exact hk
    · have := h6 j z e hj hz hmz; omega
theorem found_stay {L : List Slt} {n i : Nat} {x y : Slt} (h : FoundTo m k L n (i : Int)) (hx : L[i]? = some x) (hy : L[n]? = some y) (hk : ¬ k y < k x) : FoundTo m k L (n + 1) (i : Int) := by
  rcases h with ⟨h1, _⟩ | ⟨i', x', h1, h2, h3, h4, h5, h6⟩
  · omega
  · obtain rfl : i = i' := by omega
    rw [hx] at h3
    cases h3
    refine .inr ⟨i, x, rfl, by omega, hx, h4, h5, fun j z hi hj hz hmz => ?_⟩
    by_cases e : j = n
    · subst e; rw [hy] at hz; cases hz; omega
    · exact h6 j z hi (by omega) hz hmz
theorem found_all {L : List Slt} {c : Int} (h : FoundTo m k L L.length c) : (c = -1 ∧ leastF m k L = none) ∨ ∃ (i : Nat) (x : Slt), c = (i : Int) ∧ i < L.length ∧ L[i]? = some x ∧ leastF m k L = some (L.take i, x, L.drop (i + 1)) := by
  rcases h with ⟨h1, h2⟩ | ⟨i, x, h1, h2, h3, h4, h5, h6⟩
  · refine .inl ⟨h1, leastF_none.2 fun y hy => ?_⟩
    obtain ⟨j, hj⟩ := List.mem_iff_getElem?.1 hy
    exact h2 j y (List.getElem?_eq_some_iff.1 hj).1 hj
  · refine .inr ⟨i, x, h1, h2, h3, leastF_iff.2 ⟨?_, h4, fun y hy hm => ?_, fun y hy hm => ?_⟩⟩
    · have e := (List.getElem?_eq_some_iff.1 h3).2
      rw [← e, List.getElem_cons_drop, List.take_append_drop]
    · obtain ⟨j, hj⟩ := List.mem_iff_getElem?.1 hy
      have hj' := (List.getElem?_eq_some_iff.1 hj).1
      rw [List.length_take] at hj'
      rw [List.getElem?_take_of_lt (by omega)] at hj
      exact h5 j y (by omega) hj hm
    · obtain ⟨j, hj⟩ := List.mem_iff_getElem?.1 hy
      rw [List.getElem?_drop] at hj
      exact h6 (i + 1 + j) y (by omega) (List.getElem?_eq_some_iff.1 hj).1 hj hm
end
end Go.Proofs.Ytojhckjdkafpmaa
