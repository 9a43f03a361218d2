import Derived.Test.YtojhckjdkafpmabJ5
import Derived.OwnWalk
import Derived.Test.YtojhckjdkafpmabJ2
import Derived.Deep.QuietTactic
import Derived.Lib.Hide
import Derived.Lib.Walk
import Derived.Test.YtojhckjdkafpmabJ4
import Derived.Test.YtojhckjdkafpmabJ1
import Derived.Shelf.SlSortCmp.KitK
import Derived.Deep.LoopGhost
import Derived.Deep.CutRange
import Derived.Test.YtojhckjdkafpmabJ3
import Derived.Laws.AppendOwnNone
import Derived.Great.Walk
namespace Go.Proofs.Ytojhckjdkafpmab
open Go Go.RowKit
set_option maxRecDepth 20000

/-- All blocks but these are as they were. -/
structure Kept (X : Nat → Prop) (w w' : World) : Prop where
  os : w'.os = w.os
  tape : w'.tape = w.tape
  output : w'.output = w.output
  size : w.heap.size ≤ w'.heap.size
  block : ∀ k, k < w.heap.size → ¬ X k → w'.heap[k]? = w.heap[k]?
theorem Kept.refl (X : Nat → Prop) (w : World) : Kept X w w := ⟨rfl, rfl, rfl, Nat.le_refl _, fun _ _ _ => rfl⟩
theorem Kept.of_below {X : Nat → Prop} {w w' : World} (h : Below w.heap.size w w') : Kept X w w' := ⟨h.os, h.tape, h.output, h.size, fun k hk _ => h.block k hk⟩
theorem Kept.of_grown {X : Nat → Prop} {w w' : World} {row : Option Nat} (h : w.grownBy w' row) (hr : ∀ k, row = some k → X k) : Kept X w w' :=
  ⟨h.os, h.tape, h.output, h.size, fun k hk hX => h.block k hk fun e => hX (hr k e.symm)⟩
theorem Kept.trans {X Y : Nat → Prop} {w w1 w2 : World} (h : Kept X w w1) (h' : Kept Y w1 w2) (hY : ∀ k, Y k → X k ∨ w.heap.size ≤ k) : Kept X w w2 :=
  ⟨h'.os.trans h.os, h'.tape.trans h.tape, h'.output.trans h.output, Nat.le_trans h.size h'.size, fun k hk hX => by
    rw [h'.block k (Nat.lt_of_lt_of_le hk h.size) (fun hy => by rcases hY k hy with e | e; exact hX e; omega)]
    exact h.block k hk hX⟩
theorem Kept.mono {X Y : Nat → Prop} {w w' : World} (h : Kept X w w') (hXY : ∀ k, k < w.heap.size → X k → Y k) : Kept Y w w' := ⟨h.os, h.tape, h.output, h.size, fun k hk hY => h.block k hk fun hX => hY (hXY k hk hX)⟩
theorem Kept.below {X : Nat → Prop} {w w' : World} {B : Nat} (h : Kept X w w') (hX : ∀ k, X k → B ≤ k) (hB : B ≤ w.heap.size) : Below B w w' :=
  ⟨h.os, h.tape, h.output, h.size, fun k hk => h.block k (by omega) fun hx => by have := hX k hx; omega⟩
theorem Kept.add {X : Nat → Prop} {w w1 w2 : World} (h : Kept X w w1) (h' : Below w1.heap.size w1 w2) : Kept X w w2 := h.trans (Y := fun _ => False) (Kept.of_below h') fun _ h => h.elim
theorem Kept.pre {X : Nat → Prop} {w w1 w2 : World} (h : Below w.heap.size w w1) (h' : Kept X w1 w2) : Kept X w w2 := (Kept.of_below (X := X) h).trans h' fun _ hk => .inl hk
theorem Kept.heap {X : Nat → Prop} {w w' : World} {k : Nat} {o : Obj} (h : Kept X w w') (hk : w.heap[k]? = some o) (hX : ¬ X k) : w'.heap[k]? = some o := (h.block k (Array.getElem?_eq_some_iff.1 hk).1 hX).trans hk
theorem Kept.own {X : Nat → Prop} {w w' : World} (h : Kept X w w') {B : Nat} {e : TypeId} {s : Nat} {v : Value} {n : Nat} {xs : List Value} (ho : w.ownsRow B e s v n xs) (hX : ∀ k, v.ownBlock = some k → ¬ X k) : w'.ownsRow B e s v n xs := by
  obtain ⟨h1, h2 | ⟨g, cap, cur, rfl, hB, hcur, h3⟩⟩ := ho
  · exact ⟨h1, .inl h2⟩
  · exact ⟨h1, .inr ⟨g, cap, cur, rfl, hB, h.heap hcur (hX g rfl), h3⟩⟩

/-- Two rows lie apart. -/
def ApartR (a b : Option Nat) : Prop := a = none ∨ b = none ∨ a ≠ b
theorem ApartR.symm {a b : Option Nat} (h : ApartR a b) : ApartR b a := by
  rcases h with h | h | h
  · exact .inr (.inl h)
  · exact .inl h
  · exact .inr (.inr fun e => h e.symm)
theorem ApartR.ne {a b : Option Nat} (h : ApartR a b) : ∀ k, a = some k → b ≠ some k := by
  intro k ha hb
  subst ha
  subst hb
  rcases h with h | h | h
  · cases h
  · cases h
  · exact h rfl
def SlotsAt (B : Nat) (w : World) (v : Value) (C : List Slt) : Prop := w.ownsRow B 27 36 v C.length (gcells slotV C)
theorem SlotsAt.sl {B : Nat} {w : World} {v : Value} {C : List Slt} (h : SlotsAt B w v C) : GSl SlotE slotV w v C := gsl_of (E := SlotE) h fun c _ => slotV_size c
theorem SlotsAt.lt {B : Nat} {w : World} {v : Value} {C : List Slt} (h : SlotsAt B w v C) : ∀ k, v.ownBlock = some k → B ≤ k ∧ k < w.heap.size := World.ownsRow.lt h
theorem SlotsAt.nil (B : Nat) (w : World) : SlotsAt B w (.slice none 0 0) [] := World.ownsRow_nil _ _ _ _
theorem SlotsAt.kept {X : Nat → Prop} {B : Nat} {w w' : World} {v : Value} {C : List Slt} (h : SlotsAt B w v C) (hk : Kept X w w') (hX : ∀ k, v.ownBlock = some k → ¬ X k) : SlotsAt B w' v C := hk.own h hX
theorem SlotsAt.below {B : Nat} {w w' : World} {v : Value} {C : List Slt} (h : SlotsAt B w v C) (hb : Below w.heap.size w w') : SlotsAt B w' v C := gown_below h hb
theorem SlotsAt.base {B B' : Nat} {w : World} {v : Value} {C : List Slt} (h : SlotsAt B w v C) (hB : B' ≤ B) : SlotsAt B' w v C := gown_base h hB
theorem SlotsAt.slice {B : Nat} {w : World} {v : Value} {C : List Slt} (h : SlotsAt B w v C) : ∃ o cap, v = .slice o C.length cap ∧ C.length ≤ cap ∧ cap ≤ maxLen := h.sl.slice
theorem SlotsAt.ty {B : Nat} {w : World} {v : Value} {C : List Slt} (h : SlotsAt B w v C) {g : Nat} {cs : Array Value} {t : TypeId} {fr : Nat × Nat} (hg : w.heap[g]? = some (.cells cs t fr)) (ht : t ≠ 27) : v.ownBlock ≠ some g := by
  intro e
  obtain ⟨_, ⟨rfl, _⟩ | ⟨g', cap, cur, rfl, _, h1, _⟩⟩ := h
  · cases e
  · simp only [Value.ownBlock, Option.some.injEq] at e
    subst e
    rw [hg] at h1
    simp only [Option.some.injEq, Obj.cells.injEq] at h1
    exact ht h1.2.1

/-- A table's cells. -/
def tabV (R : Rm) (v1 v2 v3 : Value) : Array Value := #[.int .i64 0, .int .i64 R.cache, .int .i64 R.auth, .int .i64 R.part, .slice none 0 0, v1, v2, v3, .int .i64 R.idle, .int .i64 R.hard]
/-- A table in memory: its block, its rows. -/
structure TabV (B : Nat) (w : World) (g : Nat) (R : Rm) (S : Bks) (v1 v2 v3 : Value) : Prop where
  blk : w.heap[g]? = some (.cells (tabV R v1 v2 v3) 52 (0, 0))
  o1 : SlotsAt B w v1 S.c
  o2 : SlotsAt B w v2 S.a
  o3 : SlotsAt B w v3 S.p
  a12 : ApartR v1.ownBlock v2.ownBlock
  a13 : ApartR v1.ownBlock v3.ownBlock
  a23 : ApartR v2.ownBlock v3.ownBlock
  hB : B ≤ g
def footT (g : Nat) (v1 v2 v3 : Value) (k : Nat) : Prop := k = g ∨ v1.ownBlock = some k ∨ v2.ownBlock = some k ∨ v3.ownBlock = some k
/-- The same with its blocks within X. -/
def Tab (B : Nat) (X : Nat → Prop) (w : World) (g : Nat) (R : Rm) (S : Bks) : Prop := ∃ v1 v2 v3, TabV B w g R S v1 v2 v3 ∧ (∀ k, footT g v1 v2 v3 k → X k) ∧ ∀ k, X k → B ≤ k ∧ k < w.heap.size
theorem TabV.foot_in {B : Nat} {w : World} {g : Nat} {R : Rm} {S : Bks} {v1 v2 v3 : Value} (h : TabV B w g R S v1 v2 v3) : ∀ k, footT g v1 v2 v3 k → B ≤ k ∧ k < w.heap.size := by
  rintro k (rfl | e | e | e)
  · exact ⟨h.hB, (Array.getElem?_eq_some_iff.1 h.blk).1⟩
  · exact h.o1.lt k e
  · exact h.o2.lt k e
  · exact h.o3.lt k e
theorem TabV.kept {X : Nat → Prop} {B : Nat} {w w' : World} {g : Nat} {R : Rm} {S : Bks} {v1 v2 v3 : Value} (h : TabV B w g R S v1 v2 v3) (hk : Kept X w w') (hX : ∀ k, footT g v1 v2 v3 k → ¬ X k) : TabV B w' g R S v1 v2 v3 :=
  ⟨hk.heap h.blk (hX g (.inl rfl)), h.o1.kept hk fun k e => hX k (.inr (.inl e)), h.o2.kept hk fun k e => hX k (.inr (.inr (.inl e))), h.o3.kept hk fun k e => hX k (.inr (.inr (.inr e))), h.a12, h.a13, h.a23, h.hB⟩
theorem TabV.below {B : Nat} {w w' : World} {g : Nat} {R : Rm} {S : Bks} {v1 v2 v3 : Value} (h : TabV B w g R S v1 v2 v3) (hb : Below w.heap.size w w') : TabV B w' g R S v1 v2 v3 := h.kept (X := fun _ => False) (Kept.of_below hb) fun _ _ e => e
theorem Tab.kept {X Y : Nat → Prop} {B : Nat} {w w' : World} {g : Nat} {R : Rm} {S : Bks} (h : Tab B X w g R S) (hk : Kept Y w w') (hX : ∀ k, X k → ¬ Y k) : Tab B X w' g R S := by
  obtain ⟨v1, v2, v3, h1, h2, h3⟩ := h
  exact ⟨v1, v2, v3, h1.kept hk fun k e => hX k (h2 k e), h2, fun k e => ⟨(h3 k e).1, Nat.lt_of_lt_of_le (h3 k e).2 hk.size⟩⟩
theorem Tab.below {X : Nat → Prop} {B : Nat} {w w' : World} {g : Nat} {R : Rm} {S : Bks} (h : Tab B X w g R S) (hb : Below w.heap.size w w') : Tab B X w' g R S := h.kept (Y := fun _ => False) (Kept.of_below hb) fun _ _ e => e
/-- What a call may add. -/
def addX (X : Nat → Prop) (w w' : World) (k : Nat) : Prop := X k ∨ w.heap.size ≤ k ∧ k < w'.heap.size
theorem Tab.of {X : Nat → Prop} {B : Nat} {w w' : World} {g : Nat} {R : Rm} {S : Bks} {v1 v2 v3 : Value} (h : TabV B w' g R S v1 v2 v3) (hX : ∀ k, footT g v1 v2 v3 k → X k ∨ w.heap.size ≤ k) (hX0 : ∀ k, X k → B ≤ k ∧ k < w.heap.size) (hB : B ≤ w.heap.size) (hs : w.heap.size ≤ w'.heap.size) : Tab B (addX X w w') w' g R S :=
  ⟨v1, v2, v3, h, fun k hk => by
    rcases hX k hk with e | e
    · exact .inl e
    · exact .inr ⟨e, (h.foot_in k hk).2⟩, fun k hk => by
    rcases hk with e | e
    · have := hX0 k e; omega
    · omega⟩
/-- A table's fields. -/
structure TabF (w : World) (g : Nat) (R : Rm) (v1 v2 v3 : Value) : Prop where
  c0 : w.cell? ⟨g, 0, none⟩ = some (.int .i64 0)
  c1 : w.cell? ⟨g, 1, none⟩ = some (.int .i64 R.cache)
  c2 : w.cell? ⟨g, 2, none⟩ = some (.int .i64 R.auth)
  c3 : w.cell? ⟨g, 3, none⟩ = some (.int .i64 R.part)
  c4 : w.cell? ⟨g, 4, none⟩ = some (.slice none 0 0)
  c5 : w.cell? ⟨g, 5, none⟩ = some v1
  c6 : w.cell? ⟨g, 6, none⟩ = some v2
  c7 : w.cell? ⟨g, 7, none⟩ = some v3
  c8 : w.cell? ⟨g, 8, none⟩ = some (.int .i64 R.idle)
  c9 : w.cell? ⟨g, 9, none⟩ = some (.int .i64 R.hard)
  fz : ∀ k, w.frozen? ⟨g, k, none⟩ = false
theorem tabf_of {w : World} {g : Nat} {R : Rm} {v1 v2 v3 : Value} {t : TypeId} (h : w.heap[g]? = some (.cells (tabV R v1 v2 v3) t (0, 0))) : TabF w g R v1 v2 v3 :=
  ⟨by rw [cell_of_row w g _ _ _ _ h]; rfl, by rw [cell_of_row w g _ _ _ _ h]; rfl, by rw [cell_of_row w g _ _ _ _ h]; rfl, by rw [cell_of_row w g _ _ _ _ h]; rfl, by rw [cell_of_row w g _ _ _ _ h]; rfl, by rw [cell_of_row w g _ _ _ _ h]; rfl, by rw [cell_of_row w g _ _ _ _ h]; rfl, by rw [cell_of_row w g _ _ _ _ h]; rfl, by rw [cell_of_row w g _ _ _ _ h]; rfl, by rw [cell_of_row w g _ _ _ _ h]; rfl, fun k => by simp [World.frozen?, h]⟩
theorem TabV.f {B : Nat} {w : World} {g : Nat} {R : Rm} {S : Bks} {v1 v2 v3 : Value} (h : TabV B w g R S v1 v2 v3) : TabF w g R v1 v2 v3 := tabf_of h.blk
/-- One of the banks. -/
def bankL (S : Bks) (b : Nat) : List Slt := if b = 1 then S.c else if b = 2 then S.a else if b = 3 then S.p else []
def bankV (v1 v2 v3 : Value) (b : Nat) : Value := if b = 1 then v1 else if b = 2 then v2 else if b = 3 then v3 else .slice none 0 0
def roomL (R : Rm) (b : Nat) : Nat := if b = 1 then R.cache else if b = 2 then R.auth else if b = 3 then R.part else 0
theorem TabV.bank {B : Nat} {w : World} {g : Nat} {R : Rm} {S : Bks} {v1 v2 v3 : Value} (h : TabV B w g R S v1 v2 v3) (b : Nat) : SlotsAt B w (bankV v1 v2 v3 b) (bankL S b) := by
  unfold bankV bankL
  split
  · exact h.o1
  · split
    · exact h.o2
    · split
      · exact h.o3
      · exact SlotsAt.nil _ _
theorem TabF.bankCell {w : World} {g : Nat} {R : Rm} {v1 v2 v3 : Value} (h : TabF w g R v1 v2 v3) (b : Nat) (hb : b < 4) : w.cell? ⟨g, 4 + b, none⟩ = some (bankV v1 v2 v3 b) := by
  rcases (show b = 0 ∨ b = 1 ∨ b = 2 ∨ b = 3 by omega) with rfl | rfl | rfl | rfl
  · exact h.c4
  · exact h.c5
  · exact h.c6
  · exact h.c7
theorem TabF.roomCell {w : World} {g : Nat} {R : Rm} {v1 v2 v3 : Value} (h : TabF w g R v1 v2 v3) (b : Nat) (hb : b < 4) : w.cell? ⟨g, b, none⟩ = some (.int .i64 (roomL R b : Nat)) := by
  rcases (show b = 0 ∨ b = 1 ∨ b = 2 ∨ b = 3 by omega) with rfl | rfl | rfl | rfl
  · exact h.c0
  · exact h.c1
  · exact h.c2
  · exact h.c3
end Go.Proofs.Ytojhckjdkafpmab
namespace Go.Proofs.Ytojhckjdkafpmab
open Go Go.RowKit
set_option maxRecDepth 20000

theorem ticks_any (n : Int) (w : World) : Calls Try.prog 17 #[.int .i64 n] w fun e w' => e = .returned (.int .i64 (timeT n)) ∧ w' = w := by
  have HV : Hid (timeT n = min (max n 0) 1099511627776) := by
    show _ = _
    unfold timeT MAXT
    split
    · omega
    · split <;> omega
  go_enter Try.func17, Try.ntmps17
  go_wp2
  go_ret
  exact ⟨by rw [HV.out]; simp, rfl⟩
theorem within_any (n top : Int) (w : World) : Calls Try.prog 33 #[.int .i64 n, .int .i64 top] w fun e w' => e = .returned (.bool (decide (0 ≤ n ∧ n ≤ top))) ∧ w' = w := by
  obtain ⟨b, hb⟩ : ∃ b, b = decide (0 ≤ n ∧ n ≤ top) := ⟨_, rfl⟩
  rw [← hb]
  by_cases h1 : 0 ≤ n
  · by_cases h2 : n ≤ top
    · have HB : Hid (b = true) := by show _ = _; rw [hb]; simp [h1, h2]
      clear hb
      go_enter Try.func33, Try.ntmps33
      go_wp2
      go_ret
      exact ⟨by rw [HB.out]; first | rfl | (simp; done) | (simp; exact h1), rfl⟩
    · have HB : Hid (b = false) := by show _ = _; rw [hb]; simp [h2]
      clear hb
      go_enter Try.func33, Try.ntmps33
      go_wp2
      go_ret
      exact ⟨by rw [HB.out]; first | rfl | (simp; done) | (simp; exact h1), rfl⟩
  · have HB : Hid (b = false) := by show _ = _; rw [hb]; simp [h1]
    clear hb
    go_enter Try.func33, Try.ntmps33
    go_wp2
    go_ret
    exact ⟨by rw [HB.out]; first | rfl | (simp; done) | (simp; exact h1), rfl⟩
theorem over_any (n top : Int) (w : World) : Calls Try.prog 32 #[.int .i64 n, .int .i64 top] w fun e w' => e = .returned (.bool (decide (top ≠ 0) && decide (top ≤ n))) ∧ w' = w := by
  obtain ⟨b, hb⟩ : ∃ b, b = (decide (top ≠ 0) && decide (top ≤ n)) := ⟨_, rfl⟩
  rw [← hb]
  by_cases h1 : top = 0
  · have HB : Hid (b = false) := by show _ = _; rw [hb]; simp [h1]
    clear hb
    subst h1
    go_enter Try.func32, Try.ntmps32
    go_wp2
    go_ret
    exact ⟨by rw [HB.out]; first | rfl | (simp; done) | (simp; exact h1), rfl⟩
  · by_cases h2 : top ≤ n
    · have HB : Hid (b = true) := by show _ = _; rw [hb]; simp [h1, h2]
      clear hb
      go_enter Try.func32, Try.ntmps32
      go_wp2
      go_ret
      exact ⟨by rw [HB.out]; first | rfl | (simp; done) | (simp; exact h1), rfl⟩
    · have HB : Hid (b = false) := by show _ = _; rw [hb]; simp [h2]
      clear hb
      go_enter Try.func32, Try.ntmps32
      go_wp2
      go_ret
      exact ⟨by rw [HB.out]; first | rfl | (simp; done) | (simp; exact h1), rfl⟩
def cmpT (a b : Int) : Int := if a < b then -1 else if b < a then 1 else 0
theorem nanT_any (x : Int) (w : World) : Calls Try.prog 43 #[.int .i64 x] w fun e w' => e = .returned (.bool false) ∧ w' = w := by
  go_enter Try.func43, Try.ntmps43
  go_wp2
  go_ret
  exact ⟨by simp, rfl⟩
theorem compareT_any (x y : Int) (w : World) : Calls Try.prog 28 #[.int .i64 x, .int .i64 y] w fun e w' => e = .returned (.int .i64 (cmpT x y)) ∧ w' = w := by
  have HN : Hid (∀ x W, Calls Try.prog 43 #[.int .i64 x] W fun e w' => e = .returned (.bool false) ∧ w' = W) := nanT_any
  by_cases h1 : x < y
  · have HV : Hid (cmpT x y = -1) := by show _ = _; unfold cmpT; rw [if_pos h1]
    go_enter Try.func28, Try.ntmps28
    go_wp2_with (go_at_call 43; refine (HN.out _ _).mono ?_; rintro e w' ⟨rfl, rfl⟩)
    go_ret
    exact ⟨by rw [HV.out]; rfl, rfl⟩
  · by_cases h2 : y < x
    · have HV : Hid (cmpT x y = 1) := by show _ = _; unfold cmpT; rw [if_neg h1, if_pos h2]
      go_enter Try.func28, Try.ntmps28
      go_wp2_with (go_at_call 43; refine (HN.out _ _).mono ?_; rintro e w' ⟨rfl, rfl⟩)
      go_ret
      exact ⟨by rw [HV.out]; rfl, rfl⟩
    · have HV : Hid (cmpT x y = 0) := by show _ = _; unfold cmpT; rw [if_neg h1, if_neg h2]
      go_enter Try.func28, Try.ntmps28
      go_wp2_with (go_at_call 43; refine (HN.out _ _).mono ?_; rintro e w' ⟨rfl, rfl⟩)
      go_ret
      exact ⟨by rw [HV.out]; rfl, rfl⟩
/-- A slot that is laid in a new block. -/
theorem new_slf (w : World) (x : Slt) (t : TypeId) : SlF (w.alloc (.cells (slotV x) t)) w.heap.size 0 x := slf_own (heap_new _ _ _ rfl)
theorem rules1_any (x y : Slt) (w : World) : Calls Try.prog 27 #[.agg (slotV x), .agg (slotV y)] w fun e w' => e = .returned (.int .i64 (cmpT x.order y.order)) ∧ w' = (w.alloc (.cells (slotV x) 27)).alloc (.cells (slotV y) 27) := by
  have HC : Hid (∀ a b W, Calls Try.prog 28 #[.int .i64 a, .int .i64 b] W fun e w' => e = .returned (.int .i64 (cmpT a b)) ∧ w' = W) := compareT_any
  have c1 := (SlF.below (w' := (w.alloc (.cells (slotV x) 27)).alloc (.cells (slotV y) 27)) (new_slf w x 27) (Below.heap_alloc _ _ _ (by simp))).c3
  have c2 := (new_slf (w.alloc (.cells (slotV x) 27)) y 27).c3
  rw [show (w.alloc (.cells (slotV x) 27)).heap.size = w.heap.size + 1 by simp] at c2
  go_enter Try.func27, Try.ntmps27
  go_wp2_with (go_at_call 28; refine (HC.out _ _ _).mono ?_; rintro e w' ⟨rfl, rfl⟩)
  go_ret
  exact ⟨rfl, rfl⟩
end Go.Proofs.Ytojhckjdkafpmab
namespace Go.Proofs.Ytojhckjdkafpmab
open Go Go.RowKit
set_option maxRecDepth 20000

/-- What a search for the first comes to. -/
def Found0 (p : Slt → Bool) (C : List Slt) (c : Int) : Prop :=
  (c = -1 ∧ leastF p (fun _ => 0) C = none) ∨ ∃ (i : Nat) (x : Slt), c = (i : Int) ∧ i < C.length ∧ C[i]? = some x ∧ leastF p (fun _ => 0) C = some (C.take i, x, C.drop (i + 1))
theorem found0_hit {p : Slt → Bool} {C : List Slt} {k : Nat} {x : Slt} (h : ∀ j y, j < k → C[j]? = some y → p y = false) (hx : C[k]? = some x) (hp : p x = true) : Found0 p C (k : Int) := by
  refine .inr ⟨k, x, rfl, (List.getElem?_eq_some_iff.1 hx).1, hx, leastF_iff.2 ⟨?_, hp, fun y hy hm => ?_, fun y _ _ => Int.le_refl _⟩⟩
  · have e := (List.getElem?_eq_some_iff.1 hx).2
    rw [← e, List.getElem_cons_drop, List.take_append_drop]
  · obtain ⟨j, hj⟩ := List.mem_iff_getElem?.1 hy
    have hj' := (List.getElem?_eq_some_iff.1 hj).1
    rw [List.length_take] at hj'
    rw [List.getElem?_take_of_lt (by omega)] at hj
    rw [h j y (by omega) hj] at hm; cases hm
theorem found0_none {p : Slt → Bool} {C : List Slt} (h : ∀ j y, j < C.length → C[j]? = some y → p y = false) : Found0 p C (-1) :=
  .inl ⟨rfl, leastF_none.2 fun y hy => by
    obtain ⟨j, hj⟩ := List.mem_iff_getElem?.1 hy
    exact h j y (List.getElem?_eq_some_iff.1 hj).1 hj⟩
theorem below_step {B : Nat} {w wr w' : World} (hb : Below B w wr) (hB : B ≤ wr.heap.size) (h : Below wr.heap.size wr w') : Below B w w' := hb.trans (h.mono hB)
/-- A closure that says of a slot whether. -/
def ClosB (K : World → Prop) (f : Nat) (cb : Array Value) (p : Slt → Bool) : Prop := ∀ x W, K W → Calls Try.prog f (#[.agg (slotV x)] ++ cb) W fun e W' => e = .returned (.bool (p x)) ∧ Below W.heap.size W W'
set_option maxHeartbeats 4000000 in
theorem index_any (C : List Slt) (v : Value) (w : World) (hl : GSl SlotE slotV w v C) (hn : C.length ≤ 1000000) (f : Nat) (cb : Array Value) (p : Slt → Bool) (eg : ∀ args w, (callFunc f args).run Try.prog w = .ok (.enter f args) w) (hc : ClosB (fun W => Below w.heap.size w W) f cb p) :
    Calls Try.prog 19 #[v, .func (.func f) #[] cb] w fun e w' => (∃ c, e = .returned (.int .i64 c) ∧ Found0 p C c) ∧ Below w.heap.size w w' := by
  obtain ⟨o, cap, rfl, hc1, hc2⟩ := GSl.slice hl
  obtain ⟨n, hn0⟩ : ∃ n, n = C.length := ⟨_, rfl⟩
  have HN : Hid (n = C.length) := hn0
  rw [← hn0] at hl hc1 hn ⊢
  have HL : Hid (GSl SlotE slotV w (.slice o n cap) C) := hl
  have HC : Hid (ClosB (fun W => Below w.heap.size w W) f cb p) := hc
  unfold maxLen at hc2
  clear hl hn0 hc
  go_enter Try.func19, Try.ntmps19
  go_wp2_with fail
  go_loopw [8] (fun i wr => ∃ k : Nat, k ≤ n ∧ i = .int .i64 (k : Int) ∧ Hid (∀ j y, j < k → C[j]? = some y → p y = false) ∧ Hid (Below w.heap.size w wr)) (fun i _ => n - (intOf i).toNat)
  case atStart => exact ⟨0, Nat.zero_le _, rfl, fun j y hj => by omega, Below.refl _ _⟩
  case round =>
    obtain ⟨k, hk, rfl, HP, HB⟩ := hrel
    by_cases hlt : k < n
    · have hlt' : (k : Int) < (n : Int) := by omega
      obtain ⟨g, off, cur, ty, fr, x, rfl, hg, hcc, hxk⟩ := (GSl.below HL.out HB.out).at k hlt
      have K1 : Hid (wr.heap[g]? = some (.cells cur ty fr)) := hg
      have H1 : Hid (∀ j, j < 36 → cur[off + k * 36 + j]? = (slotV x)[j]?) := hcc
      have HX : Hid (C[k]? = some x) := hxk
      clear hg hcc hxk
      have hcall := HC.out x wr HB.out
      cases hp : p x with
      | true =>
        rw [hp] at hcall
        have HPX : Hid (p x = true) := hp
        clear hp
        go_wp2_with (refine wl_loadE (E := SlotE) SlotOk rfl _ rfl g (off + k * 36) rfl cur ty fr (slotV x) (slotV_size x) K1.out H1.out ?_)
        refine hcall.mono ?_
        rintro e w1 ⟨rfl, hb1⟩
        go_wp2_with fail
        go_ret
        exact ⟨⟨_, rfl, found0_hit HP.out HX.out HPX.out⟩, below_step HB.out HB.out.size hb1⟩
      | false =>
        rw [hp] at hcall
        have HPX : Hid (p x = false) := hp
        clear hp
        go_wp2_with (refine wl_loadE (E := SlotE) SlotOk rfl _ rfl g (off + k * 36) rfl cur ty fr (slotV x) (slotV_size x) K1.out H1.out ?_)
        refine hcall.mono ?_
        rintro e w1 ⟨rfl, hb1⟩
        go_wp2_with fail
        go_roundw
        case rel =>
          refine ⟨k + 1, by omega, by go_num, fun j y hj hy => ?_, below_step HB.out HB.out.size hb1⟩
          by_cases e : j = k
          · subst e
            rw [HX.out] at hy
            cases hy
            exact HPX.out
          · exact HP.out j y (by omega) hy
        case measure => simp [intOf]; omega
    · have hlt' : ¬ (k : Int) < (n : Int) := by omega
      have HK : Hid (k = n) := by show _ = _; omega
      go_wp2_with fail
      go_ret
      exact ⟨⟨_, rfl, found0_none fun j y hj hy => HP.out j y (by have h1 := HK.out; have h2 := HN.out; omega) hy⟩, HB.out⟩
/-- .. and whether there is one. -/
theorem contains_any (C : List Slt) (v : Value) (w : World) (hl : GSl SlotE slotV w v C) (hn : C.length ≤ 1000000) (f : Nat) (cb : Array Value) (p : Slt → Bool) (eg : ∀ args w, (callFunc f args).run Try.prog w = .ok (.enter f args) w) (hc : ClosB (fun W => Below w.heap.size w W) f cb p) :
    Calls Try.prog 23 #[v, .func (.func f) #[] cb] w fun e w' => e = .returned (.bool (C.any p)) ∧ Below w.heap.size w w' := by
  have HI := index_any C v w hl hn f cb p eg hc
  have key : Hid (∀ c, Found0 p C c → decide (0 ≤ c) = C.any p) := fun c h => by
    rcases h with ⟨rfl, h⟩ | ⟨i, x, rfl, hi, hx, _⟩
    · have := leastF_none.1 h
      symm
      simp only [Int.reduceNeg, Int.reduceLE, decide_false, List.any_eq_false]
      intro y hy
      rw [this y hy]; simp
    · rename_i hl
      have h2 := (leastF_some hl).2.1
      symm
      simp only [Int.natCast_nonneg, decide_true, List.any_eq_true]
      exact ⟨x, List.mem_of_getElem? hx, h2⟩
  clear hl hc
  obtain ⟨fv, hfv⟩ : ∃ fv, fv = Value.func (.func f) #[] cb := ⟨_, rfl⟩
  rw [← hfv] at HI ⊢
  have HI' : Hid (∀ W, W = w → Calls Try.prog 19 #[v, fv] W fun e w' => (∃ c, e = .returned (.int .i64 c) ∧ Found0 p C c) ∧ Below w.heap.size w w') := fun W hW => by subst hW; exact HI
  clear HI hfv
  go_enter Try.func23, Try.ntmps23
  go_wp2_with (go_at_call 19; refine (HI'.out _ rfl).mono ?_; rintro e w1 ⟨⟨c, rfl, hf⟩, hb1⟩)
  go_ret
  exact ⟨ret_bool (key.out c hf), hb1⟩
end Go.Proofs.Ytojhckjdkafpmab
namespace Go.Proofs.Ytojhckjdkafpmab
open Go Go.RowKit
set_option maxRecDepth 20000

def keyC (e : Int) (s : Slt) (x : Slt) : Bool := x.epoch == e && (pad x.cube.1 == pad s.cube.1 && pad x.cube.2 == pad s.cube.2)
/-- A cube within a block, from a place on. -/
theorem cube_row {w : World} {g off : Nat} {cur : Array Value} {ty : TypeId} {fr : Nat × Nat} {x : Slt} (_ : w.heap[g]? = some (.cells cur ty fr)) (hc : ∀ j, j < 36 → cur[off + j]? = (slotV x)[j]?) : ∀ j, j < 26 → cur[off + 4 + j]? = (cv (pad x.cube.1) (pad x.cube.2))[j]? := fun j hj => by
  rw [Nat.add_assoc, hc (4 + j) (by omega), slotV_cube x j hj]
def CubE : El := ⟨25, 25, 26, 26, zeroC⟩
theorem cub_load {w : World} {g off : Nat} {cur : Array Value} {t : TypeId} {fr : Nat × Nat} {V M : List Int} (hV : V.length = 13) (hM : M.length = 13) (hg : w.heap[g]? = some (.cells cur t fr)) (hc : ∀ j, j < 26 → cur[off + j]? = (cv V M)[j]?) :
    (loadVar 25 ⟨g, off, none⟩).run Try.prog w = .ok (.agg (cv V M)) w := by
  have hl : (loadCells ⟨g, off, none⟩ (cv V M).toList.length).run Try.prog w = .ok (cv V M).toList.toArray w :=
    run_loadCells_list (P := Try.prog) w ⟨g, off, none⟩ (cv V M).toList (fun j v hv => by
      have hadd : (⟨g, off, none⟩ : Addr).add j = ⟨g, off + j, none⟩ := by unfold Addr.add; split <;> simp_all
      have hj : j < 26 := by
        have := (List.getElem?_eq_some_iff.1 hv).1
        rw [Array.length_toList, cv_size V M hV hM] at this
        omega
      rw [hadd, cell_of_row w g (off + j) cur t fr hg, hc j hj]
      simpa using hv)
  have hz : ∀ w, (sizeOf 25).run Try.prog w = .ok 26 w := fun w => by kernel_rfl
  have ha : ∀ w, (isAgg 25).run Try.prog w = .ok true w := fun w => by kernel_rfl
  rw [Array.length_toList, cv_size V M hV hM, Array.toArray_toList] at hl
  simp [loadVar, Sem.run_bind, ha, hz, hl]
theorem wl_loadCw {ops : Array Oper} {rest : List Oper} {o : Oper} {a : Act} {w : World} {Q : Exit → Act → World → Prop} (hw : Region.wanted o (yielded ops a.tmps) = true) (x : Operand) (ho : o.op = .load 25 x)
    (g off : Nat) (hx : a.eval x = .pointer (some ⟨g, off, none⟩)) (cur : Array Value) (t : TypeId) (fr : Nat × Nat) (V M : List Int) (hV : V.length = 13) (hM : M.length = 13) (hg : w.heap[g]? = some (.cells cur t fr)) (hc : ∀ j, j < 26 → cur[off + j]? = (cv V M)[j]?)
    (h : wpList Try.prog ops Q rest (a.put o.dst (.agg (cv V M))) w) : wpList Try.prog ops Q (o :: rest) a w := by
  refine wpList_step fun K hK => ?_
  rw [if_pos hw]
  unfold Oper.wp execOp
  simp only [ho, hx, Instr.loadAt, Instr.sureAddr, Sem.run_bind, Sem.run_pure, Result.andThen_ok, cub_load hV hM hg hc]
  exact hK _ _ h

set_option maxHeartbeats 4000000 in
theorem learn1_any (x s : Slt) (e : Int) (w : World) (p q : Nat) (tp : TypeId) (he : w.heap[p]? = some (.cells #[.int .i64 e] tp (0, 0))) (hs : w.heap[q]? = some (.cells (slotV s) 27 (0, 0))) :
    Calls Try.prog 20 #[.agg (slotV x), .pointer (some ⟨p, 0, none⟩), .pointer (some ⟨q, 0, none⟩)] w fun r w' => r = .returned (.bool (keyC e s x)) ∧ Below w.heap.size w w' := by
  have c1 := (new_slf w x 27).c1
  have c2 : (w.alloc (.cells (slotV x) 27)).cell? ⟨p, 0, none⟩ = some (.int .i64 e) := by rw [cell_of_row _ _ _ _ _ _ (heap_past w (.cells (slotV x) 27) _ _ he)]; rfl
  have K1 : Hid ((w.alloc (.cells (slotV x) 27)).heap[w.heap.size]? = some (.cells (slotV x) 27 (0, 0))) := heap_new _ _ _ rfl
  have K2 : Hid ((w.alloc (.cells (slotV x) 27)).heap[q]? = some (.cells (slotV s) 27 (0, 0))) := heap_past w (.cells (slotV x) 27) _ _ hs
  have E : ∀ W, (Op.equalIn 10000 25 (.agg (cv (pad x.cube.1) (pad x.cube.2))) (.agg (cv (pad s.cube.1) (pad s.cube.2)))).run Try.prog W = .ok (pad x.cube.1 == pad s.cube.1 && pad x.cube.2 == pad s.cube.2) W := fun W => eqC _ _ _ _ (pad_len _) (pad_len _) (pad_len _) (pad_len _) W
  have G := egC
  obtain ⟨b, hb⟩ : ∃ b, b = (pad x.cube.1 == pad s.cube.1 && pad x.cube.2 == pad s.cube.2) := ⟨_, rfl⟩
  rw [← hb] at E
  have HR : Hid (keyC e s x = (x.epoch == e && b)) := by show _ = _; unfold keyC; rw [hb]
  rw [HR.out]
  clear hb he hs HR
  obtain ⟨xe, hxe⟩ : ∃ xe, xe = x.epoch := ⟨_, rfl⟩
  rw [← hxe] at c1 ⊢
  clear hxe
  by_cases h1 : xe = e
  · subst h1
    go_enter Try.func20, Try.ntmps20
    go_wp2_with (first
      | (refine wl_loadCw rfl _ rfl w.heap.size 4 rfl _ _ _ (pad x.cube.1) (pad x.cube.2) (pad_len _) (pad_len _) K1.out (slotV_cube x) ?_)
      | (refine wl_loadCw rfl _ rfl q 4 rfl _ _ _ (pad s.cube.1) (pad s.cube.2) (pad_len _) (pad_len _) K2.out (slotV_cube s) ?_))
    go_ret
    exact ⟨by simp, (Below.refl _ _).alloc (Nat.le_refl _) _⟩
  · go_enter Try.func20, Try.ntmps20
    go_wp2_with fail
    go_ret
    exact ⟨by simp [h1], (Below.refl _ _).alloc (Nat.le_refl _) _⟩
set_option maxHeartbeats 4000000 in
theorem lay1_any (x s : Slt) (w : World) (q : Nat) (hs : w.heap[q]? = some (.cells (slotV s) 27 (0, 0))) :
    Calls Try.prog 24 #[.agg (slotV x), .pointer (some ⟨q, 0, none⟩)] w fun r w' => r = .returned (.bool (atS s x)) ∧ Below w.heap.size w w' := by
  have c1 := (new_slf w x 27).c1
  have c2 := (new_slf w x 27).c2
  have d1 := (slf_own (heap_past w (.cells (slotV x) 27) _ _ hs)).c1
  have d2 := (slf_own (heap_past w (.cells (slotV x) 27) _ _ hs)).c2
  have HR : Hid (atS s x = (x.epoch == s.epoch && x.place == s.place)) := rfl
  rw [HR.out]
  clear HR hs
  generalize x.epoch = a1 at c1 ⊢
  generalize x.place = a2 at c2 ⊢
  generalize s.epoch = b1 at d1 ⊢
  generalize s.place = b2 at d2 ⊢
  by_cases h1 : a1 = b1
  · subst h1
    by_cases h2 : a2 = b2
    · subst h2
      go_enter Try.func24, Try.ntmps24
      go_wp2_with fail
      go_ret
      exact ⟨by simp, (Below.refl _ _).alloc (Nat.le_refl _) _⟩
    · go_enter Try.func24, Try.ntmps24
      go_wp2_with fail
      go_ret
      exact ⟨by simp, (Below.refl _ _).alloc (Nat.le_refl _) _⟩
  · go_enter Try.func24, Try.ntmps24
    go_wp2_with fail
    go_ret
    exact ⟨by simp [h1], (Below.refl _ _).alloc (Nat.le_refl _) _⟩
set_option maxHeartbeats 4000000 in
theorem keep1_any (x : Slt) (a b : Int) (w : World) (p q : Nat) (tp tq : TypeId) (hp : w.heap[p]? = some (.cells #[.int .i64 a] tp (0, 0))) (hq : w.heap[q]? = some (.cells #[.int .i64 b] tq (0, 0))) :
    Calls Try.prog 30 #[.agg (slotV x), .pointer (some ⟨p, 0, none⟩), .pointer (some ⟨q, 0, none⟩)] w fun r w' => r = .returned (.bool (!(keptE a b x))) ∧ Below w.heap.size w w' := by
  have c1 := (new_slf w x 27).c1
  have c2 : (w.alloc (.cells (slotV x) 27)).cell? ⟨p, 0, none⟩ = some (.int .i64 a) := by rw [cell_of_row _ _ _ _ _ _ (heap_past w (.cells (slotV x) 27) _ _ hp)]; rfl
  have c3 : (w.alloc (.cells (slotV x) 27)).cell? ⟨q, 0, none⟩ = some (.int .i64 b) := by rw [cell_of_row _ _ _ _ _ _ (heap_past w (.cells (slotV x) 27) _ _ hq)]; rfl
  have HR : Hid (keptE a b x = ((x.epoch == a) || (x.epoch == b))) := rfl
  rw [HR.out]
  clear HR hp hq
  generalize x.epoch = z at c1 ⊢
  by_cases h1 : z = a
  · subst h1
    go_enter Try.func30, Try.ntmps30
    go_wp2_with fail
    go_ret
    exact ⟨by simp, (Below.refl _ _).alloc (Nat.le_refl _) _⟩
  · by_cases h2 : z = b
    · subst h2
      go_enter Try.func30, Try.ntmps30
      go_wp2_with fail
      go_ret
      exact ⟨by simp, (Below.refl _ _).alloc (Nat.le_refl _) _⟩
    · go_enter Try.func30, Try.ntmps30
      go_wp2_with fail
      go_ret
      exact ⟨by simp; rfl, (Below.refl _ _).alloc (Nat.le_refl _) _⟩
set_option maxHeartbeats 4000000 in
theorem evict1_any (x y : Slt) (w : World) : Calls Try.prog 39 #[.agg (slotV x), .agg (slotV y)] w fun e w' => e = .returned (.int .i64 (cmpT x.used y.used)) ∧ Below w.heap.size w w' := by
  have HC : Hid (∀ a b W, Calls Try.prog 28 #[.int .i64 a, .int .i64 b] W fun e w' => e = .returned (.int .i64 (cmpT a b)) ∧ w' = W) := compareT_any
  have c1 := (SlF.below (w' := (w.alloc (.cells (slotV x) 27)).alloc (.cells (slotV y) 27)) (new_slf w x 27) (Below.heap_alloc _ _ _ (by simp))).c34
  have c2 := (new_slf (w.alloc (.cells (slotV x) 27)) y 27).c34
  rw [show (w.alloc (.cells (slotV x) 27)).heap.size = w.heap.size + 1 by simp] at c2
  go_enter Try.func39, Try.ntmps39
  go_wp2_with (go_at_call 28; refine (HC.out _ _ _).mono ?_; rintro e w' ⟨rfl, rfl⟩)
  go_ret
  exact ⟨rfl, ((Below.refl _ _).alloc (Nat.le_refl _) _).alloc (by simp) _⟩
set_option maxHeartbeats 4000000 in
theorem evict2_any (x s : Slt) (w : World) (q : Nat) (hs : w.heap[q]? = some (.cells (slotV s) 27 (0, 0))) :
    Calls Try.prog 40 #[.agg (slotV x), .pointer (some ⟨q, 0, none⟩)] w fun r w' => r = .returned (.bool (eqS x s)) ∧ Below w.heap.size w w' := by
  have K1 : Hid ((w.alloc (.cells (slotV x) 27)).heap[w.heap.size]? = some (.cells (slotV x) 27 (0, 0))) := heap_new _ _ _ rfl
  have K2 : Hid ((w.alloc (.cells (slotV x) 27)).heap[q]? = some (.cells (slotV s) 27 (0, 0))) := heap_past w (.cells (slotV x) 27) _ _ hs
  have E := eqSlot x s
  have G := egS
  clear hs
  go_enter Try.func40, Try.ntmps40
  go_wp2_with (first
    | (refine wl_loadE (E := SlotE) SlotOk rfl _ rfl w.heap.size 0 rfl _ _ _ (slotV x) (slotV_size x) K1.out (own_cells _ _) ?_)
    | (refine wl_loadE (E := SlotE) SlotOk rfl _ rfl q 0 rfl _ _ _ (slotV s) (slotV_size s) K2.out (own_cells _ _) ?_))
  go_ret
  exact ⟨rfl, (Below.refl _ _).alloc (Nat.le_refl _) _⟩
end Go.Proofs.Ytojhckjdkafpmab
namespace Go.Proofs.Ytojhckjdkafpmab
open Go
set_option maxRecDepth 20000

section
variable {α : Type} {p : α → Int}
/-- Sorted block by block, from a place on. -/
def BlkD (p : α → Int) (f : Nat → α) (s lo n : Nat) : Prop := ∀ i j, lo ≤ i → i < j → j < n → i / s = j / s → p (f j) ≤ p (f i)
theorem div_ge {t q j : Nat} (ht : 0 < t) (h : t * q ≤ j) : q ≤ j / t := (Nat.le_div_iff_mul_le ht).2 (by rw [Nat.mul_comm]; exact h)
theorem ge_of_div {t q i : Nat} (ht : 0 < t) (h : q ≤ i / t) : t * q ≤ i := by
  have := (Nat.le_div_iff_mul_le ht).1 h
  rwa [Nat.mul_comm] at this
theorem div_of_in {t q i : Nat} (h1 : t * q ≤ i) (h2 : i < t * q + t) : i / t = q := by
  refine Nat.div_eq_of_lt_le ?_ ?_
  · rw [Nat.mul_comm]; exact h1
  · rw [Nat.add_mul, Nat.one_mul, Nat.mul_comm q t]; exact h2
theorem Merged.whole {f g : Nat → α} {a b n : Nat} (h : Merged p f g a b) (hab : a ≤ b) (hb : b ≤ n) : Alike p (segF g 0 n) (segF f 0 n) := by
  have e : ∀ u : Nat → α, segF u 0 n = segF u 0 a ++ (segF u a (b - a) ++ segF u b (n - b)) := fun u => by
    rw [show n = a + ((b - a) + (n - b)) by omega, segF_add, segF_add, show 0 + a + (b - a) = b by omega, Nat.zero_add, show a + (b - a + (n - b)) - b = n - b by omega]
  rw [e, e]
  refine Alike.app ?_ (Alike.app h.alike ?_)
  · rw [segF_congr (f := g) (g := f) (a := 0) (b := 0) fun i hi => h.out _ (by omega)]; exact Alike.refl _ _
  · rw [segF_congr (f := g) (g := f) (a := b) (b := b) fun i hi => h.out _ (by omega)]; exact Alike.refl _ _
/-- A block more. -/
theorem blk_more {f g : Nat → α} {t q n b : Nat} (ht : 0 < t) (h : BlkD p f t 0 (t * q)) (hb1 : t * q ≤ b) (hb2 : b ≤ t * q + t) (m : Merged p f g (t * q) b) (hn : n = b) : BlkD p g t 0 n := by
  subst hn
  intro i j _ hij hj he
  by_cases c : t * q ≤ j
  · have hi : t * q ≤ i := ge_of_div ht (by rw [he]; exact div_ge ht c)
    exact m.desc i j hi hij hj
  · rw [m.out i (by omega), m.out j (by omega)]
    exact h i j (Nat.zero_le _) hij (by omega) he
/-- What lies behind stays. -/
theorem blk_behind {f g : Nat → α} {s a b n : Nat} (h : BlkD p f s a n) (hab : a ≤ b) (m : Merged p f g a b) : BlkD p g s b n := fun i j hi hij hj he => by
  rw [m.out i (by omega), m.out j (by omega)]
  exact h i j (by omega) hij hj he
theorem blk_desc {f : Nat → α} {s q a n : Nat} (h : BlkD p f s a n) (ha : a ≤ s * q) {b : Nat} (hb : b ≤ s * q + s) (hn : b ≤ n) : DescF p f (s * q) b := fun i j hi hij hj =>
  h i j (by omega) hij (by omega) (by rw [div_of_in hi (by omega), div_of_in (t := s) (q := q) (i := j) (by omega) (by omega)])
theorem blk_all {f : Nat → α} {s n : Nat} (h : BlkD p f s 0 n) (hs : n ≤ s) : DescF p f 0 n := fun i j hi hij hj =>
  h i j hi hij hj (by rw [Nat.div_eq_of_lt (by omega), Nat.div_eq_of_lt (by omega)])
theorem blk_none (f : Nat → α) (s : Nat) : BlkD p f s 0 0 := fun i j _ _ hj _ => by omega
theorem blk_from {f : Nat → α} {s n : Nat} (h : BlkD p f s 0 n) (a : Nat) : BlkD p f s a n := fun i j _ hij hj he => h i j (Nat.zero_le _) hij hj he
theorem blk_upto {f : Nat → α} {s lo n m : Nat} (h : BlkD p f s lo n) (hm : m ≤ n) : BlkD p f s lo m := fun i j hi hij hj he => h i j hi hij (by omega) he
end
end Go.Proofs.Ytojhckjdkafpmab
namespace Go.Proofs.Ytojhckjdkafpmab
open Go Go.Shelf Go.RowKit Go.Lib Go.Sort
set_option maxRecDepth 20000

theorem ltOf_ltP {β : Type} {p : β → Int} {cf : β → β → Int} (hcf : ∀ x y, cf x y < 0 ↔ p y < p x) : ltOf cf = ltP p := by
  funext x y
  unfold ltOf ltP
  rw [Bool.eq_iff_iff, decide_eq_true_iff, decide_eq_true_iff]
  exact hcf x y
variable {α : Type} [Inhabited α]
theorem CmpLays.on {P : Program} {enc : α → List Value} {k : Nat} {cf : α → α → Int} {g : Nat} {cb : Array Value} {blk off size : Nat} {w0 W : World} {d : Array α} (hC : CmpLays P g cb enc k cf blk off size w0) (h : SWK enc k w0 blk off d W) (hblk : blk < w0.heap.size) (hs : d.size = size) : CmpLays P g cb enc k cf blk off size W := by
  intro m os dk hd x y
  obtain ⟨n, os0, rfl⟩ := h
  rw [sortWorldK_on enc k w0 blk off n m d dk os0 os hblk (by omega)]
  exact hC _ _ dk hd x y
end Go.Proofs.Ytojhckjdkafpmab
namespace Go.Proofs.Ytojhckjdkafpmab
open Go Go.Shelf Go.RowKit Go.Lib Go.Sort
set_option maxRecDepth 20000

section
variable {α : Type} [Inhabited α]
theorem segF_all (d : Array α) : segF (arrF d) 0 d.size = d.toList := by
  apply List.ext_getElem?
  intro i
  unfold segF arrF
  by_cases hi : i < d.size
  · simp [hi]
  · simp [hi]
theorem gcells_len {β : Type} {enc : β → Array Value} {k : Nat} (hk : ∀ x, (enc x).size = k) (C : List β) : (gcells enc C).length = C.length * k := by
  induction C with
  | nil => simp [gcells]
  | cons c C ih => rw [gcells_cons, List.length_append, ih, Array.length_toList, hk, List.length_cons, Nat.add_mul, Nat.one_mul, Nat.add_comm]
theorem gcells_get {enc : α → Array Value} {k : Nat} (hk : ∀ x, (enc x).size = k) (C : List α) (t : Nat) (ht : t < C.length * k) : (gcells enc C)[t]? = some ((enc C.toArray[t / k]!).toList[t % k]!) := by
  have k0 : 0 < k := by
    rcases Nat.eq_zero_or_pos k with h | h
    · subst h; simp at ht
    · exact h
  have hi : t / k < C.length := (Nat.div_lt_iff_lt_mul k0).2 ht
  have hj : t % k < k := Nat.mod_lt _ k0
  have := gcells_at enc k C (fun c _ => hk c) (t / k) hi (t % k) hj
  rw [Nat.div_add_mod] at this
  rw [this]
  have e : C.toArray[t / k]! = C[t / k] := by simp [hi]
  rw [e]
  simp [hk, hj]
/-- A row of one's own, as the sort has it. -/
theorem holds_of_own {enc : α → Array Value} {k : Nat} (hk : ∀ x, (enc x).size = k) {w : World} {g : Nat} {cur : Array Value} {ty : TypeId} {C : List α} (hg : w.heap[g]? = some (.cells cur ty (0, 0))) (hc : cur.toList.take (C.length * k) = gcells enc C) :
    HoldsK (fun x => (enc x).toList) k w g 0 C.toArray := by
  intro t ht
  rw [size_flatK] at ht
  have ht' : t < C.length * k := by simpa using ht
  rw [get_flatK _ _ _ _ ht]
  refine ⟨?_, ?_⟩
  · rw [Nat.zero_add, cell_of_row w g t cur ty _ hg]
    have h1 := gcells_get hk C t ht'
    rw [← hc, List.getElem?_take_of_lt ht', Array.getElem?_toList] at h1
    exact h1
  · simp [World.frozen?, hg]
theorem SWK.grownBy {enc : α → List Value} {k : Nat} {w W : World} {g off : Nat} {d : Array α} (h : SWK enc k w g off d W) : w.grownBy W (some g) := by
  obtain ⟨n, os, rfl⟩ := h
  refine ⟨rfl, rfl, rfl, ?_, fun j hj hne => ?_⟩
  · unfold sortWorldK
    rw [size_grow, size_putRowK]
    exact Nat.le_add_right _ _
  · unfold sortWorldK grow putRowK putRow mapBlock Sort.ahead
    have : g ≠ j := fun e => hne (by rw [e])
    rw [Array.getElem?_append_left (by simpa using hj), Array.getElem?_modify, if_neg this]
/-- .. and as it is then. -/
theorem own_of_swk {enc : α → Array Value} {k : Nat} (hk : ∀ x, (enc x).size = k) {w W : World} {g : Nat} {cur : Array Value} {ty : TypeId} {d : Array α} (h : SWK (fun x => (enc x).toList) k w g 0 d W) (hg : w.heap[g]? = some (.cells cur ty (0, 0))) (hc : d.size * k ≤ cur.size) :
    ∃ cur', W.heap[g]? = some (.cells cur' ty (0, 0)) ∧ cur'.size = cur.size ∧ cur'.toList.take (d.size * k) = gcells enc d.toList := by
  obtain ⟨n, os, rfl⟩ := h
  have hlt : g < w.heap.size := (Array.getElem?_eq_some_iff.1 hg).1
  refine ⟨putCells id 0 (flatK (fun x => (enc x).toList) k d) cur, ?_, ?_, ?_⟩
  · unfold sortWorldK grow putRowK putRow mapBlock Sort.ahead
    simp only
    rw [Array.getElem?_append_left (by simpa using hlt), Array.getElem?_modify, if_pos rfl, hg]
    rfl
  · simp [putCells]
  · apply List.ext_getElem?
    intro t
    by_cases ht : t < d.size * k
    · rw [List.getElem?_take_of_lt ht]
      have := gcells_get hk d.toList t (by simpa using ht)
      rw [this, Array.getElem?_toList]
      unfold putCells
      rw [Array.getElem?_mapIdx, Array.getElem?_eq_getElem (by omega), Option.map_some, if_pos (by rw [size_flatK]; omega), Nat.sub_zero, get_flatK _ _ _ _ ht]
      simp
    · rw [List.getElem?_take_eq_none (by omega), List.getElem?_eq_none (by rw [gcells_len hk]; simp; omega)]
end
/-- A slice's elements appended to one's own row, and where the new row lies. -/
theorem wl_appendL {E : El} (H : E.Ok) {α : Type} (enc : α → Array Value) (hE : ∀ x, Fits E (enc x)) {ops : Array Oper} {rest : List Oper} {o : Oper} {a : Act} {w : World} {Q : Exit → Act → World → Prop} (hgd : o.guard = none) (s x : Operand) (ho : o.op = .call { callee := .builtin .append, args := #[s, x], argTypes := #[E.slice, E.slice] })
    (base base' : Nat) (v u : Value) (C D : List α) (hs : a.eval s = v) (hown : w.ownsRow base E.elem E.size v C.length (gcells enc C)) (hx : a.eval x = u) (hu : w.ownsRow base' E.elem E.size u D.length (gcells enc D))
    (hn : C.length + D.length ≤ 1000000) (hbase : base ≤ w.heap.size)
    (h : ∀ v' w', w'.ownsRow base E.elem E.size v' (C ++ D).length (gcells enc (C ++ D)) → w.grownBy w' v.ownBlock → (v'.ownBlock = v.ownBlock ∨ v'.ownBlock = some w.heap.size) → wpList Try.prog ops Q rest (a.put o.dst v') w') : wpList Try.prog ops Q (o :: rest) a w := by
  obtain ⟨i0, hi, hz0, hz1, hz2⟩ := H.info
  have hb := H.hb
  have hu0 := hu
  have hl : (gcells enc D).length = D.length * E.size := hu.1
  obtain ⟨_, ⟨rfl, h0⟩ | ⟨g, cap, cur, rfl, hB, hcur, h1, h2, h3, h4⟩⟩ := hu
  · have hD0 : D = [] := List.eq_nil_of_length_eq_zero h0
    subst hD0
    refine wpList_append_own_none hgd s x E.slice ho base E.elem i0 E.size H.hs hi v _ _ hs hown hx (h v w ?_ ?_ (.inl rfl))
    · rw [List.append_nil]; exact hown
    · exact ⟨rfl, rfl, rfl, Nat.le_refl _, fun k _ _ => rfl⟩
  · refine wpList_append_own_at w hgd s x E.slice ho base E.elem i0 (.agg E.zero) E.size E.bytes H.hs hi hz0 hz1 hz2 (by simpa [Value.cells] using H.hz) H.hp v _ _ hs hown ⟨g, 0, none⟩ D.length cap (gcells enc D) hx hl (fun j y hy => ?_) (fun y hy => ?_) (by unfold maxLen; omega) ?_ hbase ?_
    · have hj : j < D.length * E.size := by rw [← hl]; exact (List.getElem?_eq_some_iff.1 hy).1
      have hadd : (⟨g, 0, none⟩ : Addr).add j = ⟨g, j, none⟩ := by unfold Addr.add; split <;> simp_all
      rw [hadd, cell_of_row w g j _ _ _ hcur, ← hy, ← h4, List.getElem?_take_of_lt hj, Array.getElem?_toList]
    · unfold gcells at hy
      obtain ⟨c, _, hc⟩ := List.mem_flatMap.1 hy
      exact (Array.all_eq_true_iff_forall_mem.1 (hE c).2) y (by simpa using hc)
    · exact Nat.le_trans (Nat.mul_le_mul (show C.length + D.length ≤ 1000000 by omega) hb) (by decide)
    · intro v' w' h5 h6 _ h7
      refine h v' w' ?_ h6 h7
      rw [List.length_append, gcells_append]; exact h5
end Go.Proofs.Ytojhckjdkafpmab
namespace Go.Proofs.Ytojhckjdkafpmab
open Go Go.RowKit
set_option maxRecDepth 20000

theorem wl_gA {P : Program} {ops : Array Oper} {Q : Exit → Act → World → Prop} {o : Oper} {rest : List Oper} {a : Act} {w : World} (_ : o.op = .alloc 27) (h : wpList P ops Q (o :: rest) a w) : wpList P ops Q (o :: rest) a w := h
theorem wl_gL {P : Program} {ops : Array Oper} {Q : Exit → Act → World → Prop} {o : Oper} {rest : List Oper} {a : Act} {w : World} (x : Operand) (_ : o.op = .load 27 x) (h : wpList P ops Q (o :: rest) a w) : wpList P ops Q (o :: rest) a w := h
theorem wl_gS {P : Program} {ops : Array Oper} {Q : Exit → Act → World → Prop} {o : Oper} {rest : List Oper} {a : Act} {w : World} (x y : Operand) (_ : o.op = .store 27 x y) (h : wpList P ops Q (o :: rest) a w) : wpList P ops Q (o :: rest) a w := h
theorem wl_gB {P : Program} {ops : Array Oper} {Q : Exit → Act → World → Prop} {o : Oper} {rest : List Oper} {a : Act} {w : World} (x : Operand) (_ : o.op = .buildSlice 39 1 #[(0, x)]) (h : wpList P ops Q (o :: rest) a w) : wpList P ops Q (o :: rest) a w := h
theorem wl_gZ {P : Program} {ops : Array Oper} {Q : Exit → Act → World → Prop} {o : Oper} {rest : List Oper} {a : Act} {w : World} (_ : o.op = .build 27 #[]) (h : wpList P ops Q (o :: rest) a w) : wpList P ops Q (o :: rest) a w := h
theorem wl_gC {P : Program} {ops : Array Oper} {Q : Exit → Act → World → Prop} {o : Oper} {rest : List Oper} {a : Act} {w : World} (x : Operand) (_ : o.op = .load 25 x) (h : wpList P ops Q (o :: rest) a w) : wpList P ops Q (o :: rest) a w := h
theorem wl_gH {P : Program} {ops : Array Oper} {Q : Exit → Act → World → Prop} {o : Oper} {rest : List Oper} {a : Act} {w : World} (x : Operand) (_ : o.op = .load 23 x) (h : wpList P ops Q (o :: rest) a w) : wpList P ops Q (o :: rest) a w := h
theorem wl_gE {P : Program} {ops : Array Oper} {Q : Exit → Act → World → Prop} {o : Oper} {rest : List Oper} {a : Act} {w : World} (_ : o.op = .buildSlice 39 0 #[]) (h : wpList P ops Q (o :: rest) a w) : wpList P ops Q (o :: rest) a w := h
theorem sz_alloc (w : World) (o : Obj) : (w.alloc o).heap.size = w.heap.size + 1 := by simp
theorem zero_run (w : World) : (zeroValue 27).run Try.prog w = .ok (.agg (slotV zeroS)) w := by rw [zero_slot]; kernel_rfl
theorem alloc_run (w : World) : (Instr.alloc 27 true (.tuple #[])).run Try.prog w = .ok (.pointer (some ⟨w.heap.size, 0, none⟩)) (w.alloc (.cells (slotV zeroS) 27)) := by
  have hz := zero_run w
  simp [Instr.alloc, Sem.run_bind, hz, newVar, newRow, Value.cells]
/-- A new slot of noughts. -/
theorem wl_allocS {ops : Array Oper} {rest : List Oper} {o : Oper} {a : Act} {w : World} {Q : Exit → Act → World → Prop} (hg : o.guard = none) (ho : o.op = .alloc 27)
    (h : wpList Try.prog ops Q rest (a.put o.dst (.pointer (some ⟨w.heap.size, 0, none⟩))) (w.alloc (.cells (slotV zeroS) 27))) : wpList Try.prog ops Q (o :: rest) a w := by
  refine Great.wpList_allocTo hg o.dst rfl _ _ ?_ h
  unfold execOp
  simp only [ho, Sem.run_bind, alloc_run, Result.andThen_ok, Sem.run_pure]
theorem wl_buildS {ops : Array Oper} {rest : List Oper} {o : Oper} {a : Act} {w : World} {Q : Exit → Act → World → Prop} (hg : o.guard = none) (ho : o.op = .build 27 #[])
    (h : wpList Try.prog ops Q rest (a.put o.dst (.agg (slotV zeroS))) w) : wpList Try.prog ops Q (o :: rest) a w := by
  refine Great.wpList_readTo hg o.dst rfl _ ?_ h
  unfold execOp
  simp only [ho, Sem.run_bind, List.map_toArray, List.map_nil, build_zero, Result.andThen_ok, Sem.run_pure]
/-- A slot is stored over a whole block. -/
theorem wl_storeS {ops : Array Oper} {rest : List Oper} {o : Oper} {a : Act} {w : World} {Q : Exit → Act → World → Prop} (hgd : o.guard = none) (x y : Operand) (ho : o.op = .store 27 x y)
    (g : Nat) (s z : Slt) (hx : a.eval x = .pointer (some ⟨g, 0, none⟩)) (hy : a.eval y = .agg (slotV s)) (hg : w.heap[g]? = some (.cells (slotV z) 27 (0, 0)))
    (w' : World) (hw' : w.setRow g (slotV s) = w')
    (h : wpList Try.prog ops Q rest (a.put o.dst undef) w') : wpList Try.prog ops Q (o :: rest) a w :=
  wl_storeE (E := SlotE) SlotOk hgd x y ho g (slotV s) (slot_fits s) hx hy _ hg (slotV_size z) w' hw' h
/-- A slot is loaded out of a row. -/
theorem wl_loadS {ops : Array Oper} {rest : List Oper} {o : Oper} {a : Act} {w : World} {Q : Exit → Act → World → Prop} (hw : Region.wanted o (yielded ops a.tmps) = true) (x : Operand) (ho : o.op = .load 27 x)
    (g off : Nat) (hx : a.eval x = .pointer (some ⟨g, off, none⟩)) (s : Slt) (hl : (loadVar 27 ⟨g, off, none⟩).run Try.prog w = .ok (.agg (slotV s)) w)
    (h : wpList Try.prog ops Q rest (a.put o.dst (.agg (slotV s))) w) : wpList Try.prog ops Q (o :: rest) a w := by
  refine wpList_step fun K hK => ?_
  rw [if_pos hw]
  unfold Oper.wp execOp
  simp only [ho, hx, Instr.loadAt, Instr.sureAddr, Sem.run_bind, Sem.run_pure, Result.andThen_ok, hl]
  exact hK _ _ h
theorem ld_row {w : World} {g off : Nat} {cur : Array Value} {t : TypeId} {fr : Nat × Nat} {s : Slt} (hg : w.heap[g]? = some (.cells cur t fr)) (hc : ∀ j, j < 36 → cur[off + j]? = (slotV s)[j]?) : (loadVar 27 ⟨g, off, none⟩).run Try.prog w = .ok (.agg (slotV s)) w :=
  SlotOk.load w g off cur t fr (slotV s) (slotV_size s) hg hc
theorem ld_own {w : World} {g : Nat} {t : TypeId} {fr : Nat × Nat} {s : Slt} (hg : w.heap[g]? = some (.cells (slotV s) t fr)) : (loadVar 27 ⟨g, 0, none⟩).run Try.prog w = .ok (.agg (slotV s)) w := ld_row hg fun j _ => by rw [Nat.zero_add]
/-- A slot is stored within a row. -/
theorem storeS_run {w : World} {g off : Nat} {cur : Array Value} {t : TypeId} {s : Slt} (hg : w.heap[g]? = some (.cells cur t (0, 0))) (hf : off + 36 ≤ cur.size) :
    (Instr.storeAt 27 (.pointer (some ⟨g, off, none⟩)) (.agg (slotV s))).run Try.prog w = .ok () (w.setRow g (cur.toList.take off ++ (slotV s).toList ++ cur.toList.drop (off + 36)).toArray) := by
  have hl : (slotV s).toList.length = 36 := by rw [Array.length_toList, slotV_size]
  have hst := run_storeCells_at Try.prog g off t (slotV s).toList 0 cur w hg (by rw [hl]; simpa using hf) (fun u hu => (Array.all_eq_true_iff_forall_mem.1 (slotV_one s)) u (by simpa using hu))
  rw [Nat.add_zero, hl] at hst
  have hz : ∀ w, (sizeOf 27).run Try.prog w = .ok 36 w := fun w => by kernel_rfl
  simp [Instr.storeAt, Instr.sureAddr, storeVar, Sem.run_bind, Value.cells, hst, hz, slotV_size]
theorem wl_storeAtS {ops : Array Oper} {rest : List Oper} {o : Oper} {a : Act} {w : World} {Q : Exit → Act → World → Prop} (hgd : o.guard = none) (x y : Operand) (ho : o.op = .store 27 x y)
    (g off : Nat) (s : Slt) (hx : a.eval x = .pointer (some ⟨g, off, none⟩)) (hy : a.eval y = .agg (slotV s)) (cur : Array Value) (t : TypeId) (hg : w.heap[g]? = some (.cells cur t (0, 0))) (hf : off + 36 ≤ cur.size)
    (h : wpList Try.prog ops Q rest (a.put o.dst undef) (w.setRow g (cur.toList.take off ++ (slotV s).toList ++ cur.toList.drop (off + 36)).toArray)) : wpList Try.prog ops Q (o :: rest) a w := by
  refine wpList_plain hgd fun K hK => ?_
  unfold Oper.wp execOp
  simp only [ho, hx, hy, Sem.run_bind, Sem.run_pure, Result.andThen_ok, storeS_run hg hf]
  exact hK _ _ h
theorem set_cells {enc : Slt → List Value} {q : Nat} (hq : ∀ c, (enc c).length = q) {L : List Value} {C : List Slt} {k : Nat} (s : Slt) (hk : k < C.length) (hL : C.length * q ≤ L.length) (htk : L.take (C.length * q) = C.flatMap enc) :
    (L.take (k * q) ++ enc s ++ L.drop (k * q + q)).length = L.length ∧ (L.take (k * q) ++ enc s ++ L.drop (k * q + q)).take (C.length * q) = (C.set k s).flatMap enc := by
  have gl : ∀ D : List Slt, (D.flatMap enc).length = D.length * q := fun D => by
    induction D with
    | nil => simp
    | cons c D ih => rw [List.flatMap_cons, List.length_append, ih, hq, List.length_cons, Nat.add_mul, Nat.one_mul, Nat.add_comm]
  have hkq : k * q + q ≤ C.length * q := by have := Nat.mul_le_mul_right q (show k + 1 ≤ C.length from hk); rwa [Nat.add_mul, Nat.one_mul] at this
  have l1 : (L.take (k * q)).length = k * q := by rw [List.length_take]; omega
  have hs := hq s
  have e0 : C.flatMap enc = (C.take k).flatMap enc ++ (enc C[k] ++ (C.drop (k + 1)).flatMap enc) := by
    conv => lhs; rw [← List.take_append_drop k C, List.drop_eq_getElem_cons hk]
    rw [List.flatMap_append, List.flatMap_cons]
  have e1 : (C.set k s).flatMap enc = (C.take k).flatMap enc ++ (enc s ++ (C.drop (k + 1)).flatMap enc) := by
    rw [set_split s hk, List.flatMap_append, List.flatMap_cons]
  have g1 : ((C.take k).flatMap enc).length = k * q := by rw [gl, List.length_take]; congr 1; omega
  have t1 : L.take (k * q) = (C.take k).flatMap enc := by
    have := congrArg (List.take (k * q)) htk
    rw [List.take_take, Nat.min_eq_left (by omega), e0, List.take_append_of_le_length (Nat.le_of_eq g1.symm), List.take_of_length_le (Nat.le_of_eq g1)] at this
    exact this
  have g2 : ((C.take k).flatMap enc ++ enc C[k]).length = k * q + q := by rw [List.length_append, g1, hq]
  have t2 : (L.drop (k * q + q)).take (C.length * q - (k * q + q)) = (C.drop (k + 1)).flatMap enc := by
    rw [← List.drop_take, htk, e0, ← List.append_assoc, List.drop_append_of_le_length (Nat.le_of_eq g2.symm), List.drop_of_length_le (Nat.le_of_eq g2), List.nil_append]
  refine ⟨?_, ?_⟩
  · rw [List.length_append, List.length_append, l1, hs, List.length_drop]; omega
  · rw [e1, t1, List.append_assoc, List.take_append, g1, List.take_of_length_le (l := (C.take k).flatMap enc) (by omega), List.take_append, hs, List.take_of_length_le (l := enc s) (by omega), show C.length * q - k * q - q = C.length * q - (k * q + q) by omega, t2]
/-- The row with the k-th slot replaced. -/
theorem set_row {cur : Array Value} {C : List Slt} {k : Nat} (s : Slt) (hk : k < C.length) (hsz : C.length * 36 ≤ cur.size) (htk : cur.toList.take (C.length * 36) = gcells slotV C) :
    (cur.toList.take (k * 36) ++ (slotV s).toList ++ cur.toList.drop (k * 36 + 36)).toArray.size = cur.size ∧ (cur.toList.take (k * 36) ++ (slotV s).toList ++ cur.toList.drop (k * 36 + 36)).toArray.toList.take (C.length * 36) = gcells slotV (C.set k s) := by
  have h := set_cells (enc := fun c => (slotV c).toList) (q := 36) (fun c => by rw [Array.length_toList, slotV_size]) (L := cur.toList) s hk (by rw [Array.length_toList]; exact hsz) htk
  exact ⟨by rw [List.size_toArray, h.1, Array.length_toList], h.2⟩
theorem SlotsAt.store {B : Nat} {w : World} {g n cap : Nat} {C : List Slt} (h : SlotsAt B w (.slice (some ⟨g, 0, none⟩) n cap) C) (k : Nat) (hk : k < C.length) (s : Slt) :
    ∃ cur, w.heap[g]? = some (.cells cur 27 (0, 0)) ∧ k * 36 + 36 ≤ cur.size ∧ ∀ w' : World, w'.heap[g]? = some (.cells (cur.toList.take (k * 36) ++ (slotV s).toList ++ cur.toList.drop (k * 36 + 36)).toArray 27 (0, 0)) → SlotsAt B w' (.slice (some ⟨g, 0, none⟩) n cap) (C.set k s) := by
  obtain ⟨h1, ⟨e, _⟩ | ⟨g', cap', cur, e, hB, hcur, h3, h4, h5, h6⟩⟩ := h
  · cases e
  · simp only [Value.slice.injEq, Option.some.injEq, Addr.mk.injEq, and_true] at e
    obtain ⟨⟨rfl, _⟩, rfl, rfl⟩ := e
    have hsz : C.length * 36 ≤ cur.size := by rw [h5]; exact Nat.mul_le_mul_right 36 h3
    obtain ⟨q1, q2⟩ := set_row s hk hsz h6
    refine ⟨cur, hcur, by omega, fun w' hw' => ⟨?_, .inr ⟨g, cap, _, by rw [List.length_set], hB, hw', by rw [List.length_set]; exact h3, h4, by rw [q1]; exact h5, by rw [List.length_set]; exact q2⟩⟩⟩
    have := congrArg List.length q2
    rw [List.length_take, List.toList_toArray] at this
    rw [List.size_toArray] at q1
    rw [List.length_set, ← this, q1]
    exact Nat.min_eq_left hsz
end Go.Proofs.Ytojhckjdkafpmab
