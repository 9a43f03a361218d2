import Derived.Test.YtojhckjdkafpmaaJ5
namespace Go.Proofs.Ytojhckjdkafpmaa

def MAXT : Int := 1099511627776
/-- A time as it counts. -/
def timeT (n : Int) : Int := if n < 0 then 0 else if MAXT < n then MAXT else n
theorem timeT_in (n : Int) : 0 ≤ timeT n ∧ timeT n ≤ MAXT := by unfold timeT MAXT; split; omega; split <;> omega
theorem timeT_neg {n : Int} (h : n < 0) : timeT n = 0 := by unfold timeT; rw [if_pos h]
theorem timeT_big {n : Int} (h : ¬ n < 0) (h' : MAXT < n) : timeT n = MAXT := by unfold timeT; rw [if_neg h, if_pos h']
theorem timeT_mid {n : Int} (h : ¬ n < 0) (h' : ¬ MAXT < n) : timeT n = n := by unfold timeT; rw [if_neg h, if_neg h']
abbrev Cub := List Int × List Int
def zeroS : Slt := ⟨0, 0, 0, 0, (List.replicate 13 0, List.replicate 13 0), 0, 0, 0, 0, 0, 0⟩
/-- The three banks. -/
structure Bks where
  c : List Slt
  a : List Slt
  p : List Slt
structure Rm where
  cache : Nat
  auth : Nat
  part : Nat
  idle : Int
  hard : Int
def bkOf (L : List Slt) (n : Int) : List Slt := L.filter fun x => x.bank == n
def bks (L : List Slt) : Bks := ⟨bkOf L 1, bkOf L 2, bkOf L 3⟩
theorem bkOf_append (L M : List Slt) (n : Int) : bkOf (L ++ M) n = bkOf L n ++ bkOf M n := by unfold bkOf; rw [List.filter_append]
theorem bkOf_cons (x : Slt) (L : List Slt) (n : Int) : bkOf (x :: L) n = if x.bank = n then x :: bkOf L n else bkOf L n := by
  unfold bkOf
  rw [List.filter_cons]
  by_cases h : x.bank = n
  · rw [if_pos (by simpa using h), if_pos h]
  · rw [if_neg (by simpa using h), if_neg h]
theorem bkOf_nil (n : Int) : bkOf [] n = [] := rfl
theorem bkOf_mem {L : List Slt} {n : Int} {x : Slt} : x ∈ bkOf L n ↔ x ∈ L ∧ x.bank = n := by unfold bkOf; rw [List.mem_filter]; simp

/-! Learn -/
def sameC (s x : Slt) : Bool := x.epoch == s.epoch && x.cube == s.cube
def newC (now epoch : Int) (cu : Cub) (action : Int) : Slt := ⟨1, epoch, 0, 0, cu, action, 0, 0, timeT now, timeT now, 0⟩
def learnT (room : Nat) (C : List Slt) (s : Slt) : List Slt × Slt × Bool × Int :=
  if room = 0 then (C, zeroS, false, 13)
  else match leastF (sameC s) (fun _ => 0) C with
    | some (A, _, B) => (A ++ s :: B, zeroS, false, 0)
    | none => if C.length = room then
        match leastF (fun _ => true) (·.used) C with
        | some (A, x, B) => (A ++ B ++ [s], x, true, 0)
        | none => (C ++ [s], zeroS, true, 0)
      else (C ++ [s], zeroS, false, 0)
theorem learnT_no (C : List Slt) (s : Slt) : learnT 0 C s = (C, zeroS, false, 13) := by unfold learnT; rw [if_pos rfl]
theorem learnT_same {room : Nat} {C A B : List Slt} {s x : Slt} (hr : room ≠ 0) (h : leastF (sameC s) (fun _ => 0) C = some (A, x, B)) : learnT room C s = (A ++ s :: B, zeroS, false, 0) := by
  unfold learnT; rw [if_neg hr, h]
theorem learnT_full {room : Nat} {C A B : List Slt} {s x : Slt} (hr : room ≠ 0) (h : leastF (sameC s) (fun _ => 0) C = none) (hf : C.length = room) (h' : leastF (fun _ => true) (·.used) C = some (A, x, B)) : learnT room C s = (A ++ B ++ [s], x, true, 0) := by
  unfold learnT; rw [if_neg hr, h]; simp only [if_pos hf, h']
theorem learnT_more {room : Nat} {C : List Slt} {s : Slt} (hr : room ≠ 0) (h : leastF (sameC s) (fun _ => 0) C = none) (hf : C.length ≠ room) : learnT room C s = (C ++ [s], zeroS, false, 0) := by
  unfold learnT; rw [if_neg hr, h]; simp only [if_neg hf]
theorem least_some_of_ne {C : List Slt} (h : C ≠ []) (k : Slt → Int) : ∃ A x B, leastF (fun _ => true) k C = some (A, x, B) := by
  cases hl : leastF (fun _ => true) k C with
  | none =>
    cases C with
    | nil => exact absurd rfl h
    | cons x C => have := leastF_none.1 hl x (by simp); cases this
  | some r => exact ⟨_, _, _, rfl⟩
/-- The four ways of Learn. -/
theorem learnT_cases (room : Nat) (C : List Slt) (s : Slt) :
    (room = 0 ∧ learnT room C s = (C, zeroS, false, 13)) ∨
    (room ≠ 0 ∧ ∃ A x B, LeastAt (sameC s) (fun _ => 0) C A x B ∧ learnT room C s = (A ++ s :: B, zeroS, false, 0)) ∨
    (room ≠ 0 ∧ (∀ y ∈ C, sameC s y = false) ∧ C.length = room ∧ ∃ A x B, LeastAt (fun _ => true) (·.used) C A x B ∧ learnT room C s = (A ++ B ++ [s], x, true, 0)) ∨
    (room ≠ 0 ∧ (∀ y ∈ C, sameC s y = false) ∧ C.length ≠ room ∧ learnT room C s = (C ++ [s], zeroS, false, 0)) := by
  by_cases hr : room = 0
  · subst hr; exact .inl ⟨rfl, learnT_no _ _⟩
  · right
    cases h : leastF (sameC s) (fun _ => 0) C with
    | some r =>
      obtain ⟨A, x, B⟩ := r
      exact .inl ⟨hr, A, x, B, leastF_some h, learnT_same hr h⟩
    | none =>
      right
      by_cases hf : C.length = room
      · left
        obtain ⟨A, x, B, h'⟩ := least_some_of_ne (C := C) (fun e => hr (by rw [← hf, e]; rfl)) (·.used)
        exact ⟨hr, leastF_none.1 h, hf, A, x, B, leastF_some h', learnT_full hr h hf h'⟩
      · right
        exact ⟨hr, leastF_none.1 h, hf, learnT_more hr h hf⟩
theorem learnT_len (room : Nat) (C : List Slt) (s : Slt) (h : C.length ≤ room) : (learnT room C s).1.length ≤ room := by
  rcases learnT_cases room C s with ⟨_, e⟩ | ⟨_, A, x, B, ⟨h1, _⟩, e⟩ | ⟨_, _, hf, A, x, B, ⟨h1, _⟩, e⟩ | ⟨_, _, hf, e⟩
  · rw [e]; exact h
  · rw [e]; rw [h1] at h; simpa using h
  · rw [e]; rw [h1] at hf; simp at hf ⊢; omega
  · rw [e]; simp; omega
theorem learnT_all {P : Slt → Prop} (room : Nat) (C : List Slt) (s : Slt) (h : ∀ x ∈ C, P x) (hs : P s) : ∀ x ∈ (learnT room C s).1, P x := by
  rcases learnT_cases room C s with ⟨_, e⟩ | ⟨_, A, x, B, ⟨h1, _⟩, e⟩ | ⟨_, _, hf, A, x, B, ⟨h1, _⟩, e⟩ | ⟨_, _, hf, e⟩
  · rw [e]; exact h
  · rw [e]
    subst h1
    intro y hy
    rcases List.mem_append.1 hy with h2 | h2
    · exact h y (by simp [h2])
    · rcases List.mem_cons.1 h2 with rfl | h2
      · exact hs
      · exact h y (by simp [h2])
  · rw [e]
    subst h1
    intro y hy
    rcases List.mem_append.1 hy with h2 | h2
    · rcases List.mem_append.1 h2 with h3 | h3
      · exact h y (by simp [h3])
      · exact h y (by simp [h3])
    · obtain rfl : y = s := by simpa using h2
      exact hs
  · rw [e]
    intro y hy
    rcases List.mem_append.1 hy with h2 | h2
    · exact h y h2
    · obtain rfl : y = s := by simpa using h2
      exact hs

/-! Lay -/
def atS (s y : Slt) : Bool := y.epoch == s.epoch && y.place == s.place
def laidS (s : Slt) (cu : Cub) : Slt := { s with cube := cu, born := 0, used := 0, count := 0 }
def layT (room : Nat) (D : List Slt) (s : Slt) (cu : Cub) : List Slt × Int :=
  if D.any (atS s) = true then (D, 9) else if D.length = room then (D, 13) else (D ++ [laidS s cu], 0)
theorem layT_cases (room : Nat) (D : List Slt) (s : Slt) (cu : Cub) :
    (D.any (atS s) = true ∧ layT room D s cu = (D, 9)) ∨ (D.any (atS s) = false ∧ D.length = room ∧ layT room D s cu = (D, 13)) ∨ (D.any (atS s) = false ∧ D.length ≠ room ∧ layT room D s cu = (D ++ [laidS s cu], 0)) := by
  unfold layT
  cases h : D.any (atS s) with
  | true => left; exact ⟨rfl, by rw [if_pos rfl]⟩
  | false =>
    right
    rw [if_neg (by simp)]
    by_cases hf : D.length = room
    · left; exact ⟨rfl, hf, by rw [if_pos hf]⟩
    · right; exact ⟨rfl, hf, by rw [if_neg hf]⟩
theorem layT_len (room : Nat) (D : List Slt) (s : Slt) (cu : Cub) (h : D.length ≤ room) : (layT room D s cu).1.length ≤ room := by
  rcases layT_cases room D s cu with ⟨_, e⟩ | ⟨_, _, e⟩ | ⟨_, hf, e⟩ <;> rw [e]
  · exact h
  · exact h
  · simp; omega
theorem layT_all {P : Slt → Prop} (room : Nat) (D : List Slt) (s : Slt) (cu : Cub) (h : ∀ x ∈ D, P x) (hs : P (laidS s cu)) : ∀ x ∈ (layT room D s cu).1, P x := by
  rcases layT_cases room D s cu with ⟨_, e⟩ | ⟨_, _, e⟩ | ⟨_, hf, e⟩ <;> rw [e]
  · exact h
  · exact h
  · intro y hy
    rcases List.mem_append.1 hy with h2 | h2
    · exact h y h2
    · obtain rfl : y = laidS s cu := by simpa using h2
      exact hs

/-! Find, Peek, Look -/
def findT (S : Bks) (mt : Slt → Bool) : Option (Nat × List Slt × Slt × List Slt) :=
  match leastF mt (fun _ => 0) S.c with
  | some r => some (1, r)
  | none => match leastF mt (·.order) S.a with
    | some r => some (2, r)
    | none => (leastF mt (·.order) S.p).map fun r => (3, r)
def peekT (S : Bks) (mt : Slt → Bool) : Slt × Bool := match findT S mt with | some (_, _, x, _) => (x, true) | none => (zeroS, false)
def usedS (now : Int) (b : Nat) (x : Slt) : Slt := { x with count := if x.count < MAXT then x.count + 1 else x.count, used := if b = 1 then timeT now else x.used }
def putB (S : Bks) (b : Nat) (l : List Slt) : Bks := if b = 1 then { S with c := l } else if b = 2 then { S with a := l } else { S with p := l }
def lookT (S : Bks) (mt : Slt → Bool) (now : Int) : Bks × Slt × Bool := match findT S mt with
  | some (b, A, x, B) => (putB S b (A ++ usedS now b x :: B), usedS now b x, true)
  | none => (S, zeroS, false)
theorem findT_cases (S : Bks) (mt : Slt → Bool) :
    (∃ A x B, LeastAt mt (fun _ => 0) S.c A x B ∧ findT S mt = some (1, A, x, B)) ∨
    ((∀ y ∈ S.c, mt y = false) ∧ ∃ A x B, LeastAt mt (·.order) S.a A x B ∧ findT S mt = some (2, A, x, B)) ∨
    ((∀ y ∈ S.c, mt y = false) ∧ (∀ y ∈ S.a, mt y = false) ∧ ∃ A x B, LeastAt mt (·.order) S.p A x B ∧ findT S mt = some (3, A, x, B)) ∨
    ((∀ y ∈ S.c, mt y = false) ∧ (∀ y ∈ S.a, mt y = false) ∧ (∀ y ∈ S.p, mt y = false) ∧ findT S mt = none) := by
  unfold findT
  cases h1 : leastF mt (fun _ => 0) S.c with
  | some r =>
    obtain ⟨A, x, B⟩ := r
    exact .inl ⟨A, x, B, leastF_some h1, rfl⟩
  | none =>
    right
    cases h2 : leastF mt (·.order) S.a with
    | some r =>
      obtain ⟨A, x, B⟩ := r
      exact .inl ⟨leastF_none.1 h1, A, x, B, leastF_some h2, rfl⟩
    | none =>
      right
      cases h3 : leastF mt (·.order) S.p with
      | some r =>
        obtain ⟨A, x, B⟩ := r
        exact .inl ⟨leastF_none.1 h1, leastF_none.1 h2, A, x, B, leastF_some h3, rfl⟩
      | none => exact .inr ⟨leastF_none.1 h1, leastF_none.1 h2, leastF_none.1 h3, rfl⟩
/-- Replaced by one alike, it is found again. -/
theorem least_again {m : Slt → Bool} {k : Slt → Int} {C A B : List Slt} {x x' : Slt} (h : LeastAt m k C A x B) (hm : m x' = m x) (hk : k x' = k x) : LeastAt m k (A ++ x' :: B) A x' B := by
  obtain ⟨_, h2, h3, h4⟩ := h
  exact ⟨rfl, by rw [hm]; exact h2, fun y hy hmy => by rw [hk]; exact h3 y hy hmy, fun y hy hmy => by rw [hk]; exact h4 y hy hmy⟩
theorem find_of1 {S : Bks} {mt : Slt → Bool} {A B : List Slt} {x : Slt} (h : LeastAt mt (fun _ => 0) S.c A x B) : findT S mt = some (1, A, x, B) := by unfold findT; rw [leastF_iff.2 h]
theorem find_of2 {S : Bks} {mt : Slt → Bool} {A B : List Slt} {x : Slt} (h0 : ∀ y ∈ S.c, mt y = false) (h : LeastAt mt (·.order) S.a A x B) : findT S mt = some (2, A, x, B) := by unfold findT; rw [leastF_none.2 h0, leastF_iff.2 h]
theorem find_of3 {S : Bks} {mt : Slt → Bool} {A B : List Slt} {x : Slt} (h0 : ∀ y ∈ S.c, mt y = false) (h1 : ∀ y ∈ S.a, mt y = false) (h : LeastAt mt (·.order) S.p A x B) : findT S mt = some (3, A, x, B) := by unfold findT; rw [leastF_none.2 h0, leastF_none.2 h1, leastF_iff.2 h]; rfl
/-- What a look tells a glance tells behind it. -/
theorem look_peek (S : Bks) (mt : Slt → Bool) (now : Int) (hmt : ∀ x b, mt (usedS now b x) = mt x) : peekT (lookT S mt now).1 mt = (lookT S mt now).2 := by
  rcases findT_cases S mt with ⟨A, x, B, h, e⟩ | ⟨h0, A, x, B, h, e⟩ | ⟨h0, h1, A, x, B, h, e⟩ | ⟨h0, h1, h2, e⟩
  · unfold lookT peekT
    rw [e]
    simp only [putB, if_true]
    rw [find_of1 (S := { S with c := A ++ usedS now 1 x :: B }) (least_again h (hmt x 1) rfl)]
  · unfold lookT peekT
    rw [e]
    simp only [putB, show ¬ (2 : Nat) = 1 by decide, if_false, if_true]
    rw [find_of2 (S := { S with a := A ++ usedS now 2 x :: B }) h0 (least_again h (hmt x 2) rfl)]
  · unfold lookT peekT
    rw [e]
    simp only [putB, show ¬ (3 : Nat) = 1 by decide, show ¬ (3 : Nat) = 2 by decide, if_false]
    rw [find_of3 (S := { S with p := A ++ usedS now 3 x :: B }) h0 h1 (least_again h (hmt x 3) rfl)]
  · unfold lookT peekT
    rw [e]
    simp only [e]
theorem peek_look (S : Bks) (mt : Slt → Bool) (now : Int) : (lookT S mt now).2.2 = (peekT S mt).2 ∧ ((peekT S mt).2 = false → (lookT S mt now).2.1 = (peekT S mt).1 ∧ (lookT S mt now).1 = S) := by
  unfold lookT peekT
  cases h : findT S mt with
  | none => simp
  | some r => obtain ⟨b, A, x, B⟩ := r; simp
end Go.Proofs.Ytojhckjdkafpmaa
namespace Go.Proofs.Ytojhckjdkafpmaa

/-! The banks of one list of all slots. -/
theorem bks_ext {S T : Bks} (h1 : S.c = T.c) (h2 : S.a = T.a) (h3 : S.p = T.p) : S = T := by cases S; cases T; simp_all
theorem set_split {L : List Slt} {i : Nat} (s : Slt) (h : i < L.length) : L.set i s = L.take i ++ s :: L.drop (i + 1) := by
  rw [List.set_eq_take_append_cons_drop, if_pos h]
theorem bkOf_set {A B : List Slt} {x s : Slt} {n : Int} (hx : x.bank = n) (hs : s.bank = n) (q : Int) : bkOf (A ++ s :: B) q = if q = n then bkOf A q ++ s :: bkOf B q else bkOf (A ++ x :: B) q := by
  rw [bkOf_append, bkOf_cons]
  by_cases h : q = n
  · rw [if_pos h, if_pos (by omega)]
  · rw [if_neg h, if_neg (by omega), bkOf_append, bkOf_cons, if_neg (by omega)]
theorem learn_same_L {room : Nat} {L A B : List Slt} {s x : Slt} (hr : room ≠ 0) (hs : s.bank = 1) (h : LeastAt (fun y => (y.bank == 1) && sameC s y) (fun _ => 0) L A x B) :
    learnT room (bkOf L 1) s = (bkOf (A ++ s :: B) 1, zeroS, false, 0) ∧ bks (A ++ s :: B) = { bks L with c := bkOf (A ++ s :: B) 1 } := by
  have hx : x.bank = 1 := by have := h.2.1; simp only [Bool.and_eq_true, beq_iff_eq] at this; exact this.1
  have h1 : leastF (sameC s) (fun _ => 0) (bkOf L 1) = some (bkOf A 1, x, bkOf B 1) := leastF_iff.2 (least_filter h)
  refine ⟨?_, ?_⟩
  · rw [learnT_same hr h1, bkOf_append, bkOf_cons, if_pos hs]
  · obtain ⟨e, _⟩ := h
    apply bks_ext
    · rfl
    · show bkOf _ 2 = bkOf L 2
      rw [bkOf_set hx hs, if_neg (by decide), ← e]
    · show bkOf _ 3 = bkOf L 3
      rw [bkOf_set hx hs, if_neg (by decide), ← e]
theorem bks_snoc {L : List Slt} {s : Slt} (hs : s.bank = 1) : bks (L ++ [s]) = { bks L with c := bkOf L 1 ++ [s] } := by
  apply bks_ext
  · show bkOf _ 1 = _
    rw [bkOf_append, bkOf_cons, if_pos hs]; rfl
  · show bkOf _ 2 = bkOf L 2
    rw [bkOf_append, bkOf_cons, if_neg (by omega), bkOf_nil, List.append_nil]
  · show bkOf _ 3 = bkOf L 3
    rw [bkOf_append, bkOf_cons, if_neg (by omega), bkOf_nil, List.append_nil]
theorem no_same_L {L : List Slt} {s : Slt} (h : ∀ y ∈ L, y.bank = 1 → sameC s y = false) : leastF (sameC s) (fun _ => 0) (bkOf L 1) = none :=
  leastF_none.2 fun y hy => h y (bkOf_mem.1 hy).1 (bkOf_mem.1 hy).2
theorem learn_full_L {room : Nat} {L A B : List Slt} {s x : Slt} (hr : room ≠ 0) (hs : s.bank = 1) (hn : ∀ y ∈ L, y.bank = 1 → sameC s y = false) (hf : (bkOf L 1).length = room) (h : LeastAt (fun y => (y.bank == 1)) (·.used) L A x B) :
    learnT room (bkOf L 1) s = (bkOf (A ++ B ++ [s]) 1, x, true, 0) ∧ bks (A ++ B ++ [s]) = { bks L with c := bkOf (A ++ B ++ [s]) 1 } := by
  have hx : x.bank = 1 := by have := h.2.1; simpa using this
  have h0 : LeastAt (fun y => (y.bank == 1) && true) (·.used) L A x B := by simpa using h
  have h1 : leastF (fun _ => true) (·.used) (bkOf L 1) = some (bkOf A 1, x, bkOf B 1) := leastF_iff.2 (least_filter (m := fun _ => true) h0)
  obtain ⟨e, _⟩ := h
  refine ⟨?_, ?_⟩
  · rw [learnT_full hr (no_same_L hn) hf h1, bkOf_append, bkOf_append, bkOf_cons, if_pos hs]; rfl
  · apply bks_ext
    · rfl
    · show bkOf _ 2 = bkOf L 2
      rw [e, bkOf_append, bkOf_append, bkOf_cons, if_neg (by omega), bkOf_nil, List.append_nil, bkOf_append, bkOf_cons, if_neg (by omega)]
    · show bkOf _ 3 = bkOf L 3
      rw [e, bkOf_append, bkOf_append, bkOf_cons, if_neg (by omega), bkOf_nil, List.append_nil, bkOf_append, bkOf_cons, if_neg (by omega)]
theorem learn_more_L {room : Nat} {L : List Slt} {s : Slt} (hr : room ≠ 0) (hs : s.bank = 1) (hn : ∀ y ∈ L, y.bank = 1 → sameC s y = false) (hf : (bkOf L 1).length ≠ room) :
    learnT room (bkOf L 1) s = (bkOf (L ++ [s]) 1, zeroS, false, 0) ∧ bks (L ++ [s]) = { bks L with c := bkOf (L ++ [s]) 1 } := by
  refine ⟨?_, ?_⟩
  · rw [learnT_more hr (no_same_L hn) hf, bkOf_append, bkOf_cons, if_pos hs]; rfl
  · rw [bks_snoc hs]
    rw [bkOf_append, bkOf_cons, if_pos hs]; rfl
theorem lay_more_L {L : List Slt} {s : Slt} {n : Int} (hs : s.bank = n) (q : Int) : bkOf (L ++ [s]) q = if q = n then bkOf L q ++ [s] else bkOf L q := by
  rw [bkOf_append, bkOf_cons]
  by_cases h : q = n
  · rw [if_pos h, if_pos (by omega)]; rfl
  · rw [if_neg h, if_neg (by omega), bkOf_nil, List.append_nil]

/-- What the reference looks for in a bank. -/
def inB (b : Int) (mt : Slt → Bool) (y : Slt) : Bool := (y.bank == b) && mt y
theorem found_bank {L : List Slt} {b : Int} {mt : Slt → Bool} {k : Slt → Int} : leastF mt k (bkOf L b) = (leastF (inB b mt) k L).map fun r => (bkOf r.1 b, r.2.1, bkOf r.2.2 b) := leastF_filter L fun x => x.bank == b
/-- The place that is found in the one list, and the slot that the banks tell. -/
def PlaceL (L : List Slt) (mt : Slt → Bool) (c : Int) : Prop :=
  (c = -1 ∧ findT (bks L) mt = none) ∨ ∃ (i b : Nat) (x : Slt), c = (i : Int) ∧ i < L.length ∧ L[i]? = some x ∧ x.bank = (b : Int) ∧ (b = 1 ∨ b = 2 ∨ b = 3) ∧ mt x = true ∧ findT (bks L) mt = some (b, bkOf (L.take i) b, x, bkOf (L.drop (i + 1)) b)
theorem place_1 {L : List Slt} {mt : Slt → Bool} {c : Int} (h : FoundTo (inB 1 mt) (fun _ => 0) L L.length c) (hc : 0 ≤ c) : PlaceL L mt c := by
  rcases found_all h with ⟨e, _⟩ | ⟨i, x, e, hi, hx, hl⟩
  · omega
  · have h1 := leastF_some hl
    have h2 := h1.2.1
    unfold inB at h2
    simp only [Bool.and_eq_true, beq_iff_eq] at h2
    refine .inr ⟨i, 1, x, e, hi, hx, h2.1, .inl rfl, h2.2, ?_⟩
    unfold findT
    rw [show (bks L).c = bkOf L 1 from rfl, found_bank, hl]
    rfl
theorem place_2 {L : List Slt} {mt : Slt → Bool} {c : Int} (h0 : FoundTo (inB 1 mt) (fun _ => 0) L L.length (-1)) (h : FoundTo (inB 2 mt) (·.order) L L.length c) (hc : 0 ≤ c) : PlaceL L mt c := by
  rcases found_all h0 with ⟨_, e0⟩ | ⟨i, x, e, _⟩
  · rcases found_all h with ⟨e, _⟩ | ⟨i, x, e, hi, hx, hl⟩
    · omega
    · have h1 := leastF_some hl
      have h2 := h1.2.1
      unfold inB at h2
      simp only [Bool.and_eq_true, beq_iff_eq] at h2
      refine .inr ⟨i, 2, x, e, hi, hx, h2.1, .inr (.inl rfl), h2.2, ?_⟩
      unfold findT
      rw [show (bks L).c = bkOf L 1 from rfl, found_bank, e0, show (bks L).a = bkOf L 2 from rfl, found_bank, hl]
      rfl
  · omega
theorem place_3 {L : List Slt} {mt : Slt → Bool} {c : Int} (h0 : FoundTo (inB 1 mt) (fun _ => 0) L L.length (-1)) (h1 : FoundTo (inB 2 mt) (·.order) L L.length (-1)) (h : FoundTo (inB 3 mt) (·.order) L L.length c) : PlaceL L mt c := by
  rcases found_all h0 with ⟨_, e0⟩ | ⟨i, x, e, _⟩
  · rcases found_all h1 with ⟨_, e1⟩ | ⟨i, x, e, _⟩
    · rcases found_all h with ⟨e, e2⟩ | ⟨i, x, e, hi, hx, hl⟩
      · refine .inl ⟨e, ?_⟩
        unfold findT
        rw [show (bks L).c = bkOf L 1 from rfl, found_bank, e0, show (bks L).a = bkOf L 2 from rfl, found_bank, e1, show (bks L).p = bkOf L 3 from rfl, found_bank, e2]
        rfl
      · have h4 := leastF_some hl
        have h2 := h4.2.1
        unfold inB at h2
        simp only [Bool.and_eq_true, beq_iff_eq] at h2
        refine .inr ⟨i, 3, x, e, hi, hx, h2.1, .inr (.inr rfl), h2.2, ?_⟩
        unfold findT
        rw [show (bks L).c = bkOf L 1 from rfl, found_bank, e0, show (bks L).a = bkOf L 2 from rfl, found_bank, e1, show (bks L).p = bkOf L 3 from rfl, found_bank, hl]
        rfl
    · omega
  · omega
theorem place_peek {L : List Slt} {mt : Slt → Bool} {c : Int} (h : PlaceL L mt c) : (c = -1 ∧ peekT (bks L) mt = (zeroS, false)) ∨ ∃ (i : Nat) (x : Slt), c = (i : Int) ∧ L[i]? = some x ∧ peekT (bks L) mt = (x, true) := by
  rcases h with ⟨e, h⟩ | ⟨i, b, x, e, hi, hx, _, _, _, h⟩
  · exact .inl ⟨e, by unfold peekT; rw [h]⟩
  · exact .inr ⟨i, x, e, hx, by unfold peekT; rw [h]⟩
theorem place_look {L : List Slt} {mt : Slt → Bool} {c : Int} (now : Int) (h : PlaceL L mt c) : (c = -1 ∧ lookT (bks L) mt now = (bks L, zeroS, false)) ∨ ∃ (i b : Nat) (x : Slt), c = (i : Int) ∧ L[i]? = some x ∧ x.bank = (b : Int) ∧ lookT (bks L) mt now = (bks (L.set i (usedS now b x)), usedS now b x, true) := by
  rcases h with ⟨e, h⟩ | ⟨i, b, x, e, hi, hx, hb, hb3, _, h⟩
  · exact .inl ⟨e, by unfold lookT; rw [h]⟩
  · refine .inr ⟨i, b, x, e, hx, hb, ?_⟩
    unfold lookT
    rw [h]
    simp only
    congr 1
    have hL : L = L.take i ++ x :: L.drop (i + 1) := by
      have e1 := (List.getElem?_eq_some_iff.1 hx).2
      rw [← e1, List.getElem_cons_drop, List.take_append_drop]
    have hu : (usedS now b x).bank = (b : Int) := hb
    have key : ∀ q : Int, bkOf (L.set i (usedS now b x)) q = if q = (b : Int) then bkOf (L.take i) q ++ usedS now b x :: bkOf (L.drop (i + 1)) q else bkOf L q := fun q => by
      rw [set_split _ hi, bkOf_set hb hu q]
      by_cases hq : q = (b : Int)
      · rw [if_pos hq, if_pos hq]
      · rw [if_neg hq, if_neg hq, ← hL]
    unfold putB
    rcases hb3 with rfl | rfl | rfl
    · rw [if_pos rfl]
      apply bks_ext
      · exact ((key 1).trans (if_pos rfl)).symm
      · exact ((key 2).trans (if_neg (by decide))).symm
      · exact ((key 3).trans (if_neg (by decide))).symm
    · rw [if_neg (by decide), if_pos rfl]
      apply bks_ext
      · exact ((key 1).trans (if_neg (by decide))).symm
      · exact ((key 2).trans (if_pos rfl)).symm
      · exact ((key 3).trans (if_neg (by decide))).symm
    · rw [if_neg (by decide), if_neg (by decide)]
      apply bks_ext
      · exact ((key 1).trans (if_neg (by decide))).symm
      · exact ((key 2).trans (if_neg (by decide))).symm
      · exact ((key 3).trans (if_pos rfl)).symm

/-! Keep, Tick -/
def keptE (a b : Int) (x : Slt) : Bool := (x.epoch == a) || (x.epoch == b)
def keepT (S : Bks) (a b : Int) : Bks := ⟨S.c.filter (keptE a b), S.a.filter (keptE a b), S.p.filter (keptE a b)⟩
def sizeT (S : Bks) : Nat := S.c.length + S.a.length + S.p.length
theorem bkOf_filter (L : List Slt) (q : Slt → Bool) (n : Int) : bkOf (L.filter q) n = (bkOf L n).filter q := by
  unfold bkOf
  rw [List.filter_filter, List.filter_filter]
  congr 1
  funext x
  exact Bool.and_comm _ _
theorem keep_L (L : List Slt) (a b : Int) : bks (L.filter (keptE a b)) = keepT (bks L) a b := by
  apply bks_ext <;> exact bkOf_filter _ _ _
def InBanks (L : List Slt) : Prop := ∀ x ∈ L, x.bank = 1 ∨ x.bank = 2 ∨ x.bank = 3
theorem size_L : ∀ (L : List Slt), InBanks L → L.length = sizeT (bks L)
  | [], _ => rfl
  | x :: L, h => by
    have h1 := size_L L fun y hy => h y (List.mem_cons_of_mem _ hy)
    unfold sizeT bks at h1 ⊢
    simp only [bkOf_cons, List.length_cons]
    simp only at h1
    rcases h x (by simp) with e | e | e
    · rw [if_pos e, if_neg (by omega), if_neg (by omega)]; simp only [List.length_cons]; omega
    · rw [if_neg (by omega), if_pos e, if_neg (by omega)]; simp only [List.length_cons]; omega
    · rw [if_neg (by omega), if_neg (by omega), if_pos e]; simp only [List.length_cons]; omega
/-- Too old. -/
def oldS (idle hard now : Int) (x : Slt) : Bool := (decide (idle ≠ 0) && decide (idle ≤ timeT now - x.used)) || (decide (hard ≠ 0) && decide (hard ≤ timeT now - x.born))
def tickT (idle hard now : Int) (S : Bks) : Bks × List Slt := ({ S with c := S.c.filter fun x => !(oldS idle hard now x) }, S.c.filter (oldS idle hard now))
theorem tick_L (idle hard now : Int) (L : List Slt) : tickT idle hard now (bks L) = (bks (L.filter fun x => !((x.bank == 1) && oldS idle hard now x)), L.filter fun x => (x.bank == 1) && oldS idle hard now x) := by
  unfold tickT
  have e1 : bkOf (L.filter fun x => !((x.bank == 1) && oldS idle hard now x)) 1 = (bkOf L 1).filter fun x => !(oldS idle hard now x) := by
    unfold bkOf
    rw [List.filter_filter, List.filter_filter]
    congr 1
    funext x
    cases x.bank == 1 <;> simp
  have e2 : ∀ n : Int, n ≠ 1 → bkOf (L.filter fun x => !((x.bank == 1) && oldS idle hard now x)) n = bkOf L n := fun n hn => by
    unfold bkOf
    rw [List.filter_filter]
    congr 1
    funext x
    by_cases h : x.bank = n
    · simp [h]
      left; omega
    · simp [h]
  congr 1
  · apply bks_ext
    · exact e1.symm
    · exact (e2 2 (by decide)).symm
    · exact (e2 3 (by decide)).symm
  · show (bkOf L 1).filter _ = _
    unfold bkOf
    rw [List.filter_filter]
    congr 1
    funext x
    exact Bool.and_comm _ _
end Go.Proofs.Ytojhckjdkafpmaa
namespace Go.Proofs.Ytojhckjdkafpmaa

/-! Rules: by rising order, those of one order as they came: one such list. -/
theorem sorted_one {α : Type} {p : α → Int} : ∀ {l l' : List α}, Desc p l → Desc p l' → Alike p l l' → l = l'
  | [], [], _, _, _ => rfl
  | [], y :: l', _, _, h => by have := h (p y); simp at this
  | x :: l, [], _, _, h => by have := h (p x); simp at this
  | x :: l, y :: l', h1, h2, h => by
    unfold Desc at h1 h2
    rw [List.pairwise_cons] at h1 h2
    have hxy : p x = p y := by
      have m1 : x ∈ (y :: l').filter (fun z => p z == p x) := by rw [← h (p x)]; simp
      have m2 : y ∈ (x :: l).filter (fun z => p z == p y) := by rw [h (p y)]; simp
      have n1 : p x ≤ p y := by
        rcases List.mem_cons.1 (List.mem_filter.1 m1).1 with e | e
        · rw [e]; exact Int.le_refl _
        · exact h2.1 x e
      have n2 : p y ≤ p x := by
        rcases List.mem_cons.1 (List.mem_filter.1 m2).1 with e | e
        · rw [e]; exact Int.le_refl _
        · exact h1.1 y e
      omega
    have hx := h (p x)
    rw [List.filter_cons, List.filter_cons, if_pos (by simp), if_pos (by simp [hxy])] at hx
    obtain ⟨rfl, ht⟩ := List.cons.inj hx
    rw [sorted_one h1.2 h2.2 fun k => ?_]
    by_cases hk : p x = k
    · subst hk; exact ht
    · have := h k
      rwa [List.filter_cons, List.filter_cons, if_neg (by simpa using hk), if_neg (by simpa using hk)] at this
def ordK (x : Slt) : Int := -x.order
/-- One more is put in its place. -/
theorem sorted_insert {A B : List Slt} {x : Slt} (h : Desc ordK (A ++ B)) (hA : ∀ y ∈ A, y.order ≤ x.order) (hB : ∀ y ∈ B, x.order < y.order) : Desc ordK (A ++ x :: B) ∧ Alike ordK (A ++ x :: B) ((A ++ B) ++ [x]) := by
  constructor
  · unfold Desc at h ⊢
    rw [List.pairwise_append] at h ⊢
    refine ⟨h.1, List.pairwise_cons.2 ⟨fun y hy => by have := hB y hy; unfold ordK; omega, h.2.1⟩, fun a ha b hb => ?_⟩
    rcases List.mem_cons.1 hb with rfl | hb
    · have := hA a ha; unfold ordK; omega
    · exact h.2.2 a ha b hb
  · intro k
    rw [List.filter_append, List.filter_cons, List.filter_append, List.filter_append, List.filter_cons]
    by_cases hk : ordK x = k
    · have e : B.filter (fun z => ordK z == k) = [] := by
        rw [List.filter_eq_nil_iff]
        intro y hy
        have := hB y hy
        unfold ordK at hk ⊢
        simp
        omega
      rw [if_pos (by simpa using hk), if_pos (by simpa using hk), e]
      simp
    · rw [if_neg (by simpa using hk), if_neg (by simpa using hk)]
      simp

/-! What calls do, and what stays. -/
structure ActM where
  kind : Int
  now : Int
  slot : Slt
  head : List Int
section
variable (cn : Cub → Cub) (hs : Cub → List Int → Bool)
def mtS (e : Int) (h : List Int) (x : Slt) : Bool := (x.epoch == e) && hs x.cube h
def stepT (R : Rm) (S : Bks) (x : ActM) : Bks :=
  if x.kind = 1 then { S with c := (learnT R.cache S.c (newC x.now x.slot.epoch (cn x.slot.cube) x.slot.action)).1 }
  else if x.kind = 2 then
    if x.slot.bank = 2 then { S with a := (layT R.auth S.a x.slot (cn x.slot.cube)).1 }
    else if x.slot.bank = 3 then { S with p := (layT R.part S.p x.slot (cn x.slot.cube)).1 }
    else S
  else if x.kind = 3 then (lookT S (mtS hs x.slot.epoch x.head) x.now).1
  else if x.kind = 6 then keepT S x.slot.epoch x.slot.place
  else if x.kind = 7 then (tickT R.idle R.hard x.now S).1
  else S
/-- What holds of each slot behind n calls. -/
def OkS (Q : Cub → Prop) (n : Nat) (b : Int) (x : Slt) : Prop := x.bank = b ∧ 0 ≤ x.count ∧ x.count ≤ (n : Int) ∧ 0 ≤ x.used ∧ x.used ≤ MAXT ∧ 0 ≤ x.born ∧ x.born ≤ MAXT ∧ Q x.cube
structure InvT (Q : Cub → Prop) (n : Nat) (R : Rm) (S : Bks) : Prop where
  lc : S.c.length ≤ R.cache
  la : S.a.length ≤ R.auth
  lp : S.p.length ≤ R.part
  c : ∀ x ∈ S.c, OkS Q n 1 x
  a : ∀ x ∈ S.a, OkS Q n 2 x
  p : ∀ x ∈ S.p, OkS Q n 3 x
variable {cn hs} {Q : Cub → Prop}
theorem OkS.more {n : Nat} {b : Int} {x : Slt} (h : OkS Q n b x) : OkS Q (n + 1) b x := by
  obtain ⟨h1, h2, h3, h4⟩ := h
  exact ⟨h1, h2, by omega, h4⟩
theorem newC_ok (n : Nat) (now e : Int) (cu : Cub) (ac : Int) (h : Q cu) : OkS Q n 1 (newC now e cu ac) := by
  have := timeT_in now
  exact ⟨rfl, Int.le_refl _, by simp [newC], this.1, this.2, this.1, this.2, h⟩
theorem laidS_ok (n : Nat) (s : Slt) (cu : Cub) (h : Q cu) : OkS Q n s.bank (laidS s cu) :=
  ⟨rfl, Int.le_refl _, by simp [laidS], Int.le_refl _, by simp [laidS, MAXT], Int.le_refl _, by simp [laidS, MAXT], h⟩
theorem usedS_ok {n : Nat} {q : Int} (now : Int) (b : Nat) {x : Slt} (h : OkS Q n q x) : OkS Q (n + 1) q (usedS now b x) := by
  obtain ⟨h1, h2, h3, h4, h5, h6⟩ := h
  have ht := timeT_in now
  refine ⟨h1, ?_, ?_, ?_, ?_, h6⟩
  · show 0 ≤ (if x.count < MAXT then x.count + 1 else x.count)
    split <;> omega
  · show (if x.count < MAXT then x.count + 1 else x.count) ≤ _
    split <;> omega
  · show 0 ≤ (if b = 1 then timeT now else x.used)
    split <;> omega
  · show (if b = 1 then timeT now else x.used) ≤ _
    split <;> omega
theorem mid_all {P : Slt → Prop} {C A B : List Slt} {x x' : Slt} (h : C = A ++ x :: B) (hC : ∀ y ∈ C, P y) (hx : P x → P x') : ∀ y ∈ A ++ x' :: B, P y := by
  subst h
  intro y hy
  rcases List.mem_append.1 hy with h1 | h1
  · exact hC y (by simp [h1])
  · rcases List.mem_cons.1 h1 with rfl | h1
    · exact hx (hC x (by simp))
    · exact hC y (by simp [h1])
theorem mid_used {n : Nat} {q : Int} {now : Int} {b : Nat} {C A B : List Slt} {x : Slt} (h : C = A ++ x :: B) (hC : ∀ y ∈ C, OkS Q n q y) : (∀ y ∈ A ++ usedS now b x :: B, OkS Q (n + 1) q y) ∧ (A ++ usedS now b x :: B).length = C.length := by
  refine ⟨?_, by rw [h]; simp⟩
  subst h
  intro y hy
  rcases List.mem_append.1 hy with h1 | h1
  · exact (hC y (by simp [h1])).more
  · rcases List.mem_cons.1 h1 with rfl | h1
    · exact usedS_ok now b (hC x (by simp))
    · exact (hC y (by simp [h1])).more
theorem InvT.more {n : Nat} {R : Rm} {S : Bks} (h : InvT Q n R S) : InvT Q (n + 1) R S :=
  ⟨h.lc, h.la, h.lp, fun x hx => (h.c x hx).more, fun x hx => (h.a x hx).more, fun x hx => (h.p x hx).more⟩
theorem inv_look {n : Nat} {R : Rm} {S : Bks} (h : InvT Q n R S) (mt : Slt → Bool) (now : Int) : InvT Q (n + 1) R (lookT S mt now).1 := by
  have hm := h.more
  rcases findT_cases S mt with ⟨A, x, B, ⟨h1, _⟩, e⟩ | ⟨_, A, x, B, ⟨h1, _⟩, e⟩ | ⟨_, _, A, x, B, ⟨h1, _⟩, e⟩ | ⟨_, _, _, e⟩
  · unfold lookT
    rw [e]
    simp only [putB, if_true]
    obtain ⟨q1, q2⟩ := mid_used (now := now) (b := 1) h1 h.c
    exact ⟨by show _ ≤ _; rw [q2]; exact h.lc, hm.la, hm.lp, q1, hm.a, hm.p⟩
  · unfold lookT
    rw [e]
    simp only [putB, show ¬ (2 : Nat) = 1 by decide, if_false, if_true]
    obtain ⟨q1, q2⟩ := mid_used (now := now) (b := 2) h1 h.a
    exact ⟨hm.lc, by show _ ≤ _; rw [q2]; exact h.la, hm.lp, hm.c, q1, hm.p⟩
  · unfold lookT
    rw [e]
    simp only [putB, show ¬ (3 : Nat) = 1 by decide, show ¬ (3 : Nat) = 2 by decide, if_false]
    obtain ⟨q1, q2⟩ := mid_used (now := now) (b := 3) h1 h.p
    exact ⟨hm.lc, hm.la, by show _ ≤ _; rw [q2]; exact h.lp, hm.c, hm.a, q1⟩
  · unfold lookT
    rw [e]
    exact hm
theorem inv_step {n : Nat} {R : Rm} {S : Bks} (h : InvT Q n R S) (x : ActM) (hq : Q (cn x.slot.cube)) : InvT Q (n + 1) R (stepT cn hs R S x) := by
  have hm := h.more
  unfold stepT
  by_cases h1 : x.kind = 1
  · rw [if_pos h1]
    exact ⟨learnT_len _ _ _ h.lc, hm.la, hm.lp, learnT_all _ _ _ hm.c (newC_ok _ _ _ _ _ hq), hm.a, hm.p⟩
  rw [if_neg h1]
  by_cases h2 : x.kind = 2
  · rw [if_pos h2]
    by_cases b2 : x.slot.bank = 2
    · rw [if_pos b2]
      exact ⟨hm.lc, layT_len _ _ _ _ h.la, hm.lp, hm.c, layT_all _ _ _ _ hm.a (by have := laidS_ok (Q := Q) (n + 1) x.slot _ hq; rwa [b2] at this), hm.p⟩
    rw [if_neg b2]
    by_cases b3 : x.slot.bank = 3
    · rw [if_pos b3]
      exact ⟨hm.lc, hm.la, layT_len _ _ _ _ h.lp, hm.c, hm.a, layT_all _ _ _ _ hm.p (by have := laidS_ok (Q := Q) (n + 1) x.slot _ hq; rwa [b3] at this)⟩
    rw [if_neg b3]
    exact hm
  rw [if_neg h2]
  by_cases h3 : x.kind = 3
  · rw [if_pos h3]; exact inv_look h _ _
  rw [if_neg h3]
  by_cases h6 : x.kind = 6
  · rw [if_pos h6]
    exact ⟨Nat.le_trans (List.length_filter_le _ _) h.lc, Nat.le_trans (List.length_filter_le _ _) h.la, Nat.le_trans (List.length_filter_le _ _) h.lp, fun y hy => hm.c y (List.mem_filter.1 hy).1, fun y hy => hm.a y (List.mem_filter.1 hy).1, fun y hy => hm.p y (List.mem_filter.1 hy).1⟩
  rw [if_neg h6]
  by_cases h7 : x.kind = 7
  · rw [if_pos h7]
    exact ⟨Nat.le_trans (List.length_filter_le _ _) h.lc, hm.la, hm.lp, fun y hy => hm.c y (List.mem_filter.1 hy).1, hm.a, hm.p⟩
  rw [if_neg h7]
  exact hm
theorem inv_nil (Q : Cub → Prop) (R : Rm) : InvT Q 0 R ⟨[], [], []⟩ := ⟨Nat.zero_le _, Nat.zero_le _, Nat.zero_le _, fun x hx => by simp at hx, fun x hx => by simp at hx, fun x hx => by simp at hx⟩

/-! What the statements ask. -/
/-- Banks are asked in order. -/
theorem peek_bank1 {S : Bks} {mt : Slt → Bool} {y : Slt} (hy : y ∈ S.c) (hm : mt y = true) : ∃ x, peekT S mt = (x, true) ∧ x ∈ S.c ∧ mt x = true := by
  rcases findT_cases S mt with ⟨A, x, B, h, e⟩ | ⟨h0, _⟩ | ⟨h0, _⟩ | ⟨h0, _⟩
  · exact ⟨x, by unfold peekT; rw [e], by rw [h.1]; simp, h.2.1⟩
  all_goals (have := h0 y hy; rw [hm] at this; cases this)
theorem least_mem {m : Slt → Bool} {k : Slt → Int} {C A B : List Slt} {x y : Slt} (h : LeastAt m k C A x B) (hy : y ∈ C) (hm : m y = true) : k x ≤ k y := by
  obtain ⟨e, _, h3, h4⟩ := h
  rw [e] at hy
  rcases List.mem_append.1 hy with h1 | h1
  · have := h3 y h1 hm; omega
  · rcases List.mem_cons.1 h1 with rfl | h1
    · exact Int.le_refl _
    · exact h4 y h1 hm
theorem peek_bank2 {S : Bks} {mt : Slt → Bool} {y : Slt} (h0 : ∀ z ∈ S.c, mt z = false) (hy : y ∈ S.a) (hm : mt y = true) : ∃ x, peekT S mt = (x, true) ∧ x ∈ S.a ∧ mt x = true ∧ x.order ≤ y.order := by
  rcases findT_cases S mt with ⟨A, x, B, h, e⟩ | ⟨_, A, x, B, h, e⟩ | ⟨_, h1, _⟩ | ⟨_, h1, _⟩
  · have := h0 x (by rw [h.1]; simp)
    rw [h.2.1] at this; cases this
  · exact ⟨x, by unfold peekT; rw [e], by rw [h.1]; simp, h.2.1, least_mem h hy hm⟩
  all_goals (have := h1 y hy; rw [hm] at this; cases this)
theorem peek_bank3 {S : Bks} {mt : Slt → Bool} {y : Slt} (h0 : ∀ z ∈ S.c, mt z = false) (h1 : ∀ z ∈ S.a, mt z = false) (hy : y ∈ S.p) (hm : mt y = true) : ∃ x, peekT S mt = (x, true) ∧ x ∈ S.p ∧ mt x = true ∧ x.order ≤ y.order := by
  rcases findT_cases S mt with ⟨A, x, B, h, e⟩ | ⟨_, A, x, B, h, e⟩ | ⟨_, _, A, x, B, h, e⟩ | ⟨_, _, h2, _⟩
  · have := h0 x (by rw [h.1]; simp)
    rw [h.2.1] at this; cases this
  · have := h1 x (by rw [h.1]; simp)
    rw [h.2.1] at this; cases this
  · exact ⟨x, by unfold peekT; rw [e], by rw [h.1]; simp, h.2.1, least_mem h hy hm⟩
  · have := h2 y hy; rw [hm] at this; cases this
theorem peek_none {S : Bks} {mt : Slt → Bool} (h0 : ∀ z ∈ S.c, mt z = false) (h1 : ∀ z ∈ S.a, mt z = false) (h2 : ∀ z ∈ S.p, mt z = false) : peekT S mt = (zeroS, false) := by
  rcases findT_cases S mt with ⟨A, x, B, h, e⟩ | ⟨_, A, x, B, h, e⟩ | ⟨_, _, A, x, B, h, e⟩ | ⟨_, _, _, e⟩
  · have := h0 x (by rw [h.1]; simp)
    rw [h.2.1] at this; cases this
  · have := h1 x (by rw [h.1]; simp)
    rw [h.2.1] at this; cases this
  · have := h2 x (by rw [h.1]; simp)
    rw [h.2.1] at this; cases this
  · unfold peekT; rw [e]
/-- A look counts one more. -/
theorem look_counts {n : Nat} {R : Rm} {S : Bks} (hI : InvT Q n R S) (hn : (n : Int) < MAXT) (mt : Slt → Bool) (now : Int) {x : Slt} (h : peekT S mt = (x, true)) : (lookT S mt now).2 = ({ x with count := x.count + 1, used := if x.bank = 1 then timeT now else x.used }, true) := by
  have key : ∀ (b : Nat) (y : Slt), OkS Q n (b : Int) y → (b = 1 ∨ b = 2 ∨ b = 3) → usedS now b y = { y with count := y.count + 1, used := if y.bank = 1 then timeT now else y.used } := fun b y hy hb => by
    have hc : y.count < MAXT := by have := hy.2.2.1; omega
    have e : (y.bank = 1) ↔ b = 1 := by rw [hy.1]; omega
    unfold usedS
    by_cases h1 : b = 1
    · simp only [if_pos hc, if_pos h1, if_pos (e.2 h1)]
    · simp only [if_pos hc, if_neg h1, if_neg (fun h2 => h1 (e.1 h2))]
  unfold peekT at h
  unfold lookT
  rcases findT_cases S mt with ⟨A, y, B, ⟨h1, _⟩, e⟩ | ⟨_, A, y, B, ⟨h1, _⟩, e⟩ | ⟨_, _, A, y, B, ⟨h1, _⟩, e⟩ | ⟨_, _, _, e⟩
  · rw [e] at h ⊢
    obtain rfl : y = x := by simpa using h
    simp only [key 1 y (hI.c y (by rw [h1]; simp)) (.inl rfl)]
  · rw [e] at h ⊢
    obtain rfl : y = x := by simpa using h
    simp only [key 2 y (hI.a y (by rw [h1]; simp)) (.inr (.inl rfl))]
  · rw [e] at h ⊢
    obtain rfl : y = x := by simpa using h
    simp only [key 3 y (hI.p y (by rw [h1]; simp)) (.inr (.inr rfl))]
  · rw [e] at h
    simp at h
end
end Go.Proofs.Ytojhckjdkafpmaa
