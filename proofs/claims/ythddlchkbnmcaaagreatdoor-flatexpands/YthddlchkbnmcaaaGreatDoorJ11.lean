import Derived.Test.YthddlchkbnmcaaaGreatDoorJ7
namespace Go.Proofs.YthddlchkbnmcaaaGreatDoor
open Go
set_option maxRecDepth 20000

/-- What a check comes to, as an error and its place. -/
def fltR : ResI Unit → Int × Int
  | .ok _ => (0, 0)
  | .error x => ((x.1 : Int), x.2)
/-- The least number at a place of a clause, as the program has it. -/
def lowN (c : Cla) (i : Nat) : Int := if isPortW c.word && decide (0 < i) then nth c 0 else 0
def numF (c : Cla) : Nat → List Fig → Int × Int
  | _, [] => (0, 0)
  | i, x :: l => if decide (x.n < lowN c i) || decide (mostN c.word i < x.n) then (10, x.pos) else numF c (i + 1) l
theorem numF_other (c : Cla) (hp : isPortW c.word = false) (first : Int) : ∀ (l : List Fig) (k : Nat), numF c k l = fltR (faultN c first k l)
  | [], _ => rfl
  | x :: l, k => by
    rw [numF, faultN]
    have e : lowN c k = 0 := by unfold lowN; rw [hp]; rfl
    rw [e, hp]
    simp only [Bool.and_false, Bool.false_and, Bool.or_false]
    split
    · rfl
    · exact numF_other c hp first l (k + 1)
theorem mustN_port {c : Cla} (hp : isPortW c.word = true) : mustN c = if c.dash then 2 else 1 := by
  unfold mustN
  rw [portW_not hp, hp]
  simp
theorem numF_all (c : Cla) (hl : c.nums.length = mustN c) : numF c 0 c.nums = fltR (faultN c (nth c 0) 0 c.nums) := by
  cases hp : isPortW c.word with
  | false => exact numF_other c hp _ _ _
  | true =>
    rw [mustN_port hp] at hl
    cases hd : c.dash with
    | false =>
      rw [hd] at hl
      obtain ⟨a, ha⟩ : ∃ a, c.nums = [a] := by
        match h : c.nums, hl with
        | [a], _ => exact ⟨a, rfl⟩
      rw [ha]
      simp only [numF, faultN, lowN, hp, hd, Bool.false_and, Bool.or_false, Bool.true_and]
      simp only [Nat.lt_irrefl, decide_false, Bool.false_eq_true, if_false]
      split <;> rfl
    | true =>
      rw [hd] at hl
      obtain ⟨a, b, ha⟩ : ∃ a b, c.nums = [a, b] := by
        match h : c.nums, hl with
        | [a, b], _ => exact ⟨a, b, rfl⟩
      have hn : nth c 0 = a.n := by unfold nth; rw [ha]; rfl
      have hm : ∀ k, mostN c.word k = 65535 := fun k => by unfold mostN; rw [hp]; rfl
      rw [ha]
      simp only [numF, faultN, lowN, hp, hd, hn, hm, Bool.true_and, Nat.zero_add]
      simp only [Nat.lt_irrefl, decide_false, Bool.false_eq_true, if_false, if_true, Nat.lt_add_one, decide_true, show ((0 : Nat) == 1) = false from rfl, show ((1 : Nat) == 1) = true from rfl, Bool.false_and, Bool.or_false, Bool.true_and]
      by_cases h1 : a.n < 0
      · simp [h1, fltR]
      · by_cases h2 : 65535 < a.n
        · simp [h2, fltR]
        · by_cases h3 : b.n < a.n
          · have h4 : (decide (b.n < 0) || decide (65535 < b.n) || true) = true := by simp
            simp [h1, h2, h3, fltR]
          · have h5 : ¬ b.n < 0 := by omega
            by_cases h6 : 65535 < b.n <;> simp [h1, h2, h3, h5, h6, fltR]

/-- What is wrong with a clause first, as the program asks. -/
def claF (had : List Cla) (c : Cla) : Int × Int :=
  if mustN c == 0 || c.nums.length != mustN c then (8, c.pos) else if had.any (fun d => d.word == c.word) then (9, c.pos) else numF c 0 c.nums
theorem claF_eq (had : List Cla) (c : Cla) : claF had c = fltR (faultC had c) := by
  unfold claF faultC
  split
  · rfl
  · rename_i h
    split
    · rfl
    · simp only [Bool.or_eq_true, beq_iff_eq, bne_iff_ne, ne_eq, not_or, Decidable.not_not] at h
      exact numF_all c h.2
theorem faultN_code (c : Cla) (first : Int) : ∀ (l : List Fig) (k e : Nat) (p : Int), faultN c first k l = .error (e, p) → e = 10
  | [], _, _, _, h => by simp [faultN] at h
  | x :: l, k, e, p, h => by
    rw [faultN] at h
    split at h
    · simp only [Except.error.injEq, Prod.mk.injEq] at h; exact h.1.symm
    · exact faultN_code c first l (k + 1) e p h
theorem faultC_code {had : List Cla} {c : Cla} {e : Nat} {p : Int} (h : faultC had c = .error (e, p)) : e ≠ 0 := by
  unfold faultC at h
  split at h
  · simp only [Except.error.injEq, Prod.mk.injEq] at h; omega
  · split at h
    · simp only [Except.error.injEq, Prod.mk.injEq] at h; omega
    · have := faultN_code _ _ _ _ _ _ h; omega
/-- What is wrong with a line's first k clauses. -/
def ruleF (r : Raw) (k : Nat) : Int × Int := if decide (r.prio.n < 0) || decide (65535 < r.prio.n) then (10, r.prio.pos) else fltR (faultCs [] (r.clauses.take k))
theorem fltR_zero {x : ResI Unit} (hc : ∀ e p, x = .error (e, p) → e ≠ 0) (h : (fltR x).1 = 0) : x = .ok () := by
  cases x with
  | ok u => rfl
  | error y =>
    obtain ⟨e, p⟩ := y
    have := hc e p rfl
    simp [fltR] at h
    exact absurd h this
theorem faultCs_code : ∀ (l had : List Cla) (e : Nat) (p : Int), faultCs had l = .error (e, p) → e ≠ 0
  | [], _, _, _, h => by simp [faultCs] at h
  | c :: l, had, e, p, h => by
    rw [faultCs] at h
    cases hc : faultC had c with
    | error y =>
      obtain ⟨e', p'⟩ := y
      rw [hc] at h
      simp only [Except.bind, Except.error.injEq, Prod.mk.injEq] at h
      have := faultC_code hc
      omega
    | ok u =>
      rw [hc] at h
      exact faultCs_code l _ e p h
theorem ruleF_next {r : Raw} {k : Nat} {c : Cla} (hc : r.clauses[k]? = some c) (h : (ruleF r k).1 = 0) : ruleF r (k + 1) = claF (r.clauses.take k) c := by
  unfold ruleF at h ⊢
  split at h
  · simp at h
  · rename_i hp
    have h1 := fltR_zero (fun e p => faultCs_code _ _ e p) h
    rw [if_neg hp, claF_eq]
    obtain ⟨hk, rfl⟩ := List.getElem?_eq_some_iff.1 hc
    rw [List.take_succ_eq_append_getElem hk, faultCs_append, h1]
    simp only [Except.bind, List.nil_append, faultCs]
    cases faultC (r.clauses.take k) r.clauses[k] <;> rfl
theorem ruleF_stays {r : Raw} {k : Nat} (h : (ruleF r k).1 ≠ 0) : ruleF r r.clauses.length = ruleF r k := by
  unfold ruleF at h ⊢
  split
  · rfl
  · rename_i hp
    rw [if_neg hp] at h
    rw [List.take_length]
    have e : r.clauses = r.clauses.take k ++ r.clauses.drop k := (List.take_append_drop k _).symm
    rw [show faultCs [] r.clauses = faultCs [] (r.clauses.take k ++ r.clauses.drop k) by rw [← e], faultCs_append]
    cases hx : faultCs [] (r.clauses.take k) with
    | error y => rfl
    | ok u => rw [hx] at h; exact absurd rfl h
theorem ruleF_all (r : Raw) : ruleF r r.clauses.length = fltR (faultR r) := by
  unfold ruleF faultR
  rw [List.take_length]
  split <;> rfl
theorem faultR_code {r : Raw} {e : Nat} {p : Int} (h : faultR r = .error (e, p)) : e ≠ 0 := by
  unfold faultR at h
  split at h
  · simp only [Except.error.injEq, Prod.mk.injEq] at h; omega
  · exact faultCs_code _ _ _ _ h
def lineF (r : Raw) : Int × Int := if r.dflt then (0, 0) else fltR (faultR r)
def actF (r : Raw) : Int × Int := if !r.drop && (decide (r.port.n < 1) || decide (99 < r.port.n)) then (10, r.port.pos) else (0, 0)
def orF (a b : Int × Int) : Int × Int := if a.1 = 0 then b else a
/-- What is wrong with line i first. -/
def rowF (i : Nat) (had : Bool) (r : Raw) : Int × Int :=
  orF (if 64 ≤ i then (4, r.pos) else (0, 0)) (orF (if had && r.dflt then (9, r.pos) else (0, 0)) (orF (lineF r) (orF (actF r) (0, 0))))
theorem check_bad (size : Int) (i : Nat) (had : Bool) (r : Raw) (l : List Raw) (h : (rowF i had r).1 ≠ 0) : ∃ e : Nat, checkGo size i had (r :: l) = .error (e, (rowF i had r).2) ∧ (rowF i had r).1 = (e : Int) := by
  rw [checkGo]
  unfold rowF orF at h ⊢
  by_cases h1 : 64 ≤ i
  · rw [if_pos h1]
    exact ⟨4, by simp [h1], by simp [h1]⟩
  · rw [if_neg h1] at h ⊢
    simp only [if_true, h1, if_false] at h ⊢
    by_cases h2 : (had && r.dflt) = true
    · have h2' : (r.dflt && had) = true := by rw [Bool.and_comm]; exact h2
      exact ⟨9, by simp [h2, h2'], by simp [h2]⟩
    · have h2' : (r.dflt && had) = false := by rw [Bool.and_comm]; simpa using h2
      have h2f : (had && r.dflt) = false := by simpa using h2
      rw [h2f] at h ⊢
      simp only [h2', Bool.false_eq_true, if_false, if_true] at h ⊢
      cases hd : r.dflt with
      | true =>
        have hl : lineF r = (0, 0) := by unfold lineF; rw [hd]; rfl
        rw [hl] at h ⊢
        simp only [if_true] at h ⊢
        unfold actF at h ⊢
        by_cases h3 : (!r.drop && (decide (r.port.n < 1) || decide (99 < r.port.n))) = true
        · refine ⟨10, ?_, ?_⟩
          · simp only [h3, Except.bind, if_true]
            simp
          · simp [h3]
        · simp [h3] at h
      | false =>
        have hl : lineF r = fltR (faultR r) := by unfold lineF; rw [hd]; rfl
        rw [hl] at h ⊢
        cases hf : faultR r with
        | error y =>
          obtain ⟨e, p⟩ := y
          have hne := faultR_code hf
          exact ⟨e, by simp [fltR, hne, Except.bind], by simp [fltR, hne]⟩
        | ok u =>
          rw [hf] at h
          simp only [fltR, if_true] at h ⊢
          unfold actF at h ⊢
          by_cases h3 : (!r.drop && (decide (r.port.n < 1) || decide (99 < r.port.n))) = true
          · refine ⟨10, ?_, ?_⟩
            · simp only [h3, Except.bind, if_true]
              simp
            · simp [h3]
          · simp [h3] at h
/-- A line that is right. -/
structure rightR (r : Raw) : Prop where
  rule : r.dflt = false → faultR r = .ok ()
  act : r.drop = false → 1 ≤ r.port.n ∧ r.port.n ≤ 99
theorem check_good (size : Int) (i : Nat) (had : Bool) (r : Raw) (l : List Raw) (h : (rowF i had r).1 = 0) : checkGo size i had (r :: l) = (checkGo size (i + 1) (had || r.dflt) l).map (fun m => meaning r :: m) ∧ rightR r ∧ i < 64 := by
  rw [checkGo]
  unfold rowF orF at h
  by_cases h1 : 64 ≤ i
  · simp [h1] at h
  · simp only [h1, if_false, if_true] at h ⊢
    by_cases h2 : (had && r.dflt) = true
    · simp [h2] at h
    · have h2' : (r.dflt && had) = false := by rw [Bool.and_comm]; simpa using h2
      have h2f : (had && r.dflt) = false := by simpa using h2
      rw [h2f] at h
      simp only [h2', Bool.false_eq_true, if_false, if_true] at h ⊢
      have hline : (lineF r).1 = 0 := by
        by_cases hz : (lineF r).1 = 0
        · exact hz
        · rw [if_neg hz] at h; exact h
      rw [if_pos hline] at h
      have hact : (!r.drop && (decide (r.port.n < 1) || decide (99 < r.port.n))) = false := by
        unfold actF at h
        by_cases h3 : (!r.drop && (decide (r.port.n < 1) || decide (99 < r.port.n))) = true
        · simp [h3] at h
        · simpa using h3
      have hrule : r.dflt = false → faultR r = .ok () := fun hd => by
        unfold lineF at hline
        rw [hd] at hline
        exact fltR_zero (fun e p he => faultR_code he) hline
      refine ⟨?_, ⟨hrule, fun hd => ?_⟩, by omega⟩
      · have e1 : (if r.dflt = true then (.ok () : ResI Unit) else faultR r) = .ok () := by
          cases hd : r.dflt with
          | true => rfl
          | false => exact hrule hd
        rw [e1, hact]
        rfl
      · rw [hd] at hact
        simp at hact
        omega

/-! What a line means, clause by clause. -/
def preC (c : Cla) : Int × Int := (((nth c 0 * 256 + nth c 1) * 256 + nth c 2) * 256 + nth c 3, if c.slash then nth c 4 else 32)
def porC (c : Cla) : Int × Int := (nth c 0, nth c (c.nums.length - 1))
def setC (x : Ent) (c : Cla) : Ent :=
  if c.word = wSrc then { x with src := (preC c).1, srcBits := (preC c).2 }
  else if c.word = wDst then { x with dst := (preC c).1, dstBits := (preC c).2 }
  else if c.word = wSport then { x with slow := (porC c).1, shigh := (porC c).2 }
  else if c.word = wDport then { x with dlow := (porC c).1, dhigh := (porC c).2 }
  else if c.word = wProto then { x with proto := nth c 0 } else x
def ent0 (r : Raw) : Ent := ⟨false, r.prio.n, actOf r, 0, 0, 0, 0, 0, 65535, 0, 65535, -1⟩
def over (x : Ent) (l : List Cla) : Ent :=
  { x with
    src := match findC wSrc l with | none => x.src | some c => (preC c).1
    srcBits := match findC wSrc l with | none => x.srcBits | some c => (preC c).2
    dst := match findC wDst l with | none => x.dst | some c => (preC c).1
    dstBits := match findC wDst l with | none => x.dstBits | some c => (preC c).2
    slow := match findC wSport l with | none => x.slow | some c => (porC c).1
    shigh := match findC wSport l with | none => x.shigh | some c => (porC c).2
    dlow := match findC wDport l with | none => x.dlow | some c => (porC c).1
    dhigh := match findC wDport l with | none => x.dhigh | some c => (porC c).2
    proto := match findC wProto l with | none => x.proto | some c => nth c 0 }
theorem find_cons (w : List UInt8) (c : Cla) (l : List Cla) : findC w (c :: l) = if c.word = w then some c else findC w l := by
  unfold findC
  rw [List.find?_cons]
  by_cases h : c.word = w
  · simp [h]
  · have : (c.word == w) = false := by simpa using h
    simp [this, h]
theorem find_not {w : List UInt8} {c : Cla} {l : List Cla} (h : ∀ d ∈ l, c.word ≠ d.word) (hw : c.word = w) : findC w l = none := by
  unfold findC
  rw [List.find?_eq_none]
  intro d hd
  have := h d hd
  simp
  rw [← hw]
  exact fun e => this e.symm
theorem fold_over : ∀ (l : List Cla), (l.Pairwise fun a b => a.word ≠ b.word) → ∀ x : Ent, l.foldl setC x = over x l
  | [], _, x => rfl
  | c :: l, hp, x => by
    obtain ⟨h1, h2⟩ := List.pairwise_cons.1 hp
    rw [List.foldl_cons, fold_over l h2]
    unfold over
    simp only [find_cons]
    have nn := fun w (hw : c.word = w) => find_not (w := w) h1 hw
    by_cases e1 : c.word = wSrc
    · have := nn _ e1
      simp only [setC, e1, this, show ¬ wSrc = wDst by decide, show ¬ wSrc = wSport by decide, show ¬ wSrc = wDport by decide, show ¬ wSrc = wProto by decide, if_true, if_false]
    by_cases e2 : c.word = wDst
    · have := nn _ e2
      simp only [setC, e2, this, show ¬ wDst = wSrc by decide, show ¬ wDst = wSport by decide, show ¬ wDst = wDport by decide, show ¬ wDst = wProto by decide, if_true, if_false]
    by_cases e3 : c.word = wSport
    · have := nn _ e3
      simp only [setC, e3, this, show ¬ wSport = wSrc by decide, show ¬ wSport = wDst by decide, show ¬ wSport = wDport by decide, show ¬ wSport = wProto by decide, if_true, if_false]
    by_cases e4 : c.word = wDport
    · have := nn _ e4
      simp only [setC, e4, this, show ¬ wDport = wSrc by decide, show ¬ wDport = wSport by decide, show ¬ wDport = wDst by decide, show ¬ wDport = wProto by decide, if_true, if_false]
    by_cases e5 : c.word = wProto
    · have := nn _ e5
      simp only [setC, e5, this, show ¬ wProto = wSrc by decide, show ¬ wProto = wSport by decide, show ¬ wProto = wDst by decide, show ¬ wProto = wDport by decide, if_true, if_false]
    simp only [setC, e1, e2, e3, e4, e5, if_false]
theorem faultCs_apart : ∀ (l had : List Cla), faultCs had l = .ok () → (l.Pairwise fun a b => a.word ≠ b.word) ∧ ∀ d ∈ had, ∀ c ∈ l, d.word ≠ c.word
  | [], _, _ => ⟨List.Pairwise.nil, fun _ _ c hc => by simp at hc⟩
  | c :: l, had, h => by
    rw [faultCs] at h
    obtain ⟨_, h1, h2⟩ := bindI h
    obtain ⟨i1, i2⟩ := faultCs_apart l (had ++ [c]) h2
    have hn : had.any (fun d => d.word == c.word) = false := by
      unfold faultC at h1
      split at h1
      · cases h1
      · split at h1
        · cases h1
        · rename_i hz; simpa using hz
    refine ⟨List.pairwise_cons.2 ⟨fun d hd => i2 c (by simp) d hd, i1⟩, fun d hd e he => ?_⟩
    rcases List.mem_cons.1 he with rfl | he
    · rw [List.any_eq_false] at hn
      have := hn d hd
      simpa using this
    · exact i2 d (by simp [hd]) e he
theorem por_last {c : Cla} (h : goodC c) (hp : isPortW c.word = true) : porC c = (nth c 0, if c.dash then nth c 1 else nth c 0) := by
  unfold porC
  rw [h.2.1, mustN_port hp]
  cases c.dash <;> rfl
theorem mean_fold (r : Raw) (hd : r.dflt = false) (hf : faultR r = .ok ()) : r.clauses.foldl setC (ent0 r) = meaning r := by
  have hcs : faultCs [] r.clauses = .ok () := by
    unfold faultR at hf
    split at hf
    · cases hf
    · exact hf
  have hg := faultCs_in _ _ hcs
  rw [fold_over _ (faultCs_apart _ _ hcs).1]
  unfold meaning over ent0 preOf porOf proOf
  rw [hd]
  have e1 : ∀ c, findC wSport r.clauses = some c → porC c = (nth c 0, if c.dash then nth c 1 else nth c 0) := fun c hc => by
    obtain ⟨h1, h2⟩ := find_in hc
    exact por_last (hg c h1) (by rw [h2]; decide)
  have e2 : ∀ c, findC wDport r.clauses = some c → porC c = (nth c 0, if c.dash then nth c 1 else nth c 0) := fun c hc => by
    obtain ⟨h1, h2⟩ := find_in hc
    exact por_last (hg c h1) (by rw [h2]; decide)
  cases h1 : findC wSrc r.clauses <;> cases h2 : findC wDst r.clauses <;> cases h3 : findC wSport r.clauses <;> cases h4 : findC wDport r.clauses <;> cases h5 : findC wProto r.clauses <;> simp_all [preC]
end Go.Proofs.YthddlchkbnmcaaaGreatDoor
namespace Go.Proofs.YthddlchkbnmcaaaGreatDoor
open Go
set_option maxRecDepth 20000

/-- The best so far with one entry more. -/
def stepB (ap : Ent → Bool) (b : Option (Nat × Int)) (i : Nat) (x : Ent) : Option (Nat × Int) := if !x.dflt && ap x && beats x.prio b then some (i, x.prio) else b
theorem bestGo_snoc (ap : Ent → Bool) (x : Ent) : ∀ (l : List Ent) (i : Nat) (b : Option (Nat × Int)), bestGo ap i b (l ++ [x]) = stepB ap (bestGo ap i b l) (i + l.length) x
  | [], i, b => rfl
  | y :: l, i, b => by
    rw [List.cons_append, bestGo, bestGo, bestGo_snoc ap x l (i + 1)]
    rw [show i + 1 + l.length = i + (y :: l).length by simp; omega]
theorem firstD_snoc (x : Ent) : ∀ (l : List Ent) (i : Nat), firstD i (l ++ [x]) = (firstD i l).or (if x.dflt then some (i + l.length) else none)
  | [], i => by simp [firstD]
  | y :: l, i => by
    rw [List.cons_append, firstD, firstD]
    split
    · rfl
    · rw [firstD_snoc x l (i + 1), show i + 1 + l.length = i + (y :: l).length by simp; omega]
def bestK (ap : Ent → Bool) (l : List Ent) (k : Nat) : Option (Nat × Int) := bestGo ap 0 none (l.take k)
def restK (l : List Ent) (k : Nat) : Option Nat := firstD 0 (l.take k)
theorem bestK_next (ap : Ent → Bool) {l : List Ent} {k : Nat} {x : Ent} (h : l[k]? = some x) : bestK ap l (k + 1) = stepB ap (bestK ap l k) k x := by
  obtain ⟨hk, rfl⟩ := List.getElem?_eq_some_iff.1 h
  unfold bestK
  rw [List.take_succ_eq_append_getElem hk, bestGo_snoc, List.length_take, Nat.min_eq_left (Nat.le_of_lt hk), Nat.zero_add]
theorem restK_next {l : List Ent} {k : Nat} {x : Ent} (h : l[k]? = some x) : restK l (k + 1) = (restK l k).or (if x.dflt then some k else none) := by
  obtain ⟨hk, rfl⟩ := List.getElem?_eq_some_iff.1 h
  unfold restK
  rw [List.take_succ_eq_append_getElem hk, firstD_snoc, List.length_take, Nat.min_eq_left (Nat.le_of_lt hk), Nat.zero_add]
theorem bestK_in (ap : Ent → Bool) {l : List Ent} {k j : Nat} {p : Int} (h : bestK ap l k = some (j, p)) : ∃ x, l[j]? = some x ∧ x.prio = p ∧ x.dflt = false ∧ ap x = true ∧ j < k := by
  unfold bestK at h
  obtain ⟨x, h1, h2, h3, h4⟩ := bestGo_in ap (l.take k) (l.take k) 0 none (fun k => by rw [Nat.zero_add]) (fun j p hjp => by cases hjp) j p h
  have hj : j < k := by
    have := (List.getElem?_eq_some_iff.1 h1).1
    rw [List.length_take] at this
    omega
  rw [List.getElem?_take_of_lt hj] at h1
  exact ⟨x, h1, h2, h3, h4, hj⟩
/-- A place, or -1. -/
def atW : Option Nat → Int
  | none => -1
  | some i => (i : Int)
def bestI (b : Option (Nat × Int)) : Int := atW (b.map (·.1))
def whichI (ap : Ent → Bool) (l : List Ent) : Int := atW (whichT ap l)
theorem whichI_eq (ap : Ent → Bool) (l : List Ent) : whichI ap l = if bestI (bestK ap l l.length) < 0 then atW (restK l l.length) else bestI (bestK ap l l.length) := by
  unfold whichI whichT bestK restK
  rw [List.take_length]
  cases bestGo ap 0 none l with
  | none => rfl
  | some b =>
    obtain ⟨i, p⟩ := b
    rw [if_neg (by show ¬ ((i : Int) < 0); omega)]
    rfl
theorem firstD_lt : ∀ (l : List Ent) (i j : Nat), firstD i l = some j → i ≤ j ∧ ∃ x, l[j - i]? = some x ∧ x.dflt = true
  | [], i, j, h => by simp [firstD] at h
  | y :: l, i, j, h => by
    rw [firstD] at h
    split at h
    · rename_i hy
      obtain rfl := Option.some.inj h
      exact ⟨Nat.le_refl _, y, by rw [Nat.sub_self]; rfl, hy⟩
    · obtain ⟨h1, x, h2, h3⟩ := firstD_lt l (i + 1) j h
      refine ⟨by omega, x, ?_, h3⟩
      rw [show j - i = (j - (i + 1)) + 1 by omega, List.getElem?_cons_succ]
      exact h2
theorem whichT_in {ap : Ent → Bool} {l : List Ent} {i : Nat} (h : whichT ap l = some i) : ∃ x, l[i]? = some x := by
  unfold whichT at h
  cases hb : bestGo ap 0 none l with
  | none =>
    rw [hb] at h
    obtain ⟨_, x, h2, _⟩ := firstD_lt l 0 i h
    exact ⟨x, h2⟩
  | some b =>
    obtain ⟨j, p⟩ := b
    rw [hb] at h
    obtain rfl := Option.some.inj h
    obtain ⟨x, h1, _⟩ := bestGo_in ap l l 0 none (fun k => by rw [Nat.zero_add]) (fun j p hjp => by cases hjp) _ _ hb
    exact ⟨x, h1⟩
/-- What a list says. -/
def saysT (ap : Ent → Bool) (l : List Ent) : Int × Bool := match whichT ap l with
  | none => (0, false)
  | some i => ((l.getD i ⟨false, 0, 0, 0, 0, 0, 0, 0, 0, 0, 0, 0⟩).action, true)
/-! First bits. -/
def clB (n : Int) : Nat := (min (max n 0) 32).toNat
def beginsM (a b n : Int) : Bool := a / 2 ^ (32 - clB n) == b / 2 ^ (32 - clB n)
end Go.Proofs.YthddlchkbnmcaaaGreatDoor
