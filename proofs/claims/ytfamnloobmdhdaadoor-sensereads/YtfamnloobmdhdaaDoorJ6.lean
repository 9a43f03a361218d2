import Derived.Test.YtfamnloobmdhdaaDoorJ5
import Derived.Test.YtfamnloobmdhdaaDoorJ1
import Derived.StillTail
import Derived.Test.YtfamnloobmdhdaaDoorJ3
namespace Go.Proofs.YtfamnloobmdhdaaDoor
open Go
set_option maxRecDepth 20000

/-- What a check comes to, as an error and its place. -/
def fltR : ResI Unit → Int × Int
  | .ok _ => (0, 0)
  | .error x => ((x.1 : Int), x.2)
/-- The least number at a place of a clause, as the program has it. -/
def lowN (c : Cla) (i : Nat) : Int := if isPortW c.word && decide (0 < i) then nth c 0 else 0
def numF (c : Cla) : Nat → List Fig → Int × Int
  | _, [] => (0, 0)
  | i, x :: l => if decide (x.n < lowN c i) || decide (mostN c.word i < x.n) then (10, x.pos) else numF c (i + 1) l
theorem numF_other (c : Cla) (hp : isPortW c.word = false) (first : Int) : ∀ (l : List Fig) (k : Nat), numF c k l = fltR (faultN c first k l)
  | [], _ => rfl
  | x :: l, k => by
    rw [numF, faultN]
    have e : lowN c k = 0 := by unfold lowN; rw [hp]; rfl
    rw [e, hp]
    simp only [Bool.and_false, Bool.false_and, Bool.or_false]
    split
    · rfl
    · exact numF_other c hp first l (k + 1)
theorem mustN_port {c : Cla} (hp : isPortW c.word = true) : mustN c = if c.dash then 2 else 1 := by
  unfold mustN
  rw [portW_not hp, hp]
  simp
theorem numF_all (c : Cla) (hl : c.nums.length = mustN c) : numF c 0 c.nums = fltR (faultN c (nth c 0) 0 c.nums) := by
  cases hp : isPortW c.word with
  | false => exact numF_other c hp _ _ _
  | true =>
    rw [mustN_port hp] at hl
    cases hd : c.dash with
    | false =>
      rw [hd] at hl
      obtain ⟨a, ha⟩ : ∃ a, c.nums = [a] := by
        match h : c.nums, hl with
        | [a], _ => exact ⟨a, rfl⟩
      rw [ha]
      simp only [numF, faultN, lowN, hp, hd, Bool.false_and, Bool.or_false, Bool.true_and]
      simp only [Nat.lt_irrefl, decide_false, Bool.false_eq_true, if_false]
      split <;> rfl
    | true =>
      rw [hd] at hl
      obtain ⟨a, b, ha⟩ : ∃ a b, c.nums = [a, b] := by
        match h : c.nums, hl with
        | [a, b], _ => exact ⟨a, b, rfl⟩
      have hn : nth c 0 = a.n := by unfold nth; rw [ha]; rfl
      have hm : ∀ k, mostN c.word k = 65535 := fun k => by unfold mostN; rw [hp]; rfl
      rw [ha]
      simp only [numF, faultN, lowN, hp, hd, hn, hm, Bool.true_and, Nat.zero_add]
      simp only [Nat.lt_irrefl, decide_false, Bool.false_eq_true, if_false, if_true, Nat.lt_add_one, decide_true, show ((0 : Nat) == 1) = false from rfl, show ((1 : Nat) == 1) = true from rfl, Bool.false_and, Bool.or_false, Bool.true_and]
      by_cases h1 : a.n < 0
      · simp [h1, fltR]
      · by_cases h2 : 65535 < a.n
        · simp [h2, fltR]
        · by_cases h3 : b.n < a.n
          · have h4 : (decide (b.n < 0) || decide (65535 < b.n) || true) = true := by simp
            simp [h1, h2, h3, fltR]
          · have h5 : ¬ b.n < 0 := by omega
            by_cases h6 : 65535 < b.n <;> simp [h1, h2, h3, h5, h6, fltR]

/-- What is wrong with a clause first, as the program asks. -/
def claF (had : List Cla) (c : Cla) : Int × Int :=
  if mustN c == 0 || c.nums.length != mustN c then (8, c.pos) else if had.any (fun d => d.word == c.word) then (9, c.pos) else numF c 0 c.nums
theorem claF_eq (had : List Cla) (c : Cla) : claF had c = fltR (faultC had c) := by
  unfold claF faultC
  split
  · rfl
  · rename_i h
    split
    · rfl
    · simp only [Bool.or_eq_true, beq_iff_eq, bne_iff_ne, ne_eq, not_or, Decidable.not_not] at h
      exact numF_all c h.2
theorem faultN_code (c : Cla) (first : Int) : ∀ (l : List Fig) (k e : Nat) (p : Int), faultN c first k l = .error (e, p) → e = 10
  | [], _, _, _, h => by simp [faultN] at h
  | x :: l, k, e, p, h => by
    rw [faultN] at h
    split at h
    · simp only [Except.error.injEq, Prod.mk.injEq] at h; exact h.1.symm
    · exact faultN_code c first l (k + 1) e p h
theorem faultC_code {had : List Cla} {c : Cla} {e : Nat} {p : Int} (h : faultC had c = .error (e, p)) : e ≠ 0 := by
  unfold faultC at h
  split at h
  · simp only [Except.error.injEq, Prod.mk.injEq] at h; omega
  · split at h
    · simp only [Except.error.injEq, Prod.mk.injEq] at h; omega
    · have := faultN_code _ _ _ _ _ _ h; omega
/-- What is wrong with a line's first k clauses. -/
def ruleF (r : Raw) (k : Nat) : Int × Int := if decide (r.prio.n < 0) || decide (65535 < r.prio.n) then (10, r.prio.pos) else fltR (faultCs [] (r.clauses.take k))
theorem fltR_zero {x : ResI Unit} (hc : ∀ e p, x = .error (e, p) → e ≠ 0) (h : (fltR x).1 = 0) : x = .ok () := by
  cases x with
  | ok u => rfl
  | error y =>
    obtain ⟨e, p⟩ := y
    have := hc e p rfl
    simp [fltR] at h
    exact absurd h this
theorem faultCs_code : ∀ (l had : List Cla) (e : Nat) (p : Int), faultCs had l = .error (e, p) → e ≠ 0
  | [], _, _, _, h => by simp [faultCs] at h
  | c :: l, had, e, p, h => by
    rw [faultCs] at h
    cases hc : faultC had c with
    | error y =>
      obtain ⟨e', p'⟩ := y
      rw [hc] at h
      simp only [Except.bind, Except.error.injEq, Prod.mk.injEq] at h
      have := faultC_code hc
      omega
    | ok u =>
      rw [hc] at h
      exact faultCs_code l _ e p h
theorem ruleF_next {r : Raw} {k : Nat} {c : Cla} (hc : r.clauses[k]? = some c) (h : (ruleF r k).1 = 0) : ruleF r (k + 1) = claF (r.clauses.take k) c := by
  unfold ruleF at h ⊢
  split at h
  · simp at h
  · rename_i hp
    have h1 := fltR_zero (fun e p => faultCs_code _ _ e p) h
    rw [if_neg hp, claF_eq]
    obtain ⟨hk, rfl⟩ := List.getElem?_eq_some_iff.1 hc
    rw [List.take_succ_eq_append_getElem hk, faultCs_append, h1]
    simp only [Except.bind, List.nil_append, faultCs]
    cases faultC (r.clauses.take k) r.clauses[k] <;> rfl
theorem ruleF_stays {r : Raw} {k : Nat} (h : (ruleF r k).1 ≠ 0) : ruleF r r.clauses.length = ruleF r k := by
  unfold ruleF at h ⊢
  split
  · rfl
  · rename_i hp
    rw [if_neg hp] at h
    rw [List.take_length]
    have e : r.clauses = r.clauses.take k ++ r.clauses.drop k := (List.take_append_drop k _).symm
    rw [show faultCs [] r.clauses = faultCs [] (r.clauses.take k ++ r.clauses.drop k) by rw [← e], faultCs_append]
    cases hx : faultCs [] (r.clauses.take k) with
    | error y => rfl
    | ok u => rw [hx] at h; exact absurd rfl h
theorem ruleF_all (r : Raw) : ruleF r r.clauses.length = fltR (faultR r) := by
  unfold ruleF faultR
  rw [List.take_length]
  split <;> rfl
theorem faultR_code {r : Raw} {e : Nat} {p : Int} (h : faultR r = .error (e, p)) : e ≠ 0 := by
  unfold faultR at h
  split at h
  · simp only [Except.error.injEq, Prod.mk.injEq] at h; omega
  · exact faultCs_code _ _ _ _ h
def lineF (r : Raw) : Int × Int := if r.dflt then (0, 0) else fltR (faultR r)
def actF (r : Raw) : Int × Int := if !r.drop && (decide (r.port.n < 1) || decide (99 < r.port.n)) then (10, r.port.pos) else (0, 0)
def orF (a b : Int × Int) : Int × Int := if a.1 = 0 then b else a
/-- What is wrong with line i first. -/
def rowF (i : Nat) (had : Bool) (r : Raw) : Int × Int :=
  orF (if 64 ≤ i then (4, r.pos) else (0, 0)) (orF (if had && r.dflt then (9, r.pos) else (0, 0)) (orF (lineF r) (orF (actF r) (0, 0))))
theorem check_nil (size : Int) (i : Nat) (had : Bool) : checkGo size i had [] = if had then .ok [] else .error (11, size) := rfl
theorem check_bad (size : Int) (i : Nat) (had : Bool) (r : Raw) (l : List Raw) (h : (rowF i had r).1 ≠ 0) : ∃ e : Nat, checkGo size i had (r :: l) = .error (e, (rowF i had r).2) ∧ (rowF i had r).1 = (e : Int) := by
  rw [checkGo]
  unfold rowF orF at h ⊢
  by_cases h1 : 64 ≤ i
  · rw [if_pos h1]
    exact ⟨4, by simp [h1], by simp [h1]⟩
  · rw [if_neg h1] at h ⊢
    simp only [if_true, h1, if_false] at h ⊢
    by_cases h2 : (had && r.dflt) = true
    · have h2' : (r.dflt && had) = true := by rw [Bool.and_comm]; exact h2
      exact ⟨9, by simp [h2, h2'], by simp [h2]⟩
    · have h2' : (r.dflt && had) = false := by rw [Bool.and_comm]; simpa using h2
      have h2f : (had && r.dflt) = false := by simpa using h2
      rw [h2f] at h ⊢
      simp only [h2', Bool.false_eq_true, if_false, if_true] at h ⊢
      cases hd : r.dflt with
      | true =>
        have hl : lineF r = (0, 0) := by unfold lineF; rw [hd]; rfl
        rw [hl] at h ⊢
        simp only [if_true] at h ⊢
        unfold actF at h ⊢
        by_cases h3 : (!r.drop && (decide (r.port.n < 1) || decide (99 < r.port.n))) = true
        · refine ⟨10, ?_, ?_⟩
          · simp only [h3, Except.bind, if_true]
            simp
          · simp [h3]
        · simp [h3] at h
      | false =>
        have hl : lineF r = fltR (faultR r) := by unfold lineF; rw [hd]; rfl
        rw [hl] at h ⊢
        cases hf : faultR r with
        | error y =>
          obtain ⟨e, p⟩ := y
          have hne := faultR_code hf
          exact ⟨e, by simp [fltR, hne, Except.bind], by simp [fltR, hne]⟩
        | ok u =>
          rw [hf] at h
          simp only [fltR, if_true] at h ⊢
          unfold actF at h ⊢
          by_cases h3 : (!r.drop && (decide (r.port.n < 1) || decide (99 < r.port.n))) = true
          · refine ⟨10, ?_, ?_⟩
            · simp only [h3, Except.bind, if_true]
              simp
            · simp [h3]
          · simp [h3] at h
/-- A line that is right. -/
structure rightR (r : Raw) : Prop where
  rule : r.dflt = false → faultR r = .ok ()
  act : r.drop = false → 1 ≤ r.port.n ∧ r.port.n ≤ 99
theorem check_good (size : Int) (i : Nat) (had : Bool) (r : Raw) (l : List Raw) (h : (rowF i had r).1 = 0) : checkGo size i had (r :: l) = (checkGo size (i + 1) (had || r.dflt) l).map (fun m => meaning r :: m) ∧ rightR r ∧ i < 64 := by
  rw [checkGo]
  unfold rowF orF at h
  by_cases h1 : 64 ≤ i
  · simp [h1] at h
  · simp only [h1, if_false, if_true] at h ⊢
    by_cases h2 : (had && r.dflt) = true
    · simp [h2] at h
    · have h2' : (r.dflt && had) = false := by rw [Bool.and_comm]; simpa using h2
      have h2f : (had && r.dflt) = false := by simpa using h2
      rw [h2f] at h
      simp only [h2', Bool.false_eq_true, if_false, if_true] at h ⊢
      have hline : (lineF r).1 = 0 := by
        by_cases hz : (lineF r).1 = 0
        · exact hz
        · rw [if_neg hz] at h; exact h
      rw [if_pos hline] at h
      have hact : (!r.drop && (decide (r.port.n < 1) || decide (99 < r.port.n))) = false := by
        unfold actF at h
        by_cases h3 : (!r.drop && (decide (r.port.n < 1) || decide (99 < r.port.n))) = true
        · simp [h3] at h
        · simpa using h3
      have hrule : r.dflt = false → faultR r = .ok () := fun hd => by
        unfold lineF at hline
        rw [hd] at hline
        exact fltR_zero (fun e p he => faultR_code he) hline
      refine ⟨?_, ⟨hrule, fun hd => ?_⟩, by omega⟩
      · have e1 : (if r.dflt = true then (.ok () : ResI Unit) else faultR r) = .ok () := by
          cases hd : r.dflt with
          | true => rfl
          | false => exact hrule hd
        rw [e1, hact]
        rfl
      · rw [hd] at hact
        simp at hact
        omega

/-! What a line means, clause by clause. -/
def preC (c : Cla) : Int × Int := (((nth c 0 * 256 + nth c 1) * 256 + nth c 2) * 256 + nth c 3, if c.slash then nth c 4 else 32)
def porC (c : Cla) : Int × Int := (nth c 0, nth c (c.nums.length - 1))
def setC (x : Ent) (c : Cla) : Ent :=
  if c.word = wSrc then { x with src := (preC c).1, srcBits := (preC c).2 }
  else if c.word = wDst then { x with dst := (preC c).1, dstBits := (preC c).2 }
  else if c.word = wSport then { x with slow := (porC c).1, shigh := (porC c).2 }
  else if c.word = wDport then { x with dlow := (porC c).1, dhigh := (porC c).2 }
  else if c.word = wProto then { x with proto := nth c 0 } else x
def ent0 (r : Raw) : Ent := ⟨false, r.prio.n, actOf r, 0, 0, 0, 0, 0, 65535, 0, 65535, -1⟩
def over (x : Ent) (l : List Cla) : Ent :=
  { x with
    src := match findC wSrc l with | none => x.src | some c => (preC c).1
    srcBits := match findC wSrc l with | none => x.srcBits | some c => (preC c).2
    dst := match findC wDst l with | none => x.dst | some c => (preC c).1
    dstBits := match findC wDst l with | none => x.dstBits | some c => (preC c).2
    slow := match findC wSport l with | none => x.slow | some c => (porC c).1
    shigh := match findC wSport l with | none => x.shigh | some c => (porC c).2
    dlow := match findC wDport l with | none => x.dlow | some c => (porC c).1
    dhigh := match findC wDport l with | none => x.dhigh | some c => (porC c).2
    proto := match findC wProto l with | none => x.proto | some c => nth c 0 }
theorem find_cons (w : List UInt8) (c : Cla) (l : List Cla) : findC w (c :: l) = if c.word = w then some c else findC w l := by
  unfold findC
  rw [List.find?_cons]
  by_cases h : c.word = w
  · simp [h]
  · have : (c.word == w) = false := by simpa using h
    simp [this, h]
theorem find_not {w : List UInt8} {c : Cla} {l : List Cla} (h : ∀ d ∈ l, c.word ≠ d.word) (hw : c.word = w) : findC w l = none := by
  unfold findC
  rw [List.find?_eq_none]
  intro d hd
  have := h d hd
  simp
  rw [← hw]
  exact fun e => this e.symm
theorem fold_over : ∀ (l : List Cla), (l.Pairwise fun a b => a.word ≠ b.word) → ∀ x : Ent, l.foldl setC x = over x l
  | [], _, x => rfl
  | c :: l, hp, x => by
    obtain ⟨h1, h2⟩ := List.pairwise_cons.1 hp
    rw [List.foldl_cons, fold_over l h2]
    unfold over
    simp only [find_cons]
    have nn := fun w (hw : c.word = w) => find_not (w := w) h1 hw
    by_cases e1 : c.word = wSrc
    · have := nn _ e1
      simp only [setC, e1, this, show ¬ wSrc = wDst by decide, show ¬ wSrc = wSport by decide, show ¬ wSrc = wDport by decide, show ¬ wSrc = wProto by decide, if_true, if_false]
    by_cases e2 : c.word = wDst
    · have := nn _ e2
      simp only [setC, e2, this, show ¬ wDst = wSrc by decide, show ¬ wDst = wSport by decide, show ¬ wDst = wDport by decide, show ¬ wDst = wProto by decide, if_true, if_false]
    by_cases e3 : c.word = wSport
    · have := nn _ e3
      simp only [setC, e3, this, show ¬ wSport = wSrc by decide, show ¬ wSport = wDst by decide, show ¬ wSport = wDport by decide, show ¬ wSport = wProto by decide, if_true, if_false]
    by_cases e4 : c.word = wDport
    · have := nn _ e4
      simp only [setC, e4, this, show ¬ wDport = wSrc by decide, show ¬ wDport = wSport by decide, show ¬ wDport = wDst by decide, show ¬ wDport = wProto by decide, if_true, if_false]
    by_cases e5 : c.word = wProto
    · have := nn _ e5
      simp only [setC, e5, this, show ¬ wProto = wSrc by decide, show ¬ wProto = wSport by decide, show ¬ wProto = wDst by decide, show ¬ wProto = wDport by decide, if_true, if_false]
    simp only [setC, e1, e2, e3, e4, e5, if_false]
theorem faultCs_apart : ∀ (l had : List Cla), faultCs had l = .ok () → (l.Pairwise fun a b => a.word ≠ b.word) ∧ ∀ d ∈ had, ∀ c ∈ l, d.word ≠ c.word
  | [], _, _ => ⟨List.Pairwise.nil, fun _ _ c hc => by simp at hc⟩
  | c :: l, had, h => by
    rw [faultCs] at h
    obtain ⟨_, h1, h2⟩ := bindI h
    obtain ⟨i1, i2⟩ := faultCs_apart l (had ++ [c]) h2
    have hn : had.any (fun d => d.word == c.word) = false := by
      unfold faultC at h1
      split at h1
      · cases h1
      · split at h1
        · cases h1
        · rename_i hz; simpa using hz
    refine ⟨List.pairwise_cons.2 ⟨fun d hd => i2 c (by simp) d hd, i1⟩, fun d hd e he => ?_⟩
    rcases List.mem_cons.1 he with rfl | he
    · rw [List.any_eq_false] at hn
      have := hn d hd
      simpa using this
    · exact i2 d (by simp [hd]) e he
theorem por_last {c : Cla} (h : goodC c) (hp : isPortW c.word = true) : porC c = (nth c 0, if c.dash then nth c 1 else nth c 0) := by
  unfold porC
  rw [h.2.1, mustN_port hp]
  cases c.dash <;> rfl
theorem mean_fold (r : Raw) (hd : r.dflt = false) (hf : faultR r = .ok ()) : r.clauses.foldl setC (ent0 r) = meaning r := by
  have hcs : faultCs [] r.clauses = .ok () := by
    unfold faultR at hf
    split at hf
    · cases hf
    · exact hf
  have hg := faultCs_in _ _ hcs
  rw [fold_over _ (faultCs_apart _ _ hcs).1]
  unfold meaning over ent0 preOf porOf proOf
  rw [hd]
  have e1 : ∀ c, findC wSport r.clauses = some c → porC c = (nth c 0, if c.dash then nth c 1 else nth c 0) := fun c hc => by
    obtain ⟨h1, h2⟩ := find_in hc
    exact por_last (hg c h1) (by rw [h2]; decide)
  have e2 : ∀ c, findC wDport r.clauses = some c → porC c = (nth c 0, if c.dash then nth c 1 else nth c 0) := fun c hc => by
    obtain ⟨h1, h2⟩ := find_in hc
    exact por_last (hg c h1) (by rw [h2]; decide)
  cases h1 : findC wSrc r.clauses <;> cases h2 : findC wDst r.clauses <;> cases h3 : findC wSport r.clauses <;> cases h4 : findC wDport r.clauses <;> cases h5 : findC wProto r.clauses <;> simp_all [preC]
end Go.Proofs.YtfamnloobmdhdaaDoor
namespace Go.Proofs.YtfamnloobmdhdaaDoor
open Go Go.RowKit
set_option maxRecDepth 20000

section
variable {P : Program} {ops : Array Oper} {md : Region.Mode} {C : World → Prop}
def anyL (P : Program) (md : Region.Mode) (ops : Array Oper) (C : World → Prop) (n : Nat) (L : Array Bool → Act → Prop) : Nat → Array Bool → Act → Prop
  | 0, listed, a => L listed a
  | f + 1, listed, a =>
    Region.ready md ops listed ≠ [] ∧ ∀ i ∈ Region.ready md ops listed, i < n ∧ qOp P ops C i (anyL P md ops C n L f (listed.setIfInBounds i true)) a
theorem any_of_head {n g : Nat} {L : Array Bool → Act → Prop} {Q' : Exit → Act → World → Prop} (hL : ∀ listed a w, C w → L listed a → wpAny P md ops Q' g listed a w) :
    ∀ (f : Nat) (listed : Array Bool) (a : Act) (w : World), C w → anyL P md ops C n L f listed a → wpAny P md ops Q' (f + g) listed a w
  | 0, listed, a, w, hw, h => by rw [Nat.zero_add]; exact hL _ _ _ hw h
  | f + 1, listed, a, w, hw, h => by
    rw [show f + 1 + g = (f + g) + 1 by omega]
    exact ⟨fun h0 => absurd h0 h.1, fun i hi => wpOp_of_qOp hw (fun a' w' hw' h' => any_of_head hL f _ a' w' hw' h') (h.2 i hi).2⟩
theorem anyL_first {n i : Nat} {oi : Oper} {v : Value} {L : Array Bool → Act → Prop} (hi : ops[i]? = some oi) (hsel : ∀ (j : Nat) (o : Oper) cs b, ops[j]? = some o → o.op ≠ .select cs b)
    (hs : Region.sinkB md ops n = true) (hc : Region.chainB md ops n = true) (hn : n < ops.size) (hin : i < n)
    (hdone : ∀ listed a, L listed a → ∀ j ∈ Region.ready md ops listed, n ≤ j) :
    ∀ (f : Nat) (listed : Array Bool) (a : Act), HeadInv md ops n listed →
      (∀ j oj, ops[j]? = some oj → j ≠ i → listed.getD j true = false → (∀ e ∈ oj.after, Region.binds md e = true → e.on ≠ i) → oi.apart ops oj = true) →
      i ∈ Region.ready md ops listed → YieldsIn P ops C oi v a →
      anyL P md ops C n L f (listed.setIfInBounds i true) (a.put oi.dst v) → anyL P md ops C n L (f + 1) listed a := by
  intro f
  induction f with
  | zero =>
    intro listed a inv _ hr hy H
    have hun := (mem_ready.1 hr).1
    refine ⟨fun h => (by rw [h] at hr; cases hr), fun j hj => ?_⟩
    have hjn : j < n := by
      rcases Nat.lt_or_ge j n with h | h
      · exact h
      · exact absurd hj (tail_waits hs hc hn inv _ i rfl hin hun j h)
    refine ⟨hjn, ?_⟩
    by_cases hji : j = i
    · subst hji; exact hy.qOp hi H
    · have := hdone _ _ H j (ready_mono hj hji)
      omega
  | succ f ih =>
    intro listed a inv hfree hr hy H
    have hun := (mem_ready.1 hr).1
    refine ⟨fun h => (by rw [h] at hr; cases hr), fun j hj => ?_⟩
    have hjn : j < n := by
      rcases Nat.lt_or_ge j n with h | h
      · exact h
      · exact absurd hj (tail_waits hs hc hn inv _ i rfl hin hun j h)
    refine ⟨hjn, ?_⟩
    by_cases hji : j = i
    · subst hji; exact hy.qOp hi H
    · have h1 := (H.2 j (ready_mono hj hji)).2
      obtain ⟨hjun, oj, hoj, hall⟩ := mem_ready.1 hj
      have hnot : ∀ e ∈ oj.after, Region.binds md e = true → e.on ≠ i := fun e he hb heq => by
        have h1 := hall e he hb
        rw [heq, getD_both hun] at h1
        cases h1
      have h2 := qOp_put hoj (hfree j oj hoj hji hjun hnot) (fun cs b => hsel i oi cs b hi) (fun cs b => hsel j oj cs b hoj) hy h1
      have hfree' : ∀ k ok, ops[k]? = some ok → k ≠ i → (listed.setIfInBounds j true).getD k true = false →
          (∀ e ∈ ok.after, Region.binds md e = true → e.on ≠ i) → oi.apart ops ok = true := fun k ok hk hki hun hno => by
        refine hfree k ok hk hki ?_ hno
        by_cases hjk : j = k
        · subst hjk; exact hjun
        · rw [getD_set_ne true hjk] at hun; exact hun
      refine qOp_mono (fun a' h3 => ih (listed.setIfInBounds j true) a' (inv.set hj hjn) hfree' (ready_mono hr (Ne.symm hji)) h3.1 ?_) h2
      rw [Array.setIfInBounds_comm _ _ hji]
      exact h3.2
theorem anyL_lex {n g : Nat} {Lq : Act → Prop} (hsel : Region.noSelect ops = true) (hs : Region.sinkB md ops n = true) (hc : Region.chainB md ops n = true) (hn : n < ops.size) :
    ∀ (l : List Oper) (k : Nat) (listed : Array Bool) (a : Act), (∀ j, j < l.length → l[j]? = ops[k + j]?) → k + l.length = n → HeadInv md ops n listed →
    Region.lexHead md ops g l.length k listed = true → wpQuiet P ops C Lq l a →
    anyL P md ops C n (fun listed' a' => Region.seqB md ops g n listed' = true ∧ Lq a') l.length listed a
  | [], k, listed, a, _, hk, _, hB, h => by
    have : k = n := by simpa using hk
    subst this
    exact ⟨by simpa [Region.lexHead] using hB, h⟩
  | o :: l, k, listed, a, hl, hk, inv, hB, h => by
    have h0 : ops[k]? = some o := by simpa using (hl 0 (by simp)).symm
    simp only [List.length_cons, Region.lexHead, Bool.and_eq_true] at hB
    obtain ⟨⟨hr, hf⟩, hB'⟩ := hB
    have hkn : k < n := by simp only [List.length_cons] at hk; omega
    have hr' : k ∈ Region.ready md ops listed := by simpa using hr
    have hst : qOp P ops C k (wpQuiet P ops C Lq l) a := by unfold qOp; simp only [h0]; exact h
    obtain ⟨v, hy, hK⟩ := yieldsIn_of_qOp h0 hst
    exact anyL_first h0 (Region.noSelect_spec hsel) hs hc hn hkn (fun listed' a' hL => seqB_ready hL.1) l.length listed a inv (Region.free_spec h0 hf) hr' hy
      (anyL_lex hsel hs hc hn l (k + 1) _ _ (fun j hj => by have := hl (j + 1) (by simp; omega); simpa [Nat.add_assoc, Nat.add_comm 1 j] using this) (by simp only [List.length_cons] at hk; omega) (inv.set hr' hkn) hB' hK)
end

/-- A drawn region whose first n operations only read and call, in any order, and whose rest comes behind them in order. -/
theorem wp_region_latertail {P : Program} {id : Nat} {Q : Exit → Act → World → Prop} {a : Act} {w : World} {l : List Oper} (n : Nat) (hm : P.follows .mixedOrders = true) (hB : Region.lexTailB .any l.toArray n = true)
    (h : wpQuiet P l.toArray (fun w' => ∃ u : Later w, w' = u.world) (fun a' => ∀ w', (∃ u : Later w, w' = u.world) → wpList P l.toArray Q (l.drop n) a' w') (l.take n) a) : (Code.region id l.toArray true).wp P Q a w := by
  simp only [Region.lexTailB, Bool.and_eq_true, decide_eq_true_eq] at hB
  obtain ⟨⟨⟨⟨hsel, hn⟩, hs⟩, hc⟩, hlex⟩ := hB
  have hn' : n < l.length := by simpa using hn
  have htl : (l.take n).length = n := by simp; omega
  have hdl : (l.drop n).length = l.toArray.size - n := by simp
  have inv0 : HeadInv .any l.toArray n (Array.replicate l.toArray.size false) :=
    ⟨by simp, fun j oj _ hl => (by rw [getD_replicate_false] at hl; cases hl), fun t _ ht => getD_in (by simpa using ht) (getD_replicate_false _ _)⟩
  have H := anyL_lex (md := .any) (g := l.toArray.size - n) hsel hs hc hn (l.take n) 0 _ a (fun j hj => by
    have hj' : j < n := by rw [htl] at hj; exact hj
    simp [hj']) (by simpa using htl) inv0 (by rw [htl]; exact hlex) h
  refine wp_region_any hm ?_
  have hC : (fun w' => ∃ u : Later w, w' = u.world) w.drew := ⟨⟨w.drew, (Below.refl _ _).drew⟩, rfl⟩
  have := any_of_head (Q' := Q) (g := l.toArray.size - n) (fun listed a' w' hw' hL => by
    rw [← hdl] at hL ⊢
    exact wpAny_of_seq (l.drop n) n listed a' w' (fun j => by simp) hL.1 (hL.2 w' hw')) _ _ _ _ hC H
  rw [htl, show n + (l.toArray.size - n) = l.toArray.size by omega] at this
  exact this
end Go.Proofs.YtfamnloobmdhdaaDoor
namespace Go.Proofs.YtfamnloobmdhdaaDoor
open Go Go.RowKit
set_option maxRecDepth 20000

/-- A fault: an error and its place. -/
def fltV (p : Int × Int) : Array Value := #[.int .i64 p.1, .int .i64 p.2]
def FltE : El := ⟨56, 93, 2, 16, #[.int .i64 0, .int .i64 0]⟩
theorem FltOk : FltE.Ok := ⟨Tryd.underlying93, ⟨_, Tryd.underlying56, rfl⟩, by kernel_rfl, rfl, by decide, by decide, by decide⟩
theorem flt_fits (p : Int × Int) : Fits FltE (fltV p) := ⟨rfl, by simp [fltV, Value.oneCell']⟩
theorem below2 (w : World) (a b : Obj) : Below w.heap.size w ((w.alloc a).alloc b) := ((Below.refl _ _).alloc (Nat.le_refl _) _).alloc (by simp) _

set_option maxHeartbeats 1000000 in
theorem when_any (b : Bool) (e p : Int) (w : World) :
    Calls Tryd.prog 26 #[.bool b, .int .i64 e, .int .i64 p] w fun x w' => x = .returned (.agg (fltV (if b then (e, p) else (0, 0)))) ∧ Below w.heap.size w w' := by
  cases b
  · go_enter Tryd.func26, Tryd.ntmps26
    go_wp2_with (first
      | (refine wl_storeE (E := FltE) FltOk rfl _ _ rfl w.heap.size (fltV (0, 0)) (flt_fits _) rfl rfl _ (heap_new _ _ _ rfl) rfl _ (setRow_new _ _ _ _ _ rfl) ?_))
    refine retE (E := FltE) FltOk rfl rfl w.heap.size rfl (fltV (0, 0)) rfl (heap_new _ _ _ rfl) ?_
    exact ⟨rfl, (Below.refl _ _).alloc (Nat.le_refl _) _⟩
  · go_enter Tryd.func26, Tryd.ntmps26
    go_wp2_with (first
      | (refine wl_storeE (E := FltE) FltOk rfl _ _ rfl w.heap.size (fltV (e, p)) (flt_fits _) rfl rfl _ (heap_new _ _ _ rfl) rfl _ (setRow_new _ _ _ _ _ rfl) ?_))
    refine retE (E := FltE) FltOk rfl rfl w.heap.size rfl (fltV (e, p)) rfl (heap_new _ _ _ rfl) ?_
    exact ⟨rfl, (Below.refl _ _).alloc (Nat.le_refl _) _⟩

def firstF : List (Int × Int) → Int × Int
  | [] => (0, 0)
  | f :: l => if f.1 = 0 then firstF l else f
set_option maxHeartbeats 2000000 in
theorem first7_any (F : List (Int × Int)) (v : Value) (w : World) (h : GSl FltE fltV w v F) :
    Calls Tryd.prog 25 #[v] w fun e w' => e = .returned (.agg (fltV (firstF F))) ∧ Below w.heap.size w w' := by
  obtain ⟨o, cap, rfl, hc1, hc2⟩ := h.slice
  obtain ⟨n, hn⟩ : ∃ n, n = F.length := ⟨_, rfl⟩
  have HN : Hid (n = F.length) := hn
  rw [← hn] at h hc1 ⊢
  unfold maxLen at hc2
  have H : Hid (GSl FltE fltV w (.slice o n cap) F) := h
  clear h hn
  go_enter Tryd.func25, Tryd.ntmps25
  go_wp2_with fail
  go_loopw [7] (fun x wr => ∃ j : Nat, j ≤ n ∧ x = .int .i64 (j : Int) ∧ Hid (firstF F = firstF (F.drop j)) ∧ wr.heap[w.heap.size]? = some (.cells (fltV (0, 0)) 56 (0, 0)) ∧ Below w.heap.size w wr) (fun x _ => n - (intOf x).toNat)
  case atStart => exact ⟨0, Nat.zero_le _, rfl, rfl, heap_new _ _ _ rfl, (Below.refl _ _).alloc (Nat.le_refl _) _⟩
  case round =>
    obtain ⟨j, hj, rfl, HJ, hr, hb⟩ := hrel
    have HR : Hid (wr.heap[w.heap.size]? = some (.cells (fltV (0, 0)) 56 (0, 0))) := hr
    have HB : Hid (Below w.heap.size w wr) := hb
    clear hr hb
    by_cases hlt : j < n
    · obtain ⟨g, off, cur, ty, fr, f, rfl, hg, hc, hFj⟩ := H.out.at j hlt
      have K1 : Hid (wr.heap[g]? = some (.cells cur ty fr)) := (HB.out.block g (Array.getElem?_eq_some_iff.1 hg).1).trans hg
      have H1 : Hid (∀ q, q < 2 → cur[off + j * 2 + q]? = (fltV f)[q]?) := hc
      have HD : Hid (F.drop j = f :: F.drop (j + 1)) := by
        obtain ⟨hk, rfl⟩ := List.getElem?_eq_some_iff.1 hFj
        exact List.drop_eq_getElem_cons hk
      have KN : Hid ((wr.alloc (.cells (fltV f) 56)).heap[wr.heap.size]? = some (.cells (fltV f) 56 (0, 0))) := heap_new _ _ _ rfl
      have n0 : (wr.alloc (.cells (fltV f) 56)).cell? ⟨wr.heap.size, 0, none⟩ = some (.int .i64 f.1) := by rw [cell_of_row _ _ _ _ _ _ KN.out]; rfl
      have hlt' : (j : Int) < (n : Int) := by omega
      clear hg hc hFj
      by_cases hz : f.1 = 0
      · have hz' : (f.1 != 0) = false := by simp [hz]
        have HE : Hid (firstF F = firstF (F.drop (j + 1))) := by
          show _ = _
          rw [HJ.out, HD.out, firstF, if_pos hz]
        clear hz
        go_wp2_with (first
          | (refine wl_loadE (E := FltE) FltOk rfl _ rfl g (off + j * 2) rfl cur ty fr (fltV f) rfl K1.out H1.out ?_)
          | (refine wl_storeE (E := FltE) FltOk rfl _ _ rfl wr.heap.size (fltV f) (flt_fits _) rfl rfl _ (heap_new _ _ _ rfl) rfl _ (setRow_new _ _ _ _ _ rfl) ?_))
        go_roundw
        case rel => exact ⟨j + 1, by omega, by go_num, HE, heap_past _ _ _ _ HR.out, HB.out.alloc HB.out.size _⟩
        case measure => simp [intOf]; omega
      · have hz' : (f.1 != 0) = true := by simp [hz]
        have HE : Hid (firstF F = f) := by
          show _ = _
          rw [HJ.out, HD.out, firstF, if_neg hz]
        clear hz
        go_wp2_with (first
          | (refine wl_loadE (E := FltE) FltOk rfl _ rfl g (off + j * 2) rfl cur ty fr (fltV f) rfl K1.out H1.out ?_)
          | (refine wl_storeE (E := FltE) FltOk rfl _ _ rfl wr.heap.size (fltV f) (flt_fits _) rfl rfl _ (heap_new _ _ _ rfl) rfl _ (setRow_new _ _ _ _ _ rfl) ?_)
          | (refine wl_loadE (E := FltE) FltOk rfl _ rfl wr.heap.size 0 rfl _ _ _ (fltV f) rfl KN.out (own_cells _ _) ?_)
          | (refine wl_storeE (E := FltE) FltOk rfl _ _ rfl w.heap.size (fltV f) (flt_fits _) rfl rfl _ (heap_past _ _ _ _ HR.out) rfl _ rfl ?_))
        refine retE (E := FltE) FltOk rfl rfl w.heap.size rfl (fltV f) rfl (setRow_heap _ _ _ _ _ _ (heap_past _ _ _ _ HR.out)) ?_
        exact ⟨by rw [HE.out], below_setRow (HB.out.alloc HB.out.size _) (Nat.le_refl _) _⟩
    · have hlt' : (n : Int) ≤ (j : Int) := by omega
      have HE : Hid (firstF F = (0, 0)) := by
        show _ = _
        rw [HJ.out, List.drop_of_length_le (by have := HN.out; omega)]
        rfl
      clear hlt
      go_wp2_with (first
        | (refine wl_storeE (E := FltE) FltOk rfl _ _ rfl w.heap.size (fltV (0, 0)) (flt_fits _) rfl rfl _ HR.out rfl _ rfl ?_))
      refine retE (E := FltE) FltOk rfl rfl w.heap.size rfl (fltV (0, 0)) rfl (setRow_heap _ _ _ _ _ _ HR.out) ?_
      exact ⟨by rw [HE.out], below_setRow HB.out (Nat.le_refl _) _⟩

/-- A number that isn't from low to high. -/
def outF (f : Fig) (low high : Int) : Int × Int := if decide (f.n < low) || decide (high < f.n) then (10, f.pos) else (0, 0)
set_option maxHeartbeats 2000000 in
theorem outside_any (f : Fig) (low high : Int) (w : World) :
    Calls Tryd.prog 47 #[.agg (figV f), .int .i64 low, .int .i64 high] w fun x w' => x = .returned (.agg (fltV (outF f low high))) ∧ Below w.heap.size w w' := by
  have WH : Hid (∀ b e p W, Calls Tryd.prog 26 #[.bool b, .int .i64 e, .int .i64 p] W fun x w' => x = .returned (.agg (fltV (if b then (e, p) else (0, 0)))) ∧ Below W.heap.size W w') := when_any
  obtain ⟨W2, hW2⟩ : ∃ W2, W2 = (w.alloc (.cells (figV f) 48)).alloc (.cells #[.int .i64 0, .int .i64 0] 56) := ⟨_, rfl⟩
  have c0 : ((w.alloc (.cells (figV f) 48)).alloc (.cells #[.int .i64 0, .int .i64 0] 56)).cell? ⟨w.heap.size, 0, none⟩ = some (.int .i64 f.n) := by rw [cell_of_row _ _ _ _ _ _ (heap_past _ _ _ _ (heap_new w (.cells (figV f) 48) _ rfl))]; rfl
  have c1 : ((w.alloc (.cells (figV f) 48)).alloc (.cells #[.int .i64 0, .int .i64 0] 56)).cell? ⟨w.heap.size, 1, none⟩ = some (.int .i64 f.pos) := by rw [cell_of_row _ _ _ _ _ _ (heap_past _ _ _ _ (heap_new w (.cells (figV f) 48) _ rfl))]; rfl
  have HR : Hid (W2.heap[w.heap.size + 1]? = some (.cells #[.int .i64 0, .int .i64 0] 56 (0, 0)) ∧ Below w.heap.size w W2) := by rw [hW2]; exact ⟨heap_new _ _ _ (by simp), below2 _ _ _⟩
  have HW : Hid (W2 = (w.alloc (.cells (figV f) 48)).alloc (.cells #[.int .i64 0, .int .i64 0] 56)) := hW2
  clear hW2
  have fin : ∀ (F : Int × Int) w1, Below W2.heap.size W2 w1 → w1.heap[w.heap.size + 1]? = some (.cells #[.int .i64 0, .int .i64 0] 56 (0, 0)) ∧ Below w.heap.size w w1 := fun F w1 hb => ⟨(hb.block _ (Array.getElem?_eq_some_iff.1 HR.out.1).1).trans HR.out.1, HR.out.2.trans (hb.mono HR.out.2.size)⟩
  have FIN : Hid (∀ w1, Below W2.heap.size W2 w1 → w1.heap[w.heap.size + 1]? = some (.cells #[.int .i64 0, .int .i64 0] 56 (0, 0)) ∧ Below w.heap.size w w1) := fin (0, 0)
  clear fin
  by_cases h1 : f.n < low
  · have e : outF f low high = (10, f.pos) := by unfold outF; simp [h1]
    rw [e]
    clear e
    go_enter Tryd.func47, Tryd.ntmps47
    go_wp2_with fail
    refine (WH.out _ _ _ _).mono ?_
    rintro x w1 ⟨rfl, hb1⟩
    rw [← HW.out] at hb1
    have K := FIN.out w1 hb1
    have KR : Hid _ := K.1
    have KB := K.2
    clear K hb1
    go_wp2_with (first
      | (refine wl_storeE (E := FltE) FltOk rfl _ _ rfl (w.heap.size + 1) (fltV (10, f.pos)) (flt_fits _) rfl rfl _ KR.out rfl _ rfl ?_))
    refine retE (E := FltE) FltOk rfl rfl (w.heap.size + 1) rfl (fltV (10, f.pos)) rfl (setRow_heap _ _ _ _ _ _ KR.out) ?_
    exact ⟨rfl, below_setRow KB (by omega) _⟩
  · by_cases h2 : high < f.n
    · have e : outF f low high = (10, f.pos) := by unfold outF; simp [h2]
      rw [e]
      have h2' : f.n > high := h2
      clear e h2
      go_enter Tryd.func47, Tryd.ntmps47
      go_wp2_with fail
      refine (WH.out _ _ _ _).mono ?_
      rintro x w1 ⟨rfl, hb1⟩
      rw [← HW.out] at hb1
      have K := FIN.out w1 hb1
      have KR : Hid _ := K.1
      have KB := K.2
      clear K hb1
      go_wp2_with (first
        | (refine wl_storeE (E := FltE) FltOk rfl _ _ rfl (w.heap.size + 1) (fltV (10, f.pos)) (flt_fits _) rfl rfl _ KR.out rfl _ rfl ?_))
      refine retE (E := FltE) FltOk rfl rfl (w.heap.size + 1) rfl (fltV (10, f.pos)) rfl (setRow_heap _ _ _ _ _ _ KR.out) ?_
      exact ⟨rfl, below_setRow KB (by omega) _⟩
    · have e : outF f low high = (0, 0) := by unfold outF; simp [h1, h2]
      rw [e]
      have h2' : ¬ f.n > high := h2
      clear e h2
      go_enter Tryd.func47, Tryd.ntmps47
      go_wp2_with fail
      refine (WH.out _ _ _ _).mono ?_
      rintro x w1 ⟨rfl, hb1⟩
      rw [← HW.out] at hb1
      have K := FIN.out w1 hb1
      have KR : Hid _ := K.1
      have KB := K.2
      clear K hb1
      go_wp2_with (first
        | (refine wl_storeE (E := FltE) FltOk rfl _ _ rfl (w.heap.size + 1) (fltV (0, 0)) (flt_fits _) rfl rfl _ KR.out rfl _ rfl ?_))
      refine retE (E := FltE) FltOk rfl rfl (w.heap.size + 1) rfl (fltV (0, 0)) rfl (setRow_heap _ _ _ _ _ _ KR.out) ?_
      exact ⟨rfl, below_setRow KB (by omega) _⟩
end Go.Proofs.YtfamnloobmdhdaaDoor
namespace Go.Proofs.YtfamnloobmdhdaaDoor
open Go Go.RowKit
set_option maxRecDepth 20000

def manyI (c : Cla) : Int := if mustN c = 0 then -1 else (mustN c : Int)
theorem cla_row (w : World) (c : Cla) (u : Value) : (w.alloc (.cells (claV c u) 54)).heap[w.heap.size]? = some (.cells (claV c u) 54 (0, 0)) := heap_new _ _ _ rfl
theorem cla_f {w : World} {b : Nat} {c : Cla} {u : Value} {ty : TypeId} {fr : Nat × Nat} (h : w.heap[b]? = some (.cells (claV c u) ty fr)) :
    w.cell? ⟨b, 0, none⟩ = some (.string ⟨c.word.toArray⟩) ∧ w.cell? ⟨b, 1, none⟩ = some (.int .i64 c.pos) ∧ w.cell? ⟨b, 2, none⟩ = some u ∧ w.cell? ⟨b, 3, none⟩ = some (.bool c.slash) ∧ w.cell? ⟨b, 4, none⟩ = some (.bool c.dash) := by
  refine ⟨?_, ?_, ?_, ?_, ?_⟩ <;> (rw [cell_of_row _ _ _ _ _ _ h]; rfl)
/-- The five words, and all others. -/
theorem word_cases (x : List UInt8) : x = wSrc ∨ x = wDst ∨ x = wSport ∨ x = wDport ∨ x = wProto ∨ ((x == [115, 114, 99]) = false ∧ (x == [100, 115, 116]) = false ∧ (x == [115, 112, 111, 114, 116]) = false ∧ (x == [100, 112, 111, 114, 116]) = false ∧ (x == [112, 114, 111, 116, 111]) = false) := by
  by_cases h1 : x = wSrc
  · exact .inl h1
  by_cases h2 : x = wDst
  · exact .inr (.inl h2)
  by_cases h3 : x = wSport
  · exact .inr (.inr (.inl h3))
  by_cases h4 : x = wDport
  · exact .inr (.inr (.inr (.inl h4)))
  by_cases h5 : x = wProto
  · exact .inr (.inr (.inr (.inr (.inl h5))))
  refine .inr (.inr (.inr (.inr (.inr ⟨?_, ?_, ?_, ?_, ?_⟩)))) <;> (rw [beq_eq_false_iff_ne]; assumption)

set_option maxHeartbeats 2000000 in
theorem many7_any (c : Cla) (u : Value) (hu : ∃ o n m, u = .slice o n m) (w : World) :
    Calls Tryd.prog 78 #[.agg (claV c u)] w fun x w' => x = .returned (.int .i64 (manyI c)) ∧ Below w.heap.size w w' := by
  obtain ⟨o, n, m, rfl⟩ := hu
  have q := cla_f (cla_row w c (.slice o n m))
  obtain ⟨c0, -, -, c3, c4⟩ := q
  have HB : Hid (Below w.heap.size w (w.alloc (.cells (claV c (.slice o n m)) 54))) := (Below.refl _ _).alloc (Nat.le_refl _) _
  obtain ⟨word, pos, nums, slash, dash⟩ := c
  simp only at c0 c3 c4
  rcases word_cases word with rfl | rfl | rfl | rfl | rfl | ⟨e0, e1, e2, e3, e4⟩
  · cases slash
    · rw [show manyI ⟨wSrc, pos, nums, false, dash⟩ = 4 from rfl]
      go_enter Tryd.func78, Tryd.ntmps78
      go_wp2_with fail
      go_ret
      exact ⟨rfl, HB.out⟩
    · rw [show manyI ⟨wSrc, pos, nums, true, dash⟩ = 5 from rfl]
      go_enter Tryd.func78, Tryd.ntmps78
      go_wp2_with fail
      go_ret
      exact ⟨rfl, HB.out⟩
  · cases slash
    · rw [show manyI ⟨wDst, pos, nums, false, dash⟩ = 4 from rfl]
      go_enter Tryd.func78, Tryd.ntmps78
      go_wp2_with fail
      go_ret
      exact ⟨rfl, HB.out⟩
    · rw [show manyI ⟨wDst, pos, nums, true, dash⟩ = 5 from rfl]
      go_enter Tryd.func78, Tryd.ntmps78
      go_wp2_with fail
      go_ret
      exact ⟨rfl, HB.out⟩
  · cases dash
    · rw [show manyI ⟨wSport, pos, nums, slash, false⟩ = 1 from rfl]
      go_enter Tryd.func78, Tryd.ntmps78
      go_wp2_with fail
      go_ret
      exact ⟨rfl, HB.out⟩
    · rw [show manyI ⟨wSport, pos, nums, slash, true⟩ = 2 from rfl]
      go_enter Tryd.func78, Tryd.ntmps78
      go_wp2_with fail
      go_ret
      exact ⟨rfl, HB.out⟩
  · cases dash
    · rw [show manyI ⟨wDport, pos, nums, slash, false⟩ = 1 from rfl]
      go_enter Tryd.func78, Tryd.ntmps78
      go_wp2_with fail
      go_ret
      exact ⟨rfl, HB.out⟩
    · rw [show manyI ⟨wDport, pos, nums, slash, true⟩ = 2 from rfl]
      go_enter Tryd.func78, Tryd.ntmps78
      go_wp2_with fail
      go_ret
      exact ⟨rfl, HB.out⟩
  · rw [show manyI ⟨wProto, pos, nums, slash, dash⟩ = 1 from rfl]
    go_enter Tryd.func78, Tryd.ntmps78
    go_wp2_with fail
    go_ret
    exact ⟨rfl, HB.out⟩
  · have hm : manyI ⟨word, pos, nums, slash, dash⟩ = -1 := by
      unfold manyI mustN isAddrW isPortW wSrc wDst wSport wDport wProto
      simp only [e0, e1, e2, e3, e4]
      rfl
    rw [hm]
    clear hm
    go_enter Tryd.func78, Tryd.ntmps78
    go_wp2_with fail
    go_ret
    exact ⟨rfl, HB.out⟩
theorem many_ne (c : Cla) : (((c.nums.length : Int)) != manyI c) = (mustN c == 0 || c.nums.length != mustN c) := by
  unfold manyI
  by_cases h : mustN c = 0
  · rw [if_pos h, h]
    have : ((c.nums.length : Int) != -1) = true := by rw [bne_iff_ne]; omega
    rw [this]; rfl
  · rw [if_neg h]
    have e : (mustN c == 0) = false := by simpa using h
    rw [e, Bool.false_or, Bool.eq_iff_iff, bne_iff_ne, bne_iff_ne]
    omega

set_option maxHeartbeats 4000000 in
theorem bounds_any (c : Cla) (u : Value) (i : Nat) (w : World) (hu : FigsAt w c u) (hi : i < c.nums.length) :
    Calls Tryd.prog 97 #[.agg (claV c u), .int .i64 (i : Int)] w fun x w' => x = .returned (.tuple #[.int .i64 (lowN c i), .int .i64 (mostN c.word i)]) ∧ Below w.heap.size w w' := by
  obtain ⟨o, m, rfl, hm1, hm2⟩ := hu.slice
  have q := cla_f (cla_row w c (.slice o c.nums.length m))
  obtain ⟨c0, -, c2, -, -⟩ := q
  have HB : Hid (Below w.heap.size w (w.alloc (.cells (claV c (.slice o c.nums.length m)) 54))) := (Below.refl _ _).alloc (Nat.le_refl _) _
  obtain ⟨g, off, cur, ty, fr, f, rfl, hg, hc, hf⟩ := hu.at 0 (by omega)
  have hn : nth c 0 = f.n := by unfold nth; rw [List.getD_eq_getElem?_getD, hf]; rfl
  have cg : (w.alloc (.cells (claV c (.slice (some ⟨g, off, none⟩) c.nums.length m)) 54)).cell? ⟨g, off, none⟩ = some (.int .i64 f.n) := by
    rw [cell_of_row _ _ _ _ _ _ (heap_past _ _ _ _ hg)]
    have := hc 0 (by decide)
    rw [show off + 0 * FigE.size + 0 = off by simp] at this
    exact this
  obtain ⟨n, hnn⟩ : ∃ n, n = c.nums.length := ⟨_, rfl⟩
  rw [← hnn] at hi hm1 c0 c2 cg HB ⊢
  have hpos : (0 : Int) < (n : Int) := by omega
  have hposn : 0 < n := by omega
  unfold maxLen at hm2
  clear hu hg hc hf hnn
  obtain ⟨word, pos, nums, slash, dash⟩ := c
  simp only at c0 c2
  rcases word_cases word with rfl | rfl | rfl | rfl | rfl | ⟨e0, e1, e2, e3, e4⟩
  · by_cases h4 : i = 4
    · subst h4
      rw [show lowN ⟨wSrc, pos, nums, slash, dash⟩ 4 = 0 from rfl, show mostN wSrc 4 = 32 from rfl]
      clear hn
      go_enter Tryd.func97, Tryd.ntmps97
      go_wp2_with fail
      go_ret2
      exact ⟨rfl, HB.out⟩
    · have h4' : ((i : Int) == 4) = false := by simp; omega
      rw [show lowN ⟨wSrc, pos, nums, slash, dash⟩ i = 0 from rfl, show mostN wSrc i = 255 by unfold mostN; simp [h4]; decide]
      clear hn h4
      go_enter Tryd.func97, Tryd.ntmps97
      go_wp2_with fail
      go_ret2
      exact ⟨rfl, HB.out⟩
  · by_cases h4 : i = 4
    · subst h4
      rw [show lowN ⟨wDst, pos, nums, slash, dash⟩ 4 = 0 from rfl, show mostN wDst 4 = 32 from rfl]
      clear hn
      go_enter Tryd.func97, Tryd.ntmps97
      go_wp2_with fail
      go_ret2
      exact ⟨rfl, HB.out⟩
    · have h4' : ((i : Int) == 4) = false := by simp; omega
      rw [show lowN ⟨wDst, pos, nums, slash, dash⟩ i = 0 from rfl, show mostN wDst i = 255 by unfold mostN; simp [h4]; decide]
      clear hn h4
      go_enter Tryd.func97, Tryd.ntmps97
      go_wp2_with fail
      go_ret2
      exact ⟨rfl, HB.out⟩
  · by_cases h0 : 0 < i
    · have h0' : (i : Int) > 0 := by omega
      have hl : lowN ⟨wSport, pos, nums, slash, dash⟩ i = f.n := by rw [← hn]; unfold lowN; rw [decide_eq_true h0]; rfl
      rw [hl, show mostN wSport i = 65535 from rfl]
      clear hn hl h0
      go_enter Tryd.func97, Tryd.ntmps97
      go_wp2_with fail
      go_ret2
      exact ⟨rfl, HB.out⟩
    · have h0' : ¬ (i : Int) > 0 := by omega
      have hl : lowN ⟨wSport, pos, nums, slash, dash⟩ i = 0 := by unfold lowN; rw [decide_eq_false h0]; rfl
      rw [hl, show mostN wSport i = 65535 from rfl]
      clear hn hl h0
      go_enter Tryd.func97, Tryd.ntmps97
      go_wp2_with fail
      go_ret2
      exact ⟨rfl, HB.out⟩
  · by_cases h0 : 0 < i
    · have h0' : (i : Int) > 0 := by omega
      have hl : lowN ⟨wDport, pos, nums, slash, dash⟩ i = f.n := by rw [← hn]; unfold lowN; rw [decide_eq_true h0]; rfl
      rw [hl, show mostN wDport i = 65535 from rfl]
      clear hn hl h0
      go_enter Tryd.func97, Tryd.ntmps97
      go_wp2_with fail
      go_ret2
      exact ⟨rfl, HB.out⟩
    · have h0' : ¬ (i : Int) > 0 := by omega
      have hl : lowN ⟨wDport, pos, nums, slash, dash⟩ i = 0 := by unfold lowN; rw [decide_eq_false h0]; rfl
      rw [hl, show mostN wDport i = 65535 from rfl]
      clear hn hl h0
      go_enter Tryd.func97, Tryd.ntmps97
      go_wp2_with fail
      go_ret2
      exact ⟨rfl, HB.out⟩
  · rw [show lowN ⟨wProto, pos, nums, slash, dash⟩ i = 0 from rfl, show mostN wProto i = 255 from rfl]
    clear hn
    go_enter Tryd.func97, Tryd.ntmps97
    go_wp2_with fail
    go_ret2
    exact ⟨rfl, HB.out⟩
  · have hp : isPortW word = false := by unfold isPortW wSport wDport; rw [e2, e3]; rfl
    have hl : lowN ⟨word, pos, nums, slash, dash⟩ i = 0 := by unfold lowN; rw [hp]; rfl
    have ho : (word == wProto) = false := e4
    by_cases h4 : i = 4
    · subst h4
      have hm : mostN word 4 = 32 := by unfold mostN; rw [hp, ho]; rfl
      rw [hl, hm]
      clear hn hl hm hp ho
      go_enter Tryd.func97, Tryd.ntmps97
      go_wp2_with fail
      go_ret2
      exact ⟨rfl, HB.out⟩
    · have h4' : ((i : Int) == 4) = false := by simp; omega
      have hm : mostN word i = 255 := by unfold mostN; rw [hp, ho]; simp [h4]
      rw [hl, hm]
      clear hn hl hm hp ho h4
      go_enter Tryd.func97, Tryd.ntmps97
      go_wp2_with fail
      go_ret2
      exact ⟨rfl, HB.out⟩
end Go.Proofs.YtfamnloobmdhdaaDoor
namespace Go.Proofs.YtfamnloobmdhdaaDoor
open Go Go.RowKit
set_option maxRecDepth 20000

set_option maxHeartbeats 2000000 in
theorem sameWord7_any (w : World) (k : Nat) (c0 : Cla) (u0 : Value) (c : Cla) (u : Value) (hu : ∃ o n m, u = .slice o n m) (hk : w.heap[k]? = some (.cells (claV c0 u0) 54 (0, 0))) :
    Calls Tryd.prog 77 #[.agg (claV c u), .pointer (some ⟨k, 0, none⟩)] w fun e w' => e = .returned (.bool (c.word == c0.word)) ∧ Below w.heap.size w w' := by
  obtain ⟨o, n, m, rfl⟩ := hu
  have t2 : ∀ x, (w.alloc x).cell? ⟨k, 0, none⟩ = some (.string ⟨c0.word.toArray⟩) := fun x => (cla_f (heap_past _ x _ _ hk)).1
  have n0 := heap_new w (.cells (claV c (.slice o n m)) 54) _ rfl
  have c0' : (w.alloc (.cells (claV c (.slice o n m)) 54)).cell? ⟨w.heap.size, 0, none⟩ = some (.string ⟨c.word.toArray⟩) := by rw [cell_of_row _ _ _ _ _ _ n0]; rfl
  clear hk n0
  go_enter Tryd.func77, Tryd.ntmps77
  go_wp2_with fail
  go_ret
  exact ⟨rfl, (Below.refl _ _).alloc (Nat.le_refl _) _⟩
set_option maxHeartbeats 4000000 in
theorem indexFunc7_any {R : World → Cla → Value → Prop} (hR : ∀ w c u, R w c u → ∃ o n m, u = .slice o n m) (w : World) (v : Value) (C : List Cla) (h : NSl ClaE claV R w v C) (k : Nat) (c0 : Cla) (u0 : Value) (hk : w.heap[k]? = some (.cells (claV c0 u0) 54 (0, 0))) :
    Calls Tryd.prog 96 #[v, .func (.func 77) #[] #[.pointer (some ⟨k, 0, none⟩)]] w fun e w' => (∃ i : Int, e = .returned (.int .i64 i) ∧ ((decide (0 ≤ i)) = C.any (fun c => c.word == c0.word))) ∧ Below w.heap.size w w' := by
  obtain ⟨o, cap, rfl, hcap, hm⟩ := h.slice
  have CS : Hid (∀ W c u, (∃ o n m, u = .slice o n m) → Below w.heap.size w W → Calls Tryd.prog 77 #[.agg (claV c u), .pointer (some ⟨k, 0, none⟩)] W fun e w' => e = .returned (.bool (c.word == c0.word)) ∧ Below W.heap.size W w') := fun W c u hu hb => sameWord7_any W k c0 u0 c u hu ((hb.block k (Array.getElem?_eq_some_iff.1 hk).1).trans hk)
  obtain ⟨n, hn⟩ : ∃ n, n = C.length := ⟨_, rfl⟩
  have HN : Hid (n = C.length) := hn
  rw [← hn] at h hcap ⊢
  have H : Hid (NSl ClaE claV R w (.slice o n cap) C) := h
  unfold maxLen at hm
  clear h hk hn
  go_enter Tryd.func96, Tryd.ntmps96
  go_wp2_with fail
  go_loopw [8] (fun x wr => ∃ j : Nat, j ≤ n ∧ x = .int .i64 (j : Int) ∧ Hid ((C.take j).any (fun c => c.word == c0.word) = false) ∧ Below w.heap.size w wr) (fun x _ => n - (intOf x).toNat)
  case atStart => exact ⟨0, Nat.zero_le _, rfl, rfl, Below.refl _ _⟩
  case round =>
    obtain ⟨j, hj, rfl, HJ, hb⟩ := hrel
    by_cases hlt : j < n
    · obtain ⟨g, off, cur, ty, fr, c, u, rfl, hg, hc, hCj, hr⟩ := H.out.at j hlt
      obtain ⟨o1, n1, m1, rfl⟩ := hR _ _ _ hr
      have k1 : Hid (wr.heap[g]? = some (.cells cur ty fr)) := (hb.block g (Array.getElem?_eq_some_iff.1 hg).1).trans hg
      have H1 : Hid (∀ i, i < 5 → cur[off + j * 5 + i]? = (claV c (.slice o1 n1 m1))[i]?) := hc
      have HT := any_take_succ hCj (fun c => c.word == c0.word)
      rw [HJ.out, Bool.false_or] at HT
      have HTT : Hid ((C.take (j + 1)).any (fun c => c.word == c0.word) = (c.word == c0.word)) := HT
      have hlt' : (j : Int) < (n : Int) := by omega
      clear hg hc hCj hr HT
      go_wp2_with (first
        | (refine wl_loadE (E := ClaE) ClaOk rfl _ rfl g (off + j * 5) rfl cur ty fr (claV c (.slice o1 n1 m1)) rfl k1.out H1.out ?_))
      refine (CS.out _ c _ ⟨_, _, _, rfl⟩ hb).mono ?_
      rintro e w1 ⟨rfl, hb1⟩
      have B1 := hb.trans (hb1.mono hb.size)
      clear hb hb1
      by_cases hq : (c.word == c0.word) = true
      · have HALL : Hid (C.any (fun c => c.word == c0.word) = true) := by
          show _ = _
          have := HTT.out
          rw [hq] at this
          obtain ⟨x, hx, hx2⟩ := List.any_eq_true.1 this
          exact List.any_eq_true.2 ⟨x, List.mem_of_mem_take hx, hx2⟩
        rw [hq]
        clear hq
        go_wp2_with fail
        go_ret
        refine ⟨⟨_, rfl, ?_⟩, B1⟩
        rw [HALL.out]
        simp
      · have hq' : (c.word == c0.word) = false := by simpa using hq
        rw [hq'] at HTT
        rw [hq']
        clear hq hq'
        go_wp2_with fail
        go_roundw
        case rel => exact ⟨j + 1, by omega, by go_num, HTT, B1⟩
        case measure => simp [intOf]; omega
    · have hlt' : (n : Int) ≤ (j : Int) := by omega
      have HALL : Hid (C.any (fun c => c.word == c0.word) = false) := by
        show _ = _
        have := HJ.out
        rwa [List.take_of_length_le (by have := HN.out; omega)] at this
      go_wp2_with fail
      go_ret
      refine ⟨⟨_, rfl, ?_⟩, hb⟩
      rw [HALL.out]
      decide
set_option maxHeartbeats 2000000 in
theorem containsFunc7_any {R : World → Cla → Value → Prop} (hR : ∀ w c u, R w c u → ∃ o n m, u = .slice o n m) (w : World) (v : Value) (C : List Cla) (h : NSl ClaE claV R w v C) (k : Nat) (c0 : Cla) (u0 : Value) (hk : w.heap[k]? = some (.cells (claV c0 u0) 54 (0, 0))) :
    Calls Tryd.prog 76 #[v, .func (.func 77) #[] #[.pointer (some ⟨k, 0, none⟩)]] w fun e w' => e = .returned (.bool (C.any (fun c => c.word == c0.word))) ∧ Below w.heap.size w w' := by
  have C1 : Hid (Calls Tryd.prog 96 #[v, .func (.func 77) #[] #[.pointer (some ⟨k, 0, none⟩)]] w fun e w' => (∃ i : Int, e = .returned (.int .i64 i) ∧ ((decide (0 ≤ i)) = C.any (fun c => c.word == c0.word))) ∧ Below w.heap.size w w') := indexFunc7_any hR w v C h k c0 u0 hk
  obtain ⟨b, hb⟩ : ∃ b, b = C.any (fun c => c.word == c0.word) := ⟨_, rfl⟩
  rw [← hb] at C1 ⊢
  clear h hk hb
  go_enter Tryd.func76, Tryd.ntmps76
  go_wp2_with fail
  refine C1.out.mono ?_
  rintro e w1 ⟨⟨i, rfl, hi⟩, hb1⟩
  have HI : Hid (decide (0 ≤ i) = b) := hi
  clear hi
  go_wp2_with fail
  go_ret
  refine ⟨?_, hb1⟩
  rw [← HI.out]
  rfl

theorem outF_zero (f : Fig) (low high : Int) : (outF f low high).1 = 0 ↔ ¬ (decide (f.n < low) || decide (high < f.n)) = true := by
  unfold outF
  split
  · rename_i h; simp [h]
  · rename_i h; simp [h]
theorem numF_step (c : Cla) (j : Nat) (f : Fig) (l : List Fig) : numF c j (f :: l) = if (outF f (lowN c j) (mostN c.word j)).1 = 0 then numF c (j + 1) l else outF f (lowN c j) (mostN c.word j) := by
  rw [numF]
  by_cases h : (decide (f.n < lowN c j) || decide (mostN c.word j < f.n)) = true
  · rw [if_pos h, if_neg (by rw [outF_zero]; simp [h])]
    unfold outF
    rw [if_pos h]
  · rw [if_neg h, if_pos (by rw [outF_zero]; exact h)]
set_option maxHeartbeats 4000000 in
theorem numbers_any (c : Cla) (u : Value) (w : World) (hu : FigsAt w c u) :
    Calls Tryd.prog 79 #[.agg (claV c u)] w fun x w' => x = .returned (.agg (fltV (numF c 0 c.nums))) ∧ Below w.heap.size w w' := by
  have BO : Hid (∀ (i : Nat) W, Below w.heap.size w W → i < c.nums.length → Calls Tryd.prog 97 #[.agg (claV c u), .int .i64 (i : Int)] W fun x w' => x = .returned (.tuple #[.int .i64 (lowN c i), .int .i64 (mostN c.word i)]) ∧ Below W.heap.size W w') := fun i W hb hi => bounds_any c u i W (figs_below _ _ _ _ hb hu) hi
  have OU : Hid (∀ (f : Fig) (low high : Int) W, Calls Tryd.prog 47 #[.agg (figV f), .int .i64 low, .int .i64 high] W fun x w' => x = .returned (.agg (fltV (outF f low high))) ∧ Below W.heap.size W w') := outside_any
  obtain ⟨o, cap, rfl, hc1, hc2⟩ := GSl.slice hu
  obtain ⟨n, hn⟩ : ∃ n, n = c.nums.length := ⟨_, rfl⟩
  have HN : Hid (n = c.nums.length) := hn
  rw [← hn] at hu hc1 BO ⊢
  unfold maxLen at hc2
  have HU : Hid (FigsAt w c (.slice o n cap)) := hu
  have b1 : Hid (((w.alloc (.cells (claV c (.slice o n cap)) 54)).alloc (.cells #[.int .i64 0, .int .i64 0] 56)).heap[w.heap.size]? = some (.cells (claV c (.slice o n cap)) 54 (0, 0))) := heap_past _ _ _ _ (heap_new _ _ _ rfl)
  have b2 : Hid (((w.alloc (.cells (claV c (.slice o n cap)) 54)).alloc (.cells #[.int .i64 0, .int .i64 0] 56)).heap[w.heap.size + 1]? = some (.cells #[.int .i64 0, .int .i64 0] 56 (0, 0))) := heap_new _ _ _ (by simp)
  have c2 := (cla_f b1.out).2.2.1
  clear hu hn
  go_enter Tryd.func79, Tryd.ntmps79
  go_wp2_with fail
  clear c2
  go_loopw [11] (fun x wr => ∃ j : Nat, j ≤ n ∧ x = .int .i64 (j : Int) ∧ Hid (numF c 0 c.nums = numF c j (c.nums.drop j)) ∧ wr.heap[w.heap.size]? = some (.cells (claV c (.slice o n cap)) 54 (0, 0)) ∧ wr.heap[w.heap.size + 1]? = some (.cells #[.int .i64 0, .int .i64 0] 56 (0, 0)) ∧ Below w.heap.size w wr) (fun x _ => n - (intOf x).toNat)
  case atStart => exact ⟨0, Nat.zero_le _, rfl, rfl, b1.out, b2.out, below2 _ _ _⟩
  case round =>
    clear b1 b2
    obtain ⟨j, hj, rfl, HJ, hr1, hr2, hb⟩ := hrel
    have R1 : Hid (wr.heap[w.heap.size]? = some (.cells (claV c (.slice o n cap)) 54 (0, 0))) := hr1
    have R2 : Hid (wr.heap[w.heap.size + 1]? = some (.cells #[.int .i64 0, .int .i64 0] 56 (0, 0))) := hr2
    have HB : Hid (Below w.heap.size w wr) := hb
    clear hr1 hr2 hb
    by_cases hlt : j < n
    · obtain ⟨g, off, cur, ty, fr, f, rfl, hg, hc, hFj⟩ := HU.out.at j hlt
      have K1 : Hid (wr.heap[g]? = some (.cells cur ty fr)) := (HB.out.block g (Array.getElem?_eq_some_iff.1 hg).1).trans hg
      have H1 : Hid (∀ q, q < 2 → cur[off + j * 2 + q]? = (figV f)[q]?) := hc
      have HD : Hid (c.nums.drop j = f :: c.nums.drop (j + 1)) := by
        obtain ⟨hk, rfl⟩ := List.getElem?_eq_some_iff.1 hFj
        exact List.drop_eq_getElem_cons hk
      have hlt' : (j : Int) < (n : Int) := by omega
      have BA : Hid (Below wr.heap.size wr (wr.alloc (.cells (figV f) 48))) := (Below.refl _ _).alloc (Nat.le_refl _) _
      have HLT : Hid (j < n) := hlt
      clear hg hc hFj hlt
      go_wp2_with (first
        | (refine wl_loadE (E := FigE) FigOk rfl _ rfl g (off + j * 2) rfl cur ty fr (figV f) rfl K1.out H1.out ?_)
        | (refine wl_storeE (E := FigE) FigOk rfl _ _ rfl wr.heap.size (figV f) (fig_fits _) rfl rfl _ (heap_new _ _ _ rfl) rfl _ (setRow_new _ _ _ _ _ rfl) ?_)
        | (refine wl_loadE (E := ClaE) ClaOk rfl _ rfl w.heap.size 0 rfl _ _ _ (claV c (.slice (some ⟨g, off, none⟩) n cap)) rfl (heap_past _ _ _ _ R1.out) (own_cells _ _) ?_))
      refine (BO.out j _ (HB.out.trans (BA.out.mono HB.out.size)) HLT.out).mono ?_
      rintro e w1 ⟨rfl, hb1⟩
      have B1 : Hid (Below wr.heap.size wr w1) := BA.out.trans (hb1.mono BA.out.size)
      have KF : Hid (w1.heap[wr.heap.size]? = some (.cells (figV f) 48 (0, 0))) := (hb1.block _ (by simp)).trans (heap_new _ _ _ rfl)
      clear hb1 BA
      obtain ⟨F, hF⟩ : ∃ F, F = outF f (lowN c j) (mostN c.word j) := ⟨_, rfl⟩
      have CO : Hid (∀ W, Calls Tryd.prog 47 #[.agg (figV f), .int .i64 (lowN c j), .int .i64 (mostN c.word j)] W fun x w' => x = .returned (.agg (fltV F)) ∧ Below W.heap.size W w') := fun W => by rw [hF]; exact OU.out f _ _ W
      have HST : Hid (numF c j (f :: c.nums.drop (j + 1)) = if F.1 = 0 then numF c (j + 1) (c.nums.drop (j + 1)) else F) := by rw [hF]; exact numF_step c j f _
      obtain ⟨lo, hlo⟩ : ∃ lo, lo = lowN c j := ⟨_, rfl⟩
      obtain ⟨hi, hhi⟩ : ∃ hi, hi = mostN c.word j := ⟨_, rfl⟩
      rw [← hlo, ← hhi] at CO ⊢
      clear hF hlo hhi
      go_wp2_with (first
        | (refine wl_loadE (E := FigE) FigOk rfl _ rfl wr.heap.size 0 rfl _ _ _ (figV f) rfl KF.out (own_cells _ _) ?_))
      refine (CO.out _).mono ?_
      rintro e w2 ⟨rfl, hb2⟩
      have B2 : Hid (Below wr.heap.size wr w2) := B1.out.trans (hb2.mono B1.out.size)
      clear hb2
      have KN : Hid ((w2.alloc (.cells (fltV F) 56)).heap[w2.heap.size]? = some (.cells (fltV F) 56 (0, 0))) := heap_new _ _ _ rfl
      have n0 : (w2.alloc (.cells (fltV F) 56)).cell? ⟨w2.heap.size, 0, none⟩ = some (.int .i64 F.1) := by rw [cell_of_row _ _ _ _ _ _ KN.out]; rfl
      have B3 : Hid (Below wr.heap.size wr (w2.alloc (.cells (fltV F) 56))) := B2.out.alloc B2.out.size _
      have zr : Hid (w.heap.size + 1 < wr.heap.size) := (Array.getElem?_eq_some_iff.1 R2.out).1
      by_cases hz : F.1 = 0
      · have hz' : (F.1 != 0) = false := by simp [hz]
        have HE : Hid (numF c 0 c.nums = numF c (j + 1) (c.nums.drop (j + 1))) := by
          show _ = _
          rw [HJ.out, HD.out, HST.out, if_pos hz]
        clear hz
        go_wp2_with (first
          | (refine wl_storeE (E := FltE) FltOk rfl _ _ rfl w2.heap.size (fltV F) (flt_fits _) rfl rfl _ (heap_new _ _ _ rfl) rfl _ (setRow_new _ _ _ _ _ rfl) ?_))
        go_roundw
        case rel =>
          have z := zr.out
          exact ⟨j + 1, by omega, by go_num, HE, (B3.out.block _ (by omega)).trans R1.out, (B3.out.block _ (by omega)).trans R2.out, HB.out.trans (B3.out.mono HB.out.size)⟩
        case measure =>
          have := HLT.out
          simp [intOf]; omega
      · have hz' : (F.1 != 0) = true := by simp [hz]
        have HE : Hid (numF c 0 c.nums = F) := by
          show _ = _
          rw [HJ.out, HD.out, HST.out, if_neg hz]
        have KR : Hid ((w2.alloc (.cells (fltV F) 56)).heap[w.heap.size + 1]? = some (.cells #[.int .i64 0, .int .i64 0] 56 (0, 0))) := (B3.out.block _ zr.out).trans R2.out
        clear hz
        go_wp2_with (first
          | (refine wl_storeE (E := FltE) FltOk rfl _ _ rfl w2.heap.size (fltV F) (flt_fits _) rfl rfl _ (heap_new _ _ _ rfl) rfl _ (setRow_new _ _ _ _ _ rfl) ?_)
          | (refine wl_loadE (E := FltE) FltOk rfl _ rfl w2.heap.size 0 rfl _ _ _ (fltV F) rfl KN.out (own_cells _ _) ?_)
          | (refine wl_storeE (E := FltE) FltOk rfl _ _ rfl (w.heap.size + 1) (fltV F) (flt_fits _) rfl rfl _ KR.out rfl _ rfl ?_))
        refine retE (E := FltE) FltOk rfl rfl (w.heap.size + 1) rfl (fltV F) rfl (setRow_heap _ _ _ _ _ _ KR.out) ?_
        exact ⟨by rw [HE.out], below_setRow (HB.out.trans (B3.out.mono HB.out.size)) (by omega) _⟩
    · have hlt' : (n : Int) ≤ (j : Int) := by omega
      have HE : Hid (numF c 0 c.nums = (0, 0)) := by
        show _ = _
        rw [HJ.out, List.drop_of_length_le (by have := HN.out; omega)]
        rfl
      clear hlt
      go_wp2_with (first
        | (refine wl_storeE (E := FltE) FltOk rfl _ _ rfl (w.heap.size + 1) (fltV (0, 0)) (flt_fits _) rfl rfl _ R2.out rfl _ rfl ?_))
      refine retE (E := FltE) FltOk rfl rfl (w.heap.size + 1) rfl (fltV (0, 0)) rfl (setRow_heap _ _ _ _ _ _ R2.out) ?_
      exact ⟨by rw [HE.out], below_setRow HB.out (by omega) _⟩
end Go.Proofs.YtfamnloobmdhdaaDoor
