import Derived.Test.YtbdbjbmjnemknaaDoorJ1
import Derived.StillTail
import Derived.StillTailTactics
import Derived.Laws.BitsLemmas
namespace Go.Proofs.YtbdbjbmjnemknaaDoor
open Go
set_option maxRecDepth 20000

/-- What a line means. -/
structure Ent where
  dflt : Bool
  prio : Int
  action : Int
  src : Int
  srcBits : Int
  dst : Int
  dstBits : Int
  slow : Int
  shigh : Int
  dlow : Int
  dhigh : Int
  proto : Int

abbrev ResI (α : Type) := Except (Nat × Int) α
def mustN (c : Cla) : Nat := if isAddrW c.word then (if c.slash then 5 else 4) else if isPortW c.word then (if c.dash then 2 else 1) else if c.word == wProto then 1 else 0
def mostN (w : List UInt8) (k : Nat) : Int := if isPortW w then 65535 else if !(w == wProto) && k == 4 then 32 else 255
/-- The first number of a clause that may not be. -/
def faultN (c : Cla) (first : Int) : Nat → List Fig → ResI Unit
  | _, [] => .ok ()
  | k, x :: l => if decide (x.n < 0) || decide (mostN c.word k < x.n) || (c.dash && isPortW c.word && k == 1 && decide (x.n < first)) then .error (10, x.pos) else faultN c first (k + 1) l
def nth (c : Cla) (k : Nat) : Int := (c.nums.getD k ⟨0, 0⟩).n
def faultC (had : List Cla) (c : Cla) : ResI Unit :=
  if mustN c == 0 || c.nums.length != mustN c then .error (8, c.pos) else if had.any (fun d => d.word == c.word) then .error (9, c.pos) else faultN c (nth c 0) 0 c.nums
def faultCs : List Cla → List Cla → ResI Unit
  | _, [] => .ok ()
  | had, c :: l => (faultC had c).bind fun _ => faultCs (had ++ [c]) l
/-- What is wrong with a line first, and where. -/
def faultR (r : Raw) : ResI Unit := if decide (r.prio.n < 0) || decide (65535 < r.prio.n) then .error (10, r.prio.pos) else faultCs [] r.clauses

def findC (w : List UInt8) (l : List Cla) : Option Cla := l.find? fun c => c.word == w
def preOf (l : List Cla) (w : List UInt8) : Int × Int := match findC w l with
  | none => (0, 0)
  | some c => (((nth c 0 * 256 + nth c 1) * 256 + nth c 2) * 256 + nth c 3, if c.slash then nth c 4 else 32)
def porOf (l : List Cla) (w : List UInt8) : Int × Int := match findC w l with
  | none => (0, 65535)
  | some c => (nth c 0, if c.dash then nth c 1 else nth c 0)
def proOf (l : List Cla) : Int := match findC wProto l with
  | none => -1
  | some c => nth c 0
def actOf (r : Raw) : Int := if r.drop then 0 else r.port.n
/-- What a line without faults means. -/
def meaning (r : Raw) : Ent := if r.dflt then ⟨true, 0, actOf r, 0, 0, 0, 0, 0, 0, 0, 0, 0⟩ else
  ⟨false, r.prio.n, actOf r, (preOf r.clauses wSrc).1, (preOf r.clauses wSrc).2, (preOf r.clauses wDst).1, (preOf r.clauses wDst).2, (porOf r.clauses wSport).1, (porOf r.clauses wSport).2, (porOf r.clauses wDport).1, (porOf r.clauses wDport).2, proOf r.clauses⟩
/-- Lines, one behind the other. -/
def checkGo (size : Int) : Nat → Bool → List Raw → ResI (List Ent)
  | _, had, [] => if had then .ok [] else .error (11, size)
  | i, had, r :: l => if 64 ≤ i then .error (4, r.pos) else if r.dflt && had then .error (9, r.pos) else
    (if r.dflt then .ok () else faultR r).bind fun _ => if !r.drop && (decide (r.port.n < 1) || decide (99 < r.port.n)) then .error (10, r.port.pos) else (checkGo size (i + 1) (had || r.dflt) l).map fun m => meaning r :: m
/-- What a text means. -/
def readT (S : List UInt8) : ResI (List Ent) := match parseT S with
  | .error x => .error (x.1, (x.2 : Int))
  | .ok l => checkGo (S.length : Int) 0 false l

def fig0 (n : Int) : Fig := ⟨n, 0⟩
def addrC7 (w : List UInt8) (v n : Int) : Cla := ⟨w, 0, [fig0 (v / 16777216), fig0 (v / 65536 % 256), fig0 (v / 256 % 256), fig0 (v % 256), fig0 n], true, false⟩
def portC7 (w : List UInt8) (a b : Int) : Cla := if a = b then ⟨w, 0, [fig0 a], false, false⟩ else ⟨w, 0, [fig0 a, fig0 b], false, true⟩
def partA (w : List UInt8) (v n : Int) : List Cla := if v = 0 ∧ n = 0 then [] else [addrC7 w v n]
def partP (w : List UInt8) (a b : Int) : List Cla := if a = 0 ∧ b = 65535 then [] else [portC7 w a b]
def partO (p : Int) : List Cla := if p = -1 then [] else [⟨wProto, 0, [fig0 p], false, false⟩]
/-- An entry as it would be written. -/
def lineOf (x : Ent) : Raw := ⟨0, x.dflt, fig0 x.prio, if x.dflt then [] else partA wSrc x.src x.srcBits ++ (partA wDst x.dst x.dstBits ++ (partP wSport x.slow x.shigh ++ (partP wDport x.dlow x.dhigh ++ partO x.proto))), decide (x.action = 0), fig0 x.action⟩
def printE (l : List Ent) : List UInt8 := printT (l.map lineOf)

/-- An entry as it may be. -/
structure okE (x : Ent) : Prop where
  act : 0 ≤ x.action ∧ x.action ≤ 99
  zero : x.dflt = true → x = ⟨true, 0, x.action, 0, 0, 0, 0, 0, 0, 0, 0, 0⟩
  prio : 0 ≤ x.prio ∧ x.prio ≤ 65535
  src : 0 ≤ x.src ∧ x.src < 4294967296 ∧ 0 ≤ x.srcBits ∧ x.srcBits ≤ 32
  dst : 0 ≤ x.dst ∧ x.dst < 4294967296 ∧ 0 ≤ x.dstBits ∧ x.dstBits ≤ 32
  sp : 0 ≤ x.slow ∧ x.slow ≤ x.shigh ∧ x.shigh ≤ 65535
  dp : 0 ≤ x.dlow ∧ x.dlow ≤ x.dhigh ∧ x.dhigh ≤ 65535
  proto : x.dflt = false → -1 ≤ x.proto ∧ x.proto ≤ 255

theorem okC_addr (w : List UInt8) (hw : isAddrW w = true) (v n : Int) (hv : 0 ≤ v ∧ v < 4294967296 ∧ 0 ≤ n ∧ n ≤ 32) : okC (addrC7 w v n) := by
  refine ⟨fun x hx => ?_, .inl ⟨hw, rfl, rfl⟩⟩
  simp only [addrC7, List.mem_cons, List.not_mem_nil, or_false] at hx
  rcases hx with rfl | rfl | rfl | rfl | rfl <;> exact ⟨by simp only [fig0]; omega, by simp only [fig0]; omega⟩
theorem portW_not {w : List UInt8} (hw : isPortW w = true) : isAddrW w = false := by
  unfold isPortW at hw
  simp only [Bool.or_eq_true, beq_iff_eq] at hw
  rcases hw with rfl | rfl <;> decide
theorem okC_port (w : List UInt8) (hw : isPortW w = true) (a b : Int) (h : 0 ≤ a ∧ a ≤ b ∧ b ≤ 65535) : okC (portC7 w a b) := by
  unfold portC7
  split
  · refine ⟨fun x hx => ?_, .inr (.inl ⟨hw, portW_not hw, rfl, rfl⟩)⟩
    rw [List.mem_singleton.1 hx]
    exact ⟨by simp only [fig0]; omega, by simp only [fig0]; omega⟩
  · refine ⟨fun x hx => ?_, .inr (.inl ⟨hw, portW_not hw, rfl, rfl⟩)⟩
    simp only [List.mem_cons, List.not_mem_nil, or_false] at hx
    rcases hx with rfl | rfl <;> exact ⟨by simp only [fig0]; omega, by simp only [fig0]; omega⟩
theorem portC7_word (w : List UInt8) (a b : Int) : (portC7 w a b).word = w := by unfold portC7; split <;> rfl
theorem partA_word {w : List UInt8} {v n : Int} {c : Cla} (h : c ∈ partA w v n) : c.word = w := by
  unfold partA at h
  split at h
  · simp at h
  · rw [List.mem_singleton.1 h]; rfl
theorem partP_word {w : List UInt8} {v n : Int} {c : Cla} (h : c ∈ partP w v n) : c.word = w := by
  unfold partP at h
  split at h
  · simp at h
  · rw [List.mem_singleton.1 h]; exact portC7_word _ _ _
theorem partO_word {p : Int} {c : Cla} (h : c ∈ partO p) : c.word = wProto := by
  unfold partO at h
  split at h
  · simp at h
  · rw [List.mem_singleton.1 h]
def lineC (x : Ent) : List Cla := partA wSrc x.src x.srcBits ++ (partA wDst x.dst x.dstBits ++ (partP wSport x.slow x.shigh ++ (partP wDport x.dlow x.dhigh ++ partO x.proto)))
theorem pw_short (l : List Cla) (h : l.length ≤ 1) : l.Pairwise fun a b => a.word ≠ b.word := by
  rcases l with _ | ⟨a, _ | ⟨b, l⟩⟩
  · exact List.Pairwise.nil
  · exact List.pairwise_singleton _ _
  · simp at h
theorem partA_len (w : List UInt8) (v n : Int) : (partA w v n).length ≤ 1 := by unfold partA; split <;> simp
theorem partP_len (w : List UInt8) (v n : Int) : (partP w v n).length ≤ 1 := by unfold partP; split <;> simp
theorem partO_len (p : Int) : (partO p).length ≤ 1 := by unfold partO; split <;> simp
theorem okR_line (x : Ent) (h : okE x) : okR (lineOf x) := by
  have hcl : x.dflt = false → (∀ c ∈ lineC x, okC c) ∧ (lineC x).Pairwise fun a b => a.word ≠ b.word := by
    intro hd
    refine ⟨fun c hc => ?_, ?_⟩
    · unfold lineC at hc
      simp only [List.mem_append] at hc
      rcases hc with hc | hc | hc | hc | hc
      · unfold partA at hc
        split at hc
        · simp at hc
        · rw [List.mem_singleton.1 hc]; exact okC_addr _ (by decide) _ _ h.src
      · unfold partA at hc
        split at hc
        · simp at hc
        · rw [List.mem_singleton.1 hc]; exact okC_addr _ (by decide) _ _ h.dst
      · unfold partP at hc
        split at hc
        · simp at hc
        · rw [List.mem_singleton.1 hc]; exact okC_port _ (by decide) _ _ h.sp
      · unfold partP at hc
        split at hc
        · simp at hc
        · rw [List.mem_singleton.1 hc]; exact okC_port _ (by decide) _ _ h.dp
      · unfold partO at hc
        split at hc
        · simp at hc
        · rename_i hp
          rw [List.mem_singleton.1 hc]
          have := h.proto hd
          refine ⟨fun y hy => ?_, .inr (.inr ⟨rfl, rfl, rfl, rfl⟩)⟩
          rw [List.mem_singleton.1 hy]
          exact ⟨by simp only [fig0]; omega, by simp only [fig0]; omega⟩
    · unfold lineC
      rw [List.pairwise_append]
      refine ⟨pw_short _ (partA_len _ _ _), ?_, fun a ha b hb => ?_⟩
      · rw [List.pairwise_append]
        refine ⟨pw_short _ (partA_len _ _ _), ?_, fun a ha b hb => ?_⟩
        · rw [List.pairwise_append]
          refine ⟨pw_short _ (partP_len _ _ _), ?_, fun a ha b hb => ?_⟩
          · rw [List.pairwise_append]
            refine ⟨pw_short _ (partP_len _ _ _), pw_short _ (partO_len _), fun a ha b hb => ?_⟩
            rw [partP_word ha, partO_word hb]; decide
          · rw [partP_word ha]
            rcases List.mem_append.1 hb with hb | hb
            · rw [partP_word hb]; decide
            · rw [partO_word hb]; decide
        · rw [partA_word ha]
          simp only [List.mem_append] at hb
          rcases hb with hb | hb | hb
          · rw [partP_word hb]; decide
          · rw [partP_word hb]; decide
          · rw [partO_word hb]; decide
      · rw [partA_word ha]
        simp only [List.mem_append] at hb
        rcases hb with hb | hb | hb | hb
        · rw [partA_word hb]; decide
        · rw [partP_word hb]; decide
        · rw [partP_word hb]; decide
        · rw [partO_word hb]; decide
  refine ⟨?_, ?_, ?_, ?_, ?_, ?_⟩
  · exact ⟨h.prio.1, by have := h.prio.2; show x.prio ≤ _; omega⟩
  · exact ⟨h.act.1, by have := h.act.2; show x.action ≤ _; omega⟩
  · unfold lineOf
    cases hd : x.dflt with
    | true => intro c hc; simp at hc
    | false => exact (hcl hd).1
  · unfold lineOf
    cases hd : x.dflt with
    | true => exact List.Pairwise.nil
    | false => exact (hcl hd).2
  · intro hd
    have hd' : x.dflt = true := hd
    have hz := h.zero hd'
    refine ⟨by unfold lineOf; rw [hd']; rfl, ?_⟩
    show x.prio = 0
    rw [hz]
  · intro hd
    have : x.action = 0 := by simpa [lineOf] using hd
    exact this
end Go.Proofs.YtbdbjbmjnemknaaDoor
namespace Go.Proofs.YtbdbjbmjnemknaaDoor
open Go
set_option maxRecDepth 20000

theorem find_none {w w' : List UInt8} {l : List Cla} (h : ∀ c ∈ l, c.word = w') (hw : w' ≠ w) : findC w l = none := by
  unfold findC
  rw [List.find?_eq_none]
  intro c hc
  rw [h c hc]
  simpa using hw
theorem find_append (w : List UInt8) (a b : List Cla) : findC w (a ++ b) = (findC w a).or (findC w b) := List.find?_append
theorem find_one {w : List UInt8} {c : Cla} (h : c.word = w) : findC w [c] = some c := by unfold findC; rw [List.find?_cons_of_pos (by simp [h])]
theorem find_A (w : List UInt8) (v n : Int) : findC w (partA w v n) = if v = 0 ∧ n = 0 then none else some (addrC7 w v n) := by
  unfold partA
  split
  · rfl
  · exact find_one rfl
theorem find_P (w : List UInt8) (v n : Int) : findC w (partP w v n) = if v = 0 ∧ n = 65535 then none else some (portC7 w v n) := by
  unfold partP
  split
  · rfl
  · exact find_one (portC7_word _ _ _)
theorem find_O (p : Int) : findC wProto (partO p) = if p = -1 then none else some ⟨wProto, 0, [fig0 p], false, false⟩ := by
  unfold partO
  split
  · rfl
  · exact find_one rfl
theorem nA (w w' : List UInt8) (hw : w' ≠ w) (v n : Int) : findC w (partA w' v n) = none := find_none (fun _ h => partA_word h) hw
theorem nP (w w' : List UInt8) (hw : w' ≠ w) (v n : Int) : findC w (partP w' v n) = none := find_none (fun _ h => partP_word h) hw
theorem nO (w : List UInt8) (hw : wProto ≠ w) (p : Int) : findC w (partO p) = none := find_none (fun _ h => partO_word h) hw
theorem or_none {α : Type} (x : Option α) : x.or none = x := by cases x <;> rfl
theorem find_src (x : Ent) : findC wSrc (lineC x) = if x.src = 0 ∧ x.srcBits = 0 then none else some (addrC7 wSrc x.src x.srcBits) := by
  unfold lineC
  rw [find_append, find_append, find_append, find_append, nA wSrc wDst (by decide), nP wSrc wSport (by decide), nP wSrc wDport (by decide), nO wSrc (by decide), find_A]
  simp
theorem find_dst (x : Ent) : findC wDst (lineC x) = if x.dst = 0 ∧ x.dstBits = 0 then none else some (addrC7 wDst x.dst x.dstBits) := by
  unfold lineC
  rw [find_append, find_append, find_append, find_append, nA wDst wSrc (by decide), nP wDst wSport (by decide), nP wDst wDport (by decide), nO wDst (by decide), find_A]
  simp
theorem find_sport (x : Ent) : findC wSport (lineC x) = if x.slow = 0 ∧ x.shigh = 65535 then none else some (portC7 wSport x.slow x.shigh) := by
  unfold lineC
  rw [find_append, find_append, find_append, find_append, nA wSport wSrc (by decide), nA wSport wDst (by decide), nP wSport wDport (by decide), nO wSport (by decide), find_P]
  simp
theorem find_dport (x : Ent) : findC wDport (lineC x) = if x.dlow = 0 ∧ x.dhigh = 65535 then none else some (portC7 wDport x.dlow x.dhigh) := by
  unfold lineC
  rw [find_append, find_append, find_append, find_append, nA wDport wSrc (by decide), nA wDport wDst (by decide), nP wDport wSport (by decide), nO wDport (by decide), find_P]
  simp
theorem find_proto (x : Ent) : findC wProto (lineC x) = if x.proto = -1 then none else some ⟨wProto, 0, [fig0 x.proto], false, false⟩ := by
  unfold lineC
  rw [find_append, find_append, find_append, find_append, nA wProto wSrc (by decide), nA wProto wDst (by decide), nP wProto wSport (by decide), nP wProto wDport (by decide), find_O]
  simp
theorem pre_addr {l : List Cla} {w : List UInt8} {v n : Int} (h : findC w l = if v = 0 ∧ n = 0 then none else some (addrC7 w v n)) (hv : 0 ≤ v ∧ v < 4294967296 ∧ 0 ≤ n ∧ n ≤ 32) : preOf l w = (v, n) := by
  unfold preOf
  rw [h]
  by_cases c : v = 0 ∧ n = 0
  · rw [if_pos c]; obtain ⟨rfl, rfl⟩ := c; rfl
  · rw [if_neg c]
    simp only [addrC7, nth, fig0, List.getD_cons_zero, List.getD_cons_succ]
    congr 1
    · omega
theorem por_port {l : List Cla} {w : List UInt8} {a b : Int} (h : findC w l = if a = 0 ∧ b = 65535 then none else some (portC7 w a b)) : porOf l w = (a, b) := by
  unfold porOf
  rw [h]
  by_cases c : a = 0 ∧ b = 65535
  · rw [if_pos c]; obtain ⟨rfl, rfl⟩ := c; rfl
  · rw [if_neg c]
    by_cases e : a = b
    · subst e
      simp [portC7, nth, fig0]
    · simp [portC7, e, nth, fig0]
theorem pro_proto {l : List Cla} {p : Int} (h : findC wProto l = if p = -1 then none else some ⟨wProto, 0, [fig0 p], false, false⟩) : proOf l = p := by
  unfold proOf
  rw [h]
  by_cases c : p = -1
  · rw [if_pos c, c]
  · rw [if_neg c]; rfl
theorem lineOf_clauses {x : Ent} (h : x.dflt = false) : (lineOf x).clauses = lineC x := by unfold lineOf; rw [h]; rfl
/-- What an entry's line means is the entry. -/
theorem meaning_line (x : Ent) (h : okE x) : meaning (lineOf x) = x := by
  have hact : actOf (lineOf x) = x.action := by
    show (if decide (x.action = 0) = true then 0 else x.action) = x.action
    by_cases c : x.action = 0
    · rw [if_pos (by simpa using c), c]
    · rw [if_neg (by simpa using c)]
  unfold meaning
  rw [hact]
  cases hd : x.dflt with
  | true =>
    rw [if_pos (show (lineOf x).dflt = true from hd)]
    exact (h.zero hd).symm
  | false =>
    rw [if_neg (show ¬ (lineOf x).dflt = true by rw [show (lineOf x).dflt = x.dflt from rfl, hd]; decide), lineOf_clauses hd, pre_addr (find_src x) h.src, pre_addr (find_dst x) h.dst, por_port (find_sport x), por_port (find_dport x), pro_proto (find_proto x)]
    show (⟨false, x.prio, x.action, x.src, x.srcBits, x.dst, x.dstBits, x.slow, x.shigh, x.dlow, x.dhigh, x.proto⟩ : Ent) = x
    rw [← hd]

theorem faultCs_append : ∀ (a had b : List Cla), faultCs had (a ++ b) = (faultCs had a).bind fun _ => faultCs (had ++ a) b
  | [], had, b => by rw [List.nil_append, List.append_nil]; rfl
  | c :: a, had, b => by
    rw [List.cons_append, faultCs, faultCs]
    cases faultC had c with
    | error e => rfl
    | ok u =>
      simp only [Except.bind]
      rw [faultCs_append a (had ++ [c]) b, List.append_assoc]
      rfl
theorem faultN_ok (c : Cla) (first : Int) : ∀ (l : List Fig) (k : Nat), (∀ (j : Nat) (x : Fig), l[j]? = some x → 0 ≤ x.n ∧ x.n ≤ mostN c.word (k + j) ∧ (c.dash = true → isPortW c.word = true → k + j = 1 → first ≤ x.n)) → faultN c first k l = .ok ()
  | [], _, _ => rfl
  | x :: l, k, h => by
    have h0 := h 0 x rfl
    rw [faultN, if_neg]
    · exact faultN_ok c first l (k + 1) fun j y hy => by
        have := h (j + 1) y (by simpa using hy)
        rw [show k + 1 + j = k + (j + 1) by omega]
        exact this
    · simp only [Bool.or_eq_true, Bool.and_eq_true, decide_eq_true_eq, beq_iff_eq]
      rintro ((h1 | h2) | ⟨⟨⟨h3, h4⟩, h5⟩, h6⟩)
      · omega
      · have := h0.2.1; rw [Nat.add_zero] at this; omega
      · have := h0.2.2 h3 h4 (by omega); omega
theorem faultN_in (c : Cla) (first : Int) : ∀ (l : List Fig) (k : Nat), faultN c first k l = .ok () → ∀ (j : Nat) (x : Fig), l[j]? = some x → 0 ≤ x.n ∧ x.n ≤ mostN c.word (k + j) ∧ (c.dash = true → isPortW c.word = true → k + j = 1 → first ≤ x.n)
  | [], _, _, j, x, hx => by simp at hx
  | y :: l, k, h, j, x, hx => by
    rw [faultN] at h
    split at h
    · cases h
    · rename_i hc
      simp only [Bool.or_eq_true, Bool.and_eq_true, decide_eq_true_eq, beq_iff_eq, not_or] at hc
      cases j with
      | zero =>
        obtain rfl : y = x := by simpa using hx
        rw [Nat.add_zero]
        refine ⟨by omega, by omega, fun h1 h2 h3 => ?_⟩
        have := hc.2
        by_cases h4 : y.n < first
        · exact absurd ⟨⟨⟨h1, h2⟩, h3⟩, h4⟩ this
        · omega
      | succ j =>
        have := faultN_in c first l (k + 1) h j x (by simpa using hx)
        rw [show k + (j + 1) = k + 1 + j by omega]
        exact this
theorem faultC_ok (had : List Cla) (c : Cla) (h0 : mustN c ≠ 0) (h1 : c.nums.length = mustN c) (h2 : ∀ d ∈ had, d.word ≠ c.word) (h3 : ∀ (j : Nat) (x : Fig), c.nums[j]? = some x → 0 ≤ x.n ∧ x.n ≤ mostN c.word j ∧ (c.dash = true → isPortW c.word = true → j = 1 → nth c 0 ≤ x.n)) : faultCs had [c] = .ok () := by
  have hany : had.any (fun d => d.word == c.word) = false := by
    rw [List.any_eq_false]; intro d hd; simpa using h2 d hd
  rw [faultCs, faultC, hany, if_neg (by simp [h0, h1]), if_neg (by simp), faultN_ok c (nth c 0) c.nums 0 (fun j x hx => by rw [Nat.zero_add]; exact h3 j x hx)]
  rfl
theorem fault_A (had : List Cla) (w : List UInt8) (hw : isAddrW w = true) (hp : isPortW w = false) (ho : (w == wProto) = false) (v n : Int) (hv : 0 ≤ v ∧ v < 4294967296 ∧ 0 ≤ n ∧ n ≤ 32) (hh : ∀ d ∈ had, d.word ≠ w) : faultCs had (partA w v n) = .ok () := by
  unfold partA
  split
  · rfl
  · have hm : mustN (addrC7 w v n) = 5 := by unfold mustN; rw [show (addrC7 w v n).word = w from rfl, hw]; rfl
    have m0 : ∀ k, k < 4 → mostN w k = 255 := fun k hk => by
      unfold mostN
      rw [hp, ho, if_neg (by decide), if_neg]
      simp only [Bool.and_eq_true, beq_iff_eq]
      omega
    have m4 : mostN w 4 = 32 := by unfold mostN; rw [hp, ho]; rfl
    refine faultC_ok had _ (by rw [hm]; decide) (by rw [hm]; rfl) hh fun j x hx => ?_
    show 0 ≤ x.n ∧ x.n ≤ mostN w j ∧ _
    refine ⟨?_, ?_, fun h => by cases h⟩
    all_goals
      rcases j with _ | _ | _ | _ | _ | j
      · obtain rfl : fig0 (v / 16777216) = x := by simpa [addrC7] using hx
        first | (rw [m0 0 (by omega)]; simp only [fig0]; omega) | (simp only [fig0]; omega)
      · obtain rfl : fig0 (v / 65536 % 256) = x := by simpa [addrC7] using hx
        first | (rw [m0 1 (by omega)]; simp only [fig0]; omega) | (simp only [fig0]; omega)
      · obtain rfl : fig0 (v / 256 % 256) = x := by simpa [addrC7] using hx
        first | (rw [m0 2 (by omega)]; simp only [fig0]; omega) | (simp only [fig0]; omega)
      · obtain rfl : fig0 (v % 256) = x := by simpa [addrC7] using hx
        first | (rw [m0 3 (by omega)]; simp only [fig0]; omega) | (simp only [fig0]; omega)
      · obtain rfl : fig0 n = x := by simpa [addrC7] using hx
        first | (rw [m4]; simp only [fig0]; omega) | (simp only [fig0]; omega)
      · simp [addrC7] at hx
theorem fault_P (had : List Cla) (w : List UInt8) (hp : isPortW w = true) (a b : Int) (hv : 0 ≤ a ∧ a ≤ b ∧ b ≤ 65535) (hh : ∀ d ∈ had, d.word ≠ w) : faultCs had (partP w a b) = .ok () := by
  unfold partP
  split
  · rfl
  · have ha := portW_not hp
    have m : ∀ k, mostN w k = 65535 := fun k => by unfold mostN; rw [hp]; rfl
    by_cases e : a = b
    · subst e
      have hc : portC7 w a a = ⟨w, 0, [fig0 a], false, false⟩ := by simp [portC7]
      rw [hc]
      have hm : mustN ⟨w, 0, [fig0 a], false, false⟩ = 1 := by unfold mustN; simp [ha, hp]
      refine faultC_ok had _ (by rw [hm]; decide) (by rw [hm]; rfl) hh fun j x hx => ?_
      show 0 ≤ x.n ∧ x.n ≤ mostN w j ∧ _
      rw [m]
      rcases j with _ | j
      · obtain rfl : fig0 a = x := by simpa using hx
        exact ⟨hv.1, hv.2.2, fun h => by cases h⟩
      · simp at hx
    · have hc : portC7 w a b = ⟨w, 0, [fig0 a, fig0 b], false, true⟩ := by simp [portC7, e]
      rw [hc]
      have hm : mustN ⟨w, 0, [fig0 a, fig0 b], false, true⟩ = 2 := by unfold mustN; simp [ha, hp]
      refine faultC_ok had _ (by rw [hm]; decide) (by rw [hm]; rfl) hh fun j x hx => ?_
      show 0 ≤ x.n ∧ x.n ≤ mostN w j ∧ _
      rw [m]
      rcases j with _ | _ | j
      · obtain rfl : fig0 a = x := by simpa using hx
        exact ⟨hv.1, by simp only [fig0]; omega, fun _ _ h => by cases h⟩
      · obtain rfl : fig0 b = x := by simpa using hx
        exact ⟨by simp only [fig0]; omega, hv.2.2, fun _ _ _ => hv.2.1⟩
      · simp at hx
theorem must_proto (p : Int) : mustN ⟨wProto, 0, [fig0 p], false, false⟩ = 1 := by
  unfold mustN
  rw [show isAddrW wProto = false from by decide, show isPortW wProto = false from by decide]
  rfl
theorem fault_O (had : List Cla) (p : Int) (hv : -1 ≤ p ∧ p ≤ 255) (hh : ∀ d ∈ had, d.word ≠ wProto) : faultCs had (partO p) = .ok () := by
  unfold partO
  split
  · rfl
  · rename_i hne
    refine faultC_ok had _ (by rw [must_proto]; decide) (by rw [must_proto]; rfl) hh fun j x hx => ?_
    rcases j with _ | j
    · obtain rfl : fig0 p = x := by simpa using hx
      exact ⟨by simp only [fig0]; omega, by show p ≤ 255; omega, fun h => by cases h⟩
    · simp at hx
/-- An entry's line has no fault. -/
theorem fault_line (x : Ent) (h : okE x) (hd : x.dflt = false) : faultR (lineOf x) = .ok () := by
  unfold faultR
  rw [if_neg (by have := h.prio; show ¬ (decide (x.prio < 0) || decide (65535 < x.prio)) = true; simp; omega), lineOf_clauses hd]
  unfold lineC
  rw [faultCs_append, fault_A [] wSrc (by decide) (by decide) (by decide) _ _ h.src (fun d hd => by simp at hd)]
  simp only [Except.bind]
  rw [faultCs_append, fault_A _ wDst (by decide) (by decide) (by decide) _ _ h.dst (fun d hd => by
    rw [List.nil_append] at hd; rw [partA_word hd]; decide)]
  simp only [Except.bind]
  rw [faultCs_append, fault_P _ wSport (by decide) _ _ h.sp (fun d hd => by
    simp only [List.nil_append, List.mem_append] at hd
    rcases hd with hd | hd <;> rw [partA_word hd] <;> decide)]
  simp only [Except.bind]
  rw [faultCs_append, fault_P _ wDport (by decide) _ _ h.dp (fun d hd => by
    simp only [List.nil_append, List.mem_append] at hd
    rcases hd with (hd | hd) | hd
    · rw [partA_word hd]; decide
    · rw [partA_word hd]; decide
    · rw [partP_word hd]; decide)]
  simp only [Except.bind]
  exact fault_O _ _ (h.proto hd) (fun d hd => by
    simp only [List.nil_append, List.mem_append] at hd
    rcases hd with ((hd | hd) | hd) | hd
    · rw [partA_word hd]; decide
    · rw [partA_word hd]; decide
    · rw [partP_word hd]; decide
    · rw [partP_word hd]; decide)

def goodC (c : Cla) : Prop := mustN c ≠ 0 ∧ c.nums.length = mustN c ∧ ∀ (j : Nat) (x : Fig), c.nums[j]? = some x → 0 ≤ x.n ∧ x.n ≤ mostN c.word j ∧ (c.dash = true → isPortW c.word = true → j = 1 → nth c 0 ≤ x.n)
theorem bindI {α β : Type} {x : ResI α} {f : α → ResI β} {b : β} (h : x.bind f = .ok b) : ∃ a, x = .ok a ∧ f a = .ok b := by
  cases x with
  | error e => simp [Except.bind] at h
  | ok a => exact ⟨a, rfl, h⟩
theorem mapI {α β : Type} {x : ResI α} {f : α → β} {b : β} (h : x.map f = .ok b) : ∃ a, x = .ok a ∧ f a = b := by
  cases x with
  | error e => simp [Except.map] at h
  | ok a => exact ⟨a, rfl, Except.ok.inj h⟩
theorem faultCs_in : ∀ (l had : List Cla), faultCs had l = .ok () → ∀ c ∈ l, goodC c
  | [], _, _, c, hc => by simp at hc
  | d :: l, had, h, c, hc => by
    rw [faultCs] at h
    obtain ⟨_, h1, h2⟩ := bindI h
    rcases List.mem_cons.1 hc with rfl | hc
    · unfold faultC at h1
      split at h1
      · cases h1
      · rename_i hm
        split at h1
        · cases h1
        · simp only [Bool.or_eq_true, beq_iff_eq, bne_iff_ne, ne_eq, not_or, Decidable.not_not] at hm
          refine ⟨hm.1, hm.2, fun j x hx => ?_⟩
          have := faultN_in c (nth c 0) c.nums 0 h1 j x hx
          rw [Nat.zero_add] at this
          exact this
    · exact faultCs_in l (had ++ [d]) h2 c hc
theorem nth_in {c : Cla} (h : goodC c) {k : Nat} (hk : k < mustN c) : 0 ≤ nth c k ∧ nth c k ≤ mostN c.word k ∧ (c.dash = true → isPortW c.word = true → k = 1 → nth c 0 ≤ nth c k) := by
  have hl : k < c.nums.length := by rw [h.2.1]; exact hk
  have hx : c.nums[k]? = some c.nums[k] := List.getElem?_eq_getElem hl
  have e : nth c k = c.nums[k].n := by unfold nth; rw [List.getD_eq_getElem?_getD, hx]; rfl
  rw [e]
  exact h.2.2 k _ hx
theorem find_in {w : List UInt8} {l : List Cla} {c : Cla} (h : findC w l = some c) : c ∈ l ∧ c.word = w := by
  unfold findC at h
  exact ⟨List.mem_of_find?_eq_some h, by simpa using List.find?_some h⟩
theorem pre_in {l : List Cla} (hl : ∀ c ∈ l, goodC c) (w : List UInt8) (hw : isAddrW w = true) (hp : isPortW w = false) (ho : (w == wProto) = false) : 0 ≤ (preOf l w).1 ∧ (preOf l w).1 < 4294967296 ∧ 0 ≤ (preOf l w).2 ∧ (preOf l w).2 ≤ 32 := by
  unfold preOf
  cases hf : findC w l with
  | none => simp
  | some c =>
    obtain ⟨hc, hcw⟩ := find_in hf
    have hg := hl c hc
    have hm : mustN c = if c.slash then 5 else 4 := by unfold mustN; rw [hcw, if_pos hw]
    have m0 : ∀ k, k < 4 → mostN w k = 255 := fun k hk => by
      unfold mostN
      rw [hp, ho, if_neg (by decide), if_neg]
      simp only [Bool.and_eq_true, beq_iff_eq]
      omega
    have m4 : mostN w 4 = 32 := by unfold mostN; rw [hp, ho]; rfl
    have b : ∀ k, k < 4 → 0 ≤ nth c k ∧ nth c k ≤ 255 := fun k hk => by
      have := nth_in hg (k := k) (by rw [hm]; split <;> omega)
      rw [hcw, m0 k hk] at this
      exact ⟨this.1, this.2.1⟩
    have b0 := b 0 (by omega)
    have b1 := b 1 (by omega)
    have b2 := b 2 (by omega)
    have b3 := b 3 (by omega)
    show 0 ≤ ((nth c 0 * 256 + nth c 1) * 256 + nth c 2) * 256 + nth c 3 ∧ ((nth c 0 * 256 + nth c 1) * 256 + nth c 2) * 256 + nth c 3 < 4294967296 ∧ 0 ≤ (if c.slash then nth c 4 else 32) ∧ (if c.slash then nth c 4 else 32) ≤ 32
    refine ⟨by omega, by omega, ?_⟩
    cases hsl : c.slash with
    | false => simp
    | true =>
      have := nth_in hg (k := 4) (by rw [hm, hsl]; decide)
      rw [hcw, m4] at this
      simpa using ⟨this.1, this.2.1⟩
theorem por_in {l : List Cla} (hl : ∀ c ∈ l, goodC c) (w : List UInt8) (hp : isPortW w = true) : 0 ≤ (porOf l w).1 ∧ (porOf l w).1 ≤ (porOf l w).2 ∧ (porOf l w).2 ≤ 65535 := by
  unfold porOf
  cases hf : findC w l with
  | none => simp
  | some c =>
    obtain ⟨hc, hcw⟩ := find_in hf
    have hg := hl c hc
    have hm : mustN c = if c.dash then 2 else 1 := by unfold mustN; rw [hcw, portW_not hp, hp]; rfl
    have m : ∀ k, mostN w k = 65535 := fun k => by unfold mostN; rw [hp]; rfl
    have b0 := nth_in hg (k := 0) (by rw [hm]; split <;> omega)
    rw [hcw, m] at b0
    show 0 ≤ nth c 0 ∧ nth c 0 ≤ (if c.dash then nth c 1 else nth c 0) ∧ (if c.dash then nth c 1 else nth c 0) ≤ 65535
    cases hda : c.dash with
    | false => simpa using ⟨b0.1, b0.2.1⟩
    | true =>
      have b1 := nth_in hg (k := 1) (by rw [hm, hda]; decide)
      rw [hcw, m] at b1
      have := b1.2.2 hda hp rfl
      simpa using ⟨b0.1, this, b1.2.1⟩
theorem pro_in {l : List Cla} (hl : ∀ c ∈ l, goodC c) : -1 ≤ proOf l ∧ proOf l ≤ 255 := by
  unfold proOf
  cases hf : findC wProto l with
  | none => simp
  | some c =>
    obtain ⟨hc, hcw⟩ := find_in hf
    have hg := hl c hc
    have hm : mustN c = 1 := by
      unfold mustN
      rw [hcw, show isAddrW wProto = false from by decide, show isPortW wProto = false from by decide]
      rfl
    have b0 := nth_in hg (k := 0) (by rw [hm]; decide)
    rw [hcw, show mostN wProto 0 = 255 from by decide] at b0
    show -1 ≤ nth c 0 ∧ nth c 0 ≤ 255
    omega
/-- What a line without faults means is as it may be. -/
theorem okE_meaning (r : Raw) (hf : r.dflt = false → faultR r = .ok ()) (hp : r.drop = false → 1 ≤ r.port.n ∧ r.port.n ≤ 99) : okE (meaning r) ∧ (meaning r).dflt = r.dflt := by
  have hact : 0 ≤ actOf r ∧ actOf r ≤ 99 := by
    unfold actOf
    cases hd : r.drop with
    | true => simp
    | false => have := hp hd; simp; omega
  unfold meaning
  cases hd : r.dflt with
  | true =>
    rw [if_pos rfl]
    exact ⟨⟨hact, fun _ => rfl, by simp, by simp, by simp, by simp, by simp, fun h => by cases h⟩, rfl⟩
  | false =>
    rw [if_neg (by decide)]
    have h1 := hf hd
    unfold faultR at h1
    split at h1
    · cases h1
    · rename_i hpr
      simp only [Bool.or_eq_true, decide_eq_true_eq, not_or] at hpr
      have hl := faultCs_in r.clauses [] h1
      exact ⟨⟨hact, (fun h => by cases h), ⟨by show 0 ≤ r.prio.n; omega, by show r.prio.n ≤ 65535; omega⟩, pre_in hl wSrc (by decide) (by decide) (by decide), pre_in hl wDst (by decide) (by decide) (by decide), por_in hl wSport (by decide), por_in hl wDport (by decide), fun _ => pro_in hl⟩, rfl⟩
/-- What was checked is, as it would be written, checked as the same. -/
theorem check_lines (size size' : Int) : ∀ (R : List Raw) (i : Nat) (had : Bool) (l : List Ent), checkGo size i had R = .ok l → (∀ x ∈ l, okE x) ∧ checkGo size' i had (l.map lineOf) = .ok l ∧ l.length = R.length ∧ i + R.length ≤ 64 ∨ R = [] ∧ had = true ∧ l = []
  | [], i, had, l, h => by
    rw [checkGo] at h
    split at h
    · rename_i hh
      obtain rfl : [] = l := Except.ok.inj h
      exact .inr ⟨rfl, hh, rfl⟩
    · cases h
  | r :: R, i, had, l, h => by
    left
    rw [checkGo] at h
    split at h
    · cases h
    rename_i hi
    split at h
    · cases h
    rename_i hdh
    obtain ⟨_, h1, ha⟩ := bindI h
    split at ha
    · cases ha
    rename_i hport
    obtain ⟨m, h2, hb⟩ := mapI ha
    subst hb
    have hf : r.dflt = false → faultR r = .ok () := fun hd => by rw [hd, if_neg (by decide)] at h1; exact h1
    have hp : r.drop = false → 1 ≤ r.port.n ∧ r.port.n ≤ 99 := fun hd => by
      rw [hd] at hport
      simp only [Bool.not_false, Bool.true_and, Bool.or_eq_true, decide_eq_true_eq, not_or] at hport
      omega
    obtain ⟨hok, hdf⟩ := okE_meaning r hf hp
    have hm := meaning_line _ hok
    have tail : (∀ x ∈ m, okE x) ∧ checkGo size' (i + 1) (had || r.dflt) (m.map lineOf) = .ok m ∧ m.length = R.length ∧ i + 1 + R.length ≤ 64 := by
      rcases check_lines size size' R (i + 1) (had || r.dflt) m h2 with ⟨a1, a2, a3, a4⟩ | ⟨rfl, b2, rfl⟩
      · exact ⟨a1, a2, a3, a4⟩
      · refine ⟨fun x hx => by simp at hx, ?_, rfl, by simp; omega⟩
        rw [List.map_nil, checkGo, if_pos b2]
    refine ⟨fun x hx => ?_, ?_, by simp [tail.2.2.1], by have := tail.2.2.2; simp; omega⟩
    · rcases List.mem_cons.1 hx with rfl | hx
      · exact hok
      · exact tail.1 x hx
    · have hd2 : (lineOf (meaning r)).dflt = r.dflt := hdf
      have hfl : (if (lineOf (meaning r)).dflt then (Except.ok () : ResI Unit) else faultR (lineOf (meaning r))) = .ok () := by
        cases hd : r.dflt with
        | true => rw [hd2, hd, if_pos rfl]
        | false => rw [hd2, hd, if_neg (by decide)]; exact fault_line _ hok (hdf.trans hd)
      have hpl : (!(lineOf (meaning r)).drop && (decide ((lineOf (meaning r)).port.n < 1) || decide (99 < (lineOf (meaning r)).port.n))) = false := by
        have := hok.act
        show (!decide ((meaning r).action = 0) && (decide ((meaning r).action < 1) || decide (99 < (meaning r).action))) = false
        by_cases c : (meaning r).action = 0
        · simp [c]
        · simp [c]; omega
      rw [List.map_cons, checkGo, if_neg hi, hd2, if_neg hdh]
      rw [hd2] at hfl
      rw [hfl]
      simp only [Except.bind]
      rw [hpl, if_neg (by decide), tail.2.1, hm]
      rfl
/-- Places do not count where nothing is wrong. -/
theorem faultN_same (c c' : Cla) (hw : c.word = c'.word) (hd : c.dash = c'.dash) (first : Int) : ∀ (l l' : List Fig) (k : Nat), l.map (·.n) = l'.map (·.n) → faultN c first k l = .ok () → faultN c' first k l' = .ok ()
  | [], [], _, _, _ => rfl
  | [], _ :: _, _, h, _ => by simp at h
  | _ :: _, [], _, h, _ => by simp at h
  | x :: l, y :: l', k, h, hx => by
    rw [List.map_cons, List.map_cons] at h
    obtain ⟨h1, h2⟩ := List.cons.inj h
    rw [faultN] at hx ⊢
    split at hx
    · cases hx
    · rename_i hc
      rw [← h1, ← hw, ← hd, if_neg hc]
      exact faultN_same c c' hw hd first l l' (k + 1) h2 hx
theorem nth_same {c c' : Cla} (h : c.nums.map (·.n) = c'.nums.map (·.n)) (k : Nat) : nth c k = nth c' k := by
  have h1 := congrArg (fun l => l[k]?) h
  simp only [List.getElem?_map] at h1
  unfold nth
  rw [List.getD_eq_getElem?_getD, List.getD_eq_getElem?_getD]
  cases h2 : c.nums[k]? with
  | none => rw [h2] at h1; cases h3 : c'.nums[k]? with
    | none => rfl
    | some y => rw [h3] at h1; simp at h1
  | some x => rw [h2] at h1; cases h3 : c'.nums[k]? with
    | none => rw [h3] at h1; simp at h1
    | some y => rw [h3] at h1; simpa using h1
theorem any_same (w : List UInt8) : ∀ l l' : List Cla, l.map clC = l'.map clC → l.any (fun d => d.word == w) = l'.any (fun d => d.word == w)
  | [], [], _ => rfl
  | [], _ :: _, h => by simp at h
  | _ :: _, [], h => by simp at h
  | c :: l, c' :: l', h => by
    rw [List.map_cons, List.map_cons] at h
    obtain ⟨h1, h2⟩ := List.cons.inj h
    rw [List.any_cons, List.any_cons, any_same w l l' h2, show c.word = c'.word from congrArg Prod.fst h1]
theorem faultCs_same : ∀ (l l' had had' : List Cla), had.map clC = had'.map clC → l.map clC = l'.map clC → faultCs had l = .ok () → faultCs had' l' = .ok ()
  | [], [], _, _, _, _, _ => rfl
  | [], _ :: _, _, _, _, h, _ => by simp at h
  | _ :: _, [], _, _, _, h, _ => by simp at h
  | c :: l, c' :: l', had, had', hh, h, hx => by
    rw [List.map_cons, List.map_cons] at h
    obtain ⟨h1, h2⟩ := List.cons.inj h
    have hq := h1
    unfold clC at hq
    simp only [Prod.mk.injEq] at hq
    obtain ⟨q1, q2, q3, q4⟩ := hq
    rw [faultCs] at hx ⊢
    obtain ⟨_, e1, e2⟩ := bindI hx
    have hm : mustN c = mustN c' := by unfold mustN; rw [q1, q3, q4]
    have hl : c.nums.length = c'.nums.length := by simpa using congrArg List.length q2
    have : faultC had' c' = .ok () := by
      unfold faultC at e1 ⊢
      rw [← hm, ← hl, ← any_same c'.word had had' hh, ← q1]
      split at e1
      · cases e1
      · rename_i ha
        rw [if_neg ha]
        split at e1
        · cases e1
        · rename_i hb
          rw [if_neg hb, ← nth_same q2]
          exact faultN_same c c' q1 q4 _ _ _ 0 q2 e1
    rw [this]
    exact faultCs_same l l' (had ++ [c]) (had' ++ [c']) (by rw [List.map_append, List.map_append, hh, List.map_singleton, List.map_singleton, h1]) h2 e2
theorem find_same (w : List UInt8) : ∀ l l' : List Cla, l.map clC = l'.map clC → (findC w l).map clC = (findC w l').map clC
  | [], [], _ => rfl
  | [], _ :: _, h => by simp at h
  | _ :: _, [], h => by simp at h
  | c :: l, c' :: l', h => by
    rw [List.map_cons, List.map_cons] at h
    obtain ⟨h1, h2⟩ := List.cons.inj h
    have hw : c.word = c'.word := congrArg Prod.fst h1
    have ih := find_same w l l' h2
    unfold findC at ih ⊢
    rw [List.find?_cons, List.find?_cons, hw]
    cases (c'.word == w)
    · exact ih
    · simp [h1]
theorem find_cases {w : List UInt8} {l l' : List Cla} (h : l.map clC = l'.map clC) : (findC w l = none ∧ findC w l' = none) ∨ ∃ c c', findC w l = some c ∧ findC w l' = some c' ∧ clC c = clC c' := by
  have := find_same w l l' h
  cases h1 : findC w l with
  | none =>
    rw [h1] at this
    cases h2 : findC w l' with
    | none => exact .inl ⟨rfl, rfl⟩
    | some c' => rw [h2] at this; simp at this
  | some c =>
    rw [h1] at this
    cases h2 : findC w l' with
    | none => rw [h2] at this; simp at this
    | some c' => rw [h2] at this; exact .inr ⟨c, c', rfl, rfl, by simpa using this⟩
theorem clC_parts {c c' : Cla} (h : clC c = clC c') : (∀ k, nth c k = nth c' k) ∧ c.slash = c'.slash ∧ c.dash = c'.dash := by
  unfold clC at h
  simp only [Prod.mk.injEq] at h
  exact ⟨fun k => nth_same h.2.1 k, h.2.2.1, h.2.2.2⟩
theorem pre_same {l l' : List Cla} (h : l.map clC = l'.map clC) (w : List UInt8) : preOf l w = preOf l' w := by
  unfold preOf
  rcases find_cases (w := w) h with ⟨h1, h2⟩ | ⟨c, c', h1, h2, h3⟩
  · rw [h1, h2]
  · obtain ⟨p1, p2, _⟩ := clC_parts h3
    rw [h1, h2]
    simp only [p1, p2]
theorem por_same {l l' : List Cla} (h : l.map clC = l'.map clC) (w : List UInt8) : porOf l w = porOf l' w := by
  unfold porOf
  rcases find_cases (w := w) h with ⟨h1, h2⟩ | ⟨c, c', h1, h2, h3⟩
  · rw [h1, h2]
  · obtain ⟨p1, _, p3⟩ := clC_parts h3
    rw [h1, h2]
    simp only [p1, p3]
theorem pro_same {l l' : List Cla} (h : l.map clC = l'.map clC) : proOf l = proOf l' := by
  unfold proOf
  rcases find_cases (w := wProto) h with ⟨h1, h2⟩ | ⟨c, c', h1, h2, h3⟩
  · rw [h1, h2]
  · obtain ⟨p1, _, _⟩ := clC_parts h3
    rw [h1, h2]
    simp only [p1]
theorem check_same (size size' : Int) : ∀ (R R' : List Raw) (i : Nat) (had : Bool) (l : List Ent), R.map clR = R'.map clR → checkGo size i had R = .ok l → checkGo size' i had R' = .ok l
  | [], [], i, had, l, _, h => by
    rw [checkGo] at h ⊢
    split at h
    · rename_i hh; rw [if_pos hh]; exact h
    · cases h
  | [], _ :: _, _, _, _, h, _ => by simp at h
  | _ :: _, [], _, _, _, h, _ => by simp at h
  | r :: R, r' :: R', i, had, l, hR, h => by
    rw [List.map_cons, List.map_cons] at hR
    obtain ⟨h1, h2⟩ := List.cons.inj hR
    unfold clR at h1
    simp only [Prod.mk.injEq] at h1
    obtain ⟨q1, q2, q3, q4, q5⟩ := h1
    rw [checkGo] at h ⊢
    split at h
    · cases h
    rename_i hi
    split at h
    · cases h
    rename_i hdh
    obtain ⟨_, e1, ha⟩ := bindI h
    split at ha
    · cases ha
    rename_i hport
    obtain ⟨m, e2, hb⟩ := mapI ha
    subst hb
    have hm : meaning r = meaning r' := by
      unfold meaning actOf
      rw [q1, q2, q4, q5, pre_same q3, pre_same q3, por_same q3, por_same q3, pro_same q3]
    have hf : (if r'.dflt then (Except.ok () : ResI Unit) else faultR r') = .ok () := by
      rw [← q1]
      cases hd : r.dflt with
      | true => rfl
      | false =>
        rw [hd, if_neg (by decide)] at e1
        rw [if_neg (by decide)]
        unfold faultR at e1 ⊢
        rw [← q2]
        split at e1
        · cases e1
        · rename_i hpr
          rw [if_neg hpr]
          exact faultCs_same _ _ [] [] rfl q3 e1
    rw [if_neg hi, ← q1, if_neg hdh]
    rw [← q1] at hf
    rw [hf]
    simp only [Except.bind]
    rw [← q4, ← q5, if_neg hport, check_same size size' R R' (i + 1) (had || r.dflt) m h2 e2, hm]
    rfl
/-- WHAT WAS READ IS PRINTED TO A TEXT THAT IS READ AS THE SAME. -/
theorem sense_back {S : List UInt8} {l : List Ent} (h : readT S = .ok l) (hlen : (printE l).length ≤ 4096) : readT (printE l) = .ok l := by
  unfold readT at h
  cases hp : parseT S with
  | error x => rw [hp] at h; cases h
  | ok R =>
    rw [hp] at h
    rcases check_lines _ ((printE l).length : Int) R 0 false l h with ⟨h1, h2, h3, h4⟩ | ⟨_, h5, _⟩
    · have hok : ∀ x ∈ l.map lineOf, okR x := fun x hx => by
        obtain ⟨y, hy, rfl⟩ := List.mem_map.1 hx
        exact okR_line y (h1 y hy)
      obtain ⟨R', e, hR'⟩ := parse_print (l.map lineOf) hok (by rw [List.length_map]; omega) hlen
      have hc := check_same _ ((printE l).length : Int) (l.map lineOf) R' 0 false l hR'.symm h2
      unfold readT
      rw [show parseT (printE l) = .ok R' from e]
      exact hc
    · cases h5
end Go.Proofs.YtbdbjbmjnemknaaDoor
namespace Go.Proofs.YtbdbjbmjnemknaaDoor
open Go
set_option maxRecDepth 20000

/-- Of what was checked just one entry is the default. -/
theorem check_one (size : Int) : ∀ (R : List Raw) (i : Nat) (had : Bool) (l : List Ent), checkGo size i had R = .ok l → (l.filter fun x => x.dflt).length + (if had then 1 else 0) = 1 ∧ l.length = R.length
  | [], i, had, l, h => by
    rw [checkGo] at h
    split at h
    · rename_i hh
      obtain rfl : [] = l := Except.ok.inj h
      rw [hh]; exact ⟨rfl, rfl⟩
    · cases h
  | r :: R, i, had, l, h => by
    rw [checkGo] at h
    split at h
    · cases h
    split at h
    · cases h
    rename_i hdh
    obtain ⟨_, h1, ha⟩ := bindI h
    split at ha
    · cases ha
    obtain ⟨m, h2, hb⟩ := mapI ha
    subst hb
    obtain ⟨ih, il⟩ := check_one size R (i + 1) (had || r.dflt) m h2
    have hd : (meaning r).dflt = r.dflt := by unfold meaning; cases r.dflt <;> rfl
    refine ⟨?_, by simp [il]⟩
    rw [List.filter_cons, hd]
    cases e : r.dflt with
    | false =>
      rw [e] at ih
      simpa using ih
    | true =>
      have hh : had = false := by
        rw [e, Bool.true_and] at hdh
        simpa using hdh
      rw [e, hh] at ih
      rw [hh]
      simp at ih ⊢
      exact ih
/-- What was read: entries as they may be, one of them the default. -/
theorem read_in {S : List UInt8} {l : List Ent} (h : readT S = .ok l) : (∀ x ∈ l, okE x) ∧ (l.filter fun x => x.dflt).length = 1 ∧ ∃ R, parseT S = .ok R ∧ l.length = R.length := by
  unfold readT at h
  cases hp : parseT S with
  | error x => rw [hp] at h; cases h
  | ok R =>
    rw [hp] at h
    obtain ⟨h1, h2⟩ := check_one _ R 0 false l h
    refine ⟨?_, by simpa using h1, R, rfl, h2⟩
    rcases check_lines _ 0 R 0 false l h with ⟨h3, _⟩ | ⟨_, h5, _⟩
    · exact h3
    · cases h5

/-! Which entry says something of a header: 'ap' tells whether an entry applies. -/
/-- The greatest priority that applies and isn't a default, the first of several: the place of the best so far, and its priority. -/
def beats (p : Int) : Option (Nat × Int) → Bool
  | none => true
  | some b => decide (b.2 < p)
def bestGo (ap : Ent → Bool) : Nat → Option (Nat × Int) → List Ent → Option (Nat × Int)
  | _, b, [] => b
  | i, b, x :: l => bestGo ap (i + 1) (if !x.dflt && ap x && beats x.prio b then some (i, x.prio) else b) l
def firstD : Nat → List Ent → Option Nat
  | _, [] => none
  | i, x :: l => if x.dflt then some i else firstD (i + 1) l
def whichT (ap : Ent → Bool) (l : List Ent) : Option Nat := match bestGo ap 0 none l with
  | some (i, _) => some i
  | none => firstD 0 l
theorem bestGo_in (ap : Ent → Bool) (L : List Ent) : ∀ (l : List Ent) (i : Nat) (b : Option (Nat × Int)), (∀ k, l[k]? = L[i + k]?) → (∀ j p, b = some (j, p) → ∃ x, L[j]? = some x ∧ x.prio = p ∧ x.dflt = false ∧ ap x = true) → ∀ j p, bestGo ap i b l = some (j, p) → ∃ x, L[j]? = some x ∧ x.prio = p ∧ x.dflt = false ∧ ap x = true
  | [], i, b, _, hb, j, p, h => hb j p h
  | x :: l, i, b, hL, hb, j, p, h => by
    rw [bestGo] at h
    refine bestGo_in ap L l (i + 1) _ (fun k => ?_) (fun j p hjp => ?_) j p h
    · have := hL (k + 1)
      rw [List.getElem?_cons_succ] at this
      rw [this]; congr 1; omega
    · split at hjp
      · rename_i hc
        simp only [Bool.and_eq_true, Bool.not_eq_true'] at hc
        obtain ⟨rfl, rfl⟩ := Prod.mk.inj (Option.some.inj hjp)
        have := hL 0
        simp only [List.getElem?_cons_zero, Nat.add_zero] at this
        exact ⟨x, this.symm, rfl, hc.1.1, hc.1.2⟩
      · exact hb j p hjp
theorem firstD_in : ∀ (l : List Ent) (i : Nat), (∃ x ∈ l, x.dflt = true) → ∃ k x, firstD i l = some (i + k) ∧ l[k]? = some x ∧ x.dflt = true
  | [], i, h => by obtain ⟨x, hx, _⟩ := h; simp at hx
  | y :: l, i, h => by
    rw [firstD]
    cases hy : y.dflt with
    | true => exact ⟨0, y, by rw [if_pos rfl]; rfl, rfl, hy⟩
    | false =>
      rw [if_neg (by decide)]
      obtain ⟨k, x, h1, h2, h3⟩ := firstD_in l (i + 1) (by
        obtain ⟨x, hx, hd⟩ := h
        rcases List.mem_cons.1 hx with rfl | hx
        · rw [hy] at hd; cases hd
        · exact ⟨x, hx, hd⟩)
      exact ⟨k + 1, x, by rw [h1]; congr 1; omega, by simpa using h2, h3⟩
/-- A LIST WITH A DEFAULT SAYS SOMETHING OF EVERY HEADER. -/
theorem which_some (ap : Ent → Bool) (l : List Ent) (h : ∃ x ∈ l, x.dflt = true) : ∃ i x, whichT ap l = some i ∧ l[i]? = some x := by
  unfold whichT
  cases hb : bestGo ap 0 none l with
  | some b =>
    obtain ⟨i, p⟩ := b
    obtain ⟨x, hx, _⟩ := bestGo_in ap l l 0 none (fun k => by rw [Nat.zero_add]) (fun j p hjp => by cases hjp) i p hb
    exact ⟨i, x, rfl, hx⟩
  | none =>
    obtain ⟨k, x, h1, h2, _⟩ := firstD_in l 0 h
    exact ⟨k, x, by rw [← Nat.zero_add k]; exact h1, h2⟩
end Go.Proofs.YtbdbjbmjnemknaaDoor
namespace Go.Proofs.YtbdbjbmjnemknaaDoor
open Go
set_option maxRecDepth 20000

/-- What a check comes to, as an error and its place. -/
def fltR : ResI Unit → Int × Int
  | .ok _ => (0, 0)
  | .error x => ((x.1 : Int), x.2)
/-- The least number at a place of a clause, as the program has it. -/
def lowN (c : Cla) (i : Nat) : Int := if isPortW c.word && decide (0 < i) then nth c 0 else 0
def numF (c : Cla) : Nat → List Fig → Int × Int
  | _, [] => (0, 0)
  | i, x :: l => if decide (x.n < lowN c i) || decide (mostN c.word i < x.n) then (10, x.pos) else numF c (i + 1) l
theorem numF_other (c : Cla) (hp : isPortW c.word = false) (first : Int) : ∀ (l : List Fig) (k : Nat), numF c k l = fltR (faultN c first k l)
  | [], _ => rfl
  | x :: l, k => by
    rw [numF, faultN]
    have e : lowN c k = 0 := by unfold lowN; rw [hp]; rfl
    rw [e, hp]
    simp only [Bool.and_false, Bool.false_and, Bool.or_false]
    split
    · rfl
    · exact numF_other c hp first l (k + 1)
theorem mustN_port {c : Cla} (hp : isPortW c.word = true) : mustN c = if c.dash then 2 else 1 := by
  unfold mustN
  rw [portW_not hp, hp]
  simp
theorem numF_all (c : Cla) (hl : c.nums.length = mustN c) : numF c 0 c.nums = fltR (faultN c (nth c 0) 0 c.nums) := by
  cases hp : isPortW c.word with
  | false => exact numF_other c hp _ _ _
  | true =>
    rw [mustN_port hp] at hl
    cases hd : c.dash with
    | false =>
      rw [hd] at hl
      obtain ⟨a, ha⟩ : ∃ a, c.nums = [a] := by
        match h : c.nums, hl with
        | [a], _ => exact ⟨a, rfl⟩
      rw [ha]
      simp only [numF, faultN, lowN, hp, hd, Bool.false_and, Bool.or_false, Bool.true_and]
      simp only [Nat.lt_irrefl, decide_false, Bool.false_eq_true, if_false]
      split <;> rfl
    | true =>
      rw [hd] at hl
      obtain ⟨a, b, ha⟩ : ∃ a b, c.nums = [a, b] := by
        match h : c.nums, hl with
        | [a, b], _ => exact ⟨a, b, rfl⟩
      have hn : nth c 0 = a.n := by unfold nth; rw [ha]; rfl
      have hm : ∀ k, mostN c.word k = 65535 := fun k => by unfold mostN; rw [hp]; rfl
      rw [ha]
      simp only [numF, faultN, lowN, hp, hd, hn, hm, Bool.true_and, Nat.zero_add]
      simp only [Nat.lt_irrefl, decide_false, Bool.false_eq_true, if_false, if_true, Nat.lt_add_one, decide_true, show ((0 : Nat) == 1) = false from rfl, show ((1 : Nat) == 1) = true from rfl, Bool.false_and, Bool.or_false, Bool.true_and]
      by_cases h1 : a.n < 0
      · simp [h1, fltR]
      · by_cases h2 : 65535 < a.n
        · simp [h2, fltR]
        · by_cases h3 : b.n < a.n
          · have h4 : (decide (b.n < 0) || decide (65535 < b.n) || true) = true := by simp
            simp [h1, h2, h3, fltR]
          · have h5 : ¬ b.n < 0 := by omega
            by_cases h6 : 65535 < b.n <;> simp [h1, h2, h3, h5, h6, fltR]

/-- What is wrong with a clause first, as the program asks. -/
def claF (had : List Cla) (c : Cla) : Int × Int :=
  if mustN c == 0 || c.nums.length != mustN c then (8, c.pos) else if had.any (fun d => d.word == c.word) then (9, c.pos) else numF c 0 c.nums
theorem claF_eq (had : List Cla) (c : Cla) : claF had c = fltR (faultC had c) := by
  unfold claF faultC
  split
  · rfl
  · rename_i h
    split
    · rfl
    · simp only [Bool.or_eq_true, beq_iff_eq, bne_iff_ne, ne_eq, not_or, Decidable.not_not] at h
      exact numF_all c h.2
theorem faultN_code (c : Cla) (first : Int) : ∀ (l : List Fig) (k e : Nat) (p : Int), faultN c first k l = .error (e, p) → e = 10
  | [], _, _, _, h => by simp [faultN] at h
  | x :: l, k, e, p, h => by
    rw [faultN] at h
    split at h
    · simp only [Except.error.injEq, Prod.mk.injEq] at h; exact h.1.symm
    · exact faultN_code c first l (k + 1) e p h
theorem faultC_code {had : List Cla} {c : Cla} {e : Nat} {p : Int} (h : faultC had c = .error (e, p)) : e ≠ 0 := by
  unfold faultC at h
  split at h
  · simp only [Except.error.injEq, Prod.mk.injEq] at h; omega
  · split at h
    · simp only [Except.error.injEq, Prod.mk.injEq] at h; omega
    · have := faultN_code _ _ _ _ _ _ h; omega
/-- What is wrong with a line's first k clauses. -/
def ruleF (r : Raw) (k : Nat) : Int × Int := if decide (r.prio.n < 0) || decide (65535 < r.prio.n) then (10, r.prio.pos) else fltR (faultCs [] (r.clauses.take k))
theorem fltR_zero {x : ResI Unit} (hc : ∀ e p, x = .error (e, p) → e ≠ 0) (h : (fltR x).1 = 0) : x = .ok () := by
  cases x with
  | ok u => rfl
  | error y =>
    obtain ⟨e, p⟩ := y
    have := hc e p rfl
    simp [fltR] at h
    exact absurd h this
theorem faultCs_code : ∀ (l had : List Cla) (e : Nat) (p : Int), faultCs had l = .error (e, p) → e ≠ 0
  | [], _, _, _, h => by simp [faultCs] at h
  | c :: l, had, e, p, h => by
    rw [faultCs] at h
    cases hc : faultC had c with
    | error y =>
      obtain ⟨e', p'⟩ := y
      rw [hc] at h
      simp only [Except.bind, Except.error.injEq, Prod.mk.injEq] at h
      have := faultC_code hc
      omega
    | ok u =>
      rw [hc] at h
      exact faultCs_code l _ e p h
theorem ruleF_next {r : Raw} {k : Nat} {c : Cla} (hc : r.clauses[k]? = some c) (h : (ruleF r k).1 = 0) : ruleF r (k + 1) = claF (r.clauses.take k) c := by
  unfold ruleF at h ⊢
  split at h
  · simp at h
  · rename_i hp
    have h1 := fltR_zero (fun e p => faultCs_code _ _ e p) h
    rw [if_neg hp, claF_eq]
    obtain ⟨hk, rfl⟩ := List.getElem?_eq_some_iff.1 hc
    rw [List.take_succ_eq_append_getElem hk, faultCs_append, h1]
    simp only [Except.bind, List.nil_append, faultCs]
    cases faultC (r.clauses.take k) r.clauses[k] <;> rfl
theorem ruleF_stays {r : Raw} {k : Nat} (h : (ruleF r k).1 ≠ 0) : ruleF r r.clauses.length = ruleF r k := by
  unfold ruleF at h ⊢
  split
  · rfl
  · rename_i hp
    rw [if_neg hp] at h
    rw [List.take_length]
    have e : r.clauses = r.clauses.take k ++ r.clauses.drop k := (List.take_append_drop k _).symm
    rw [show faultCs [] r.clauses = faultCs [] (r.clauses.take k ++ r.clauses.drop k) by rw [← e], faultCs_append]
    cases hx : faultCs [] (r.clauses.take k) with
    | error y => rfl
    | ok u => rw [hx] at h; exact absurd rfl h
theorem ruleF_all (r : Raw) : ruleF r r.clauses.length = fltR (faultR r) := by
  unfold ruleF faultR
  rw [List.take_length]
  split <;> rfl
theorem faultR_code {r : Raw} {e : Nat} {p : Int} (h : faultR r = .error (e, p)) : e ≠ 0 := by
  unfold faultR at h
  split at h
  · simp only [Except.error.injEq, Prod.mk.injEq] at h; omega
  · exact faultCs_code _ _ _ _ h
def lineF (r : Raw) : Int × Int := if r.dflt then (0, 0) else fltR (faultR r)
def actF (r : Raw) : Int × Int := if !r.drop && (decide (r.port.n < 1) || decide (99 < r.port.n)) then (10, r.port.pos) else (0, 0)
def orF (a b : Int × Int) : Int × Int := if a.1 = 0 then b else a
/-- What is wrong with line i first. -/
def rowF (i : Nat) (had : Bool) (r : Raw) : Int × Int :=
  orF (if 64 ≤ i then (4, r.pos) else (0, 0)) (orF (if had && r.dflt then (9, r.pos) else (0, 0)) (orF (lineF r) (orF (actF r) (0, 0))))
theorem check_nil (size : Int) (i : Nat) (had : Bool) : checkGo size i had [] = if had then .ok [] else .error (11, size) := rfl
theorem check_bad (size : Int) (i : Nat) (had : Bool) (r : Raw) (l : List Raw) (h : (rowF i had r).1 ≠ 0) : ∃ e : Nat, checkGo size i had (r :: l) = .error (e, (rowF i had r).2) ∧ (rowF i had r).1 = (e : Int) := by
  rw [checkGo]
  unfold rowF orF at h ⊢
  by_cases h1 : 64 ≤ i
  · rw [if_pos h1]
    exact ⟨4, by simp [h1], by simp [h1]⟩
  · rw [if_neg h1] at h ⊢
    simp only [if_true, h1, if_false] at h ⊢
    by_cases h2 : (had && r.dflt) = true
    · have h2' : (r.dflt && had) = true := by rw [Bool.and_comm]; exact h2
      exact ⟨9, by simp [h2, h2'], by simp [h2]⟩
    · have h2' : (r.dflt && had) = false := by rw [Bool.and_comm]; simpa using h2
      have h2f : (had && r.dflt) = false := by simpa using h2
      rw [h2f] at h ⊢
      simp only [h2', Bool.false_eq_true, if_false, if_true] at h ⊢
      cases hd : r.dflt with
      | true =>
        have hl : lineF r = (0, 0) := by unfold lineF; rw [hd]; rfl
        rw [hl] at h ⊢
        simp only [if_true] at h ⊢
        unfold actF at h ⊢
        by_cases h3 : (!r.drop && (decide (r.port.n < 1) || decide (99 < r.port.n))) = true
        · refine ⟨10, ?_, ?_⟩
          · simp only [h3, Except.bind, if_true]
            simp
          · simp [h3]
        · simp [h3] at h
      | false =>
        have hl : lineF r = fltR (faultR r) := by unfold lineF; rw [hd]; rfl
        rw [hl] at h ⊢
        cases hf : faultR r with
        | error y =>
          obtain ⟨e, p⟩ := y
          have hne := faultR_code hf
          exact ⟨e, by simp [fltR, hne, Except.bind], by simp [fltR, hne]⟩
        | ok u =>
          rw [hf] at h
          simp only [fltR, if_true] at h ⊢
          unfold actF at h ⊢
          by_cases h3 : (!r.drop && (decide (r.port.n < 1) || decide (99 < r.port.n))) = true
          · refine ⟨10, ?_, ?_⟩
            · simp only [h3, Except.bind, if_true]
              simp
            · simp [h3]
          · simp [h3] at h
/-- A line that is right. -/
structure rightR (r : Raw) : Prop where
  rule : r.dflt = false → faultR r = .ok ()
  act : r.drop = false → 1 ≤ r.port.n ∧ r.port.n ≤ 99
theorem check_good (size : Int) (i : Nat) (had : Bool) (r : Raw) (l : List Raw) (h : (rowF i had r).1 = 0) : checkGo size i had (r :: l) = (checkGo size (i + 1) (had || r.dflt) l).map (fun m => meaning r :: m) ∧ rightR r ∧ i < 64 := by
  rw [checkGo]
  unfold rowF orF at h
  by_cases h1 : 64 ≤ i
  · simp [h1] at h
  · simp only [h1, if_false, if_true] at h ⊢
    by_cases h2 : (had && r.dflt) = true
    · simp [h2] at h
    · have h2' : (r.dflt && had) = false := by rw [Bool.and_comm]; simpa using h2
      have h2f : (had && r.dflt) = false := by simpa using h2
      rw [h2f] at h
      simp only [h2', Bool.false_eq_true, if_false, if_true] at h ⊢
      have hline : (lineF r).1 = 0 := by
        by_cases hz : (lineF r).1 = 0
        · exact hz
        · rw [if_neg hz] at h; exact h
      rw [if_pos hline] at h
      have hact : (!r.drop && (decide (r.port.n < 1) || decide (99 < r.port.n))) = false := by
        unfold actF at h
        by_cases h3 : (!r.drop && (decide (r.port.n < 1) || decide (99 < r.port.n))) = true
        · simp [h3] at h
        · simpa using h3
      have hrule : r.dflt = false → faultR r = .ok () := fun hd => by
        unfold lineF at hline
        rw [hd] at hline
        exact fltR_zero (fun e p he => faultR_code he) hline
      refine ⟨?_, ⟨hrule, fun hd => ?_⟩, by omega⟩
      · have e1 : (if r.dflt = true then (.ok () : ResI Unit) else faultR r) = .ok () := by
          cases hd : r.dflt with
          | true => rfl
          | false => exact hrule hd
        rw [e1, hact]
        rfl
      · rw [hd] at hact
        simp at hact
        omega

/-! What a line means, clause by clause. -/
def preC (c : Cla) : Int × Int := (((nth c 0 * 256 + nth c 1) * 256 + nth c 2) * 256 + nth c 3, if c.slash then nth c 4 else 32)
def porC (c : Cla) : Int × Int := (nth c 0, nth c (c.nums.length - 1))
def setC (x : Ent) (c : Cla) : Ent :=
  if c.word = wSrc then { x with src := (preC c).1, srcBits := (preC c).2 }
  else if c.word = wDst then { x with dst := (preC c).1, dstBits := (preC c).2 }
  else if c.word = wSport then { x with slow := (porC c).1, shigh := (porC c).2 }
  else if c.word = wDport then { x with dlow := (porC c).1, dhigh := (porC c).2 }
  else if c.word = wProto then { x with proto := nth c 0 } else x
def ent0 (r : Raw) : Ent := ⟨false, r.prio.n, actOf r, 0, 0, 0, 0, 0, 65535, 0, 65535, -1⟩
def over (x : Ent) (l : List Cla) : Ent :=
  { x with
    src := match findC wSrc l with | none => x.src | some c => (preC c).1
    srcBits := match findC wSrc l with | none => x.srcBits | some c => (preC c).2
    dst := match findC wDst l with | none => x.dst | some c => (preC c).1
    dstBits := match findC wDst l with | none => x.dstBits | some c => (preC c).2
    slow := match findC wSport l with | none => x.slow | some c => (porC c).1
    shigh := match findC wSport l with | none => x.shigh | some c => (porC c).2
    dlow := match findC wDport l with | none => x.dlow | some c => (porC c).1
    dhigh := match findC wDport l with | none => x.dhigh | some c => (porC c).2
    proto := match findC wProto l with | none => x.proto | some c => nth c 0 }
theorem find_cons (w : List UInt8) (c : Cla) (l : List Cla) : findC w (c :: l) = if c.word = w then some c else findC w l := by
  unfold findC
  rw [List.find?_cons]
  by_cases h : c.word = w
  · simp [h]
  · have : (c.word == w) = false := by simpa using h
    simp [this, h]
theorem find_not {w : List UInt8} {c : Cla} {l : List Cla} (h : ∀ d ∈ l, c.word ≠ d.word) (hw : c.word = w) : findC w l = none := by
  unfold findC
  rw [List.find?_eq_none]
  intro d hd
  have := h d hd
  simp
  rw [← hw]
  exact fun e => this e.symm
theorem fold_over : ∀ (l : List Cla), (l.Pairwise fun a b => a.word ≠ b.word) → ∀ x : Ent, l.foldl setC x = over x l
  | [], _, x => rfl
  | c :: l, hp, x => by
    obtain ⟨h1, h2⟩ := List.pairwise_cons.1 hp
    rw [List.foldl_cons, fold_over l h2]
    unfold over
    simp only [find_cons]
    have nn := fun w (hw : c.word = w) => find_not (w := w) h1 hw
    by_cases e1 : c.word = wSrc
    · have := nn _ e1
      simp only [setC, e1, this, show ¬ wSrc = wDst by decide, show ¬ wSrc = wSport by decide, show ¬ wSrc = wDport by decide, show ¬ wSrc = wProto by decide, if_true, if_false]
    by_cases e2 : c.word = wDst
    · have := nn _ e2
      simp only [setC, e2, this, show ¬ wDst = wSrc by decide, show ¬ wDst = wSport by decide, show ¬ wDst = wDport by decide, show ¬ wDst = wProto by decide, if_true, if_false]
    by_cases e3 : c.word = wSport
    · have := nn _ e3
      simp only [setC, e3, this, show ¬ wSport = wSrc by decide, show ¬ wSport = wDst by decide, show ¬ wSport = wDport by decide, show ¬ wSport = wProto by decide, if_true, if_false]
    by_cases e4 : c.word = wDport
    · have := nn _ e4
      simp only [setC, e4, this, show ¬ wDport = wSrc by decide, show ¬ wDport = wSport by decide, show ¬ wDport = wDst by decide, show ¬ wDport = wProto by decide, if_true, if_false]
    by_cases e5 : c.word = wProto
    · have := nn _ e5
      simp only [setC, e5, this, show ¬ wProto = wSrc by decide, show ¬ wProto = wSport by decide, show ¬ wProto = wDst by decide, show ¬ wProto = wDport by decide, if_true, if_false]
    simp only [setC, e1, e2, e3, e4, e5, if_false]
theorem faultCs_apart : ∀ (l had : List Cla), faultCs had l = .ok () → (l.Pairwise fun a b => a.word ≠ b.word) ∧ ∀ d ∈ had, ∀ c ∈ l, d.word ≠ c.word
  | [], _, _ => ⟨List.Pairwise.nil, fun _ _ c hc => by simp at hc⟩
  | c :: l, had, h => by
    rw [faultCs] at h
    obtain ⟨_, h1, h2⟩ := bindI h
    obtain ⟨i1, i2⟩ := faultCs_apart l (had ++ [c]) h2
    have hn : had.any (fun d => d.word == c.word) = false := by
      unfold faultC at h1
      split at h1
      · cases h1
      · split at h1
        · cases h1
        · rename_i hz; simpa using hz
    refine ⟨List.pairwise_cons.2 ⟨fun d hd => i2 c (by simp) d hd, i1⟩, fun d hd e he => ?_⟩
    rcases List.mem_cons.1 he with rfl | he
    · rw [List.any_eq_false] at hn
      have := hn d hd
      simpa using this
    · exact i2 d (by simp [hd]) e he
theorem por_last {c : Cla} (h : goodC c) (hp : isPortW c.word = true) : porC c = (nth c 0, if c.dash then nth c 1 else nth c 0) := by
  unfold porC
  rw [h.2.1, mustN_port hp]
  cases c.dash <;> rfl
theorem mean_fold (r : Raw) (hd : r.dflt = false) (hf : faultR r = .ok ()) : r.clauses.foldl setC (ent0 r) = meaning r := by
  have hcs : faultCs [] r.clauses = .ok () := by
    unfold faultR at hf
    split at hf
    · cases hf
    · exact hf
  have hg := faultCs_in _ _ hcs
  rw [fold_over _ (faultCs_apart _ _ hcs).1]
  unfold meaning over ent0 preOf porOf proOf
  rw [hd]
  have e1 : ∀ c, findC wSport r.clauses = some c → porC c = (nth c 0, if c.dash then nth c 1 else nth c 0) := fun c hc => by
    obtain ⟨h1, h2⟩ := find_in hc
    exact por_last (hg c h1) (by rw [h2]; decide)
  have e2 : ∀ c, findC wDport r.clauses = some c → porC c = (nth c 0, if c.dash then nth c 1 else nth c 0) := fun c hc => by
    obtain ⟨h1, h2⟩ := find_in hc
    exact por_last (hg c h1) (by rw [h2]; decide)
  cases h1 : findC wSrc r.clauses <;> cases h2 : findC wDst r.clauses <;> cases h3 : findC wSport r.clauses <;> cases h4 : findC wDport r.clauses <;> cases h5 : findC wProto r.clauses <;> simp_all [preC]
end Go.Proofs.YtbdbjbmjnemknaaDoor
namespace Go.Proofs.YtbdbjbmjnemknaaDoor
open Go Go.RowKit
set_option maxRecDepth 20000

section
variable {P : Program} {ops : Array Oper} {md : Region.Mode} {C : World → Prop}
def anyL (P : Program) (md : Region.Mode) (ops : Array Oper) (C : World → Prop) (n : Nat) (L : Array Bool → Act → Prop) : Nat → Array Bool → Act → Prop
  | 0, listed, a => L listed a
  | f + 1, listed, a =>
    Region.ready md ops listed ≠ [] ∧ ∀ i ∈ Region.ready md ops listed, i < n ∧ qOp P ops C i (anyL P md ops C n L f (listed.setIfInBounds i true)) a
theorem any_of_head {n g : Nat} {L : Array Bool → Act → Prop} {Q' : Exit → Act → World → Prop} (hL : ∀ listed a w, C w → L listed a → wpAny P md ops Q' g listed a w) :
    ∀ (f : Nat) (listed : Array Bool) (a : Act) (w : World), C w → anyL P md ops C n L f listed a → wpAny P md ops Q' (f + g) listed a w
  | 0, listed, a, w, hw, h => by rw [Nat.zero_add]; exact hL _ _ _ hw h
  | f + 1, listed, a, w, hw, h => by
    rw [show f + 1 + g = (f + g) + 1 by omega]
    exact ⟨fun h0 => absurd h0 h.1, fun i hi => wpOp_of_qOp hw (fun a' w' hw' h' => any_of_head hL f _ a' w' hw' h') (h.2 i hi).2⟩
theorem anyL_first {n i : Nat} {oi : Oper} {v : Value} {L : Array Bool → Act → Prop} (hi : ops[i]? = some oi) (hsel : ∀ (j : Nat) (o : Oper) cs b, ops[j]? = some o → o.op ≠ .select cs b)
    (hs : Region.sinkB md ops n = true) (hc : Region.chainB md ops n = true) (hn : n < ops.size) (hin : i < n)
    (hdone : ∀ listed a, L listed a → ∀ j ∈ Region.ready md ops listed, n ≤ j) :
    ∀ (f : Nat) (listed : Array Bool) (a : Act), HeadInv md ops n listed →
      (∀ j oj, ops[j]? = some oj → j ≠ i → listed.getD j true = false → (∀ e ∈ oj.after, Region.binds md e = true → e.on ≠ i) → oi.apart ops oj = true) →
      i ∈ Region.ready md ops listed → YieldsIn P ops C oi v a →
      anyL P md ops C n L f (listed.setIfInBounds i true) (a.put oi.dst v) → anyL P md ops C n L (f + 1) listed a := by
  intro f
  induction f with
  | zero =>
    intro listed a inv _ hr hy H
    have hun := (mem_ready.1 hr).1
    refine ⟨fun h => (by rw [h] at hr; cases hr), fun j hj => ?_⟩
    have hjn : j < n := by
      rcases Nat.lt_or_ge j n with h | h
      · exact h
      · exact absurd hj (tail_waits hs hc hn inv _ i rfl hin hun j h)
    refine ⟨hjn, ?_⟩
    by_cases hji : j = i
    · subst hji; exact hy.qOp hi H
    · have := hdone _ _ H j (ready_mono hj hji)
      omega
  | succ f ih =>
    intro listed a inv hfree hr hy H
    have hun := (mem_ready.1 hr).1
    refine ⟨fun h => (by rw [h] at hr; cases hr), fun j hj => ?_⟩
    have hjn : j < n := by
      rcases Nat.lt_or_ge j n with h | h
      · exact h
      · exact absurd hj (tail_waits hs hc hn inv _ i rfl hin hun j h)
    refine ⟨hjn, ?_⟩
    by_cases hji : j = i
    · subst hji; exact hy.qOp hi H
    · have h1 := (H.2 j (ready_mono hj hji)).2
      obtain ⟨hjun, oj, hoj, hall⟩ := mem_ready.1 hj
      have hnot : ∀ e ∈ oj.after, Region.binds md e = true → e.on ≠ i := fun e he hb heq => by
        have h1 := hall e he hb
        rw [heq, getD_both hun] at h1
        cases h1
      have h2 := qOp_put hoj (hfree j oj hoj hji hjun hnot) (fun cs b => hsel i oi cs b hi) (fun cs b => hsel j oj cs b hoj) hy h1
      have hfree' : ∀ k ok, ops[k]? = some ok → k ≠ i → (listed.setIfInBounds j true).getD k true = false →
          (∀ e ∈ ok.after, Region.binds md e = true → e.on ≠ i) → oi.apart ops ok = true := fun k ok hk hki hun hno => by
        refine hfree k ok hk hki ?_ hno
        by_cases hjk : j = k
        · subst hjk; exact hjun
        · rw [getD_set_ne true hjk] at hun; exact hun
      refine qOp_mono (fun a' h3 => ih (listed.setIfInBounds j true) a' (inv.set hj hjn) hfree' (ready_mono hr (Ne.symm hji)) h3.1 ?_) h2
      rw [Array.setIfInBounds_comm _ _ hji]
      exact h3.2
theorem anyL_lex {n g : Nat} {Lq : Act → Prop} (hsel : Region.noSelect ops = true) (hs : Region.sinkB md ops n = true) (hc : Region.chainB md ops n = true) (hn : n < ops.size) :
    ∀ (l : List Oper) (k : Nat) (listed : Array Bool) (a : Act), (∀ j, j < l.length → l[j]? = ops[k + j]?) → k + l.length = n → HeadInv md ops n listed →
    Region.lexHead md ops g l.length k listed = true → wpQuiet P ops C Lq l a →
    anyL P md ops C n (fun listed' a' => Region.seqB md ops g n listed' = true ∧ Lq a') l.length listed a
  | [], k, listed, a, _, hk, _, hB, h => by
    have : k = n := by simpa using hk
    subst this
    exact ⟨by simpa [Region.lexHead] using hB, h⟩
  | o :: l, k, listed, a, hl, hk, inv, hB, h => by
    have h0 : ops[k]? = some o := by simpa using (hl 0 (by simp)).symm
    simp only [List.length_cons, Region.lexHead, Bool.and_eq_true] at hB
    obtain ⟨⟨hr, hf⟩, hB'⟩ := hB
    have hkn : k < n := by simp only [List.length_cons] at hk; omega
    have hr' : k ∈ Region.ready md ops listed := by simpa using hr
    have hst : qOp P ops C k (wpQuiet P ops C Lq l) a := by unfold qOp; simp only [h0]; exact h
    obtain ⟨v, hy, hK⟩ := yieldsIn_of_qOp h0 hst
    exact anyL_first h0 (Region.noSelect_spec hsel) hs hc hn hkn (fun listed' a' hL => seqB_ready hL.1) l.length listed a inv (Region.free_spec h0 hf) hr' hy
      (anyL_lex hsel hs hc hn l (k + 1) _ _ (fun j hj => by have := hl (j + 1) (by simp; omega); simpa [Nat.add_assoc, Nat.add_comm 1 j] using this) (by simp only [List.length_cons] at hk; omega) (inv.set hr' hkn) hB' hK)
end

/-- A drawn region whose first n operations only read and call, in any order, and whose rest comes behind them in order. -/
theorem wp_region_latertail {P : Program} {id : Nat} {Q : Exit → Act → World → Prop} {a : Act} {w : World} {l : List Oper} (n : Nat) (hm : P.follows .mixedOrders = true) (hB : Region.lexTailB .any l.toArray n = true)
    (h : wpQuiet P l.toArray (fun w' => ∃ u : Later w, w' = u.world) (fun a' => ∀ w', (∃ u : Later w, w' = u.world) → wpList P l.toArray Q (l.drop n) a' w') (l.take n) a) : (Code.region id l.toArray true).wp P Q a w := by
  simp only [Region.lexTailB, Bool.and_eq_true, decide_eq_true_eq] at hB
  obtain ⟨⟨⟨⟨hsel, hn⟩, hs⟩, hc⟩, hlex⟩ := hB
  have hn' : n < l.length := by simpa using hn
  have htl : (l.take n).length = n := by simp; omega
  have hdl : (l.drop n).length = l.toArray.size - n := by simp
  have inv0 : HeadInv .any l.toArray n (Array.replicate l.toArray.size false) :=
    ⟨by simp, fun j oj _ hl => (by rw [getD_replicate_false] at hl; cases hl), fun t _ ht => getD_in (by simpa using ht) (getD_replicate_false _ _)⟩
  have H := anyL_lex (md := .any) (g := l.toArray.size - n) hsel hs hc hn (l.take n) 0 _ a (fun j hj => by
    have hj' : j < n := by rw [htl] at hj; exact hj
    simp [hj']) (by simpa using htl) inv0 (by rw [htl]; exact hlex) h
  refine wp_region_any hm ?_
  have hC : (fun w' => ∃ u : Later w, w' = u.world) w.drew := ⟨⟨w.drew, (Below.refl _ _).drew⟩, rfl⟩
  have := any_of_head (Q' := Q) (g := l.toArray.size - n) (fun listed a' w' hw' hL => by
    rw [← hdl] at hL ⊢
    exact wpAny_of_seq (l.drop n) n listed a' w' (fun j => by simp) hL.1 (hL.2 w' hw')) _ _ _ _ hC H
  rw [htl, show n + (l.toArray.size - n) = l.toArray.size by omega] at this
  exact this
end Go.Proofs.YtbdbjbmjnemknaaDoor
namespace Go.Proofs.YtbdbjbmjnemknaaDoor
open Go Go.RowKit
set_option maxRecDepth 20000

/-- A fault: an error and its place. -/
def fltV (p : Int × Int) : Array Value := #[.int .i64 p.1, .int .i64 p.2]
def FltE : El := ⟨68, 94, 2, 16, #[.int .i64 0, .int .i64 0]⟩
theorem FltOk : FltE.Ok := ⟨Tryd.underlying94, ⟨_, Tryd.underlying68, rfl⟩, by kernel_rfl, rfl, by decide, by decide, by decide⟩
theorem flt_fits (p : Int × Int) : Fits FltE (fltV p) := ⟨rfl, by simp [fltV, Value.oneCell']⟩
theorem below2 (w : World) (a b : Obj) : Below w.heap.size w ((w.alloc a).alloc b) := ((Below.refl _ _).alloc (Nat.le_refl _) _).alloc (by simp) _

set_option maxHeartbeats 1000000 in
theorem when_any (b : Bool) (e p : Int) (w : World) :
    Calls Tryd.prog 24 #[.bool b, .int .i64 e, .int .i64 p] w fun x w' => x = .returned (.agg (fltV (if b then (e, p) else (0, 0)))) ∧ Below w.heap.size w w' := by
  cases b
  · go_enter Tryd.func24, Tryd.ntmps24
    go_wp2_with (first
      | (refine wl_storeE (E := FltE) FltOk rfl _ _ rfl w.heap.size (fltV (0, 0)) (flt_fits _) rfl rfl _ (heap_new _ _ _ rfl) rfl _ (setRow_new _ _ _ _ _ rfl) ?_))
    refine retE (E := FltE) FltOk rfl rfl w.heap.size rfl (fltV (0, 0)) rfl (heap_new _ _ _ rfl) ?_
    exact ⟨rfl, (Below.refl _ _).alloc (Nat.le_refl _) _⟩
  · go_enter Tryd.func24, Tryd.ntmps24
    go_wp2_with (first
      | (refine wl_storeE (E := FltE) FltOk rfl _ _ rfl w.heap.size (fltV (e, p)) (flt_fits _) rfl rfl _ (heap_new _ _ _ rfl) rfl _ (setRow_new _ _ _ _ _ rfl) ?_))
    refine retE (E := FltE) FltOk rfl rfl w.heap.size rfl (fltV (e, p)) rfl (heap_new _ _ _ rfl) ?_
    exact ⟨rfl, (Below.refl _ _).alloc (Nat.le_refl _) _⟩

def firstF : List (Int × Int) → Int × Int
  | [] => (0, 0)
  | f :: l => if f.1 = 0 then firstF l else f
set_option maxHeartbeats 2000000 in
theorem first7_any (F : List (Int × Int)) (v : Value) (w : World) (h : GSl FltE fltV w v F) :
    Calls Tryd.prog 23 #[v] w fun e w' => e = .returned (.agg (fltV (firstF F))) ∧ Below w.heap.size w w' := by
  obtain ⟨o, cap, rfl, hc1, hc2⟩ := h.slice
  obtain ⟨n, hn⟩ : ∃ n, n = F.length := ⟨_, rfl⟩
  have HN : Hid (n = F.length) := hn
  rw [← hn] at h hc1 ⊢
  unfold maxLen at hc2
  have H : Hid (GSl FltE fltV w (.slice o n cap) F) := h
  clear h hn
  go_enter Tryd.func23, Tryd.ntmps23
  go_wp2_with fail
  go_loopw [7] (fun x wr => ∃ j : Nat, j ≤ n ∧ x = .int .i64 (j : Int) ∧ Hid (firstF F = firstF (F.drop j)) ∧ wr.heap[w.heap.size]? = some (.cells (fltV (0, 0)) 68 (0, 0)) ∧ Below w.heap.size w wr) (fun x _ => n - (intOf x).toNat)
  case atStart => exact ⟨0, Nat.zero_le _, rfl, rfl, heap_new _ _ _ rfl, (Below.refl _ _).alloc (Nat.le_refl _) _⟩
  case round =>
    obtain ⟨j, hj, rfl, HJ, hr, hb⟩ := hrel
    have HR : Hid (wr.heap[w.heap.size]? = some (.cells (fltV (0, 0)) 68 (0, 0))) := hr
    have HB : Hid (Below w.heap.size w wr) := hb
    clear hr hb
    by_cases hlt : j < n
    · obtain ⟨g, off, cur, ty, fr, f, rfl, hg, hc, hFj⟩ := H.out.at j hlt
      have K1 : Hid (wr.heap[g]? = some (.cells cur ty fr)) := (HB.out.block g (Array.getElem?_eq_some_iff.1 hg).1).trans hg
      have H1 : Hid (∀ q, q < 2 → cur[off + j * 2 + q]? = (fltV f)[q]?) := hc
      have HD : Hid (F.drop j = f :: F.drop (j + 1)) := by
        obtain ⟨hk, rfl⟩ := List.getElem?_eq_some_iff.1 hFj
        exact List.drop_eq_getElem_cons hk
      have KN : Hid ((wr.alloc (.cells (fltV f) 68)).heap[wr.heap.size]? = some (.cells (fltV f) 68 (0, 0))) := heap_new _ _ _ rfl
      have n0 : (wr.alloc (.cells (fltV f) 68)).cell? ⟨wr.heap.size, 0, none⟩ = some (.int .i64 f.1) := by rw [cell_of_row _ _ _ _ _ _ KN.out]; rfl
      have hlt' : (j : Int) < (n : Int) := by omega
      clear hg hc hFj
      by_cases hz : f.1 = 0
      · have hz' : (f.1 != 0) = false := by simp [hz]
        have HE : Hid (firstF F = firstF (F.drop (j + 1))) := by
          show _ = _
          rw [HJ.out, HD.out, firstF, if_pos hz]
        clear hz
        go_wp2_with (first
          | (refine wl_loadE (E := FltE) FltOk rfl _ rfl g (off + j * 2) rfl cur ty fr (fltV f) rfl K1.out H1.out ?_)
          | (refine wl_storeE (E := FltE) FltOk rfl _ _ rfl wr.heap.size (fltV f) (flt_fits _) rfl rfl _ (heap_new _ _ _ rfl) rfl _ (setRow_new _ _ _ _ _ rfl) ?_))
        go_roundw
        case rel => exact ⟨j + 1, by omega, by go_num, HE, heap_past _ _ _ _ HR.out, HB.out.alloc HB.out.size _⟩
        case measure => simp [intOf]; omega
      · have hz' : (f.1 != 0) = true := by simp [hz]
        have HE : Hid (firstF F = f) := by
          show _ = _
          rw [HJ.out, HD.out, firstF, if_neg hz]
        clear hz
        go_wp2_with (first
          | (refine wl_loadE (E := FltE) FltOk rfl _ rfl g (off + j * 2) rfl cur ty fr (fltV f) rfl K1.out H1.out ?_)
          | (refine wl_storeE (E := FltE) FltOk rfl _ _ rfl wr.heap.size (fltV f) (flt_fits _) rfl rfl _ (heap_new _ _ _ rfl) rfl _ (setRow_new _ _ _ _ _ rfl) ?_)
          | (refine wl_loadE (E := FltE) FltOk rfl _ rfl wr.heap.size 0 rfl _ _ _ (fltV f) rfl KN.out (own_cells _ _) ?_)
          | (refine wl_storeE (E := FltE) FltOk rfl _ _ rfl w.heap.size (fltV f) (flt_fits _) rfl rfl _ (heap_past _ _ _ _ HR.out) rfl _ rfl ?_))
        refine retE (E := FltE) FltOk rfl rfl w.heap.size rfl (fltV f) rfl (setRow_heap _ _ _ _ _ _ (heap_past _ _ _ _ HR.out)) ?_
        exact ⟨by rw [HE.out], below_setRow (HB.out.alloc HB.out.size _) (Nat.le_refl _) _⟩
    · have hlt' : (n : Int) ≤ (j : Int) := by omega
      have HE : Hid (firstF F = (0, 0)) := by
        show _ = _
        rw [HJ.out, List.drop_of_length_le (by have := HN.out; omega)]
        rfl
      clear hlt
      go_wp2_with (first
        | (refine wl_storeE (E := FltE) FltOk rfl _ _ rfl w.heap.size (fltV (0, 0)) (flt_fits _) rfl rfl _ HR.out rfl _ rfl ?_))
      refine retE (E := FltE) FltOk rfl rfl w.heap.size rfl (fltV (0, 0)) rfl (setRow_heap _ _ _ _ _ _ HR.out) ?_
      exact ⟨by rw [HE.out], below_setRow HB.out (Nat.le_refl _) _⟩

/-- A number that isn't from low to high. -/
def outF (f : Fig) (low high : Int) : Int × Int := if decide (f.n < low) || decide (high < f.n) then (10, f.pos) else (0, 0)
set_option maxHeartbeats 2000000 in
theorem outside_any (f : Fig) (low high : Int) (w : World) :
    Calls Tryd.prog 43 #[.agg (figV f), .int .i64 low, .int .i64 high] w fun x w' => x = .returned (.agg (fltV (outF f low high))) ∧ Below w.heap.size w w' := by
  have WH : Hid (∀ b e p W, Calls Tryd.prog 24 #[.bool b, .int .i64 e, .int .i64 p] W fun x w' => x = .returned (.agg (fltV (if b then (e, p) else (0, 0)))) ∧ Below W.heap.size W w') := when_any
  obtain ⟨W2, hW2⟩ : ∃ W2, W2 = (w.alloc (.cells (figV f) 52)).alloc (.cells #[.int .i64 0, .int .i64 0] 68) := ⟨_, rfl⟩
  have c0 : ((w.alloc (.cells (figV f) 52)).alloc (.cells #[.int .i64 0, .int .i64 0] 68)).cell? ⟨w.heap.size, 0, none⟩ = some (.int .i64 f.n) := by rw [cell_of_row _ _ _ _ _ _ (heap_past _ _ _ _ (heap_new w (.cells (figV f) 52) _ rfl))]; rfl
  have c1 : ((w.alloc (.cells (figV f) 52)).alloc (.cells #[.int .i64 0, .int .i64 0] 68)).cell? ⟨w.heap.size, 1, none⟩ = some (.int .i64 f.pos) := by rw [cell_of_row _ _ _ _ _ _ (heap_past _ _ _ _ (heap_new w (.cells (figV f) 52) _ rfl))]; rfl
  have HR : Hid (W2.heap[w.heap.size + 1]? = some (.cells #[.int .i64 0, .int .i64 0] 68 (0, 0)) ∧ Below w.heap.size w W2) := by rw [hW2]; exact ⟨heap_new _ _ _ (by simp), below2 _ _ _⟩
  have HW : Hid (W2 = (w.alloc (.cells (figV f) 52)).alloc (.cells #[.int .i64 0, .int .i64 0] 68)) := hW2
  clear hW2
  have fin : ∀ (F : Int × Int) w1, Below W2.heap.size W2 w1 → w1.heap[w.heap.size + 1]? = some (.cells #[.int .i64 0, .int .i64 0] 68 (0, 0)) ∧ Below w.heap.size w w1 := fun F w1 hb => ⟨(hb.block _ (Array.getElem?_eq_some_iff.1 HR.out.1).1).trans HR.out.1, HR.out.2.trans (hb.mono HR.out.2.size)⟩
  have FIN : Hid (∀ w1, Below W2.heap.size W2 w1 → w1.heap[w.heap.size + 1]? = some (.cells #[.int .i64 0, .int .i64 0] 68 (0, 0)) ∧ Below w.heap.size w w1) := fin (0, 0)
  clear fin
  by_cases h1 : f.n < low
  · have e : outF f low high = (10, f.pos) := by unfold outF; simp [h1]
    rw [e]
    clear e
    go_enter Tryd.func43, Tryd.ntmps43
    go_wp2_with fail
    refine (WH.out _ _ _ _).mono ?_
    rintro x w1 ⟨rfl, hb1⟩
    rw [← HW.out] at hb1
    have K := FIN.out w1 hb1
    have KR : Hid _ := K.1
    have KB := K.2
    clear K hb1
    go_wp2_with (first
      | (refine wl_storeE (E := FltE) FltOk rfl _ _ rfl (w.heap.size + 1) (fltV (10, f.pos)) (flt_fits _) rfl rfl _ KR.out rfl _ rfl ?_))
    refine retE (E := FltE) FltOk rfl rfl (w.heap.size + 1) rfl (fltV (10, f.pos)) rfl (setRow_heap _ _ _ _ _ _ KR.out) ?_
    exact ⟨rfl, below_setRow KB (by omega) _⟩
  · by_cases h2 : high < f.n
    · have e : outF f low high = (10, f.pos) := by unfold outF; simp [h2]
      rw [e]
      have h2' : f.n > high := h2
      clear e h2
      go_enter Tryd.func43, Tryd.ntmps43
      go_wp2_with fail
      refine (WH.out _ _ _ _).mono ?_
      rintro x w1 ⟨rfl, hb1⟩
      rw [← HW.out] at hb1
      have K := FIN.out w1 hb1
      have KR : Hid _ := K.1
      have KB := K.2
      clear K hb1
      go_wp2_with (first
        | (refine wl_storeE (E := FltE) FltOk rfl _ _ rfl (w.heap.size + 1) (fltV (10, f.pos)) (flt_fits _) rfl rfl _ KR.out rfl _ rfl ?_))
      refine retE (E := FltE) FltOk rfl rfl (w.heap.size + 1) rfl (fltV (10, f.pos)) rfl (setRow_heap _ _ _ _ _ _ KR.out) ?_
      exact ⟨rfl, below_setRow KB (by omega) _⟩
    · have e : outF f low high = (0, 0) := by unfold outF; simp [h1, h2]
      rw [e]
      have h2' : ¬ f.n > high := h2
      clear e h2
      go_enter Tryd.func43, Tryd.ntmps43
      go_wp2_with fail
      refine (WH.out _ _ _ _).mono ?_
      rintro x w1 ⟨rfl, hb1⟩
      rw [← HW.out] at hb1
      have K := FIN.out w1 hb1
      have KR : Hid _ := K.1
      have KB := K.2
      clear K hb1
      go_wp2_with (first
        | (refine wl_storeE (E := FltE) FltOk rfl _ _ rfl (w.heap.size + 1) (fltV (0, 0)) (flt_fits _) rfl rfl _ KR.out rfl _ rfl ?_))
      refine retE (E := FltE) FltOk rfl rfl (w.heap.size + 1) rfl (fltV (0, 0)) rfl (setRow_heap _ _ _ _ _ _ KR.out) ?_
      exact ⟨rfl, below_setRow KB (by omega) _⟩
end Go.Proofs.YtbdbjbmjnemknaaDoor
namespace Go.Proofs.YtbdbjbmjnemknaaDoor
open Go Go.RowKit
set_option maxRecDepth 20000

def manyI (c : Cla) : Int := if mustN c = 0 then -1 else (mustN c : Int)
theorem cla_row (w : World) (c : Cla) (u : Value) : (w.alloc (.cells (claV c u) 76)).heap[w.heap.size]? = some (.cells (claV c u) 76 (0, 0)) := heap_new _ _ _ rfl
theorem cla_f {w : World} {b : Nat} {c : Cla} {u : Value} {ty : TypeId} {fr : Nat × Nat} (h : w.heap[b]? = some (.cells (claV c u) ty fr)) :
    w.cell? ⟨b, 0, none⟩ = some (.string ⟨c.word.toArray⟩) ∧ w.cell? ⟨b, 1, none⟩ = some (.int .i64 c.pos) ∧ w.cell? ⟨b, 2, none⟩ = some u ∧ w.cell? ⟨b, 3, none⟩ = some (.bool c.slash) ∧ w.cell? ⟨b, 4, none⟩ = some (.bool c.dash) := by
  refine ⟨?_, ?_, ?_, ?_, ?_⟩ <;> (rw [cell_of_row _ _ _ _ _ _ h]; rfl)
/-- The five words, and all others. -/
theorem word_cases (x : List UInt8) : x = wSrc ∨ x = wDst ∨ x = wSport ∨ x = wDport ∨ x = wProto ∨ ((x == [115, 114, 99]) = false ∧ (x == [100, 115, 116]) = false ∧ (x == [115, 112, 111, 114, 116]) = false ∧ (x == [100, 112, 111, 114, 116]) = false ∧ (x == [112, 114, 111, 116, 111]) = false) := by
  by_cases h1 : x = wSrc
  · exact .inl h1
  by_cases h2 : x = wDst
  · exact .inr (.inl h2)
  by_cases h3 : x = wSport
  · exact .inr (.inr (.inl h3))
  by_cases h4 : x = wDport
  · exact .inr (.inr (.inr (.inl h4)))
  by_cases h5 : x = wProto
  · exact .inr (.inr (.inr (.inr (.inl h5))))
  refine .inr (.inr (.inr (.inr (.inr ⟨?_, ?_, ?_, ?_, ?_⟩)))) <;> (rw [beq_eq_false_iff_ne]; assumption)

set_option maxHeartbeats 2000000 in
theorem many7_any (c : Cla) (u : Value) (hu : ∃ o n m, u = .slice o n m) (w : World) :
    Calls Tryd.prog 64 #[.agg (claV c u)] w fun x w' => x = .returned (.int .i64 (manyI c)) ∧ Below w.heap.size w w' := by
  obtain ⟨o, n, m, rfl⟩ := hu
  have q := cla_f (cla_row w c (.slice o n m))
  obtain ⟨c0, -, -, c3, c4⟩ := q
  have HB : Hid (Below w.heap.size w (w.alloc (.cells (claV c (.slice o n m)) 76))) := (Below.refl _ _).alloc (Nat.le_refl _) _
  obtain ⟨word, pos, nums, slash, dash⟩ := c
  simp only at c0 c3 c4
  rcases word_cases word with rfl | rfl | rfl | rfl | rfl | ⟨e0, e1, e2, e3, e4⟩
  · cases slash
    · rw [show manyI ⟨wSrc, pos, nums, false, dash⟩ = 4 from rfl]
      go_enter Tryd.func64, Tryd.ntmps64
      go_wp2_with fail
      go_ret
      exact ⟨rfl, HB.out⟩
    · rw [show manyI ⟨wSrc, pos, nums, true, dash⟩ = 5 from rfl]
      go_enter Tryd.func64, Tryd.ntmps64
      go_wp2_with fail
      go_ret
      exact ⟨rfl, HB.out⟩
  · cases slash
    · rw [show manyI ⟨wDst, pos, nums, false, dash⟩ = 4 from rfl]
      go_enter Tryd.func64, Tryd.ntmps64
      go_wp2_with fail
      go_ret
      exact ⟨rfl, HB.out⟩
    · rw [show manyI ⟨wDst, pos, nums, true, dash⟩ = 5 from rfl]
      go_enter Tryd.func64, Tryd.ntmps64
      go_wp2_with fail
      go_ret
      exact ⟨rfl, HB.out⟩
  · cases dash
    · rw [show manyI ⟨wSport, pos, nums, slash, false⟩ = 1 from rfl]
      go_enter Tryd.func64, Tryd.ntmps64
      go_wp2_with fail
      go_ret
      exact ⟨rfl, HB.out⟩
    · rw [show manyI ⟨wSport, pos, nums, slash, true⟩ = 2 from rfl]
      go_enter Tryd.func64, Tryd.ntmps64
      go_wp2_with fail
      go_ret
      exact ⟨rfl, HB.out⟩
  · cases dash
    · rw [show manyI ⟨wDport, pos, nums, slash, false⟩ = 1 from rfl]
      go_enter Tryd.func64, Tryd.ntmps64
      go_wp2_with fail
      go_ret
      exact ⟨rfl, HB.out⟩
    · rw [show manyI ⟨wDport, pos, nums, slash, true⟩ = 2 from rfl]
      go_enter Tryd.func64, Tryd.ntmps64
      go_wp2_with fail
      go_ret
      exact ⟨rfl, HB.out⟩
  · rw [show manyI ⟨wProto, pos, nums, slash, dash⟩ = 1 from rfl]
    go_enter Tryd.func64, Tryd.ntmps64
    go_wp2_with fail
    go_ret
    exact ⟨rfl, HB.out⟩
  · have hm : manyI ⟨word, pos, nums, slash, dash⟩ = -1 := by
      unfold manyI mustN isAddrW isPortW wSrc wDst wSport wDport wProto
      simp only [e0, e1, e2, e3, e4]
      rfl
    rw [hm]
    clear hm
    go_enter Tryd.func64, Tryd.ntmps64
    go_wp2_with fail
    go_ret
    exact ⟨rfl, HB.out⟩
theorem many_ne (c : Cla) : (((c.nums.length : Int)) != manyI c) = (mustN c == 0 || c.nums.length != mustN c) := by
  unfold manyI
  by_cases h : mustN c = 0
  · rw [if_pos h, h]
    have : ((c.nums.length : Int) != -1) = true := by rw [bne_iff_ne]; omega
    rw [this]; rfl
  · rw [if_neg h]
    have e : (mustN c == 0) = false := by simpa using h
    rw [e, Bool.false_or, Bool.eq_iff_iff, bne_iff_ne, bne_iff_ne]
    omega

set_option maxHeartbeats 4000000 in
theorem bounds_any (c : Cla) (u : Value) (i : Nat) (w : World) (hu : FigsAt w c u) (hi : i < c.nums.length) :
    Calls Tryd.prog 75 #[.agg (claV c u), .int .i64 (i : Int)] w fun x w' => x = .returned (.tuple #[.int .i64 (lowN c i), .int .i64 (mostN c.word i)]) ∧ Below w.heap.size w w' := by
  obtain ⟨o, m, rfl, hm1, hm2⟩ := hu.slice
  have q := cla_f (cla_row w c (.slice o c.nums.length m))
  obtain ⟨c0, -, c2, -, -⟩ := q
  have HB : Hid (Below w.heap.size w (w.alloc (.cells (claV c (.slice o c.nums.length m)) 76))) := (Below.refl _ _).alloc (Nat.le_refl _) _
  obtain ⟨g, off, cur, ty, fr, f, rfl, hg, hc, hf⟩ := hu.at 0 (by omega)
  have hn : nth c 0 = f.n := by unfold nth; rw [List.getD_eq_getElem?_getD, hf]; rfl
  have cg : (w.alloc (.cells (claV c (.slice (some ⟨g, off, none⟩) c.nums.length m)) 76)).cell? ⟨g, off, none⟩ = some (.int .i64 f.n) := by
    rw [cell_of_row _ _ _ _ _ _ (heap_past _ _ _ _ hg)]
    have := hc 0 (by decide)
    rw [show off + 0 * FigE.size + 0 = off by simp] at this
    exact this
  obtain ⟨n, hnn⟩ : ∃ n, n = c.nums.length := ⟨_, rfl⟩
  rw [← hnn] at hi hm1 c0 c2 cg HB ⊢
  have hpos : (0 : Int) < (n : Int) := by omega
  have hposn : 0 < n := by omega
  unfold maxLen at hm2
  clear hu hg hc hf hnn
  obtain ⟨word, pos, nums, slash, dash⟩ := c
  simp only at c0 c2
  rcases word_cases word with rfl | rfl | rfl | rfl | rfl | ⟨e0, e1, e2, e3, e4⟩
  · by_cases h4 : i = 4
    · subst h4
      rw [show lowN ⟨wSrc, pos, nums, slash, dash⟩ 4 = 0 from rfl, show mostN wSrc 4 = 32 from rfl]
      clear hn
      go_enter Tryd.func75, Tryd.ntmps75
      go_wp2_with fail
      go_ret2
      exact ⟨rfl, HB.out⟩
    · have h4' : ((i : Int) == 4) = false := by simp; omega
      rw [show lowN ⟨wSrc, pos, nums, slash, dash⟩ i = 0 from rfl, show mostN wSrc i = 255 by unfold mostN; simp [h4]; decide]
      clear hn h4
      go_enter Tryd.func75, Tryd.ntmps75
      go_wp2_with fail
      go_ret2
      exact ⟨rfl, HB.out⟩
  · by_cases h4 : i = 4
    · subst h4
      rw [show lowN ⟨wDst, pos, nums, slash, dash⟩ 4 = 0 from rfl, show mostN wDst 4 = 32 from rfl]
      clear hn
      go_enter Tryd.func75, Tryd.ntmps75
      go_wp2_with fail
      go_ret2
      exact ⟨rfl, HB.out⟩
    · have h4' : ((i : Int) == 4) = false := by simp; omega
      rw [show lowN ⟨wDst, pos, nums, slash, dash⟩ i = 0 from rfl, show mostN wDst i = 255 by unfold mostN; simp [h4]; decide]
      clear hn h4
      go_enter Tryd.func75, Tryd.ntmps75
      go_wp2_with fail
      go_ret2
      exact ⟨rfl, HB.out⟩
  · by_cases h0 : 0 < i
    · have h0' : (i : Int) > 0 := by omega
      have hl : lowN ⟨wSport, pos, nums, slash, dash⟩ i = f.n := by rw [← hn]; unfold lowN; rw [decide_eq_true h0]; rfl
      rw [hl, show mostN wSport i = 65535 from rfl]
      clear hn hl h0
      go_enter Tryd.func75, Tryd.ntmps75
      go_wp2_with fail
      go_ret2
      exact ⟨rfl, HB.out⟩
    · have h0' : ¬ (i : Int) > 0 := by omega
      have hl : lowN ⟨wSport, pos, nums, slash, dash⟩ i = 0 := by unfold lowN; rw [decide_eq_false h0]; rfl
      rw [hl, show mostN wSport i = 65535 from rfl]
      clear hn hl h0
      go_enter Tryd.func75, Tryd.ntmps75
      go_wp2_with fail
      go_ret2
      exact ⟨rfl, HB.out⟩
  · by_cases h0 : 0 < i
    · have h0' : (i : Int) > 0 := by omega
      have hl : lowN ⟨wDport, pos, nums, slash, dash⟩ i = f.n := by rw [← hn]; unfold lowN; rw [decide_eq_true h0]; rfl
      rw [hl, show mostN wDport i = 65535 from rfl]
      clear hn hl h0
      go_enter Tryd.func75, Tryd.ntmps75
      go_wp2_with fail
      go_ret2
      exact ⟨rfl, HB.out⟩
    · have h0' : ¬ (i : Int) > 0 := by omega
      have hl : lowN ⟨wDport, pos, nums, slash, dash⟩ i = 0 := by unfold lowN; rw [decide_eq_false h0]; rfl
      rw [hl, show mostN wDport i = 65535 from rfl]
      clear hn hl h0
      go_enter Tryd.func75, Tryd.ntmps75
      go_wp2_with fail
      go_ret2
      exact ⟨rfl, HB.out⟩
  · rw [show lowN ⟨wProto, pos, nums, slash, dash⟩ i = 0 from rfl, show mostN wProto i = 255 from rfl]
    clear hn
    go_enter Tryd.func75, Tryd.ntmps75
    go_wp2_with fail
    go_ret2
    exact ⟨rfl, HB.out⟩
  · have hp : isPortW word = false := by unfold isPortW wSport wDport; rw [e2, e3]; rfl
    have hl : lowN ⟨word, pos, nums, slash, dash⟩ i = 0 := by unfold lowN; rw [hp]; rfl
    have ho : (word == wProto) = false := e4
    by_cases h4 : i = 4
    · subst h4
      have hm : mostN word 4 = 32 := by unfold mostN; rw [hp, ho]; rfl
      rw [hl, hm]
      clear hn hl hm hp ho
      go_enter Tryd.func75, Tryd.ntmps75
      go_wp2_with fail
      go_ret2
      exact ⟨rfl, HB.out⟩
    · have h4' : ((i : Int) == 4) = false := by simp; omega
      have hm : mostN word i = 255 := by unfold mostN; rw [hp, ho]; simp [h4]
      rw [hl, hm]
      clear hn hl hm hp ho h4
      go_enter Tryd.func75, Tryd.ntmps75
      go_wp2_with fail
      go_ret2
      exact ⟨rfl, HB.out⟩
end Go.Proofs.YtbdbjbmjnemknaaDoor
namespace Go.Proofs.YtbdbjbmjnemknaaDoor
open Go Go.RowKit
set_option maxRecDepth 20000

set_option maxHeartbeats 2000000 in
theorem sameWord7_any (w : World) (k : Nat) (c0 : Cla) (u0 : Value) (c : Cla) (u : Value) (hu : ∃ o n m, u = .slice o n m) (hk : w.heap[k]? = some (.cells (claV c0 u0) 76 (0, 0))) :
    Calls Tryd.prog 63 #[.agg (claV c u), .pointer (some ⟨k, 0, none⟩)] w fun e w' => e = .returned (.bool (c.word == c0.word)) ∧ Below w.heap.size w w' := by
  obtain ⟨o, n, m, rfl⟩ := hu
  have t2 : ∀ x, (w.alloc x).cell? ⟨k, 0, none⟩ = some (.string ⟨c0.word.toArray⟩) := fun x => (cla_f (heap_past _ x _ _ hk)).1
  have n0 := heap_new w (.cells (claV c (.slice o n m)) 76) _ rfl
  have c0' : (w.alloc (.cells (claV c (.slice o n m)) 76)).cell? ⟨w.heap.size, 0, none⟩ = some (.string ⟨c.word.toArray⟩) := by rw [cell_of_row _ _ _ _ _ _ n0]; rfl
  clear hk n0
  go_enter Tryd.func63, Tryd.ntmps63
  go_wp2_with fail
  go_ret
  exact ⟨rfl, (Below.refl _ _).alloc (Nat.le_refl _) _⟩
set_option maxHeartbeats 4000000 in
theorem indexFunc7_any {R : World → Cla → Value → Prop} (hR : ∀ w c u, R w c u → ∃ o n m, u = .slice o n m) (w : World) (v : Value) (C : List Cla) (h : NSl ClaE claV R w v C) (k : Nat) (c0 : Cla) (u0 : Value) (hk : w.heap[k]? = some (.cells (claV c0 u0) 76 (0, 0))) :
    Calls Tryd.prog 74 #[v, .func (.func 63) #[] #[.pointer (some ⟨k, 0, none⟩)]] w fun e w' => (∃ i : Int, e = .returned (.int .i64 i) ∧ ((decide (0 ≤ i)) = C.any (fun c => c.word == c0.word))) ∧ Below w.heap.size w w' := by
  obtain ⟨o, cap, rfl, hcap, hm⟩ := h.slice
  have CS : Hid (∀ W c u, (∃ o n m, u = .slice o n m) → Below w.heap.size w W → Calls Tryd.prog 63 #[.agg (claV c u), .pointer (some ⟨k, 0, none⟩)] W fun e w' => e = .returned (.bool (c.word == c0.word)) ∧ Below W.heap.size W w') := fun W c u hu hb => sameWord7_any W k c0 u0 c u hu ((hb.block k (Array.getElem?_eq_some_iff.1 hk).1).trans hk)
  obtain ⟨n, hn⟩ : ∃ n, n = C.length := ⟨_, rfl⟩
  have HN : Hid (n = C.length) := hn
  rw [← hn] at h hcap ⊢
  have H : Hid (NSl ClaE claV R w (.slice o n cap) C) := h
  unfold maxLen at hm
  clear h hk hn
  go_enter Tryd.func74, Tryd.ntmps74
  go_wp2_with fail
  go_loopw [8] (fun x wr => ∃ j : Nat, j ≤ n ∧ x = .int .i64 (j : Int) ∧ Hid ((C.take j).any (fun c => c.word == c0.word) = false) ∧ Below w.heap.size w wr) (fun x _ => n - (intOf x).toNat)
  case atStart => exact ⟨0, Nat.zero_le _, rfl, rfl, Below.refl _ _⟩
  case round =>
    obtain ⟨j, hj, rfl, HJ, hb⟩ := hrel
    by_cases hlt : j < n
    · obtain ⟨g, off, cur, ty, fr, c, u, rfl, hg, hc, hCj, hr⟩ := H.out.at j hlt
      obtain ⟨o1, n1, m1, rfl⟩ := hR _ _ _ hr
      have k1 : Hid (wr.heap[g]? = some (.cells cur ty fr)) := (hb.block g (Array.getElem?_eq_some_iff.1 hg).1).trans hg
      have H1 : Hid (∀ i, i < 5 → cur[off + j * 5 + i]? = (claV c (.slice o1 n1 m1))[i]?) := hc
      have HT := any_take_succ hCj (fun c => c.word == c0.word)
      rw [HJ.out, Bool.false_or] at HT
      have HTT : Hid ((C.take (j + 1)).any (fun c => c.word == c0.word) = (c.word == c0.word)) := HT
      have hlt' : (j : Int) < (n : Int) := by omega
      clear hg hc hCj hr HT
      go_wp2_with (first
        | (refine wl_loadE (E := ClaE) ClaOk rfl _ rfl g (off + j * 5) rfl cur ty fr (claV c (.slice o1 n1 m1)) rfl k1.out H1.out ?_))
      refine (CS.out _ c _ ⟨_, _, _, rfl⟩ hb).mono ?_
      rintro e w1 ⟨rfl, hb1⟩
      have B1 := hb.trans (hb1.mono hb.size)
      clear hb hb1
      by_cases hq : (c.word == c0.word) = true
      · have HALL : Hid (C.any (fun c => c.word == c0.word) = true) := by
          show _ = _
          have := HTT.out
          rw [hq] at this
          obtain ⟨x, hx, hx2⟩ := List.any_eq_true.1 this
          exact List.any_eq_true.2 ⟨x, List.mem_of_mem_take hx, hx2⟩
        rw [hq]
        clear hq
        go_wp2_with fail
        go_ret
        refine ⟨⟨_, rfl, ?_⟩, B1⟩
        rw [HALL.out]
        simp
      · have hq' : (c.word == c0.word) = false := by simpa using hq
        rw [hq'] at HTT
        rw [hq']
        clear hq hq'
        go_wp2_with fail
        go_roundw
        case rel => exact ⟨j + 1, by omega, by go_num, HTT, B1⟩
        case measure => simp [intOf]; omega
    · have hlt' : (n : Int) ≤ (j : Int) := by omega
      have HALL : Hid (C.any (fun c => c.word == c0.word) = false) := by
        show _ = _
        have := HJ.out
        rwa [List.take_of_length_le (by have := HN.out; omega)] at this
      go_wp2_with fail
      go_ret
      refine ⟨⟨_, rfl, ?_⟩, hb⟩
      rw [HALL.out]
      decide
set_option maxHeartbeats 2000000 in
theorem containsFunc7_any {R : World → Cla → Value → Prop} (hR : ∀ w c u, R w c u → ∃ o n m, u = .slice o n m) (w : World) (v : Value) (C : List Cla) (h : NSl ClaE claV R w v C) (k : Nat) (c0 : Cla) (u0 : Value) (hk : w.heap[k]? = some (.cells (claV c0 u0) 76 (0, 0))) :
    Calls Tryd.prog 62 #[v, .func (.func 63) #[] #[.pointer (some ⟨k, 0, none⟩)]] w fun e w' => e = .returned (.bool (C.any (fun c => c.word == c0.word))) ∧ Below w.heap.size w w' := by
  have C1 : Hid (Calls Tryd.prog 74 #[v, .func (.func 63) #[] #[.pointer (some ⟨k, 0, none⟩)]] w fun e w' => (∃ i : Int, e = .returned (.int .i64 i) ∧ ((decide (0 ≤ i)) = C.any (fun c => c.word == c0.word))) ∧ Below w.heap.size w w') := indexFunc7_any hR w v C h k c0 u0 hk
  obtain ⟨b, hb⟩ : ∃ b, b = C.any (fun c => c.word == c0.word) := ⟨_, rfl⟩
  rw [← hb] at C1 ⊢
  clear h hk hb
  go_enter Tryd.func62, Tryd.ntmps62
  go_wp2_with fail
  refine C1.out.mono ?_
  rintro e w1 ⟨⟨i, rfl, hi⟩, hb1⟩
  have HI : Hid (decide (0 ≤ i) = b) := hi
  clear hi
  go_wp2_with fail
  go_ret
  refine ⟨?_, hb1⟩
  rw [← HI.out]
  rfl

theorem outF_zero (f : Fig) (low high : Int) : (outF f low high).1 = 0 ↔ ¬ (decide (f.n < low) || decide (high < f.n)) = true := by
  unfold outF
  split
  · rename_i h; simp [h]
  · rename_i h; simp [h]
theorem numF_step (c : Cla) (j : Nat) (f : Fig) (l : List Fig) : numF c j (f :: l) = if (outF f (lowN c j) (mostN c.word j)).1 = 0 then numF c (j + 1) l else outF f (lowN c j) (mostN c.word j) := by
  rw [numF]
  by_cases h : (decide (f.n < lowN c j) || decide (mostN c.word j < f.n)) = true
  · rw [if_pos h, if_neg (by rw [outF_zero]; simp [h])]
    unfold outF
    rw [if_pos h]
  · rw [if_neg h, if_pos (by rw [outF_zero]; exact h)]
theorem below_at {w wr : World} {k : Nat} (hk : k < w.heap.size) {o : Obj} (h : w.heap[k]? = some o) (hb : Below w.heap.size w wr) : wr.heap[k]? = some o := (hb.block k hk).trans h

set_option maxHeartbeats 4000000 in
theorem numbers_any (c : Cla) (u : Value) (w : World) (hu : FigsAt w c u) :
    Calls Tryd.prog 65 #[.agg (claV c u)] w fun x w' => x = .returned (.agg (fltV (numF c 0 c.nums))) ∧ Below w.heap.size w w' := by
  have BO : Hid (∀ (i : Nat) W, Below w.heap.size w W → i < c.nums.length → Calls Tryd.prog 75 #[.agg (claV c u), .int .i64 (i : Int)] W fun x w' => x = .returned (.tuple #[.int .i64 (lowN c i), .int .i64 (mostN c.word i)]) ∧ Below W.heap.size W w') := fun i W hb hi => bounds_any c u i W (figs_below _ _ _ _ hb hu) hi
  have OU : Hid (∀ (f : Fig) (low high : Int) W, Calls Tryd.prog 43 #[.agg (figV f), .int .i64 low, .int .i64 high] W fun x w' => x = .returned (.agg (fltV (outF f low high))) ∧ Below W.heap.size W w') := outside_any
  obtain ⟨o, cap, rfl, hc1, hc2⟩ := GSl.slice hu
  obtain ⟨n, hn⟩ : ∃ n, n = c.nums.length := ⟨_, rfl⟩
  have HN : Hid (n = c.nums.length) := hn
  rw [← hn] at hu hc1 BO ⊢
  unfold maxLen at hc2
  have HU : Hid (FigsAt w c (.slice o n cap)) := hu
  have b1 : Hid (((w.alloc (.cells (claV c (.slice o n cap)) 76)).alloc (.cells #[.int .i64 0, .int .i64 0] 68)).heap[w.heap.size]? = some (.cells (claV c (.slice o n cap)) 76 (0, 0))) := heap_past _ _ _ _ (heap_new _ _ _ rfl)
  have b2 : Hid (((w.alloc (.cells (claV c (.slice o n cap)) 76)).alloc (.cells #[.int .i64 0, .int .i64 0] 68)).heap[w.heap.size + 1]? = some (.cells #[.int .i64 0, .int .i64 0] 68 (0, 0))) := heap_new _ _ _ (by simp)
  have c2 := (cla_f b1.out).2.2.1
  clear hu hn
  go_enter Tryd.func65, Tryd.ntmps65
  go_wp2_with fail
  clear c2
  go_loopw [11] (fun x wr => ∃ j : Nat, j ≤ n ∧ x = .int .i64 (j : Int) ∧ Hid (numF c 0 c.nums = numF c j (c.nums.drop j)) ∧ wr.heap[w.heap.size]? = some (.cells (claV c (.slice o n cap)) 76 (0, 0)) ∧ wr.heap[w.heap.size + 1]? = some (.cells #[.int .i64 0, .int .i64 0] 68 (0, 0)) ∧ Below w.heap.size w wr) (fun x _ => n - (intOf x).toNat)
  case atStart => exact ⟨0, Nat.zero_le _, rfl, rfl, b1.out, b2.out, below2 _ _ _⟩
  case round =>
    clear b1 b2
    obtain ⟨j, hj, rfl, HJ, hr1, hr2, hb⟩ := hrel
    have R1 : Hid (wr.heap[w.heap.size]? = some (.cells (claV c (.slice o n cap)) 76 (0, 0))) := hr1
    have R2 : Hid (wr.heap[w.heap.size + 1]? = some (.cells #[.int .i64 0, .int .i64 0] 68 (0, 0))) := hr2
    have HB : Hid (Below w.heap.size w wr) := hb
    clear hr1 hr2 hb
    by_cases hlt : j < n
    · obtain ⟨g, off, cur, ty, fr, f, rfl, hg, hc, hFj⟩ := HU.out.at j hlt
      have K1 : Hid (wr.heap[g]? = some (.cells cur ty fr)) := (HB.out.block g (Array.getElem?_eq_some_iff.1 hg).1).trans hg
      have H1 : Hid (∀ q, q < 2 → cur[off + j * 2 + q]? = (figV f)[q]?) := hc
      have HD : Hid (c.nums.drop j = f :: c.nums.drop (j + 1)) := by
        obtain ⟨hk, rfl⟩ := List.getElem?_eq_some_iff.1 hFj
        exact List.drop_eq_getElem_cons hk
      have hlt' : (j : Int) < (n : Int) := by omega
      have BA : Hid (Below wr.heap.size wr (wr.alloc (.cells (figV f) 52))) := (Below.refl _ _).alloc (Nat.le_refl _) _
      have HLT : Hid (j < n) := hlt
      clear hg hc hFj hlt
      go_wp2_with (first
        | (refine wl_loadE (E := FigE) FigOk rfl _ rfl g (off + j * 2) rfl cur ty fr (figV f) rfl K1.out H1.out ?_)
        | (refine wl_storeE (E := FigE) FigOk rfl _ _ rfl wr.heap.size (figV f) (fig_fits _) rfl rfl _ (heap_new _ _ _ rfl) rfl _ (setRow_new _ _ _ _ _ rfl) ?_)
        | (refine wl_loadE (E := ClaE) ClaOk rfl _ rfl w.heap.size 0 rfl _ _ _ (claV c (.slice (some ⟨g, off, none⟩) n cap)) rfl (heap_past _ _ _ _ R1.out) (own_cells _ _) ?_))
      refine (BO.out j _ (HB.out.trans (BA.out.mono HB.out.size)) HLT.out).mono ?_
      rintro e w1 ⟨rfl, hb1⟩
      have B1 : Hid (Below wr.heap.size wr w1) := BA.out.trans (hb1.mono BA.out.size)
      have KF : Hid (w1.heap[wr.heap.size]? = some (.cells (figV f) 52 (0, 0))) := (hb1.block _ (by simp)).trans (heap_new _ _ _ rfl)
      clear hb1 BA
      obtain ⟨F, hF⟩ : ∃ F, F = outF f (lowN c j) (mostN c.word j) := ⟨_, rfl⟩
      have CO : Hid (∀ W, Calls Tryd.prog 43 #[.agg (figV f), .int .i64 (lowN c j), .int .i64 (mostN c.word j)] W fun x w' => x = .returned (.agg (fltV F)) ∧ Below W.heap.size W w') := fun W => by rw [hF]; exact OU.out f _ _ W
      have HST : Hid (numF c j (f :: c.nums.drop (j + 1)) = if F.1 = 0 then numF c (j + 1) (c.nums.drop (j + 1)) else F) := by rw [hF]; exact numF_step c j f _
      obtain ⟨lo, hlo⟩ : ∃ lo, lo = lowN c j := ⟨_, rfl⟩
      obtain ⟨hi, hhi⟩ : ∃ hi, hi = mostN c.word j := ⟨_, rfl⟩
      rw [← hlo, ← hhi] at CO ⊢
      clear hF hlo hhi
      go_wp2_with (first
        | (refine wl_loadE (E := FigE) FigOk rfl _ rfl wr.heap.size 0 rfl _ _ _ (figV f) rfl KF.out (own_cells _ _) ?_))
      refine (CO.out _).mono ?_
      rintro e w2 ⟨rfl, hb2⟩
      have B2 : Hid (Below wr.heap.size wr w2) := B1.out.trans (hb2.mono B1.out.size)
      clear hb2
      have KN : Hid ((w2.alloc (.cells (fltV F) 68)).heap[w2.heap.size]? = some (.cells (fltV F) 68 (0, 0))) := heap_new _ _ _ rfl
      have n0 : (w2.alloc (.cells (fltV F) 68)).cell? ⟨w2.heap.size, 0, none⟩ = some (.int .i64 F.1) := by rw [cell_of_row _ _ _ _ _ _ KN.out]; rfl
      have B3 : Hid (Below wr.heap.size wr (w2.alloc (.cells (fltV F) 68))) := B2.out.alloc B2.out.size _
      have zr : Hid (w.heap.size + 1 < wr.heap.size) := (Array.getElem?_eq_some_iff.1 R2.out).1
      by_cases hz : F.1 = 0
      · have hz' : (F.1 != 0) = false := by simp [hz]
        have HE : Hid (numF c 0 c.nums = numF c (j + 1) (c.nums.drop (j + 1))) := by
          show _ = _
          rw [HJ.out, HD.out, HST.out, if_pos hz]
        clear hz
        go_wp2_with (first
          | (refine wl_storeE (E := FltE) FltOk rfl _ _ rfl w2.heap.size (fltV F) (flt_fits _) rfl rfl _ (heap_new _ _ _ rfl) rfl _ (setRow_new _ _ _ _ _ rfl) ?_))
        go_roundw
        case rel =>
          have z := zr.out
          exact ⟨j + 1, by omega, by go_num, HE, (B3.out.block _ (by omega)).trans R1.out, (B3.out.block _ (by omega)).trans R2.out, HB.out.trans (B3.out.mono HB.out.size)⟩
        case measure =>
          have := HLT.out
          simp [intOf]; omega
      · have hz' : (F.1 != 0) = true := by simp [hz]
        have HE : Hid (numF c 0 c.nums = F) := by
          show _ = _
          rw [HJ.out, HD.out, HST.out, if_neg hz]
        have KR : Hid ((w2.alloc (.cells (fltV F) 68)).heap[w.heap.size + 1]? = some (.cells #[.int .i64 0, .int .i64 0] 68 (0, 0))) := (B3.out.block _ zr.out).trans R2.out
        clear hz
        go_wp2_with (first
          | (refine wl_storeE (E := FltE) FltOk rfl _ _ rfl w2.heap.size (fltV F) (flt_fits _) rfl rfl _ (heap_new _ _ _ rfl) rfl _ (setRow_new _ _ _ _ _ rfl) ?_)
          | (refine wl_loadE (E := FltE) FltOk rfl _ rfl w2.heap.size 0 rfl _ _ _ (fltV F) rfl KN.out (own_cells _ _) ?_)
          | (refine wl_storeE (E := FltE) FltOk rfl _ _ rfl (w.heap.size + 1) (fltV F) (flt_fits _) rfl rfl _ KR.out rfl _ rfl ?_))
        refine retE (E := FltE) FltOk rfl rfl (w.heap.size + 1) rfl (fltV F) rfl (setRow_heap _ _ _ _ _ _ KR.out) ?_
        exact ⟨by rw [HE.out], below_setRow (HB.out.trans (B3.out.mono HB.out.size)) (by omega) _⟩
    · have hlt' : (n : Int) ≤ (j : Int) := by omega
      have HE : Hid (numF c 0 c.nums = (0, 0)) := by
        show _ = _
        rw [HJ.out, List.drop_of_length_le (by have := HN.out; omega)]
        rfl
      clear hlt
      go_wp2_with (first
        | (refine wl_storeE (E := FltE) FltOk rfl _ _ rfl (w.heap.size + 1) (fltV (0, 0)) (flt_fits _) rfl rfl _ R2.out rfl _ rfl ?_))
      refine retE (E := FltE) FltOk rfl rfl (w.heap.size + 1) rfl (fltV (0, 0)) rfl (setRow_heap _ _ _ _ _ _ R2.out) ?_
      exact ⟨by rw [HE.out], below_setRow HB.out (by omega) _⟩
end Go.Proofs.YtbdbjbmjnemknaaDoor
namespace Go.Proofs.YtbdbjbmjnemknaaDoor
open Go Go.RowKit
set_option maxRecDepth 20000

theorem later_cell7 {W : World} {g k : Nat} {cs : Array Value} {t : TypeId} {fr : Nat × Nat} {v : Value} (hg : W.heap[g]? = some (.cells cs t fr)) (hk : cs[k]? = some v) : ∀ u : Later W, u.world.cell? ⟨g, k, none⟩ = some v := fun u => by
  rw [cell_of_row u.world _ _ _ _ _ (later_block hg _ ⟨u, rfl⟩)]; exact hk
theorem figs_slice7 (w : World) (c : Cla) (u : Value) (h : FigsAt w c u) : ∃ o n m, u = .slice o n m := by
  obtain ⟨o, cap, rfl, _⟩ := GSl.slice h
  exact ⟨_, _, _, rfl⟩
/-- A row that lies in a block of its own. -/
theorem gsl_row {α : Type} {E : El} {enc : α → Array Value} (hE : ∀ c, (enc c).size = E.size) {w : World} {g : Nat} {C : List α} {t : TypeId} {fr : Nat × Nat} (h : w.heap[g]? = some (.cells (gcells enc C).toArray t fr)) (hl : C.length ≤ maxLen) : GSl E enc w (.slice (some ⟨g, 0, none⟩) C.length C.length) C :=
  ⟨_, _, rfl, Nat.le_refl _, hl, fun i hi => ⟨g, 0, _, _, _, rfl, h, fun j hj => by
    rw [← gcells_at enc E.size C (fun c _ => hE c) i hi j hj, Nat.zero_add, Nat.mul_comm]
    simp⟩⟩
theorem wl_build3F {ops : Array Oper} {rest : List Oper} {o : Oper} {a : Act} {w : World} {Q : Exit → Act → World → Prop} (hg : o.guard = none) (x y z : Operand) (ho : o.op = .buildSlice 94 3 #[(0, x), (1, y), (2, z)]) (p q r : Int × Int) (hx : a.eval x = .agg (fltV p)) (hy : a.eval y = .agg (fltV q)) (hz : a.eval z = .agg (fltV r))
    (h : wpList Tryd.prog ops Q rest (a.put o.dst (.slice (some ⟨w.heap.size, 0, none⟩) 3 3)) (w.alloc (.cells (gcells fltV [p, q, r]).toArray 68))) : wpList Tryd.prog ops Q (o :: rest) a w := by
  obtain ⟨ie, hie, hze, hs, _⟩ := FltOk.info
  have hs' : ie.size = 2 := hs
  refine wpList_buildSlice hg 94 68 3 _ ho _ ie (.agg FltE.zero) FltOk.hs hie hze (by rw [hs']; decide) (by rw [hs']; decide) ?_ h
  simp only [List.map_toArray, List.map_cons, List.map_nil, hx, hy, hz, hs']
  kernel_rfl
theorem wl_build4F {ops : Array Oper} {rest : List Oper} {o : Oper} {a : Act} {w : World} {Q : Exit → Act → World → Prop} (hg : o.guard = none) (x y z t : Operand) (ho : o.op = .buildSlice 94 4 #[(0, x), (1, y), (2, z), (3, t)]) (p q r s : Int × Int) (hx : a.eval x = .agg (fltV p)) (hy : a.eval y = .agg (fltV q)) (hz : a.eval z = .agg (fltV r)) (ht : a.eval t = .agg (fltV s))
    (h : wpList Tryd.prog ops Q rest (a.put o.dst (.slice (some ⟨w.heap.size, 0, none⟩) 4 4)) (w.alloc (.cells (gcells fltV [p, q, r, s]).toArray 68))) : wpList Tryd.prog ops Q (o :: rest) a w := by
  obtain ⟨ie, hie, hze, hs, _⟩ := FltOk.info
  have hs' : ie.size = 2 := hs
  refine wpList_buildSlice hg 94 68 4 _ ho _ ie (.agg FltE.zero) FltOk.hs hie hze (by rw [hs']; decide) (by rw [hs']; decide) ?_ h
  simp only [List.map_toArray, List.map_cons, List.map_nil, hx, hy, hz, ht, hs']
  kernel_rfl
def whenF (b : Bool) (e p : Int) : Int × Int := if b then (e, p) else (0, 0)
theorem whenF_any (b : Bool) (e p : Int) (w : World) :
    Calls Tryd.prog 24 #[.bool b, .int .i64 e, .int .i64 p] w fun x w' => x = .returned (.agg (fltV (whenF b e p))) ∧ Below w.heap.size w w' := when_any b e p w
theorem first3 (had : List Cla) (c : Cla) : firstF [whenF (((c.nums.length : Int)) != manyI c) 8 c.pos, whenF (had.any (fun d => d.word == c.word)) 9 c.pos, numF c 0 c.nums] = claF had c := by
  rw [many_ne]
  have hz : ∀ (l : List Fig) (k : Nat), (numF c k l).1 = 0 → numF c k l = (0, 0) := by
    intro l
    induction l with
    | nil => intro k _; rfl
    | cons f l ih =>
      intro k h
      rw [numF] at h ⊢
      split
      · rename_i hh; rw [if_pos hh] at h; simp at h
      · rename_i hh; rw [if_neg hh] at h; exact ih _ h
  unfold claF whenF
  generalize (mustN c == 0 || c.nums.length != mustN c) = b1
  generalize (had.any fun d => d.word == c.word) = b2
  cases b1
  · cases b2
    · simp only [firstF, Bool.false_eq_true, if_false, if_true]
      split
      · rename_i h; exact (hz _ _ h).symm
      · rfl
    · simp [firstF]
  · simp [firstF]

set_option maxHeartbeats 4000000 in
theorem clauseF_any (had : List Cla) (c : Cla) (u va : Value) (w : World) (hu : FigsAt w c u) (ha : NSl ClaE claV FigsAt w va had) :
    Calls Tryd.prog 44 #[.agg (claV c u), va] w fun x w' => x = .returned (.agg (fltV (claF had c))) ∧ Below w.heap.size w w' := by
  obtain ⟨o, cap, rfl, hc1, hc2⟩ := GSl.slice hu
  obtain ⟨oa, capa, rfl, -, -⟩ := NSl.slice ha
  have hmf : ∀ (fn : Fn) (first cap : Array Value) (w : World), (Instr.makeFunc fn first cap).run Tryd.prog w = .ok (.func fn first cap) w := fun _ _ _ _ => rfl
  obtain ⟨n, hn⟩ : ∃ n, n = c.nums.length := ⟨_, rfl⟩
  have HN : Hid (n = c.nums.length) := hn
  rw [← hn] at hu hc1 ⊢
  have CF : Hid (∀ W, Below w.heap.size w W → W.heap[w.heap.size]? = some (.cells (claV c (.slice o n cap)) 76 (0, 0)) → Calls Tryd.prog 62 #[.slice oa had.length capa, .func (.func 63) #[] #[.pointer (some ⟨w.heap.size, 0, none⟩)]] W fun e w' => e = .returned (.bool (had.any (fun d => d.word == c.word))) ∧ Below W.heap.size W w') := fun W hb hk => containsFunc7_any figs_slice7 W _ had (NSl.below figs_below ha hb) w.heap.size c _ hk
  have MA : Hid (∀ W, Calls Tryd.prog 64 #[.agg (claV c (.slice o n cap))] W fun x w' => x = .returned (.int .i64 (manyI c)) ∧ Below W.heap.size W w') := fun W => many7_any c _ ⟨_, _, _, rfl⟩ W
  have WH : Hid (∀ b e p W, Calls Tryd.prog 24 #[.bool b, .int .i64 e, .int .i64 p] W fun x w' => x = .returned (.agg (fltV (whenF b e p))) ∧ Below W.heap.size W w') := whenF_any
  have NU : Hid (∀ W, Below w.heap.size w W → Calls Tryd.prog 65 #[.agg (claV c (.slice o n cap))] W fun x w' => x = .returned (.agg (fltV (numF c 0 c.nums))) ∧ Below W.heap.size W w') := fun W hb => numbers_any c _ W (figs_below _ _ _ _ hb hu)
  have FI : Hid (∀ F v W, GSl FltE fltV W v F → Calls Tryd.prog 23 #[v] W fun e w' => e = .returned (.agg (fltV (firstF F))) ∧ Below W.heap.size W w') := first7_any
  have b1 : Hid (((w.alloc (.cells (claV c (.slice o n cap)) 76)).alloc (.cells #[.int .i64 0, .int .i64 0] 68)).heap[w.heap.size]? = some (.cells (claV c (.slice o n cap)) 76 (0, 0))) := heap_past _ _ _ _ (heap_new _ _ _ rfl)
  have b2 : Hid (((w.alloc (.cells (claV c (.slice o n cap)) 76)).alloc (.cells #[.int .i64 0, .int .i64 0] 68)).heap[w.heap.size + 1]? = some (.cells #[.int .i64 0, .int .i64 0] 68 (0, 0))) := heap_new _ _ _ (by simp)
  have B0 : Hid (Below w.heap.size w ((w.alloc (.cells (claV c (.slice o n cap)) 76)).alloc (.cells #[.int .i64 0, .int .i64 0] 68))) := below2 _ _ _
  have H3 := first3 had c
  rw [← hn] at H3
  have HF : Hid (firstF [whenF ((n : Int) != manyI c) 8 c.pos, whenF (had.any (fun d => d.word == c.word)) 9 c.pos, numF c 0 c.nums] = claF had c) := H3
  obtain ⟨st, hst⟩ : ∃ st, st = had.any (fun d => d.word == c.word) := ⟨_, rfl⟩
  obtain ⟨ma, hma⟩ : ∃ ma, ma = manyI c := ⟨_, rfl⟩
  obtain ⟨nf, hnf⟩ : ∃ nf, nf = numF c 0 c.nums := ⟨_, rfl⟩
  rw [← hst] at CF HF
  rw [← hma] at MA HF
  rw [← hnf] at NU HF
  clear hu ha H3 hst hma hnf hn
  go_enter Tryd.func44, Tryd.ntmps44
  go_wp2_with fail
  refine (CF.out _ B0.out b1.out).mono ?_
  rintro e w1 ⟨rfl, hb1⟩
  have r1 : w1.heap[w.heap.size]? = some (.cells (claV c (.slice o n cap)) 76 (0, 0)) := (hb1.block _ (by simp; omega)).trans b1.out
  have r2 : w1.heap[w.heap.size + 1]? = some (.cells #[.int .i64 0, .int .i64 0] 68 (0, 0)) := (hb1.block _ (by simp)).trans b2.out
  have B1 : Hid (Below w.heap.size w w1) := B0.out.trans (hb1.mono (by simp; omega))
  clear hb1 b1 b2 B0 CF
  go_wp2_with fail
  have l1 : ∀ u : Later w1, u.world.cell? ⟨w.heap.size, 1, none⟩ = some (.int .i64 c.pos) := later_cell7 r1 rfl
  have l2 : ∀ u : Later w1, u.world.cell? ⟨w.heap.size, 2, none⟩ = some (.slice o n cap) := later_cell7 r1 rfl
  have ne1 := Later.ne w1
  refine wp_region_latertail 15 (by kernel_rfl) (by kernel_rfl) ?_
  simp only [List.take_succ_cons, List.take_zero, List.drop_succ_cons, List.drop_zero]
  go_big_quiet_step (rfl)
  go_big_quiet_step (rfl)
  go_big_quiet_step (rfl)
  refine qlE (E := ClaE) ClaOk rfl _ rfl w.heap.size 0 rfl _ _ _ (claV c (.slice o n cap)) rfl (later_block r1) (own_cells _ _) ?_
  simp only [Act.put, List.setIfInBounds_toArray, List.set_cons_succ, List.set_cons_zero]
  go_big_quiet_want; go_big_quiet_op
  refine ⟨_, fun u => Calls.later_of (MA.out u.world), ?_⟩
  go_big_quiet_on
  go_big_quiet_step (rfl)
  go_big_quiet_step (rfl)
  go_big_quiet_step (rfl)
  go_big_quiet_want; go_big_quiet_op
  refine ⟨_, fun u => Calls.later_of (WH.out _ _ _ u.world), ?_⟩
  go_big_quiet_on
  go_big_quiet_step (rfl)
  go_big_quiet_step (rfl)
  go_big_quiet_step (rfl)
  go_big_quiet_want; go_big_quiet_op
  refine ⟨_, fun u => Calls.later_of (WH.out _ _ _ u.world), ?_⟩
  go_big_quiet_on
  refine qlE (E := ClaE) ClaOk rfl _ rfl w.heap.size 0 rfl _ _ _ (claV c (.slice o n cap)) rfl (later_block r1) (own_cells _ _) ?_
  simp only [Act.put, List.setIfInBounds_toArray, List.set_cons_succ, List.set_cons_zero]
  go_big_quiet_want; go_big_quiet_op
  refine ⟨_, fun u => Calls.later_of (NU.out u.world (B1.out.trans (u.below.mono B1.out.size))), ?_⟩
  go_big_quiet_on
  refine wpQuiet_nil ?_
  rintro w' ⟨u, rfl⟩
  have k2 : Hid (u.world.heap[w.heap.size + 1]? = some (.cells #[.int .i64 0, .int .i64 0] 68 (0, 0))) := later_block r2 _ ⟨u, rfl⟩
  have BU : Hid (Below w.heap.size w u.world) := B1.out.trans (u.below.mono B1.out.size)
  obtain ⟨W2, hW2⟩ : ∃ W2, W2 = u.world := ⟨_, rfl⟩
  rw [← hW2] at k2 BU ⊢
  clear hW2 l1 l2 ne1 r1 r2 B1 NU MA
  refine wl_build3F rfl _ _ _ rfl _ _ _ rfl rfl rfl ?_
  simp only [Act.put, List.setIfInBounds_toArray, List.set_cons_succ, List.set_cons_zero]
  have G3 : Hid (GSl FltE fltV (W2.alloc (.cells (gcells fltV [whenF ((n : Int) != ma) 8 c.pos, whenF st 9 c.pos, nf]).toArray 68)) (.slice (some ⟨W2.heap.size, 0, none⟩) 3 3) [whenF ((n : Int) != ma) 8 c.pos, whenF st 9 c.pos, nf]) := gsl_row (E := FltE) (C := [whenF ((n : Int) != ma) 8 c.pos, whenF st 9 c.pos, nf]) (fun _ => rfl) (heap_new _ _ _ rfl) (by show 3 ≤ _; decide)
  go_wp2_with fail
  refine (FI.out _ _ _ G3.out).mono ?_
  rintro e w3 ⟨rfl, hb3⟩
  rw [HF.out]
  have k3 : Hid (w3.heap[w.heap.size + 1]? = some (.cells #[.int .i64 0, .int .i64 0] 68 (0, 0))) := (hb3.block _ (by have := (Array.getElem?_eq_some_iff.1 k2.out).1; simp; omega)).trans (heap_past _ _ _ _ k2.out)
  have B3 : Hid (Below w.heap.size w w3) := (BU.out.alloc BU.out.size _).trans (hb3.mono (BU.out.alloc BU.out.size _).size)
  clear hb3 G3
  go_wp2_with (first
    | (refine wl_storeE (E := FltE) FltOk rfl _ _ rfl (w.heap.size + 1) (fltV (claF had c)) (flt_fits _) rfl rfl _ k3.out rfl _ rfl ?_))
  refine retE (E := FltE) FltOk rfl rfl (w.heap.size + 1) rfl (fltV (claF had c)) rfl (setRow_heap _ _ _ _ _ _ k3.out) ?_
  exact ⟨rfl, below_setRow B3.out (by omega) _⟩
end Go.Proofs.YtbdbjbmjnemknaaDoor
namespace Go.Proofs.YtbdbjbmjnemknaaDoor
open Go Go.RowKit
set_option maxRecDepth 20000

theorem raw_f {w : World} {b : Nat} {x : Raw} {u : Value} {ty : TypeId} {fr : Nat × Nat} (h : w.heap[b]? = some (.cells (rawV x u) ty fr)) :
    w.cell? ⟨b, 0, none⟩ = some (.int .i64 x.pos) ∧ w.cell? ⟨b, 1, none⟩ = some (.bool x.dflt) ∧ w.cell? ⟨b, 2, none⟩ = some (.int .i64 x.prio.n) ∧ w.cell? ⟨b, 4, none⟩ = some u ∧ w.cell? ⟨b, 5, none⟩ = some (.bool x.drop) ∧ w.cell? ⟨b, 6, none⟩ = some (.int .i64 x.port.n) := by
  refine ⟨?_, ?_, ?_, ?_, ?_, ?_⟩ <;> (rw [cell_of_row _ _ _ _ _ _ h]; rfl)
theorem raw_prio (x : Raw) (u : Value) : ∀ q, q < 2 → (rawV x u)[2 + q]? = (figV x.prio)[q]? := fun q hq => by
  rcases (show q = 0 ∨ q = 1 by omega) with rfl | rfl <;> rfl
theorem raw_port (x : Raw) (u : Value) : ∀ q, q < 2 → (rawV x u)[6 + q]? = (figV x.port)[q]? := fun q hq => by
  rcases (show q = 0 ∨ q = 1 by omega) with rfl | rfl <;> rfl
theorem ruleF_zero (x : Raw) : outF x.prio 0 65535 = ruleF x 0 := by
  unfold outF ruleF
  rw [List.take_zero]
  rfl
theorem NSl.take {α : Type} {E : El} {row : α → Value → Array Value} {R : World → α → Value → Prop} {w : World} {o : Option Addr} {n cap : Nat} {C : List α} (h : NSl E row R w (.slice o n cap) C) {k : Nat} (hk : k ≤ n) : NSl E row R w (.slice o k cap) (C.take k) := by
  obtain ⟨P, h1, ⟨o', cap', h2, h3, h4, h5⟩, h6⟩ := h
  simp only [Value.slice.injEq] at h2
  obtain ⟨rfl, rfl, rfl⟩ := h2
  have hl : (P.take k).length = k := by rw [List.length_take]; omega
  refine ⟨P.take k, by rw [List.map_take, h1], ⟨o, cap, by rw [hl], by rw [hl]; omega, h4, fun i hi => ?_⟩, fun p hp => h6 p (List.mem_of_mem_take hp)⟩
  rw [hl] at hi
  obtain ⟨g, off, cur, t, fr, e1, e2, e3⟩ := h5 i (by omega)
  refine ⟨g, off, cur, t, fr, e1, e2, fun j hj => ?_⟩
  rw [List.getElem_take]
  exact e3 j hj
theorem slice_to (b off n cap k : Nat) (hk : k ≤ cap) (_hm : cap ≤ 2 ^ 63 - 1) (W : World) : (Instr.sliceAt 53 (.slice (some ⟨b, off, none⟩) n cap) none (some (.int .i64 (k : Int))) none).run Tryd.prog W = .ok (.slice (some ⟨b, off, none⟩) k cap) W := by
  simp [go_sem, Tryd.underlying53]
  omega

set_option maxHeartbeats 4000000 in
theorem action7_any (x : Raw) (u : Value) (hu : ∃ o n m, u = .slice o n m) (w : World) :
    Calls Tryd.prog 45 #[.agg (rawV x u)] w fun e w' => e = .returned (.int .i64 (actOf x)) ∧ Below w.heap.size w w' := by
  obtain ⟨o, n, m, rfl⟩ := hu
  obtain ⟨-, -, -, -, c5, c6⟩ := raw_f (heap_new w (.cells (rawV x (.slice o n m)) 55) _ rfl)
  have HB : Hid (Below w.heap.size w (w.alloc (.cells (rawV x (.slice o n m)) 55))) := (Below.refl _ _).alloc (Nat.le_refl _) _
  cases hd : x.drop with
  | true =>
    rw [show actOf x = 0 by unfold actOf; rw [hd]; rfl]
    rw [hd] at c5
    go_enter Tryd.func45, Tryd.ntmps45
    go_wp2_with fail
    go_ret
    exact ⟨rfl, HB.out⟩
  | false =>
    rw [show actOf x = x.port.n by unfold actOf; rw [hd]; rfl]
    rw [hd] at c5
    go_enter Tryd.func45, Tryd.ntmps45
    go_wp2_with fail
    go_ret
    exact ⟨rfl, HB.out⟩

set_option maxHeartbeats 4000000 in
theorem actionF_any (x : Raw) (u : Value) (hu : ∃ o n m, u = .slice o n m) (w : World) :
    Calls Tryd.prog 26 #[.agg (rawV x u)] w fun e w' => e = .returned (.agg (fltV (actF x))) ∧ Below w.heap.size w w' := by
  obtain ⟨o, n, m, rfl⟩ := hu
  have OU : Hid (∀ (f : Fig) (low high : Int) W, Calls Tryd.prog 43 #[.agg (figV f), .int .i64 low, .int .i64 high] W fun x w' => x = .returned (.agg (fltV (outF f low high))) ∧ Below W.heap.size W w') := outside_any
  have b1 : Hid (((w.alloc (.cells (rawV x (.slice o n m)) 55)).alloc (.cells #[.int .i64 0, .int .i64 0] 68)).heap[w.heap.size]? = some (.cells (rawV x (.slice o n m)) 55 (0, 0))) := heap_past _ _ _ _ (heap_new _ _ _ rfl)
  have b2 : Hid (((w.alloc (.cells (rawV x (.slice o n m)) 55)).alloc (.cells #[.int .i64 0, .int .i64 0] 68)).heap[w.heap.size + 1]? = some (.cells #[.int .i64 0, .int .i64 0] 68 (0, 0))) := heap_new _ _ _ (by simp)
  have B0 : Hid (Below w.heap.size w ((w.alloc (.cells (rawV x (.slice o n m)) 55)).alloc (.cells #[.int .i64 0, .int .i64 0] 68))) := below2 _ _ _
  have c5 := (raw_f b1.out).2.2.2.2.1
  cases hd : x.drop with
  | true =>
    rw [show actF x = (0, 0) by unfold actF; rw [hd]; rfl]
    rw [hd] at c5
    go_enter Tryd.func26, Tryd.ntmps26
    go_wp2_with (first
      | (refine wl_storeE (E := FltE) FltOk rfl _ _ rfl (w.heap.size + 1) (fltV (0, 0)) (flt_fits _) rfl rfl _ b2.out rfl _ rfl ?_))
    refine retE (E := FltE) FltOk rfl rfl (w.heap.size + 1) rfl (fltV (0, 0)) rfl (setRow_heap _ _ _ _ _ _ b2.out) ?_
    exact ⟨rfl, below_setRow B0.out (by omega) _⟩
  | false =>
    rw [show actF x = outF x.port 1 99 by unfold actF outF; rw [hd]; rfl]
    rw [hd] at c5
    go_enter Tryd.func26, Tryd.ntmps26
    go_wp2_with (first
      | (refine wl_loadE (E := FigE) FigOk rfl _ rfl w.heap.size 6 rfl _ _ _ (figV x.port) rfl b1.out (raw_port x _) ?_))
    refine (OU.out _ _ _ _).mono ?_
    rintro e w1 ⟨rfl, hb1⟩
    have k2 : Hid (w1.heap[w.heap.size + 1]? = some (.cells #[.int .i64 0, .int .i64 0] 68 (0, 0))) := (hb1.block _ (by simp)).trans b2.out
    have B1 : Hid (Below w.heap.size w w1) := B0.out.trans (hb1.mono (by simp; omega))
    clear hb1
    go_wp2_with (first
      | (refine wl_storeE (E := FltE) FltOk rfl _ _ rfl (w.heap.size + 1) (fltV (outF x.port 1 99)) (flt_fits _) rfl rfl _ k2.out rfl _ rfl ?_))
    refine retE (E := FltE) FltOk rfl rfl (w.heap.size + 1) rfl (fltV (outF x.port 1 99)) rfl (setRow_heap _ _ _ _ _ _ k2.out) ?_
    exact ⟨rfl, below_setRow B1.out (by omega) _⟩

set_option maxHeartbeats 8000000 in
theorem ruleF_any (x : Raw) (u : Value) (w : World) (hu : ClasAt w x u) :
    Calls Tryd.prog 25 #[.agg (rawV x u)] w fun e w' => e = .returned (.agg (fltV (lineF x))) ∧ Below w.heap.size w w' := by
  have OU : Hid (∀ (f : Fig) (low high : Int) W, Calls Tryd.prog 43 #[.agg (figV f), .int .i64 low, .int .i64 high] W fun x w' => x = .returned (.agg (fltV (outF f low high))) ∧ Below W.heap.size W w') := outside_any
  have CL : Hid (∀ (had : List Cla) (c : Cla) (u va : Value) W, FigsAt W c u → NSl ClaE claV FigsAt W va had → Calls Tryd.prog 44 #[.agg (claV c u), va] W fun x w' => x = .returned (.agg (fltV (claF had c))) ∧ Below W.heap.size W w') := clauseF_any
  obtain ⟨o, cap, rfl, hc1, hc2⟩ := NSl.slice hu
  obtain ⟨n, hn⟩ : ∃ n, n = x.clauses.length := ⟨_, rfl⟩
  have HN : Hid (n = x.clauses.length) := hn
  rw [← hn] at hu hc1 ⊢
  have HU : Hid (ClasAt w x (.slice o n cap)) := hu
  unfold maxLen at hc2
  have b1 : Hid (((w.alloc (.cells (rawV x (.slice o n cap)) 55)).alloc (.cells #[.int .i64 0, .int .i64 0] 68)).heap[w.heap.size]? = some (.cells (rawV x (.slice o n cap)) 55 (0, 0))) := heap_past _ _ _ _ (heap_new _ _ _ rfl)
  have b2 : Hid (((w.alloc (.cells (rawV x (.slice o n cap)) 55)).alloc (.cells #[.int .i64 0, .int .i64 0] 68)).heap[w.heap.size + 1]? = some (.cells #[.int .i64 0, .int .i64 0] 68 (0, 0))) := heap_new _ _ _ (by simp)
  have B0 : Hid (Below w.heap.size w ((w.alloc (.cells (rawV x (.slice o n cap)) 55)).alloc (.cells #[.int .i64 0, .int .i64 0] 68))) := below2 _ _ _
  have c1 := (raw_f b1.out).2.1
  clear hu hn
  cases hd : x.dflt with
  | true =>
    rw [show lineF x = (0, 0) by unfold lineF; rw [hd]; rfl]
    rw [hd] at c1
    go_enter Tryd.func25, Tryd.ntmps25
    go_wp2_with (first
      | (refine wl_storeE (E := FltE) FltOk rfl _ _ rfl (w.heap.size + 1) (fltV (0, 0)) (flt_fits _) rfl rfl _ b2.out rfl _ rfl ?_))
    refine retE (E := FltE) FltOk rfl rfl (w.heap.size + 1) rfl (fltV (0, 0)) rfl (setRow_heap _ _ _ _ _ _ b2.out) ?_
    exact ⟨rfl, below_setRow B0.out (by omega) _⟩
  | false =>
    have HL : Hid (lineF x = ruleF x n) := by
      show _ = _
      rw [HN.out, ruleF_all]
      unfold lineF
      rw [hd]; rfl
    rw [hd] at c1
    have HD : Hid (x.dflt = false) := hd
    have ST : Hid (∀ k, (ruleF x k).1 ≠ 0 → ruleF x n = ruleF x k) := fun k h => by rw [HN.out]; exact ruleF_stays h
    have NX : Hid (∀ (k : Nat) c, x.clauses[k]? = some c → (ruleF x k).1 = 0 → claF (x.clauses.take k) c = ruleF x (k + 1)) := fun k c h1 h2 => (ruleF_next h1 h2).symm
    clear hd
    go_enter Tryd.func25, Tryd.ntmps25
    go_wp2_with (first
      | (refine wl_loadE (E := FigE) FigOk rfl _ rfl w.heap.size 2 rfl _ _ _ (figV x.prio) rfl b1.out (raw_prio x _) ?_))
    refine (OU.out _ _ _ _).mono ?_
    rintro e w1 ⟨rfl, hb1⟩
    rw [ruleF_zero]
    have k1 : Hid (w1.heap[w.heap.size]? = some (.cells (rawV x (.slice o n cap)) 55 (0, 0))) := (hb1.block _ (by simp; omega)).trans b1.out
    have k2 : Hid (w1.heap[w.heap.size + 1]? = some (.cells #[.int .i64 0, .int .i64 0] 68 (0, 0))) := (hb1.block _ (by simp)).trans b2.out
    have B1 : Hid (Below w.heap.size w w1) := B0.out.trans (hb1.mono (by simp; omega))
    clear hb1 b1 b2 B0 c1
    obtain ⟨G, hG⟩ : ∃ G, G = w1.heap.size := ⟨_, rfl⟩
    have hGw : w.heap.size + 1 < G := by rw [hG]; exact (Array.getElem?_eq_some_iff.1 k2.out).1
    have HG : Hid (G = w1.heap.size) := hG
    have KA : Hid ((w1.alloc (.cells (fltV (ruleF x 0)) 68)).heap[G]? = some (.cells (fltV (ruleF x 0)) 68 (0, 0)) ∧ (w1.alloc (.cells (fltV (ruleF x 0)) 68)).heap[w.heap.size]? = some (.cells (rawV x (.slice o n cap)) 55 (0, 0)) ∧ (w1.alloc (.cells (fltV (ruleF x 0)) 68)).heap[w.heap.size + 1]? = some (.cells #[.int .i64 0, .int .i64 0] 68 (0, 0)) ∧ Below w.heap.size w (w1.alloc (.cells (fltV (ruleF x 0)) 68))) := ⟨heap_new _ _ _ hG, heap_past _ _ _ _ k1.out, heap_past _ _ _ _ k2.out, B1.out.alloc B1.out.size _⟩
    go_wp2_with (first
      | (refine wl_storeE (E := FltE) FltOk rfl _ _ rfl w1.heap.size (fltV (ruleF x 0)) (flt_fits _) rfl rfl _ (heap_new _ _ _ rfl) rfl _ (setRow_new _ _ _ _ _ rfl) ?_))
    rw [← hG]
    clear hG
    go_loopw [4] (fun i wr => ∃ k : Nat, k ≤ n ∧ i = .int .i64 (k : Int) ∧ wr.heap[G]? = some (.cells (fltV (ruleF x k)) 68 (0, 0)) ∧ wr.heap[w.heap.size]? = some (.cells (rawV x (.slice o n cap)) 55 (0, 0)) ∧ wr.heap[w.heap.size + 1]? = some (.cells #[.int .i64 0, .int .i64 0] 68 (0, 0)) ∧ Below w.heap.size w wr) (fun i _ => n - (intOf i).toNat)
    case atStart => exact ⟨0, Nat.zero_le _, rfl, KA.out.1, KA.out.2.1, KA.out.2.2.1, KA.out.2.2.2⟩
    case round =>
      clear KA k1 k2 B1
      obtain ⟨k, hk, rfl, hr0, hr1, hr2, hb⟩ := hrel
      have R0 : Hid (wr.heap[G]? = some (.cells (fltV (ruleF x k)) 68 (0, 0))) := hr0
      have R1 : Hid (wr.heap[w.heap.size]? = some (.cells (rawV x (.slice o n cap)) 55 (0, 0))) := hr1
      have R2 : Hid (wr.heap[w.heap.size + 1]? = some (.cells #[.int .i64 0, .int .i64 0] 68 (0, 0))) := hr2
      have HB : Hid (Below w.heap.size w wr) := hb
      have f0 : wr.cell? ⟨G, 0, none⟩ = some (.int .i64 (ruleF x k).1) := by rw [cell_of_row _ _ _ _ _ _ R0.out]; rfl
      have f4 := (raw_f R1.out).2.2.2.1
      clear hr0 hr1 hr2 hb
      have fin : ∀ F, ruleF x n = F → wr.heap[G]? = some (.cells (fltV F) 68 (0, 0)) → lineF x = F := fun F h _ => by rw [HL.out]; exact h
      by_cases hlt : k < n
      · have hlt' : (k : Int) < (n : Int) := by omega
        by_cases hz : (ruleF x k).1 = 0
        · have hz' : ((ruleF x k).1 == 0) = true := by simp [hz]
          obtain ⟨g, off, cur, ty, fr, c, u', rfl, hg, hc, hCk, hcl⟩ := NSl.at (NSl.below figs_below HU.out HB.out) k hlt
          have HNX := NX.out k c hCk hz
          have CC : Hid (∀ W, Below wr.heap.size wr W → Calls Tryd.prog 44 #[.agg (claV c u'), .slice (some ⟨g, off, none⟩) k cap] W fun x1 w' => x1 = .returned (.agg (fltV (ruleF x (k + 1)))) ∧ Below W.heap.size W w') := fun W hbW => by
            have := CL.out (x.clauses.take k) c u' (.slice (some ⟨g, off, none⟩) k cap) W (figs_below _ _ _ _ hbW hcl) (NSl.below figs_below (NSl.take (NSl.below figs_below HU.out HB.out) (by omega)) hbW)
            rwa [HNX] at this
          have hsl := fun W => slice_to g off n cap k (by omega) hc2 W
          have k1 : wr.heap[g]? = some (.cells cur ty fr) := hg
          have H1 : Hid (∀ i, i < 5 → cur[off + k * 5 + i]? = (claV c u')[i]?) := hc
          have l4 : ∀ u : Later wr, u.world.cell? ⟨w.heap.size, 4, none⟩ = some (.slice (some ⟨g, off, none⟩) n cap) := later_cell7 R1.out rfl
          clear hg hc hCk hcl HNX fin
          go_wp2_with fail
          have ne1 := Later.ne wr
          refine wp_region_latertail 10 (by kernel_rfl) (by kernel_rfl) ?_
          simp only [List.take_succ_cons, List.take_zero, List.drop_succ_cons, List.drop_zero]
          go_big_quiet_step (rfl)
          go_big_quiet_step (rfl)
          go_big_quiet_step (rfl)
          go_big_quiet_step (rfl)
          refine qlE (E := ClaE) ClaOk rfl _ rfl g (off + k * 5) rfl cur ty fr (claV c u') rfl (later_block k1) H1.out ?_
          simp only [Act.put, List.setIfInBounds_toArray, List.set_cons_succ, List.set_cons_zero]
          go_big_quiet_step (rfl)
          go_big_quiet_step (rfl)
          go_big_quiet_step (rfl)
          go_big_quiet_step (rfl)
          go_big_quiet_want; go_big_quiet_op
          refine ⟨_, fun u => Calls.later_of (CC.out u.world u.below), ?_⟩
          go_big_quiet_on
          refine wpQuiet_nil ?_
          rintro w' ⟨v, rfl⟩
          have q0 : Hid (v.world.heap[G]? = some (.cells (fltV (ruleF x k)) 68 (0, 0))) := later_block R0.out _ ⟨v, rfl⟩
          have q1 : Hid (v.world.heap[w.heap.size]? = some (.cells (rawV x (.slice (some ⟨g, off, none⟩) n cap)) 55 (0, 0))) := later_block R1.out _ ⟨v, rfl⟩
          have q2 : Hid (v.world.heap[w.heap.size + 1]? = some (.cells #[.int .i64 0, .int .i64 0] 68 (0, 0))) := later_block R2.out _ ⟨v, rfl⟩
          have BV : Hid (Below w.heap.size w v.world) := HB.out.trans (v.below.mono HB.out.size)
          obtain ⟨W2, hW2⟩ : ∃ W2, W2 = v.world := ⟨_, rfl⟩
          rw [← hW2] at q0 q1 q2 BV ⊢
          clear hW2 l4 ne1 k1 R0 R1 R2 f0 f4
          go_wp2_with (first
            | (refine wl_storeE (E := FltE) FltOk rfl _ _ rfl G (fltV (ruleF x (k + 1))) (flt_fits _) rfl rfl _ q0.out rfl _ rfl ?_))
          go_roundw
          case rel => exact ⟨k + 1, by omega, by go_num, setRow_heap _ _ _ _ _ _ q0.out, (setRow_other _ _ _ _ (by omega)).trans q1.out, (setRow_other _ _ _ _ (by omega)).trans q2.out, below_setRow BV.out (by omega) _⟩
          case measure => simp [intOf]; omega
        · have hz' : ((ruleF x k).1 == 0) = false := by simp [hz]
          have hfin : Hid (lineF x = ruleF x k) := by rw [HL.out]; exact ST.out k hz
          clear hz fin
          go_wp2_with (first
            | (refine wl_loadE (E := FltE) FltOk rfl _ rfl G 0 rfl _ _ _ (fltV (ruleF x k)) rfl R0.out (own_cells _ _) ?_)
            | (refine wl_storeE (E := FltE) FltOk rfl _ _ rfl (w.heap.size + 1) (fltV (ruleF x k)) (flt_fits _) rfl rfl _ R2.out rfl _ rfl ?_))
          refine retE (E := FltE) FltOk rfl rfl (w.heap.size + 1) rfl (fltV (ruleF x k)) rfl (setRow_heap _ _ _ _ _ _ R2.out) ?_
          exact ⟨by rw [hfin.out], below_setRow HB.out (by omega) _⟩
      · have hlt' : ¬ (k : Int) < (n : Int) := by omega
        have hlt2 : decide ((k : Int) < (n : Int)) = false := by simp; omega
        obtain rfl : k = n := by omega
        clear hlt fin
        go_wp2_with (first
          | (refine wl_loadE (E := FltE) FltOk rfl _ rfl G 0 rfl _ _ _ (fltV (ruleF x k)) rfl R0.out (own_cells _ _) ?_)
          | (refine wl_storeE (E := FltE) FltOk rfl _ _ rfl (w.heap.size + 1) (fltV (ruleF x k)) (flt_fits _) rfl rfl _ R2.out rfl _ rfl ?_))
        refine retE (E := FltE) FltOk rfl rfl (w.heap.size + 1) rfl (fltV (ruleF x k)) rfl (setRow_heap _ _ _ _ _ _ R2.out) ?_
        exact ⟨by rw [HL.out], below_setRow HB.out (by omega) _⟩
end Go.Proofs.YtbdbjbmjnemknaaDoor
namespace Go.Proofs.YtbdbjbmjnemknaaDoor
open Go Go.RowKit
set_option maxRecDepth 20000

set_option maxRecDepth 100000 in
theorem and_fin : ∀ x : Fin 256, ∀ j : Fin 8, (bits .and .u8 (x.val : Int) (128 / 2 ^ j.val) != 0) = ((x.val : Int) / 2 ^ (7 - j.val) % 2 == 1) := by decide +kernel
set_option maxRecDepth 100000 in
theorem xor_fin : ∀ x : Fin 256, ∀ j : Fin 8, bits .xor .u8 (bits .xor .u8 (x.val : Int) (128 / 2 ^ j.val)) (128 / 2 ^ j.val) = (x.val : Int) ∧ bits .xor .u8 (x.val : Int) (128 / 2 ^ j.val) ≠ (x.val : Int) ∧ 0 ≤ bits .xor .u8 (x.val : Int) (128 / 2 ^ j.val) ∧ bits .xor .u8 (x.val : Int) (128 / 2 ^ j.val) < 256 := by decide +kernel
set_option maxRecDepth 100000 in
theorem turn_fin : ∀ x : Fin 256, ∀ j : Fin 8, ∀ k : Fin 8, (bits .xor .u8 (x.val : Int) (128 / 2 ^ j.val) / 2 ^ (7 - k.val) % 2 == 1) = (((x.val : Int) / 2 ^ (7 - k.val) % 2 == 1) != decide (j = k)) := by decide +kernel

theorem and_bit (x i : Int) (hb0 : 0 ≤ x) (hb1 : x < 256) : (bits .and .u8 x (128 / 2 ^ (i % 8).toNat) != 0) = (x / 2 ^ (7 - i % 8).toNat % 2 == 1) := by
  have h := and_fin ⟨x.toNat, by omega⟩ ⟨(i % 8).toNat, by omega⟩
  simp only [] at h
  rw [show ((x.toNat : Nat) : Int) = x by omega, show 7 - (i % 8).toNat = (7 - i % 8).toNat by omega] at h
  exact h

def byteAt (L : List Int) (i : Int) : Int := L.getD (i / 8).toNat 0
def bitB (L : List Int) (i : Int) : Bool := decide (0 ≤ i ∧ i < 104) && (byteAt L i / 2 ^ (7 - i % 8).toNat % 2 == 1)

def flipL (L : List Int) (i : Int) : List Int := if 0 ≤ i ∧ i < 104 then L.set (i / 8).toNat (bits .xor .u8 (byteAt L i) (128 / 2 ^ (i % 8).toNat)) else L


end Go.Proofs.YtbdbjbmjnemknaaDoor
namespace Go.Proofs.YtbdbjbmjnemknaaDoor
open Go Go.RowKit
set_option maxRecDepth 20000

theorem still_of_quiet {P : Program} {ops : Array Oper} {w : World} {Q : Act → Prop} : ∀ (l : List Oper) (a : Act), wpQuiet P ops (fun w' => w' = w) Q l a → wpStill P ops w Q l a
  | [], _, h => h
  | o :: rest, a, h => by
    unfold wpQuiet at h
    unfold wpStill
    split at h
    · rename_i hw
      rw [if_pos hw]
      obtain ⟨v, h1, h2⟩ := h
      have h2' := still_of_quiet rest _ h2
      have h1' := h1 w rfl
      unfold Oper.quietAt at h1'
      unfold Oper.still
      revert h1'
      generalize (execOp a.eval o).run P w = r
      intro h1'
      match r, h1' with
      | .ok (.value u) w', ⟨e1, e2⟩ => exact ⟨e1, by rw [e2]; exact h2'⟩
      | .ok .skip w', ⟨e1, e2⟩ => exact ⟨e1, by rw [← e2]; exact h2'⟩
      | .ok (.enter f args) w', ⟨e1, e2⟩ => exact ⟨e1, v, e2, h2'⟩
    · rename_i hw
      rw [if_neg hw]
      exact still_of_quiet rest _ h

theorem wp_region_tail {P : Program} {id : Nat} {Q : Exit → Act → World → Prop} {a : Act} {w : World} {l : List Oper} (n : Nat) (hm : P.follows .mixedOrders = true) (hB : Region.lexTailB .any l.toArray n = true)
    (h : wpQuiet P l.toArray (fun w' => w' = w.drew) (fun a' => wpList P l.toArray Q (l.drop n) a' w.drew) (l.take n) a) : (Code.region id l.toArray true).wp P Q a w :=
  wp_region_still_tail n hm hB (still_of_quiet _ _ h)

theorem heap_drew {w : World} {g : Nat} {x : Obj} (h : w.heap[g]? = some x) : w.drew.heap[g]? = some x := h

theorem hv_set (L : List Int) (k : Nat) (v : Int) : (hv L).setIfInBounds k (.int .u8 v) = hv (L.set k v) := by
  unfold hv
  rw [List.setIfInBounds_toArray, ← List.map_set]

end Go.Proofs.YtbdbjbmjnemknaaDoor
namespace Go.Proofs.YtbdbjbmjnemknaaDoor
open Go Go.RowKit
set_option maxRecDepth 20000

theorem getD_set (L : List Int) (j k : Nat) (v : Int) (hj : j < L.length) : (L.set j v).getD k 0 = if j = k then v else L.getD k 0 := by
  simp only [List.getD, List.getElem?_set]
  by_cases h : j = k
  · subst h; simp [hj]
  · simp [h]

theorem xor_byte (x i : Int) (hx : 0 ≤ x ∧ x < 256) : bits .xor .u8 (bits .xor .u8 x (128 / 2 ^ (i % 8).toNat)) (128 / 2 ^ (i % 8).toNat) = x ∧ bits .xor .u8 x (128 / 2 ^ (i % 8).toNat) ≠ x ∧ 0 ≤ bits .xor .u8 x (128 / 2 ^ (i % 8).toNat) ∧ bits .xor .u8 x (128 / 2 ^ (i % 8).toNat) < 256 := by
  have h := xor_fin ⟨x.toNat, by omega⟩ ⟨(i % 8).toNat, by omega⟩
  simp only [] at h
  rw [show ((x.toNat : Nat) : Int) = x by omega] at h
  exact h
theorem turn_byte (x i k : Int) (hx : 0 ≤ x ∧ x < 256) : (bits .xor .u8 x (128 / 2 ^ (i % 8).toNat) / 2 ^ (7 - k % 8).toNat % 2 == 1) = ((x / 2 ^ (7 - k % 8).toNat % 2 == 1) != decide (i % 8 = k % 8)) := by
  have h := turn_fin ⟨x.toNat, by omega⟩ ⟨(i % 8).toNat, by omega⟩ ⟨(k % 8).toNat, by omega⟩
  simp only [Fin.mk.injEq] at h
  rw [show ((x.toNat : Nat) : Int) = x by omega, show 7 - (k % 8).toNat = (7 - k % 8).toNat by omega] at h
  rw [h]
  congr 1
  rw [decide_eq_decide]
  omega

theorem flip_byt (L : List Int) (hL : Byt L) (i : Int) : Byt (flipL L i) := by
  unfold flipL
  split
  · rename_i h
    refine ⟨by rw [List.length_set]; exact hL.1, fun k => ?_⟩
    rw [getD_set _ _ _ _ (by rw [hL.1]; omega)]
    split
    · exact ⟨(xor_byte (byteAt L i) i (hL.2 _)).2.2.1, (xor_byte (byteAt L i) i (hL.2 _)).2.2.2⟩
    · exact hL.2 k
  · exact hL

theorem flip_flip (L : List Int) (hL : Byt L) (i : Int) : flipL (flipL L i) i = L := by
  by_cases h : 0 ≤ i ∧ i < 104
  · have hlt : (i / 8).toNat < L.length := by rw [hL.1]; omega
    have hb : byteAt (L.set (i / 8).toNat (bits .xor .u8 (byteAt L i) (128 / 2 ^ (i % 8).toNat))) i = bits .xor .u8 (byteAt L i) (128 / 2 ^ (i % 8).toNat) := by
      unfold byteAt; rw [getD_set _ _ _ _ hlt, if_pos rfl]
    unfold flipL
    rw [if_pos h, if_pos h, hb, (xor_byte (byteAt L i) i (hL.2 _)).1, List.set_set]
    apply List.ext_getElem (by simp)
    intro k h1 h2
    rw [List.getElem_set]
    split
    · rename_i e; subst e
      simp [byteAt, List.getD, hlt]
    · rfl
  · unfold flipL; rw [if_neg h, if_neg h]

theorem flip_ne (L : List Int) (hL : Byt L) (i : Int) : decide (0 ≤ i ∧ i < 104) = (flipL L i != L) := by
  by_cases h : 0 ≤ i ∧ i < 104
  · have hlt : (i / 8).toNat < L.length := by rw [hL.1]; omega
    have hne : flipL L i ≠ L := by
      intro e
      have h1 : byteAt (flipL L i) i = byteAt L i := by rw [e]
      unfold flipL at h1
      rw [if_pos h] at h1
      have hb : byteAt (L.set (i / 8).toNat (bits .xor .u8 (byteAt L i) (128 / 2 ^ (i % 8).toNat))) i = bits .xor .u8 (byteAt L i) (128 / 2 ^ (i % 8).toNat) := by
        unfold byteAt; rw [getD_set _ _ _ _ hlt, if_pos rfl]
      rw [hb] at h1
      exact (xor_byte (byteAt L i) i (hL.2 _)).2.1 h1
    rw [decide_eq_true h]
    simp [hne]
  · unfold flipL; rw [if_neg h, decide_eq_false h]; simp

theorem flip_bit (L : List Int) (hL : Byt L) (i k : Int) : bitB (flipL L i) k = (bitB L k != (decide (0 ≤ i ∧ i < 104) && decide (i = k))) := by
  by_cases h : 0 ≤ i ∧ i < 104
  · rw [decide_eq_true h]
    unfold flipL
    rw [if_pos h]
    by_cases hk : 0 ≤ k ∧ k < 104
    · have hlt : (i / 8).toNat < L.length := by rw [hL.1]; omega
      unfold bitB
      rw [decide_eq_true hk]
      simp only [Bool.true_and]
      unfold byteAt
      rw [getD_set _ _ _ _ hlt]
      by_cases e : (i / 8).toNat = (k / 8).toNat
      · rw [if_pos e]
        have := turn_byte (L.getD (i / 8).toNat 0) i k (hL.2 _)
        rw [this, ← e]
        congr 1
        rw [decide_eq_decide]; omega
      · rw [if_neg e, decide_eq_false (show ¬ i = k by rintro rfl; exact e rfl)]
        simp
    · unfold bitB
      rw [decide_eq_false hk, decide_eq_false (show ¬ i = k by rintro rfl; exact hk h)]
      simp
  · unfold flipL; rw [if_neg h, decide_eq_false h]; simp
end Go.Proofs.YtbdbjbmjnemknaaDoor
namespace Go.Proofs.YtbdbjbmjnemknaaDoor
open Go Go.RowKit
set_option maxRecDepth 20000

abbrev zero26 : Array Value := #[.int .u8 0, .int .u8 0, .int .u8 0, .int .u8 0, .int .u8 0, .int .u8 0, .int .u8 0, .int .u8 0, .int .u8 0, .int .u8 0, .int .u8 0, .int .u8 0, .int .u8 0]

/-- The header with a bit set as the reference sets it. -/
def setB (L : List Int) (i : Int) (b : Bool) : List Int :=
  if bitB L i = b then L else if b then L.set (i / 8).toNat (byteAt L i + 128 / 2 ^ (i % 8).toNat) else L.set (i / 8).toNat (byteAt L i - 128 / 2 ^ (i % 8).toNat)

set_option maxRecDepth 100000 in
theorem up_fin : ∀ x : Fin 256, ∀ j : Fin 8, ((x.val : Int) / 2 ^ (7 - j.val) % 2 == 1) = false → (x.val : Int) + 128 / 2 ^ j.val < 256 ∧ ∀ k : Fin 8, (((x.val : Int) + 128 / 2 ^ j.val) / 2 ^ (7 - k.val) % 2 == 1) = if k = j then true else ((x.val : Int) / 2 ^ (7 - k.val) % 2 == 1) := by decide +kernel
set_option maxRecDepth 100000 in
theorem down_fin : ∀ x : Fin 256, ∀ j : Fin 8, ((x.val : Int) / 2 ^ (7 - j.val) % 2 == 1) = true → 0 ≤ (x.val : Int) - 128 / 2 ^ j.val ∧ ∀ k : Fin 8, (((x.val : Int) - 128 / 2 ^ j.val) / 2 ^ (7 - k.val) % 2 == 1) = if k = j then false else ((x.val : Int) / 2 ^ (7 - k.val) % 2 == 1) := by decide +kernel

theorem up_byte (x i : Int) (hx : 0 ≤ x ∧ x < 256) (h : (x / 2 ^ (7 - i % 8).toNat % 2 == 1) = false) : x + 128 / 2 ^ (i % 8).toNat < 256 ∧ ∀ k : Int, ((x + 128 / 2 ^ (i % 8).toNat) / 2 ^ (7 - k % 8).toNat % 2 == 1) = if k % 8 = i % 8 then true else (x / 2 ^ (7 - k % 8).toNat % 2 == 1) := by
  have hh := up_fin ⟨x.toNat, by omega⟩ ⟨(i % 8).toNat, by omega⟩
  simp only [show ((x.toNat : Nat) : Int) = x by omega, show 7 - (i % 8).toNat = (7 - i % 8).toNat by omega] at hh
  obtain ⟨h1, h2⟩ := hh h
  refine ⟨h1, fun k => ?_⟩
  have h3 := h2 ⟨(k % 8).toNat, by omega⟩
  simp only [Fin.mk.injEq, show 7 - (k % 8).toNat = (7 - k % 8).toNat by omega] at h3
  rw [h3]
  by_cases e : k % 8 = i % 8
  · rw [if_pos (by rw [e]), if_pos e]
  · rw [if_neg (by omega), if_neg e]
theorem down_byte (x i : Int) (hx : 0 ≤ x ∧ x < 256) (h : (x / 2 ^ (7 - i % 8).toNat % 2 == 1) = true) : 0 ≤ x - 128 / 2 ^ (i % 8).toNat ∧ ∀ k : Int, ((x - 128 / 2 ^ (i % 8).toNat) / 2 ^ (7 - k % 8).toNat % 2 == 1) = if k % 8 = i % 8 then false else (x / 2 ^ (7 - k % 8).toNat % 2 == 1) := by
  have hh := down_fin ⟨x.toNat, by omega⟩ ⟨(i % 8).toNat, by omega⟩
  simp only [show ((x.toNat : Nat) : Int) = x by omega, show 7 - (i % 8).toNat = (7 - i % 8).toNat by omega] at hh
  obtain ⟨h1, h2⟩ := hh h
  refine ⟨h1, fun k => ?_⟩
  have h3 := h2 ⟨(k % 8).toNat, by omega⟩
  simp only [Fin.mk.injEq, show 7 - (k % 8).toNat = (7 - k % 8).toNat by omega] at h3
  rw [h3]
  by_cases e : k % 8 = i % 8
  · rw [if_pos (by rw [e]), if_pos e]
  · rw [if_neg (by omega), if_neg e]
theorem sieve_pos (i : Int) : 0 ≤ (128 : Int) / 2 ^ (i % 8).toNat ∧ (128 : Int) / 2 ^ (i % 8).toNat ≤ 128 := by
  have : ∀ j : Fin 8, 0 ≤ (128 : Int) / 2 ^ j.val ∧ (128 : Int) / 2 ^ j.val ≤ 128 := by decide
  exact this ⟨(i % 8).toNat, by omega⟩

theorem bitB_in (L : List Int) (i : Int) (h0 : 0 ≤ i) (h1 : i < 104) : bitB L i = (byteAt L i / 2 ^ (7 - i % 8).toNat % 2 == 1) := by
  unfold bitB; rw [decide_eq_true ⟨h0, h1⟩, Bool.true_and]

theorem setB_bit (L : List Int) (hL : Byt L) (i : Int) (b : Bool) (h0 : 0 ≤ i) (h1 : i < 104) :
    Byt (setB L i b) ∧ ∀ k, 0 ≤ k → k < 104 → bitB (setB L i b) k = if k = i then b else bitB L k := by
  have hlt : (i / 8).toNat < L.length := by rw [hL.1]; omega
  have hx : 0 ≤ byteAt L i ∧ byteAt L i < 256 := hL.2 _
  have hs := sieve_pos i
  by_cases e : bitB L i = b
  · have es : setB L i b = L := by unfold setB; rw [if_pos e]
    rw [es]
    refine ⟨hL, fun k _ _ => ?_⟩
    by_cases ek : k = i
    · rw [if_pos ek, ek, e]
    · rw [if_neg ek]
  · cases b
    · have hbt : (byteAt L i / 2 ^ (7 - i % 8).toNat % 2 == 1) = true := by
        rw [← bitB_in L i h0 h1]; cases h : bitB L i
        · exact absurd h e
        · rfl
      have es : setB L i false = L.set (i / 8).toNat (byteAt L i - 128 / 2 ^ (i % 8).toNat) := by unfold setB; rw [if_neg e]; rfl
      obtain ⟨g1, g2⟩ := down_byte _ i hx hbt
      rw [es]
      refine ⟨⟨by rw [List.length_set]; exact hL.1, fun k => ?_⟩, fun k hk0 hk1 => ?_⟩
      · rw [getD_set _ _ _ _ hlt]; split
        · omega
        · exact hL.2 k
      · rw [bitB_in _ k hk0 hk1, bitB_in _ k hk0 hk1]
        unfold byteAt
        rw [getD_set _ _ _ _ hlt]
        by_cases ek : (i / 8).toNat = (k / 8).toNat
        · rw [if_pos ek]
          have g3 := g2 k
          unfold byteAt at g3
          rw [g3, ek]
          by_cases e2 : k = i
          · rw [if_pos e2, if_pos (by rw [e2])]
          · rw [if_neg e2, if_neg (by omega)]
        · rw [if_neg ek, if_neg (by rintro rfl; exact ek rfl)]
    · have hbt : (byteAt L i / 2 ^ (7 - i % 8).toNat % 2 == 1) = false := by
        rw [← bitB_in L i h0 h1]; cases h : bitB L i
        · rfl
        · exact absurd h e
      have es : setB L i true = L.set (i / 8).toNat (byteAt L i + 128 / 2 ^ (i % 8).toNat) := by unfold setB; rw [if_neg e]; rfl
      obtain ⟨g1, g2⟩ := up_byte _ i hx hbt
      rw [es]
      refine ⟨⟨by rw [List.length_set]; exact hL.1, fun k => ?_⟩, fun k hk0 hk1 => ?_⟩
      · rw [getD_set _ _ _ _ hlt]; split
        · omega
        · exact hL.2 k
      · rw [bitB_in _ k hk0 hk1, bitB_in _ k hk0 hk1]
        unfold byteAt
        rw [getD_set _ _ _ _ hlt]
        by_cases ek : (i / 8).toNat = (k / 8).toNat
        · rw [if_pos ek]
          have g3 := g2 k
          unfold byteAt at g3
          rw [g3, ek]
          by_cases e2 : k = i
          · rw [if_pos e2, if_pos (by rw [e2])]
          · rw [if_neg e2, if_neg (by omega)]
        · rw [if_neg ek, if_neg (by rintro rfl; exact ek rfl)]
end Go.Proofs.YtbdbjbmjnemknaaDoor
namespace Go.Proofs.YtbdbjbmjnemknaaDoor
open Go Go.RowKit
set_option maxRecDepth 20000

/-- The header behind the first k stores of 'put'. -/
def putN (L : List Int) (at0 size : Nat) (v : Int) : Nat → List Int
  | 0 => L
  | k + 1 => (putN L at0 size v k).set (at0 + k) (v / 2 ^ (8 * (size - 1 - k)) % 256)
theorem putN_length (L : List Int) (at0 size : Nat) (v : Int) (k : Nat) : (putN L at0 size v k).length = L.length := by
  induction k with
  | zero => rfl
  | succ k ih => simp [putN, ih]


theorem or_byte (a b : Int) (ha0 : 0 ≤ a) (ha : a < 16777216) (hb0 : 0 ≤ b) (hb : b < 256) : bits .or .u32 (a * 256 % 4294967296) (b % 4294967296) = a * 256 + b := by
  rw [show a * 256 % 4294967296 = a * 256 by omega, show b % 4294967296 = b by omega]
  exact bits_join .u32 32 (by decide) (fun n h0 h1 => by rw [IntKind.wrap_u32]; omega) 8 (a * 256) b (by omega) (by omega) (by omega) hb0 (by omega) (by omega)

/-- The number that the first k bytes behind 'at0' make. -/
def getN (L : List Int) (at0 : Nat) : Nat → Int
  | 0 => 0
  | k + 1 => getN L at0 k * 256 + L.getD (at0 + k) 0
theorem getN_bd (L : List Int) (hL : Byt L) (at0 : Nat) (k : Nat) : 0 ≤ getN L at0 k ∧ getN L at0 k < 256 ^ k := by
  induction k with
  | zero => simp [getN]
  | succ k ih =>
    have := hL.2 (at0 + k)
    simp only [getN, Int.pow_succ]
    omega

set_option maxHeartbeats 1000000 in
theorem get_any (L : List Int) (hL : Byt L) (at0 size : Nat) (w : World) (hs : at0 + size ≤ 13) (hs4 : size ≤ 4) :
    Calls Tryd.prog 78 #[.agg (hv L), .int .i64 at0, .int .i64 size] w fun e w' => e = .returned (.int .u32 (getN L at0 size)) ∧ w' = w.alloc (.cells (hv L) 34) := by
  have hl := hL.1
  go_enter Tryd.func78, Tryd.ntmps78
  go_wp2
  go_loop [7, 10] (fun v i => ∃ k : Nat, k ≤ size ∧ i = .int .i64 k ∧ v = .int .u32 (getN L at0 k)) (fun _ i => size - (intOf i).toNat)
  case atStart => exact ⟨0, Nat.zero_le _, rfl, rfl⟩
  case round =>
    obtain ⟨k, hk, rfl, rfl⟩ := hrel
    have hb := getN_bd L hL at0 k
    by_cases hlt : k < size
    · have hc := hv_at L hl (at0 + k) (by omega)
      have hx := hL.2 (at0 + k)
      go_wp2
      go_round
      case rel =>
        refine ⟨k + 1, by omega, by go_num, ?_⟩
        have h24 : getN L at0 k < 16777216 := by
          have : (256 : Int) ^ k ≤ 256 ^ 3 := by
            rcases (show k = 0 ∨ k = 1 ∨ k = 2 ∨ k = 3 by omega) with h | h | h | h <;> subst h <;> decide
          have h2 : (256 : Int) ^ 3 = 16777216 := by decide
          omega
        have he := or_byte (getN L at0 k) (L.getD (at0 + k) 0) hb.1 h24 hx.1 hx.2
        rw [show L[at0 + k]?.getD 0 = L.getD (at0 + k) 0 from rfl, he]
        rfl
      case measure => simp [intOf]; omega
    · obtain rfl : k = size := by omega
      go_wp2
      go_ret
      exact ⟨rfl, rfl⟩
end Go.Proofs.YtbdbjbmjnemknaaDoor
namespace Go.Proofs.YtbdbjbmjnemknaaDoor
open Go Go.RowKit
set_option maxRecDepth 20000

theorem nth_q {c : Cla} {k : Nat} {f : Fig} (h : c.nums[k]? = some f) : nth c k = f.n := by unfold nth; rw [List.getD_eq_getElem?_getD, h]; rfl
def preN (c : Cla) : Nat → Int
  | 0 => 0
  | k + 1 => preN c k * 256 + nth c k
theorem preN_bd (c : Cla) (h : ∀ k, k < 4 → 0 ≤ nth c k ∧ nth c k ≤ 255) : ∀ k, k ≤ 4 → 0 ≤ preN c k ∧ preN c k < 256 ^ k
  | 0, _ => by simp [preN]
  | k + 1, hk => by
    have := preN_bd c h k (by omega)
    have h2 := h k (by omega)
    simp only [preN, Int.pow_succ]
    omega
theorem preN_four (c : Cla) : preN c 4 = (preC c).1 := by
  unfold preC
  simp only [preN]
  omega
theorem slice_four (b off n cap : Nat) (hk : 4 ≤ cap) (_hm : cap ≤ 2 ^ 63 - 1) (W : World) : (Instr.sliceAt 74 (.slice (some ⟨b, off, none⟩) n cap) none (some (.int .i64 4)) none).run Tryd.prog W = .ok (.slice (some ⟨b, off, none⟩) 4 cap) W := by
  simp [go_sem, Tryd.underlying74]
  omega
set_option maxHeartbeats 4000000 in
theorem prefix_any (c : Cla) (u : Value) (w : World) (hu : FigsAt w c u) (hl : c.nums.length = if c.slash then 5 else 4) (hb4 : ∀ k, k < 4 → 0 ≤ nth c k ∧ nth c k ≤ 255) :
    Calls Tryd.prog 46 #[.agg (claV c u)] w fun x w' => x = .returned (.tuple #[.int .u32 (preC c).1, .int .i64 (preC c).2]) ∧ Below w.heap.size w w' := by
  obtain ⟨o, cap, rfl, hc1, hc2⟩ := GSl.slice hu
  obtain ⟨n, hn⟩ : ∃ n, n = c.nums.length := ⟨_, rfl⟩
  have h4n : 4 ≤ n := by rw [hn, hl]; split <;> omega
  rw [← hn] at hu hc1 hl ⊢
  have HU : Hid (FigsAt w c (.slice o n cap)) := hu
  obtain ⟨g, off, cur, ty, fr, f0, rfl, hg, -, -⟩ := hu.at 0 (by omega)
  have HG : Hid (w.heap[g]? = some (.cells cur ty fr)) := hg
  unfold maxLen at hc2
  have hsl := fun W => slice_four g off n cap (by omega) hc2 W
  have BD : Hid (∀ k, k ≤ 4 → 0 ≤ preN c k ∧ preN c k < 256 ^ k) := preN_bd c hb4
  have H4 : Hid (∀ k, k < 4 → 0 ≤ nth c k ∧ nth c k ≤ 255) := hb4
  have b1 : Hid ((w.alloc (.cells (claV c (.slice (some ⟨g, off, none⟩) n cap)) 76)).heap[w.heap.size]? = some (.cells (claV c (.slice (some ⟨g, off, none⟩) n cap)) 76 (0, 0))) := heap_new _ _ _ rfl
  have c2 := (cla_f b1.out).2.2.1
  have HE : Hid (preN c 4 = (preC c).1) := preN_four c
  have HS : Hid ((preC c).2 = if c.slash then nth c 4 else 32) := rfl
  have HNL : Hid (n = if c.slash then 5 else 4) := hl
  clear hu hg hn hb4 hl
  go_enter Tryd.func46, Tryd.ntmps46
  go_wp2_with fail
  clear c2
  go_loopw [4, 11] (fun v i wr => ∃ k : Nat, k ≤ 4 ∧ i = .int .i64 (k : Int) ∧ v = .int .u32 (preN c k) ∧ wr.heap[w.heap.size]? = some (.cells (claV c (.slice (some ⟨g, off, none⟩) n cap)) 76 (0, 0)) ∧ Below w.heap.size w wr) (fun _ i _ => 4 - (intOf i).toNat)
  case atStart => exact ⟨0, Nat.zero_le _, rfl, rfl, b1.out, (Below.refl _ _).alloc (Nat.le_refl _) _⟩
  case round =>
    clear b1
    obtain ⟨k, hk, rfl, rfl, hr1, hb⟩ := hrel
    have R1 : Hid (wr.heap[w.heap.size]? = some (.cells (claV c (.slice (some ⟨g, off, none⟩) n cap)) 76 (0, 0))) := hr1
    have HB : Hid (Below w.heap.size w wr) := hb
    clear hr1 hb
    by_cases hlt : k < 4
    · obtain ⟨g', off', cur', ty', fr', f, e0, hg, hc, hFj⟩ := HU.out.at k (by omega)
      simp only [Option.some.injEq, Addr.mk.injEq, and_true] at e0
      obtain ⟨rfl, rfl⟩ := e0
      have K1 : Hid (wr.heap[g]? = some (.cells cur' ty' fr')) := (HB.out.block g (Array.getElem?_eq_some_iff.1 hg).1).trans hg
      have H1 : Hid (∀ q, q < 2 → cur'[off + k * 2 + q]? = (figV f)[q]?) := hc
      have hnk := nth_q hFj
      have hx := H4.out k hlt
      rw [hnk] at hx
      have HST : Hid (preN c (k + 1) = preN c k * 256 + f.n) := by rw [← hnk]; exact rfl
      have hp := BD.out k (by omega)
      have hp24 : preN c k < 16777216 := by
        have : (256 : Int) ^ k ≤ 256 ^ 3 := by
          rcases (show k = 0 ∨ k = 1 ∨ k = 2 ∨ k = 3 by omega) with h | h | h | h <;> subst h <;> decide
        have h2 : (256 : Int) ^ 3 = 16777216 := by decide
        omega
      have HOR : Hid (bits .or .u32 (preN c k * 256) f.n = preN c k * 256 + f.n) := by
        have h := or_byte (preN c k) f.n hp.1 hp24 hx.1 (by omega)
        rw [show preN c k * 256 % 4294967296 = preN c k * 256 by omega, show f.n % 4294967296 = f.n by omega] at h
        exact h
      obtain ⟨pk, hpk⟩ : ∃ pk, pk = preN c k := ⟨_, rfl⟩
      rw [← hpk] at HST HOR hp24 ⊢
      have hp0 : 0 ≤ pk := by rw [hpk]; exact hp.1
      have n0 : (wr.alloc (.cells (figV f) 52)).cell? ⟨wr.heap.size, 0, none⟩ = some (.int .i64 f.n) := by rw [cell_of_row _ _ _ _ _ _ (heap_new wr (.cells (figV f) 52) _ rfl)]; rfl
      have hlt' : (k : Int) < 4 := by omega
      have hx0 := hx.1
      have hx1 : f.n < 256 := by omega
      clear hg hc hFj hnk hp hpk hx
      go_wp2_with (first
        | (refine wl_loadE (E := FigE) FigOk rfl _ rfl g (off + k * 2) rfl cur' ty' fr' (figV f) rfl K1.out H1.out ?_)
        | (refine wl_storeE (E := FigE) FigOk rfl _ _ rfl wr.heap.size (figV f) (fig_fits _) rfl rfl _ (heap_new _ _ _ rfl) rfl _ (setRow_new _ _ _ _ _ rfl) ?_))
      go_roundw
      case rel =>
        refine ⟨k + 1, by omega, by go_num, ?_, heap_past _ _ _ _ R1.out, HB.out.alloc HB.out.size _⟩
        rw [HST.out, HOR.out]
      case measure => simp [intOf]; omega
    · obtain rfl : k = 4 := by omega
      have hlt' : ¬ (4 : Int) < 4 := by omega
      have c3 := (cla_f R1.out).2.2.2.1
      cases hs : c.slash with
      | false =>
        rw [hs] at c3 HS
        have hend : ¬ (((4 : Nat) : Int) < 4) := by omega
        clear hlt
        go_wp2_with fail
        go_ret2
        refine ⟨?_, HB.out⟩
        rw [HE.out, HS.out]
        rfl
      | true =>
        rw [hs] at c3 HS HNL
        have h5 : n = 5 := HNL.out
        obtain ⟨g', off', cur', ty', fr', f, e0, hg, hc, hFj⟩ := HU.out.at 4 (by omega)
        simp only [Option.some.injEq, Addr.mk.injEq, and_true] at e0
        obtain ⟨rfl, rfl⟩ := e0
        have l2 : ∀ u : Later wr, u.world.cell? ⟨w.heap.size, 2, none⟩ = some (.slice (some ⟨g, off, none⟩) n cap) := later_cell7 R1.out rfl
        have lg : ∀ u : Later wr, u.world.cell? ⟨g, off + 8, none⟩ = some (.int .i64 f.n) := by
          have hh : wr.heap[g]? = some (.cells cur' ty' fr') := (HB.out.block g (Array.getElem?_eq_some_iff.1 hg).1).trans hg
          refine later_cell7 hh ?_
          have := hc 0 (by decide)
          exact this
        have hnk := nth_q hFj
        have hS2 : (preC c).2 = f.n := by rw [HS.out, if_pos rfl, hnk]
        have HS2 : Hid ((preC c).2 = f.n) := hS2
        subst h5
        clear hlt hg hc hFj hnk hS2
        go_wp2_with fail
        have ne1 := Later.ne wr
        refine wp_region_later (by kernel_rfl) (by kernel_rfl) ?_
        repeat go_big_quiet_step (rfl)
        refine wpQuiet_nil ?_
        rintro w' ⟨v, rfl⟩
        go_wp2_with fail
        go_ret2
        refine ⟨?_, HB.out.trans (v.below.mono HB.out.size)⟩
        rw [HE.out, HS2.out]
        rfl

set_option maxHeartbeats 4000000 in
theorem ports7_any (c : Cla) (u : Value) (w : World) (hu : FigsAt w c u) (hl : 0 < c.nums.length) :
    Calls Tryd.prog 47 #[.agg (claV c u)] w fun x w' => x = .returned (.tuple #[.int .i64 (porC c).1, .int .i64 (porC c).2]) ∧ Below w.heap.size w w' := by
  obtain ⟨o, cap, rfl, hc1, hc2⟩ := GSl.slice hu
  unfold porC
  obtain ⟨n, hn⟩ : ∃ n, n = c.nums.length := ⟨_, rfl⟩
  rw [← hn] at hu hc1 hl ⊢
  obtain ⟨g, off, cur, ty, fr, f, rfl, hg, hc, hF⟩ := hu.at 0 hl
  obtain ⟨g', off', cur', ty', fr', f', e0, hg', hc', hF'⟩ := hu.at (n - 1) (by omega)
  simp only [Option.some.injEq, Addr.mk.injEq, and_true] at e0
  obtain ⟨rfl, rfl⟩ := e0
  rw [nth_q hF, nth_q hF']
  unfold maxLen at hc2
  obtain ⟨Wa, hWa⟩ : ∃ Wa, Wa = w.alloc (.cells (claV c (.slice (some ⟨g, off, none⟩) n cap)) 76) := ⟨_, rfl⟩
  have b1 : Wa.heap[w.heap.size]? = some (.cells (claV c (.slice (some ⟨g, off, none⟩) n cap)) 76 (0, 0)) := by rw [hWa]; exact heap_new _ _ _ rfl
  have BA : Hid (Below w.heap.size w Wa) := by rw [hWa]; exact (Below.refl _ _).alloc (Nat.le_refl _) _
  have l2 : ∀ u : Later Wa, u.world.cell? ⟨w.heap.size, 2, none⟩ = some (.slice (some ⟨g, off, none⟩) n cap) := later_cell7 b1 rfl
  have lg : ∀ u : Later Wa, u.world.cell? ⟨g, off, none⟩ = some (.int .i64 f.n) := later_cell7 (by rw [hWa]; exact heap_past _ _ _ _ hg) (by
    have := hc 0 (by decide)
    rw [show off + 0 * FigE.size + 0 = off by simp] at this
    exact this)
  have lg' : ∀ u : Later Wa, u.world.cell? ⟨g, off + (n - 1) * 2, none⟩ = some (.int .i64 f'.n) := later_cell7 (by rw [hWa]; exact heap_past _ _ _ _ hg') (by
    have := hc' 0 (by decide)
    exact this)
  have hn1 : ((n : Int) - 1).toNat = n - 1 := by omega
  have hp1 : (0 : Int) ≤ (n : Int) - 1 := by omega
  have hp2 : (n : Int) - 1 < (n : Int) := by omega
  have hp0 : (0 : Int) < (n : Int) := by omega
  have hix : ∀ W, (Instr.indexAt 74 (.slice (some ⟨g, off, none⟩) n cap) (.int .i64 ((n : Int) - 1))).run Tryd.prog W = .ok (.pointer (some ⟨g, off + (n - 1) * 2, none⟩)) W := fun W => by
    simp [go_sem, Tryd.underlying74]
    omega
  clear hu hg hc hF hg' hc' hF' hn b1
  go_enter Tryd.func47, Tryd.ntmps47
  go_wp2_with fail
  rw [← hWa]
  have ne1 := Later.ne Wa
  refine wp_region_later (by kernel_rfl) (by kernel_rfl) ?_
  repeat go_big_quiet_step (rfl)
  refine wpQuiet_nil ?_
  rintro w' ⟨v, rfl⟩
  go_wp2_with fail
  go_ret2
  exact ⟨rfl, BA.out.trans (v.below.mono BA.out.size)⟩
end Go.Proofs.YtbdbjbmjnemknaaDoor
namespace Go.Proofs.YtbdbjbmjnemknaaDoor
open Go Go.RowKit
set_option maxRecDepth 20000

theorem retB {e : Ending} {c q : Nat} (h : Fault e c q) : e = .panicked [{ v := faultV c q, recovered := false }] := h
set_option maxHeartbeats 2000000 in
theorem figure_any (W0 w : World) (g E : Nat) (T : List Tok) (h : Rd W0 w g E T) :
    Calls Tryd.prog 59 #[.pointer (some ⟨g, 0, none⟩)] w fun e w' => Took W0 w g E (fun _ f v => v = .agg (figV f)) (takeF E T) e w' := by
  have C1 : Hid (∀ W, Below w.heap.size w W → Calls Tryd.prog 41 #[.pointer (some ⟨g, 0, none⟩), .int .i64 2] W fun e w' => Took W0 W g E (fun _ t v => v = .agg (encT t)) (takeK E 2 T) e w') := fun W hb => take_any W0 W g E 2 (by decide) T (h.below hb)
  have hgl := h.size
  unfold takeF
  cases hK : takeK E 2 T with
  | error x =>
    obtain ⟨c, q⟩ := x
    rw [hK] at C1
    clear hK
    go_enter Tryd.func59, Tryd.ntmps59
    go_wp2_with fail
    refine (C1.out _ ?_).mono ?_
    · exact (Below.refl _ _).alloc (Nat.le_refl _) _
    rintro e w1 ⟨hg1, rfl⟩
    have G1 := grown_trans (gb_alloc (gb_refl w g) _) hg1
    go_wp2_with fail
    exact ⟨rfl, G1, rfl⟩
  | ok x =>
    obtain ⟨t, T'⟩ := x
    rw [hK] at C1
    clear hK
    go_enter Tryd.func59, Tryd.ntmps59
    go_wp2_with fail
    refine (C1.out _ ?_).mono ?_
    · exact (Below.refl _ _).alloc (Nat.le_refl _) _
    rintro e w1 ⟨hg1, ⟨v, rfl, rfl⟩, R1⟩
    have z1 : w.heap.size < w1.heap.size := by have := hg1.size; simp at this; omega
    have G1 := grown_trans (gb_alloc (gb_refl w g) _) hg1
    obtain ⟨t0, t1, t2, t3⟩ := tok_cells (heap_new w1 (.cells (encT t) 87) _ rfl)
    have hr1 : Hid ((w1.alloc (.cells (encT t) 87)).heap[w.heap.size]? = some (.cells (figV ⟨0, 0⟩) 52 (0, 0))) := (heap_past _ _ _ _ ((hg1.block _ (by simp) (by simp; omega)).trans (heap_new _ _ _ rfl)))
    have HR : Hid (Rd W0 w1 g E T') := R1
    have HG : Hid (w.grownBy w1 (some g)) := G1
    clear hg1 R1 G1
    go_wp2_with (first
      | (refine wl_storeE (E := TokE) TokOk rfl _ _ rfl w1.heap.size (encT t) (tv_fits _ _ _ _) rfl rfl _ (heap_new _ _ _ rfl) rfl _ (setRow_new _ _ _ _ _ rfl) ?_)
      | (refine wl_storeE (E := FigE) FigOk rfl _ _ rfl w.heap.size (figV ⟨(t.num : Int), (t.pos : Int)⟩) (fig_fits _) rfl rfl _ hr1.out rfl _ rfl ?_))
    refine retE (E := FigE) FigOk rfl rfl w.heap.size rfl (figV ⟨(t.num : Int), (t.pos : Int)⟩) rfl (setRow_heap _ _ _ _ _ _ hr1.out) ?_
    exact ⟨gb_setRow (gb_alloc HG.out _) (.inr (Nat.le_refl _)) _, ⟨_, rfl, rfl⟩, rd_setRow (HR.out.alloc _) (by omega) (by omega) _⟩

/-- Whether a token of a kind follows; then it is taken. -/
def follT (E k : Nat) (T : List Tok) : Res (Bool × List Tok) := if (hd E T).kind = k then .ok (true, T.tail) else .ok (false, T)
set_option maxHeartbeats 2000000 in
theorem follows_any (W0 w : World) (g E k : Nat) (hk : k ≠ 0) (T : List Tok) (h : Rd W0 w g E T) :
    Calls Tryd.prog 82 #[.pointer (some ⟨g, 0, none⟩), .int .i64 (k : Int)] w fun e w' => Took W0 w g E (fun _ b v => v = .bool b) (follT E k T) e w' := by
  have C1 : Hid (∀ W, Below w.heap.size w W → Calls Tryd.prog 40 #[.pointer (some ⟨g, 0, none⟩)] W fun e w' => e = .returned (.agg (encT (hd E T))) ∧ Below W.heap.size W w') := fun W hb => peek_any W0 W g E T (h.below hb)
  have C2 : Hid (∀ W, Below w.heap.size w W → Calls Tryd.prog 41 #[.pointer (some ⟨g, 0, none⟩), .int .i64 (k : Int)] W fun e w' => Took W0 W g E (fun _ t v => v = .agg (encT t)) (takeK E k T) e w') := fun W hb => take_any W0 W g E k hk T (h.below hb)
  have H : Hid (Rd W0 w g E T) := h
  unfold follT
  by_cases hc : (hd E T).kind = k
  · rw [if_pos hc]
    obtain ⟨T', hT, hR⟩ := takeK_yes hk hc
    rw [hR] at C2
    have hT2 : T.tail = T' := by rw [hT]; rfl
    rw [hT2]
    have hne : (((hd E T).kind : Int) != (k : Int)) = false := by simp; omega
    clear hc hR hT2 h
    obtain ⟨t, ht⟩ : ∃ t, t = hd E T := ⟨_, rfl⟩
    rw [← ht] at C1 C2 hne
    clear ht hT
    have hf0 := tok_f0 t
    go_enter Tryd.func82, Tryd.ntmps82
    go_wp2_with fail
    refine (C1.out _ (Below.refl _ _)).mono ?_
    rintro e w1 ⟨rfl, hb1⟩
    go_wp2_with fail
    refine (C2.out _ hb1).mono ?_
    rintro e w2 ⟨hg2, ⟨v, rfl, rfl⟩, R2⟩
    go_wp2_with fail
    go_ret
    exact ⟨grown_trans (grown_below hb1) hg2, ⟨_, rfl, rfl⟩, R2⟩
  · rw [if_neg hc]
    have hne : (((hd E T).kind : Int) != (k : Int)) = true := by simp; omega
    clear hc C2 h
    obtain ⟨t, ht⟩ : ∃ t, t = hd E T := ⟨_, rfl⟩
    rw [← ht] at C1 hne
    clear ht
    have hf0 := tok_f0 t
    go_enter Tryd.func82, Tryd.ntmps82
    go_wp2_with fail
    refine (C1.out _ (Below.refl _ _)).mono ?_
    rintro e w1 ⟨rfl, hb1⟩
    go_wp2_with fail
    go_ret
    exact ⟨grown_below hb1, ⟨_, rfl, rfl⟩, H.out.below hb1⟩

/-- An address: four numbers with a Dot between. -/
def addrT (E : Nat) (T : List Tok) : Res (List Fig × List Tok) := (takeF E T).bind fun x => (takeD E 3 x.2).map fun y => (x.1 :: y.1, y.2)
def FigsOwn (B : Nat) (w : World) (F : List Fig) (v : Value) : Prop := w.ownsRow B 52 2 v F.length (gcells figV F)
set_option maxHeartbeats 4000000 in
theorem address_any (W0 w : World) (g E : Nat) (T : List Tok) (h : Rd W0 w g E T) :
    Calls Tryd.prog 81 #[.pointer (some ⟨g, 0, none⟩)] w fun e w' => Took W0 w g E (FigsOwn w.heap.size) (addrT E T) e w' := by
  have CF : Hid (∀ W T, Rd W0 W g E T → Calls Tryd.prog 59 #[.pointer (some ⟨g, 0, none⟩)] W fun e w' => Took W0 W g E (fun _ f v => v = .agg (figV f)) (takeF E T) e w') := fun W T h => figure_any W0 W g E T h
  have CK : Hid (∀ W T, Rd W0 W g E T → Calls Tryd.prog 41 #[.pointer (some ⟨g, 0, none⟩), .int .i64 3] W fun e w' => Took W0 W g E (fun _ t v => v = .agg (encT t)) (takeK E 3 T) e w') := fun W T h => take_any W0 W g E 3 (by decide) T h
  have hgl := h.size
  have H : Hid (Rd W0 w g E T) := h
  obtain ⟨A, hA⟩ : ∃ A, A = addrT E T := ⟨_, rfl⟩
  rw [← hA]
  unfold addrT at hA
  clear h
  go_enter Tryd.func81, Tryd.ntmps81
  go_wp2_with fail
  refine (CF.out _ T H.out).mono ?_
  cases hF : takeF E T with
  | error x =>
    obtain ⟨c, q⟩ := x
    have HA : Hid (A = .error (c, q)) := by rw [hA, hF]; rfl
    clear hA hF
    rintro e w1 ⟨hg1, rfl⟩
    go_wp2_with fail
    rw [HA.out]
    exact ⟨rfl, hg1, rfl⟩
  | ok x =>
    obtain ⟨f, T1⟩ := x
    have HA : Hid (A = (takeD E 3 T1).map fun y => (f :: y.1, y.2)) := by rw [hA, hF]; rfl
    clear hA hF
    rintro e w1 ⟨hg1, ⟨v, rfl, rfl⟩, R1⟩
    have z1 := hg1.size
    have n1 := heap_new w1 (.cells (figV f) 52) _ rfl
    go_wp2_with (first
      | (refine wl_buildE (E := FigE) FigOk rfl _ rfl (figV f) rfl rfl ?_))
    go_loopw [3] (fun out wr => ∃ (n : Nat) (F : List Fig) (T2 : List Tok), n ≤ 3 ∧ F.length = 4 - n ∧ Hid (A = (takeD E n T2).map fun y => (F ++ y.1, y.2)) ∧ w.grownBy wr (some g) ∧ Rd W0 wr g E T2 ∧ wr.ownsRow w.heap.size 52 2 out F.length (gcells figV F)) (fun out _ => 4 - (match out with | .slice _ n _ => n | _ => 0))
    case atStart => exact ⟨3, [f], T1, Nat.le_refl _, rfl, HA, gb_alloc hg1 _, R1.alloc _, ⟨rfl, Or.inr ⟨w1.heap.size, 1, figV f, rfl, z1, n1, Nat.le_refl 1, by decide, rfl, rfl⟩⟩⟩
    case round =>
      obtain ⟨n, F, T2, hn, hFl, HA2, hg, R2, hown⟩ := hrel
      clear HA n1 R1 hg1 z1
      obtain ⟨o, cap, rfl⟩ := gown_slice hown
      obtain ⟨L, hL⟩ : ∃ L, L = F.length := ⟨_, rfl⟩
      have HL : Hid (L = F.length) := hL
      rw [← hL] at hown ⊢
      have HOWN : Hid (wr.ownsRow w.heap.size 52 2 (.slice o L cap) F.length (gcells figV F)) := by rw [← hL]; exact hown
      have HG : Hid (w.grownBy wr (some g)) := hg
      have HR2 : Hid (Rd W0 wr g E T2) := R2
      clear hown hg R2
      cases n with
      | zero =>
        have h4 : (4 : Int) ≤ (L : Int) := by omega
        have hA : A = .ok (F, T2) := by rw [HA2.out]; simp [takeD, Except.map]
        have HA3 : Hid (A = .ok (F, T2)) := hA
        clear hA HA2 hL
        go_wp2_with fail
        go_ret
        rw [HA3.out]
        exact ⟨HG.out, ⟨_, rfl, HOWN.out⟩, HR2.out⟩
      | succ n =>
        have h4 : (L : Int) < 4 := by omega
        have hl3 : L ≤ 3 := by omega
        clear hL
        go_wp2_with fail
        refine (CK.out _ T2 HR2.out).mono ?_
        cases hK : takeK E 3 T2 with
        | error x =>
          obtain ⟨c, q⟩ := x
          have HA3 : Hid (A = .error (c, q)) := by show _ = _; rw [HA2.out, takeD, hK]; rfl
          clear hK
          rintro e w3 ⟨hg3, rfl⟩
          go_wp2_with fail
          rw [HA3.out]
          exact ⟨rfl, grown_trans HG.out hg3, rfl⟩
        | ok x =>
          obtain ⟨t, T3⟩ := x
          rintro e w3 ⟨hg3, ⟨v, rfl, rfl⟩, R3⟩
          have HG3 : Hid (w.grownBy w3 (some g)) := grown_trans HG.out hg3
          have HOWN3 : Hid (w3.ownsRow w.heap.size 52 2 (.slice o L cap) F.length (gcells figV F)) := own_by hg3 hgl.2 HOWN.out
          have HR3 : Hid (Rd W0 w3 g E T3) := R3
          clear hg3 R3
          go_wp2_with fail
          refine (CF.out _ T3 HR3.out).mono ?_
          cases hF : takeF E T3 with
          | error x =>
            obtain ⟨c, q⟩ := x
            have HA3 : Hid (A = .error (c, q)) := by show _ = _; rw [HA2.out, takeD, hK]; show ((takeF E T3).bind _).map _ = _; rw [hF]; rfl
            clear hK hF
            rintro e w4 ⟨hg4, rfl⟩
            go_wp2_with fail
            rw [HA3.out]
            exact ⟨rfl, grown_trans HG3.out hg4, rfl⟩
          | ok x =>
            obtain ⟨f2, T4⟩ := x
            have HA3 : Hid (A = (takeD E n T4).map fun y => (F ++ [f2] ++ y.1, y.2)) := by
              show _ = _
              rw [HA2.out, takeD, hK]
              show ((takeF E T3).bind _).map _ = _
              rw [hF]
              show ((takeD E n T4).map _).map _ = _
              cases takeD E n T4 with
              | error x => rfl
              | ok x => simp [Except.map]
            clear hK hF
            rintro e w4 ⟨hg4, ⟨v, rfl, rfl⟩, R4⟩
            have HG4 : Hid (w.grownBy w4 (some g)) := grown_trans HG3.out hg4
            have HOWN4 : Hid (w4.ownsRow w.heap.size 52 2 (.slice o L cap) F.length (gcells figV F)) := own_by hg4 hgl.2 HOWN3.out
            have HR4 : Hid (Rd W0 w4 g E T4) := R4
            clear hg4 R4
            go_wp2_with (first
              | (refine wl_buildE (E := FigE) FigOk rfl _ rfl (figV f2) rfl rfl ?_)
              | (at_builtin; refine of_stopT ?_))
            unfold StopT
            have HO5 : Hid ((w4.alloc (.cells (figV f2) 52)).ownsRow w.heap.size 52 2 (.slice o L cap) F.length (gcells figV F)) := HOWN4.out.alloc _
            refine wl_appendE (E := FigE) FigOk figV rfl _ _ rfl w.heap.size _ F f2 (fig_fits _) rfl HO5.out _ 1 rfl (heap_new _ _ _ rfl) (by omega) (by have := HG4.out.size; simp; omega) ?_
            intro v' w5 hown5 hgr5 _
            have HG5 : Hid (w.grownBy w5 (some g)) := gb_own (gb_alloc HG4.out _) hgr5 fun k hk => (HO5.out.lt k hk).1
            have HR5 : Hid (Rd W0 w5 g E T4) := rd_own (HR4.out.alloc _) hgr5 fun k hk => Nat.lt_of_lt_of_le hgl.2 (HO5.out.lt k hk).1
            have HOWN5 : Hid (w5.ownsRow w.heap.size 52 2 v' (F ++ [f2]).length (gcells figV (F ++ [f2]))) := hown5
            obtain ⟨o5, cap5, rfl⟩ := gown_slice hown5
            clear hown5 hgr5
            simp only [Act.put, List.setIfInBounds_toArray, List.set_cons_succ, List.set_cons_zero]
            go_wp2_with fail
            go_roundw
            case rel => exact ⟨n, F ++ [f2], T4, by omega, by simp; omega, HA3, HG5.out, HR5.out, HOWN5.out⟩
            case measure => have := HL.out; simp; omega
end Go.Proofs.YtbdbjbmjnemknaaDoor
namespace Go.Proofs.YtbdbjbmjnemknaaDoor
open Go Go.RowKit
set_option maxRecDepth 20000

theorem takeA_eq (E : Nat) (T : List Tok) : takeA E T = (takeK E 1 T).bind fun x => if x.1.text = wDrop then .ok ((true, ⟨0, 0⟩), x.2) else if x.1.text = wPort then (takeF E x.2).map (fun y => ((false, y.1), y.2)) else .error (8, x.1.pos) := by
  cases T with
  | nil => rfl
  | cons t T =>
    unfold takeA takeK
    by_cases h : t.kind = 1
    · simp only [h, true_and, if_true]
      rfl
    · simp only [h, false_and, if_false]
      rfl
def ActV (v : Value) (a : Bool × Fig) : Prop := v = .tuple #[.bool a.1, .agg (figV a.2)]

set_option maxHeartbeats 2000000 in
theorem action_any (W0 w : World) (g E : Nat) (T : List Tok) (h : Rd W0 w g E T) :
    Calls Tryd.prog 61 #[.pointer (some ⟨g, 0, none⟩)] w fun e w' => Took W0 w g E (fun _ a v => ActV v a) (takeA E T) e w' := by
  have CF : Hid (∀ W T, Rd W0 W g E T → Calls Tryd.prog 59 #[.pointer (some ⟨g, 0, none⟩)] W fun e w' => Took W0 W g E (fun _ f v => v = .agg (figV f)) (takeF E T) e w') := fun W T h => figure_any W0 W g E T h
  have CK : Hid (∀ W T, Rd W0 W g E T → Calls Tryd.prog 41 #[.pointer (some ⟨g, 0, none⟩), .int .i64 1] W fun e w' => Took W0 W g E (fun _ t v => v = .agg (encT t)) (takeK E 1 T) e w') := fun W T h => take_any W0 W g E 1 (by decide) T h
  have hgl := h.size
  have H : Hid (Rd W0 w g E T) := h
  obtain ⟨A, hA⟩ : ∃ A, A = takeA E T := ⟨_, rfl⟩
  rw [← hA]
  rw [takeA_eq] at hA
  clear h
  go_enter Tryd.func61, Tryd.ntmps61
  go_wp2_with fail
  refine (CK.out _ T (H.out.alloc _)).mono ?_
  cases hK : takeK E 1 T with
  | error x =>
    obtain ⟨c, q⟩ := x
    have HA : Hid (A = .error (c, q)) := by rw [hA, hK]; rfl
    clear hA hK
    rintro e w1 ⟨hg1, rfl⟩
    go_wp2_with fail
    rw [HA.out]
    exact ⟨rfl, grown_trans (gb_alloc (gb_refl w g) _) hg1, rfl⟩
  | ok x =>
    obtain ⟨t, T1⟩ := x
    have HA : Hid (A = if t.text = wDrop then .ok ((true, ⟨0, 0⟩), T1) else if t.text = wPort then (takeF E T1).map (fun y => ((false, y.1), y.2)) else .error (8, t.pos)) := by rw [hA, hK]; rfl
    clear hA hK
    rintro e w1 ⟨hg1, ⟨v, rfl, rfl⟩, R1⟩
    have z1 : w.heap.size < w1.heap.size := by have := hg1.size; simp at this; omega
    have HG1 : Hid (w.grownBy w1 (some g)) := grown_trans (gb_alloc (gb_refl w g) _) hg1
    obtain ⟨t0, t1, t2, t3⟩ := tok_cells (heap_new w1 (.cells (encT t) 87) _ rfl)
    have hr1 : Hid ((w1.alloc (.cells (encT t) 87)).heap[w.heap.size]? = some (.cells (figV ⟨0, 0⟩) 52 (0, 0))) := (heap_past _ _ _ _ ((hg1.block _ (by simp) (by simp; omega)).trans (heap_new _ _ _ rfl)))
    have HR1 : Hid (Rd W0 w1 g E T1) := R1
    clear hg1 R1
    by_cases d1 : t.text = wDrop
    · rw [if_pos d1] at HA
      have e1 : (t.text == [100, 114, 111, 112]) = true := by rw [d1]; rfl
      clear d1
      go_wp2_with (first
        | (refine wl_storeE (E := TokE) TokOk rfl _ _ rfl w1.heap.size (encT t) (tv_fits _ _ _ _) rfl rfl _ (heap_new _ _ _ rfl) rfl _ (setRow_new _ _ _ _ _ rfl) ?_)
        | (refine wl_storeE (E := FigE) FigOk rfl _ _ rfl w.heap.size (figV ⟨0, 0⟩) (fig_fits _) rfl rfl _ hr1.out rfl _ rfl ?_))
      refine retBE (E := FigE) FigOk rfl rfl w.heap.size rfl (figV ⟨0, 0⟩) rfl (setRow_heap _ _ _ _ _ _ hr1.out) _ rfl ?_
      rw [HA.out]
      exact ⟨gb_setRow (gb_alloc HG1.out _) (.inr (Nat.le_refl _)) _, ⟨_, rfl, rfl⟩, rd_setRow (HR1.out.alloc _) (by omega) (by omega) _⟩
    · rw [if_neg d1] at HA
      have e1 : (t.text == [100, 114, 111, 112]) = false := by rw [beq_eq_false_iff_ne]; exact d1
      clear d1
      by_cases d2 : t.text = wPort
      · rw [if_pos d2] at HA
        have e2 : (t.text == [112, 111, 114, 116]) = true := by rw [d2]; rfl
        clear d2
        go_wp2_with (first
          | (refine wl_storeE (E := TokE) TokOk rfl _ _ rfl w1.heap.size (encT t) (tv_fits _ _ _ _) rfl rfl _ (heap_new _ _ _ rfl) rfl _ (setRow_new _ _ _ _ _ rfl) ?_))
        refine (CF.out _ T1 (HR1.out.alloc _)).mono ?_
        cases hF : takeF E T1 with
        | error x =>
          obtain ⟨c, q⟩ := x
          rw [hF] at HA
          clear hF
          rintro e w2 ⟨hg2, rfl⟩
          go_wp2_with fail
          rw [HA.out]
          exact ⟨rfl, grown_trans (gb_alloc HG1.out _) hg2, rfl⟩
        | ok x =>
          obtain ⟨f, T2⟩ := x
          rw [hF] at HA
          clear hF
          rintro e w2 ⟨hg2, ⟨v, rfl, rfl⟩, R2⟩
          have hr2 : Hid (w2.heap[w.heap.size]? = some (.cells (figV ⟨0, 0⟩) 52 (0, 0))) := (hg2.block _ (by simp; omega) (by simp; omega)).trans hr1.out
          have HG2 : Hid (w.grownBy w2 (some g)) := grown_trans (gb_alloc HG1.out _) hg2
          have HR2 : Hid (Rd W0 w2 g E T2) := R2
          clear hg2 R2 t0 t1 t2 t3
          go_wp2_with (first
            | (refine wl_storeE (E := FigE) FigOk rfl _ _ rfl w.heap.size (figV f) (fig_fits _) rfl rfl _ hr2.out rfl _ rfl ?_))
          refine retBE (E := FigE) FigOk rfl rfl w.heap.size rfl (figV f) rfl (setRow_heap _ _ _ _ _ _ hr2.out) _ rfl ?_
          rw [HA.out]
          exact ⟨gb_setRow HG2.out (.inr (Nat.le_refl _)) _, ⟨_, rfl, rfl⟩, rd_setRow HR2.out (by omega) (by omega) _⟩
      · rw [if_neg d2] at HA
        have e2 : (t.text == [112, 111, 114, 116]) = false := by rw [beq_eq_false_iff_ne]; exact d2
        clear d2
        go_wp2_with (first
          | (refine wl_storeE (E := TokE) TokOk rfl _ _ rfl w1.heap.size (encT t) (tv_fits _ _ _ _) rfl rfl _ (heap_new _ _ _ rfl) rfl _ (setRow_new _ _ _ _ _ rfl) ?_))
        rw [HA.out]
        exact ⟨rfl, gb_alloc HG1.out _, rfl⟩
end Go.Proofs.YtbdbjbmjnemknaaDoor
namespace Go.Proofs.YtbdbjbmjnemknaaDoor
open Go Go.RowKit
set_option maxRecDepth 20000

/-- One operation of a drawn region, by the laws for a list of them. -/
theorem wpOp_of_list {P : Program} {ops : Array Oper} {Q : Exit → Act → World → Prop} {i : Nat} {o : Oper} {K : Act → World → Prop} {a : Act} {w : World} (hi : ops[i]? = some o)
    (h : wpList P ops (fun e a' w' => match e with | .normal => K a' w' | e => Q e a' w') [o] a w) : wpOp P ops Q i K a w := by
  unfold Go.wpOp
  simp only [hi]
  unfold wpList at h
  by_cases hw : Region.wanted o (yielded ops a.tmps) = true
  · rw [if_pos hw] at h ⊢
    rcases h with h | h
    · refine .inl ?_
      unfold Oper.wp at h ⊢
      revert h
      generalize (execOp a.eval o).run P w = r
      intro h
      unfold Oper.upon at h ⊢
      split at h
      · exact h
      · exact h
      · exact h
      · refine h.mono ?_
        intro e w1 h1
        cases e <;> exact h1
      · exact h
      · exact h
      · exact h.elim
    · exact .inr h
  · rw [if_neg hw] at h ⊢
    exact h
theorem eval_put (a : Act) (k j : Nat) (v : Value) (hk : k < a.tmps.size) : (a.put (some k) v).eval (.tmp j) = if j = k then v else a.eval (.tmp j) := by
  simp only [Act.eval, Act.put, Array.getElem?_setIfInBounds, Array.getD_eq_getD_getElem?]
  by_cases h : j = k
  · subst h; simp [hk]
  · simp [h, Ne.symm h]
theorem size_put (a : Act) (d : Option Tmp) (v : Value) : (a.put d v).tmps.size = a.tmps.size := by
  cases d <;> simp [Act.put]
theorem w_set_heap (w : World) : w.drew.heap = w.heap := rfl
theorem gb_drew (w : World) (g : Nat) : w.grownBy w.drew (some g) := ⟨rfl, rfl, rfl, Nat.le_refl _, fun _ _ _ => rfl⟩
theorem load_cell {ty e : TypeId} (hu : Tryd.prog.underlying ty = some (.slice e)) (W : World) (ad : Addr) (v : Value) (h : W.cell? ad = some v) : (Instr.loadAt ty (.pointer (some ad))).run Tryd.prog W = .ok v W := by
  have ha : (isAgg ty).run Tryd.prog W = .ok false W := by unfold isAgg; rw [Sem.run_bind, run_underlying hu W]; simp [go_sem]
  simp [Instr.loadAt, Instr.sureAddr, loadVar, Sem.run_bind, ha, go_sem, h]
theorem store_cell {ty : TypeId} (hsz : ∀ W, (sizeOf ty).run Tryd.prog W = .ok 1 W) (W : World) (ad : Addr) (v u : Value) (hv : ∃ o n c, v = .slice o n c) (h : W.cell? ad = some u) (hz : W.frozen? ad = false) : (Instr.storeAt ty (.pointer (some ad)) v).run Tryd.prog W = .ok () (W.setCell ad v) := by
  obtain ⟨o, n, c, rfl⟩ := hv
  simp [Instr.storeAt, Instr.sureAddr, storeVar, Sem.run_bind, hsz, go_sem, h, hz]
/-- One operation whose value is known. -/
theorem wpOp_val {ops : Array Oper} {Q : Exit → Act → World → Prop} {i : Nat} {o : Oper} {K : Act → World → Prop} {a : Act} {w w' : World} (hi : ops[i]? = some o) (hw : Region.wanted o (yielded ops a.tmps) = true) (v : Value)
    (hx : (execOp a.eval o).run Tryd.prog w = .ok (.value v) w') (d : Option Tmp) (hd : o.dst = d) (hK : K (a.put d v) w') : wpOp Tryd.prog ops Q i K a w := by
  subst hd
  refine wpOp_wanted hi hw ?_
  unfold Oper.wp
  rw [hx]
  exact hK
theorem wpOp_skip {ops : Array Oper} {Q : Exit → Act → World → Prop} {i : Nat} {o : Oper} {K : Act → World → Prop} {a : Act} {w w' : World} (hi : ops[i]? = some o) (hw : Region.wanted o (yielded ops a.tmps) = true)
    (hx : (execOp a.eval o).run Tryd.prog w = .ok .skip w') (d : Option Tmp) (hd : o.dst = d) (hK : K (a.put d undef) w') : wpOp Tryd.prog ops Q i K a w := by
  subst hd
  refine wpOp_wanted hi hw ?_
  unfold Oper.wp
  rw [hx]
  exact hK
theorem wpOp_skip0 {ops : Array Oper} {Q : Exit → Act → World → Prop} {i : Nat} {o : Oper} {K : Act → World → Prop} {a : Act} {w w' : World} (hi : ops[i]? = some o) (hw : Region.wanted o (yielded ops a.tmps) = true)
    (hx : (execOp a.eval o).run Tryd.prog w = .ok .skip w') (hd : o.dst = none) (hK : K a w') : wpOp Tryd.prog ops Q i K a w :=
  wpOp_skip hi hw hx none hd hK
theorem wpOp_callQ {ops : Array Oper} {Q : Exit → Act → World → Prop} {i : Nat} {o : Oper} {K : Act → World → Prop} {a : Act} {w : World} (hi : ops[i]? = some o) (hw : Region.wanted o (yielded ops a.tmps) = true) (f : FuncId) (vs : Array Value)
    (hf : (execOp a.eval o).run Tryd.prog w = .ok (.enter f vs) w) (D : Ending → World → Prop) (h : Calls Tryd.prog f vs w D) (d : Option Tmp) (hd : o.dst = d) (hK : ∀ v w', D (.returned v) w' → K (a.put d v) w') (hP : ∀ ch w', D (.panicked ch) w' → Q (.panic ch) a w') (hO : ∀ w', ¬ D .outgrown w') : wpOp Tryd.prog ops Q i K a w := by
  subst hd
  refine wpOp_wanted hi hw ?_
  unfold Oper.wp
  rw [hf]
  refine h.mono ?_
  intro e w' hD
  cases e with
  | returned v => exact hK v w' hD
  | panicked ch => exact hP ch w' hD
  | outgrown => exact absurd hD (hO w')

theorem run_fieldOp {o : Oper} {t i : Nat} {x : Operand} (ho : o.op = .fieldAddr t x i) (a : Act) (W : World) (v : Value) (h : (Instr.fieldAt t (a.eval x) i).run Tryd.prog W = .ok v W) : (execOp a.eval o).run Tryd.prog W = .ok (.value v) W := by
  unfold execOp
  simp only [ho, Sem.run_bind, h, Result.andThen_ok, Sem.run_pure]
theorem run_moveOp {o : Oper} {x : Operand} (ho : o.op = .move x) (a : Act) (W : World) (v : Value) (h : a.eval x = v) : (execOp a.eval o).run Tryd.prog W = .ok (.value v) W := by
  unfold execOp
  simp only [ho, Sem.run_pure, h]
theorem run_loadOp {o : Oper} {t : Nat} {x : Operand} (ho : o.op = .load t x) (a : Act) (W : World) (u v : Value) (hu : a.eval x = u) (h : (Instr.loadAt t u).run Tryd.prog W = .ok v W) : (execOp a.eval o).run Tryd.prog W = .ok (.value v) W := by
  unfold execOp
  simp only [ho, Sem.run_bind, hu, h, Result.andThen_ok, Sem.run_pure]
theorem run_storeOp {o : Oper} {t : Nat} {x y : Operand} (ho : o.op = .store t x y) (a : Act) (W W' : World) (u v : Value) (hu : a.eval x = u) (hv : a.eval y = v) (h : (Instr.storeAt t u v).run Tryd.prog W = .ok () W') : (execOp a.eval o).run Tryd.prog W = .ok .skip W' := by
  unfold execOp
  simp only [ho, Sem.run_bind, hu, hv, h, Result.andThen_ok, Sem.run_pure]
theorem run_callOp {o : Oper} {f : Nat} {x : Operand} {ts : Array TypeId} (ho : o.op = .call { callee := .value (.func f), args := #[x], argTypes := ts }) (hf : ∀ vs W, (callFunc f vs).run Tryd.prog W = .ok (.enter f vs) W) (a : Act) (W : World) (v : Value) (h : a.eval x = v) : (execOp a.eval o).run Tryd.prog W = .ok (.enter f #[v]) W := by
  unfold execOp
  have hef : a.eval (.func f) = .func (.func f) #[] #[] := rfl
  simp only [ho, resolve, hef, List.map_toArray, List.map_cons, List.map_nil, h]
  simp [go_sem, hf]
end Go.Proofs.YtbdbjbmjnemknaaDoor
