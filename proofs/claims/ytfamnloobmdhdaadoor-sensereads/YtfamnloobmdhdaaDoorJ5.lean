import Derived.Test.YtfamnloobmdhdaaDoorJ4
namespace Go.Proofs.YtfamnloobmdhdaaDoor
open Go
set_option maxRecDepth 20000

/-- What a line means. -/
structure Ent where
  dflt : Bool
  prio : Int
  action : Int
  src : Int
  srcBits : Int
  dst : Int
  dstBits : Int
  slow : Int
  shigh : Int
  dlow : Int
  dhigh : Int
  proto : Int

abbrev ResI (α : Type) := Except (Nat × Int) α
def mustN (c : Cla) : Nat := if isAddrW c.word then (if c.slash then 5 else 4) else if isPortW c.word then (if c.dash then 2 else 1) else if c.word == wProto then 1 else 0
def mostN (w : List UInt8) (k : Nat) : Int := if isPortW w then 65535 else if !(w == wProto) && k == 4 then 32 else 255
/-- The first number of a clause that may not be. -/
def faultN (c : Cla) (first : Int) : Nat → List Fig → ResI Unit
  | _, [] => .ok ()
  | k, x :: l => if decide (x.n < 0) || decide (mostN c.word k < x.n) || (c.dash && isPortW c.word && k == 1 && decide (x.n < first)) then .error (10, x.pos) else faultN c first (k + 1) l
def nth (c : Cla) (k : Nat) : Int := (c.nums.getD k ⟨0, 0⟩).n
def faultC (had : List Cla) (c : Cla) : ResI Unit :=
  if mustN c == 0 || c.nums.length != mustN c then .error (8, c.pos) else if had.any (fun d => d.word == c.word) then .error (9, c.pos) else faultN c (nth c 0) 0 c.nums
def faultCs : List Cla → List Cla → ResI Unit
  | _, [] => .ok ()
  | had, c :: l => (faultC had c).bind fun _ => faultCs (had ++ [c]) l
/-- What is wrong with a line first, and where. -/
def faultR (r : Raw) : ResI Unit := if decide (r.prio.n < 0) || decide (65535 < r.prio.n) then .error (10, r.prio.pos) else faultCs [] r.clauses

def findC (w : List UInt8) (l : List Cla) : Option Cla := l.find? fun c => c.word == w
def preOf (l : List Cla) (w : List UInt8) : Int × Int := match findC w l with
  | none => (0, 0)
  | some c => (((nth c 0 * 256 + nth c 1) * 256 + nth c 2) * 256 + nth c 3, if c.slash then nth c 4 else 32)
def porOf (l : List Cla) (w : List UInt8) : Int × Int := match findC w l with
  | none => (0, 65535)
  | some c => (nth c 0, if c.dash then nth c 1 else nth c 0)
def proOf (l : List Cla) : Int := match findC wProto l with
  | none => -1
  | some c => nth c 0
def actOf (r : Raw) : Int := if r.drop then 0 else r.port.n
/-- What a line without faults means. -/
def meaning (r : Raw) : Ent := if r.dflt then ⟨true, 0, actOf r, 0, 0, 0, 0, 0, 0, 0, 0, 0⟩ else
  ⟨false, r.prio.n, actOf r, (preOf r.clauses wSrc).1, (preOf r.clauses wSrc).2, (preOf r.clauses wDst).1, (preOf r.clauses wDst).2, (porOf r.clauses wSport).1, (porOf r.clauses wSport).2, (porOf r.clauses wDport).1, (porOf r.clauses wDport).2, proOf r.clauses⟩
/-- Lines, one behind the other. -/
def checkGo (size : Int) : Nat → Bool → List Raw → ResI (List Ent)
  | _, had, [] => if had then .ok [] else .error (11, size)
  | i, had, r :: l => if 64 ≤ i then .error (4, r.pos) else if r.dflt && had then .error (9, r.pos) else
    (if r.dflt then .ok () else faultR r).bind fun _ => if !r.drop && (decide (r.port.n < 1) || decide (99 < r.port.n)) then .error (10, r.port.pos) else (checkGo size (i + 1) (had || r.dflt) l).map fun m => meaning r :: m
/-- What a text means. -/
def readT (S : List UInt8) : ResI (List Ent) := match parseT S with
  | .error x => .error (x.1, (x.2 : Int))
  | .ok l => checkGo (S.length : Int) 0 false l

def fig0 (n : Int) : Fig := ⟨n, 0⟩
def addrC7 (w : List UInt8) (v n : Int) : Cla := ⟨w, 0, [fig0 (v / 16777216), fig0 (v / 65536 % 256), fig0 (v / 256 % 256), fig0 (v % 256), fig0 n], true, false⟩
def portC7 (w : List UInt8) (a b : Int) : Cla := if a = b then ⟨w, 0, [fig0 a], false, false⟩ else ⟨w, 0, [fig0 a, fig0 b], false, true⟩
def partA (w : List UInt8) (v n : Int) : List Cla := if v = 0 ∧ n = 0 then [] else [addrC7 w v n]
def partP (w : List UInt8) (a b : Int) : List Cla := if a = 0 ∧ b = 65535 then [] else [portC7 w a b]
def partO (p : Int) : List Cla := if p = -1 then [] else [⟨wProto, 0, [fig0 p], false, false⟩]
/-- An entry as it would be written. -/
def lineOf (x : Ent) : Raw := ⟨0, x.dflt, fig0 x.prio, if x.dflt then [] else partA wSrc x.src x.srcBits ++ (partA wDst x.dst x.dstBits ++ (partP wSport x.slow x.shigh ++ (partP wDport x.dlow x.dhigh ++ partO x.proto))), decide (x.action = 0), fig0 x.action⟩
/-- An entry as it may be. -/
structure okE (x : Ent) : Prop where
  act : 0 ≤ x.action ∧ x.action ≤ 99
  zero : x.dflt = true → x = ⟨true, 0, x.action, 0, 0, 0, 0, 0, 0, 0, 0, 0⟩
  prio : 0 ≤ x.prio ∧ x.prio ≤ 65535
  src : 0 ≤ x.src ∧ x.src < 4294967296 ∧ 0 ≤ x.srcBits ∧ x.srcBits ≤ 32
  dst : 0 ≤ x.dst ∧ x.dst < 4294967296 ∧ 0 ≤ x.dstBits ∧ x.dstBits ≤ 32
  sp : 0 ≤ x.slow ∧ x.slow ≤ x.shigh ∧ x.shigh ≤ 65535
  dp : 0 ≤ x.dlow ∧ x.dlow ≤ x.dhigh ∧ x.dhigh ≤ 65535
  proto : x.dflt = false → -1 ≤ x.proto ∧ x.proto ≤ 255

theorem portW_not {w : List UInt8} (hw : isPortW w = true) : isAddrW w = false := by
  unfold isPortW at hw
  simp only [Bool.or_eq_true, beq_iff_eq] at hw
  rcases hw with rfl | rfl <;> decide
theorem portC7_word (w : List UInt8) (a b : Int) : (portC7 w a b).word = w := by unfold portC7; split <;> rfl
theorem partA_word {w : List UInt8} {v n : Int} {c : Cla} (h : c ∈ partA w v n) : c.word = w := by
  unfold partA at h
  split at h
  · simp at h
  · rw [List.mem_singleton.1 h]; rfl
theorem partP_word {w : List UInt8} {v n : Int} {c : Cla} (h : c ∈ partP w v n) : c.word = w := by
  unfold partP at h
  split at h
  · simp at h
  · rw [List.mem_singleton.1 h]; exact portC7_word _ _ _
theorem partO_word {p : Int} {c : Cla} (h : c ∈ partO p) : c.word = wProto := by
  unfold partO at h
  split at h
  · simp at h
  · rw [List.mem_singleton.1 h]
def lineC (x : Ent) : List Cla := partA wSrc x.src x.srcBits ++ (partA wDst x.dst x.dstBits ++ (partP wSport x.slow x.shigh ++ (partP wDport x.dlow x.dhigh ++ partO x.proto)))
end Go.Proofs.YtfamnloobmdhdaaDoor
namespace Go.Proofs.YtfamnloobmdhdaaDoor
open Go
set_option maxRecDepth 20000

theorem find_none {w w' : List UInt8} {l : List Cla} (h : ∀ c ∈ l, c.word = w') (hw : w' ≠ w) : findC w l = none := by
  unfold findC
  rw [List.find?_eq_none]
  intro c hc
  rw [h c hc]
  simpa using hw
theorem find_append (w : List UInt8) (a b : List Cla) : findC w (a ++ b) = (findC w a).or (findC w b) := List.find?_append
theorem find_one {w : List UInt8} {c : Cla} (h : c.word = w) : findC w [c] = some c := by unfold findC; rw [List.find?_cons_of_pos (by simp [h])]
theorem find_A (w : List UInt8) (v n : Int) : findC w (partA w v n) = if v = 0 ∧ n = 0 then none else some (addrC7 w v n) := by
  unfold partA
  split
  · rfl
  · exact find_one rfl
theorem find_P (w : List UInt8) (v n : Int) : findC w (partP w v n) = if v = 0 ∧ n = 65535 then none else some (portC7 w v n) := by
  unfold partP
  split
  · rfl
  · exact find_one (portC7_word _ _ _)
theorem find_O (p : Int) : findC wProto (partO p) = if p = -1 then none else some ⟨wProto, 0, [fig0 p], false, false⟩ := by
  unfold partO
  split
  · rfl
  · exact find_one rfl
theorem nA (w w' : List UInt8) (hw : w' ≠ w) (v n : Int) : findC w (partA w' v n) = none := find_none (fun _ h => partA_word h) hw
theorem nP (w w' : List UInt8) (hw : w' ≠ w) (v n : Int) : findC w (partP w' v n) = none := find_none (fun _ h => partP_word h) hw
theorem nO (w : List UInt8) (hw : wProto ≠ w) (p : Int) : findC w (partO p) = none := find_none (fun _ h => partO_word h) hw
theorem find_src (x : Ent) : findC wSrc (lineC x) = if x.src = 0 ∧ x.srcBits = 0 then none else some (addrC7 wSrc x.src x.srcBits) := by
  unfold lineC
  rw [find_append, find_append, find_append, find_append, nA wSrc wDst (by decide), nP wSrc wSport (by decide), nP wSrc wDport (by decide), nO wSrc (by decide), find_A]
  simp
theorem find_dst (x : Ent) : findC wDst (lineC x) = if x.dst = 0 ∧ x.dstBits = 0 then none else some (addrC7 wDst x.dst x.dstBits) := by
  unfold lineC
  rw [find_append, find_append, find_append, find_append, nA wDst wSrc (by decide), nP wDst wSport (by decide), nP wDst wDport (by decide), nO wDst (by decide), find_A]
  simp
theorem find_sport (x : Ent) : findC wSport (lineC x) = if x.slow = 0 ∧ x.shigh = 65535 then none else some (portC7 wSport x.slow x.shigh) := by
  unfold lineC
  rw [find_append, find_append, find_append, find_append, nA wSport wSrc (by decide), nA wSport wDst (by decide), nP wSport wDport (by decide), nO wSport (by decide), find_P]
  simp
theorem find_dport (x : Ent) : findC wDport (lineC x) = if x.dlow = 0 ∧ x.dhigh = 65535 then none else some (portC7 wDport x.dlow x.dhigh) := by
  unfold lineC
  rw [find_append, find_append, find_append, find_append, nA wDport wSrc (by decide), nA wDport wDst (by decide), nP wDport wSport (by decide), nO wDport (by decide), find_P]
  simp
theorem find_proto (x : Ent) : findC wProto (lineC x) = if x.proto = -1 then none else some ⟨wProto, 0, [fig0 x.proto], false, false⟩ := by
  unfold lineC
  rw [find_append, find_append, find_append, find_append, nA wProto wSrc (by decide), nA wProto wDst (by decide), nP wProto wSport (by decide), nP wProto wDport (by decide), find_O]
  simp
theorem pre_addr {l : List Cla} {w : List UInt8} {v n : Int} (h : findC w l = if v = 0 ∧ n = 0 then none else some (addrC7 w v n)) (hv : 0 ≤ v ∧ v < 4294967296 ∧ 0 ≤ n ∧ n ≤ 32) : preOf l w = (v, n) := by
  unfold preOf
  rw [h]
  by_cases c : v = 0 ∧ n = 0
  · rw [if_pos c]; obtain ⟨rfl, rfl⟩ := c; rfl
  · rw [if_neg c]
    simp only [addrC7, nth, fig0, List.getD_cons_zero, List.getD_cons_succ]
    congr 1
    · omega
theorem por_port {l : List Cla} {w : List UInt8} {a b : Int} (h : findC w l = if a = 0 ∧ b = 65535 then none else some (portC7 w a b)) : porOf l w = (a, b) := by
  unfold porOf
  rw [h]
  by_cases c : a = 0 ∧ b = 65535
  · rw [if_pos c]; obtain ⟨rfl, rfl⟩ := c; rfl
  · rw [if_neg c]
    by_cases e : a = b
    · subst e
      simp [portC7, nth, fig0]
    · simp [portC7, e, nth, fig0]
theorem pro_proto {l : List Cla} {p : Int} (h : findC wProto l = if p = -1 then none else some ⟨wProto, 0, [fig0 p], false, false⟩) : proOf l = p := by
  unfold proOf
  rw [h]
  by_cases c : p = -1
  · rw [if_pos c, c]
  · rw [if_neg c]; rfl
theorem lineOf_clauses {x : Ent} (h : x.dflt = false) : (lineOf x).clauses = lineC x := by unfold lineOf; rw [h]; rfl
/-- What an entry's line means is the entry. -/
theorem meaning_line (x : Ent) (h : okE x) : meaning (lineOf x) = x := by
  have hact : actOf (lineOf x) = x.action := by
    show (if decide (x.action = 0) = true then 0 else x.action) = x.action
    by_cases c : x.action = 0
    · rw [if_pos (by simpa using c), c]
    · rw [if_neg (by simpa using c)]
  unfold meaning
  rw [hact]
  cases hd : x.dflt with
  | true =>
    rw [if_pos (show (lineOf x).dflt = true from hd)]
    exact (h.zero hd).symm
  | false =>
    rw [if_neg (show ¬ (lineOf x).dflt = true by rw [show (lineOf x).dflt = x.dflt from rfl, hd]; decide), lineOf_clauses hd, pre_addr (find_src x) h.src, pre_addr (find_dst x) h.dst, por_port (find_sport x), por_port (find_dport x), pro_proto (find_proto x)]
    show (⟨false, x.prio, x.action, x.src, x.srcBits, x.dst, x.dstBits, x.slow, x.shigh, x.dlow, x.dhigh, x.proto⟩ : Ent) = x
    rw [← hd]

theorem faultCs_append : ∀ (a had b : List Cla), faultCs had (a ++ b) = (faultCs had a).bind fun _ => faultCs (had ++ a) b
  | [], had, b => by rw [List.nil_append, List.append_nil]; rfl
  | c :: a, had, b => by
    rw [List.cons_append, faultCs, faultCs]
    cases faultC had c with
    | error e => rfl
    | ok u =>
      simp only [Except.bind]
      rw [faultCs_append a (had ++ [c]) b, List.append_assoc]
      rfl
theorem faultN_ok (c : Cla) (first : Int) : ∀ (l : List Fig) (k : Nat), (∀ (j : Nat) (x : Fig), l[j]? = some x → 0 ≤ x.n ∧ x.n ≤ mostN c.word (k + j) ∧ (c.dash = true → isPortW c.word = true → k + j = 1 → first ≤ x.n)) → faultN c first k l = .ok ()
  | [], _, _ => rfl
  | x :: l, k, h => by
    have h0 := h 0 x rfl
    rw [faultN, if_neg]
    · exact faultN_ok c first l (k + 1) fun j y hy => by
        have := h (j + 1) y (by simpa using hy)
        rw [show k + 1 + j = k + (j + 1) by omega]
        exact this
    · simp only [Bool.or_eq_true, Bool.and_eq_true, decide_eq_true_eq, beq_iff_eq]
      rintro ((h1 | h2) | ⟨⟨⟨h3, h4⟩, h5⟩, h6⟩)
      · omega
      · have := h0.2.1; rw [Nat.add_zero] at this; omega
      · have := h0.2.2 h3 h4 (by omega); omega
theorem faultN_in (c : Cla) (first : Int) : ∀ (l : List Fig) (k : Nat), faultN c first k l = .ok () → ∀ (j : Nat) (x : Fig), l[j]? = some x → 0 ≤ x.n ∧ x.n ≤ mostN c.word (k + j) ∧ (c.dash = true → isPortW c.word = true → k + j = 1 → first ≤ x.n)
  | [], _, _, j, x, hx => by simp at hx
  | y :: l, k, h, j, x, hx => by
    rw [faultN] at h
    split at h
    · cases h
    · rename_i hc
      simp only [Bool.or_eq_true, Bool.and_eq_true, decide_eq_true_eq, beq_iff_eq, not_or] at hc
      cases j with
      | zero =>
        obtain rfl : y = x := by simpa using hx
        rw [Nat.add_zero]
        refine ⟨by omega, by omega, fun h1 h2 h3 => ?_⟩
        have := hc.2
        by_cases h4 : y.n < first
        · exact absurd ⟨⟨⟨h1, h2⟩, h3⟩, h4⟩ this
        · omega
      | succ j =>
        have := faultN_in c first l (k + 1) h j x (by simpa using hx)
        rw [show k + (j + 1) = k + 1 + j by omega]
        exact this
theorem faultC_ok (had : List Cla) (c : Cla) (h0 : mustN c ≠ 0) (h1 : c.nums.length = mustN c) (h2 : ∀ d ∈ had, d.word ≠ c.word) (h3 : ∀ (j : Nat) (x : Fig), c.nums[j]? = some x → 0 ≤ x.n ∧ x.n ≤ mostN c.word j ∧ (c.dash = true → isPortW c.word = true → j = 1 → nth c 0 ≤ x.n)) : faultCs had [c] = .ok () := by
  have hany : had.any (fun d => d.word == c.word) = false := by
    rw [List.any_eq_false]; intro d hd; simpa using h2 d hd
  rw [faultCs, faultC, hany, if_neg (by simp [h0, h1]), if_neg (by simp), faultN_ok c (nth c 0) c.nums 0 (fun j x hx => by rw [Nat.zero_add]; exact h3 j x hx)]
  rfl
theorem fault_A (had : List Cla) (w : List UInt8) (hw : isAddrW w = true) (hp : isPortW w = false) (ho : (w == wProto) = false) (v n : Int) (hv : 0 ≤ v ∧ v < 4294967296 ∧ 0 ≤ n ∧ n ≤ 32) (hh : ∀ d ∈ had, d.word ≠ w) : faultCs had (partA w v n) = .ok () := by
  unfold partA
  split
  · rfl
  · have hm : mustN (addrC7 w v n) = 5 := by unfold mustN; rw [show (addrC7 w v n).word = w from rfl, hw]; rfl
    have m0 : ∀ k, k < 4 → mostN w k = 255 := fun k hk => by
      unfold mostN
      rw [hp, ho, if_neg (by decide), if_neg]
      simp only [Bool.and_eq_true, beq_iff_eq]
      omega
    have m4 : mostN w 4 = 32 := by unfold mostN; rw [hp, ho]; rfl
    refine faultC_ok had _ (by rw [hm]; decide) (by rw [hm]; rfl) hh fun j x hx => ?_
    show 0 ≤ x.n ∧ x.n ≤ mostN w j ∧ _
    refine ⟨?_, ?_, fun h => by cases h⟩
    all_goals
      rcases j with _ | _ | _ | _ | _ | j
      · obtain rfl : fig0 (v / 16777216) = x := by simpa [addrC7] using hx
        first | (rw [m0 0 (by omega)]; simp only [fig0]; omega) | (simp only [fig0]; omega)
      · obtain rfl : fig0 (v / 65536 % 256) = x := by simpa [addrC7] using hx
        first | (rw [m0 1 (by omega)]; simp only [fig0]; omega) | (simp only [fig0]; omega)
      · obtain rfl : fig0 (v / 256 % 256) = x := by simpa [addrC7] using hx
        first | (rw [m0 2 (by omega)]; simp only [fig0]; omega) | (simp only [fig0]; omega)
      · obtain rfl : fig0 (v % 256) = x := by simpa [addrC7] using hx
        first | (rw [m0 3 (by omega)]; simp only [fig0]; omega) | (simp only [fig0]; omega)
      · obtain rfl : fig0 n = x := by simpa [addrC7] using hx
        first | (rw [m4]; simp only [fig0]; omega) | (simp only [fig0]; omega)
      · simp [addrC7] at hx
theorem fault_P (had : List Cla) (w : List UInt8) (hp : isPortW w = true) (a b : Int) (hv : 0 ≤ a ∧ a ≤ b ∧ b ≤ 65535) (hh : ∀ d ∈ had, d.word ≠ w) : faultCs had (partP w a b) = .ok () := by
  unfold partP
  split
  · rfl
  · have ha := portW_not hp
    have m : ∀ k, mostN w k = 65535 := fun k => by unfold mostN; rw [hp]; rfl
    by_cases e : a = b
    · subst e
      have hc : portC7 w a a = ⟨w, 0, [fig0 a], false, false⟩ := by simp [portC7]
      rw [hc]
      have hm : mustN ⟨w, 0, [fig0 a], false, false⟩ = 1 := by unfold mustN; simp [ha, hp]
      refine faultC_ok had _ (by rw [hm]; decide) (by rw [hm]; rfl) hh fun j x hx => ?_
      show 0 ≤ x.n ∧ x.n ≤ mostN w j ∧ _
      rw [m]
      rcases j with _ | j
      · obtain rfl : fig0 a = x := by simpa using hx
        exact ⟨hv.1, hv.2.2, fun h => by cases h⟩
      · simp at hx
    · have hc : portC7 w a b = ⟨w, 0, [fig0 a, fig0 b], false, true⟩ := by simp [portC7, e]
      rw [hc]
      have hm : mustN ⟨w, 0, [fig0 a, fig0 b], false, true⟩ = 2 := by unfold mustN; simp [ha, hp]
      refine faultC_ok had _ (by rw [hm]; decide) (by rw [hm]; rfl) hh fun j x hx => ?_
      show 0 ≤ x.n ∧ x.n ≤ mostN w j ∧ _
      rw [m]
      rcases j with _ | _ | j
      · obtain rfl : fig0 a = x := by simpa using hx
        exact ⟨hv.1, by simp only [fig0]; omega, fun _ _ h => by cases h⟩
      · obtain rfl : fig0 b = x := by simpa using hx
        exact ⟨by simp only [fig0]; omega, hv.2.2, fun _ _ _ => hv.2.1⟩
      · simp at hx
theorem must_proto (p : Int) : mustN ⟨wProto, 0, [fig0 p], false, false⟩ = 1 := by
  unfold mustN
  rw [show isAddrW wProto = false from by decide, show isPortW wProto = false from by decide]
  rfl
theorem fault_O (had : List Cla) (p : Int) (hv : -1 ≤ p ∧ p ≤ 255) (hh : ∀ d ∈ had, d.word ≠ wProto) : faultCs had (partO p) = .ok () := by
  unfold partO
  split
  · rfl
  · rename_i hne
    refine faultC_ok had _ (by rw [must_proto]; decide) (by rw [must_proto]; rfl) hh fun j x hx => ?_
    rcases j with _ | j
    · obtain rfl : fig0 p = x := by simpa using hx
      exact ⟨by simp only [fig0]; omega, by show p ≤ 255; omega, fun h => by cases h⟩
    · simp at hx
/-- An entry's line has no fault. -/
theorem fault_line (x : Ent) (h : okE x) (hd : x.dflt = false) : faultR (lineOf x) = .ok () := by
  unfold faultR
  rw [if_neg (by have := h.prio; show ¬ (decide (x.prio < 0) || decide (65535 < x.prio)) = true; simp; omega), lineOf_clauses hd]
  unfold lineC
  rw [faultCs_append, fault_A [] wSrc (by decide) (by decide) (by decide) _ _ h.src (fun d hd => by simp at hd)]
  simp only [Except.bind]
  rw [faultCs_append, fault_A _ wDst (by decide) (by decide) (by decide) _ _ h.dst (fun d hd => by
    rw [List.nil_append] at hd; rw [partA_word hd]; decide)]
  simp only [Except.bind]
  rw [faultCs_append, fault_P _ wSport (by decide) _ _ h.sp (fun d hd => by
    simp only [List.nil_append, List.mem_append] at hd
    rcases hd with hd | hd <;> rw [partA_word hd] <;> decide)]
  simp only [Except.bind]
  rw [faultCs_append, fault_P _ wDport (by decide) _ _ h.dp (fun d hd => by
    simp only [List.nil_append, List.mem_append] at hd
    rcases hd with (hd | hd) | hd
    · rw [partA_word hd]; decide
    · rw [partA_word hd]; decide
    · rw [partP_word hd]; decide)]
  simp only [Except.bind]
  exact fault_O _ _ (h.proto hd) (fun d hd => by
    simp only [List.nil_append, List.mem_append] at hd
    rcases hd with ((hd | hd) | hd) | hd
    · rw [partA_word hd]; decide
    · rw [partA_word hd]; decide
    · rw [partP_word hd]; decide
    · rw [partP_word hd]; decide)

def goodC (c : Cla) : Prop := mustN c ≠ 0 ∧ c.nums.length = mustN c ∧ ∀ (j : Nat) (x : Fig), c.nums[j]? = some x → 0 ≤ x.n ∧ x.n ≤ mostN c.word j ∧ (c.dash = true → isPortW c.word = true → j = 1 → nth c 0 ≤ x.n)
theorem bindI {α β : Type} {x : ResI α} {f : α → ResI β} {b : β} (h : x.bind f = .ok b) : ∃ a, x = .ok a ∧ f a = .ok b := by
  cases x with
  | error e => simp [Except.bind] at h
  | ok a => exact ⟨a, rfl, h⟩
theorem mapI {α β : Type} {x : ResI α} {f : α → β} {b : β} (h : x.map f = .ok b) : ∃ a, x = .ok a ∧ f a = b := by
  cases x with
  | error e => simp [Except.map] at h
  | ok a => exact ⟨a, rfl, Except.ok.inj h⟩
theorem faultCs_in : ∀ (l had : List Cla), faultCs had l = .ok () → ∀ c ∈ l, goodC c
  | [], _, _, c, hc => by simp at hc
  | d :: l, had, h, c, hc => by
    rw [faultCs] at h
    obtain ⟨_, h1, h2⟩ := bindI h
    rcases List.mem_cons.1 hc with rfl | hc
    · unfold faultC at h1
      split at h1
      · cases h1
      · rename_i hm
        split at h1
        · cases h1
        · simp only [Bool.or_eq_true, beq_iff_eq, bne_iff_ne, ne_eq, not_or, Decidable.not_not] at hm
          refine ⟨hm.1, hm.2, fun j x hx => ?_⟩
          have := faultN_in c (nth c 0) c.nums 0 h1 j x hx
          rw [Nat.zero_add] at this
          exact this
    · exact faultCs_in l (had ++ [d]) h2 c hc
theorem nth_in {c : Cla} (h : goodC c) {k : Nat} (hk : k < mustN c) : 0 ≤ nth c k ∧ nth c k ≤ mostN c.word k ∧ (c.dash = true → isPortW c.word = true → k = 1 → nth c 0 ≤ nth c k) := by
  have hl : k < c.nums.length := by rw [h.2.1]; exact hk
  have hx : c.nums[k]? = some c.nums[k] := List.getElem?_eq_getElem hl
  have e : nth c k = c.nums[k].n := by unfold nth; rw [List.getD_eq_getElem?_getD, hx]; rfl
  rw [e]
  exact h.2.2 k _ hx
theorem find_in {w : List UInt8} {l : List Cla} {c : Cla} (h : findC w l = some c) : c ∈ l ∧ c.word = w := by
  unfold findC at h
  exact ⟨List.mem_of_find?_eq_some h, by simpa using List.find?_some h⟩
theorem pre_in {l : List Cla} (hl : ∀ c ∈ l, goodC c) (w : List UInt8) (hw : isAddrW w = true) (hp : isPortW w = false) (ho : (w == wProto) = false) : 0 ≤ (preOf l w).1 ∧ (preOf l w).1 < 4294967296 ∧ 0 ≤ (preOf l w).2 ∧ (preOf l w).2 ≤ 32 := by
  unfold preOf
  cases hf : findC w l with
  | none => simp
  | some c =>
    obtain ⟨hc, hcw⟩ := find_in hf
    have hg := hl c hc
    have hm : mustN c = if c.slash then 5 else 4 := by unfold mustN; rw [hcw, if_pos hw]
    have m0 : ∀ k, k < 4 → mostN w k = 255 := fun k hk => by
      unfold mostN
      rw [hp, ho, if_neg (by decide), if_neg]
      simp only [Bool.and_eq_true, beq_iff_eq]
      omega
    have m4 : mostN w 4 = 32 := by unfold mostN; rw [hp, ho]; rfl
    have b : ∀ k, k < 4 → 0 ≤ nth c k ∧ nth c k ≤ 255 := fun k hk => by
      have := nth_in hg (k := k) (by rw [hm]; split <;> omega)
      rw [hcw, m0 k hk] at this
      exact ⟨this.1, this.2.1⟩
    have b0 := b 0 (by omega)
    have b1 := b 1 (by omega)
    have b2 := b 2 (by omega)
    have b3 := b 3 (by omega)
    show 0 ≤ ((nth c 0 * 256 + nth c 1) * 256 + nth c 2) * 256 + nth c 3 ∧ ((nth c 0 * 256 + nth c 1) * 256 + nth c 2) * 256 + nth c 3 < 4294967296 ∧ 0 ≤ (if c.slash then nth c 4 else 32) ∧ (if c.slash then nth c 4 else 32) ≤ 32
    refine ⟨by omega, by omega, ?_⟩
    cases hsl : c.slash with
    | false => simp
    | true =>
      have := nth_in hg (k := 4) (by rw [hm, hsl]; decide)
      rw [hcw, m4] at this
      simpa using ⟨this.1, this.2.1⟩
theorem por_in {l : List Cla} (hl : ∀ c ∈ l, goodC c) (w : List UInt8) (hp : isPortW w = true) : 0 ≤ (porOf l w).1 ∧ (porOf l w).1 ≤ (porOf l w).2 ∧ (porOf l w).2 ≤ 65535 := by
  unfold porOf
  cases hf : findC w l with
  | none => simp
  | some c =>
    obtain ⟨hc, hcw⟩ := find_in hf
    have hg := hl c hc
    have hm : mustN c = if c.dash then 2 else 1 := by unfold mustN; rw [hcw, portW_not hp, hp]; rfl
    have m : ∀ k, mostN w k = 65535 := fun k => by unfold mostN; rw [hp]; rfl
    have b0 := nth_in hg (k := 0) (by rw [hm]; split <;> omega)
    rw [hcw, m] at b0
    show 0 ≤ nth c 0 ∧ nth c 0 ≤ (if c.dash then nth c 1 else nth c 0) ∧ (if c.dash then nth c 1 else nth c 0) ≤ 65535
    cases hda : c.dash with
    | false => simpa using ⟨b0.1, b0.2.1⟩
    | true =>
      have b1 := nth_in hg (k := 1) (by rw [hm, hda]; decide)
      rw [hcw, m] at b1
      have := b1.2.2 hda hp rfl
      simpa using ⟨b0.1, this, b1.2.1⟩
theorem pro_in {l : List Cla} (hl : ∀ c ∈ l, goodC c) : -1 ≤ proOf l ∧ proOf l ≤ 255 := by
  unfold proOf
  cases hf : findC wProto l with
  | none => simp
  | some c =>
    obtain ⟨hc, hcw⟩ := find_in hf
    have hg := hl c hc
    have hm : mustN c = 1 := by
      unfold mustN
      rw [hcw, show isAddrW wProto = false from by decide, show isPortW wProto = false from by decide]
      rfl
    have b0 := nth_in hg (k := 0) (by rw [hm]; decide)
    rw [hcw, show mostN wProto 0 = 255 from by decide] at b0
    show -1 ≤ nth c 0 ∧ nth c 0 ≤ 255
    omega
/-- What a line without faults means is as it may be. -/
theorem okE_meaning (r : Raw) (hf : r.dflt = false → faultR r = .ok ()) (hp : r.drop = false → 1 ≤ r.port.n ∧ r.port.n ≤ 99) : okE (meaning r) ∧ (meaning r).dflt = r.dflt := by
  have hact : 0 ≤ actOf r ∧ actOf r ≤ 99 := by
    unfold actOf
    cases hd : r.drop with
    | true => simp
    | false => have := hp hd; simp; omega
  unfold meaning
  cases hd : r.dflt with
  | true =>
    rw [if_pos rfl]
    exact ⟨⟨hact, fun _ => rfl, by simp, by simp, by simp, by simp, by simp, fun h => by cases h⟩, rfl⟩
  | false =>
    rw [if_neg (by decide)]
    have h1 := hf hd
    unfold faultR at h1
    split at h1
    · cases h1
    · rename_i hpr
      simp only [Bool.or_eq_true, decide_eq_true_eq, not_or] at hpr
      have hl := faultCs_in r.clauses [] h1
      exact ⟨⟨hact, (fun h => by cases h), ⟨by show 0 ≤ r.prio.n; omega, by show r.prio.n ≤ 65535; omega⟩, pre_in hl wSrc (by decide) (by decide) (by decide), pre_in hl wDst (by decide) (by decide) (by decide), por_in hl wSport (by decide), por_in hl wDport (by decide), fun _ => pro_in hl⟩, rfl⟩
/-- What was checked is, as it would be written, checked as the same. -/
theorem check_lines (size size' : Int) : ∀ (R : List Raw) (i : Nat) (had : Bool) (l : List Ent), checkGo size i had R = .ok l → (∀ x ∈ l, okE x) ∧ checkGo size' i had (l.map lineOf) = .ok l ∧ l.length = R.length ∧ i + R.length ≤ 64 ∨ R = [] ∧ had = true ∧ l = []
  | [], i, had, l, h => by
    rw [checkGo] at h
    split at h
    · rename_i hh
      obtain rfl : [] = l := Except.ok.inj h
      exact .inr ⟨rfl, hh, rfl⟩
    · cases h
  | r :: R, i, had, l, h => by
    left
    rw [checkGo] at h
    split at h
    · cases h
    rename_i hi
    split at h
    · cases h
    rename_i hdh
    obtain ⟨_, h1, ha⟩ := bindI h
    split at ha
    · cases ha
    rename_i hport
    obtain ⟨m, h2, hb⟩ := mapI ha
    subst hb
    have hf : r.dflt = false → faultR r = .ok () := fun hd => by rw [hd, if_neg (by decide)] at h1; exact h1
    have hp : r.drop = false → 1 ≤ r.port.n ∧ r.port.n ≤ 99 := fun hd => by
      rw [hd] at hport
      simp only [Bool.not_false, Bool.true_and, Bool.or_eq_true, decide_eq_true_eq, not_or] at hport
      omega
    obtain ⟨hok, hdf⟩ := okE_meaning r hf hp
    have hm := meaning_line _ hok
    have tail : (∀ x ∈ m, okE x) ∧ checkGo size' (i + 1) (had || r.dflt) (m.map lineOf) = .ok m ∧ m.length = R.length ∧ i + 1 + R.length ≤ 64 := by
      rcases check_lines size size' R (i + 1) (had || r.dflt) m h2 with ⟨a1, a2, a3, a4⟩ | ⟨rfl, b2, rfl⟩
      · exact ⟨a1, a2, a3, a4⟩
      · refine ⟨fun x hx => by simp at hx, ?_, rfl, by simp; omega⟩
        rw [List.map_nil, checkGo, if_pos b2]
    refine ⟨fun x hx => ?_, ?_, by simp [tail.2.2.1], by have := tail.2.2.2; simp; omega⟩
    · rcases List.mem_cons.1 hx with rfl | hx
      · exact hok
      · exact tail.1 x hx
    · have hd2 : (lineOf (meaning r)).dflt = r.dflt := hdf
      have hfl : (if (lineOf (meaning r)).dflt then (Except.ok () : ResI Unit) else faultR (lineOf (meaning r))) = .ok () := by
        cases hd : r.dflt with
        | true => rw [hd2, hd, if_pos rfl]
        | false => rw [hd2, hd, if_neg (by decide)]; exact fault_line _ hok (hdf.trans hd)
      have hpl : (!(lineOf (meaning r)).drop && (decide ((lineOf (meaning r)).port.n < 1) || decide (99 < (lineOf (meaning r)).port.n))) = false := by
        have := hok.act
        show (!decide ((meaning r).action = 0) && (decide ((meaning r).action < 1) || decide (99 < (meaning r).action))) = false
        by_cases c : (meaning r).action = 0
        · simp [c]
        · simp [c]; omega
      rw [List.map_cons, checkGo, if_neg hi, hd2, if_neg hdh]
      rw [hd2] at hfl
      rw [hfl]
      simp only [Except.bind]
      rw [hpl, if_neg (by decide), tail.2.1, hm]
      rfl
end Go.Proofs.YtfamnloobmdhdaaDoor
namespace Go.Proofs.YtfamnloobmdhdaaDoor
open Go
set_option maxRecDepth 20000

/-- Of what was checked just one entry is the default. -/
theorem check_one (size : Int) : ∀ (R : List Raw) (i : Nat) (had : Bool) (l : List Ent), checkGo size i had R = .ok l → (l.filter fun x => x.dflt).length + (if had then 1 else 0) = 1 ∧ l.length = R.length
  | [], i, had, l, h => by
    rw [checkGo] at h
    split at h
    · rename_i hh
      obtain rfl : [] = l := Except.ok.inj h
      rw [hh]; exact ⟨rfl, rfl⟩
    · cases h
  | r :: R, i, had, l, h => by
    rw [checkGo] at h
    split at h
    · cases h
    split at h
    · cases h
    rename_i hdh
    obtain ⟨_, h1, ha⟩ := bindI h
    split at ha
    · cases ha
    obtain ⟨m, h2, hb⟩ := mapI ha
    subst hb
    obtain ⟨ih, il⟩ := check_one size R (i + 1) (had || r.dflt) m h2
    have hd : (meaning r).dflt = r.dflt := by unfold meaning; cases r.dflt <;> rfl
    refine ⟨?_, by simp [il]⟩
    rw [List.filter_cons, hd]
    cases e : r.dflt with
    | false =>
      rw [e] at ih
      simpa using ih
    | true =>
      have hh : had = false := by
        rw [e, Bool.true_and] at hdh
        simpa using hdh
      rw [e, hh] at ih
      rw [hh]
      simp at ih ⊢
      exact ih
/-- What was read: entries as they may be, one of them the default. -/
theorem read_in {S : List UInt8} {l : List Ent} (h : readT S = .ok l) : (∀ x ∈ l, okE x) ∧ (l.filter fun x => x.dflt).length = 1 ∧ ∃ R, parseT S = .ok R ∧ l.length = R.length := by
  unfold readT at h
  cases hp : parseT S with
  | error x => rw [hp] at h; cases h
  | ok R =>
    rw [hp] at h
    obtain ⟨h1, h2⟩ := check_one _ R 0 false l h
    refine ⟨?_, by simpa using h1, R, rfl, h2⟩
    rcases check_lines _ 0 R 0 false l h with ⟨h3, _⟩ | ⟨_, h5, _⟩
    · exact h3
    · cases h5

/-! Which entry says something of a header: 'ap' tells whether an entry applies. -/
/-- The greatest priority that applies and isn't a default, the first of several: the place of the best so far, and its priority. -/
def beats (p : Int) : Option (Nat × Int) → Bool
  | none => true
  | some b => decide (b.2 < p)
def bestGo (ap : Ent → Bool) : Nat → Option (Nat × Int) → List Ent → Option (Nat × Int)
  | _, b, [] => b
  | i, b, x :: l => bestGo ap (i + 1) (if !x.dflt && ap x && beats x.prio b then some (i, x.prio) else b) l
def firstD : Nat → List Ent → Option Nat
  | _, [] => none
  | i, x :: l => if x.dflt then some i else firstD (i + 1) l
def whichT (ap : Ent → Bool) (l : List Ent) : Option Nat := match bestGo ap 0 none l with
  | some (i, _) => some i
  | none => firstD 0 l
theorem bestGo_in (ap : Ent → Bool) (L : List Ent) : ∀ (l : List Ent) (i : Nat) (b : Option (Nat × Int)), (∀ k, l[k]? = L[i + k]?) → (∀ j p, b = some (j, p) → ∃ x, L[j]? = some x ∧ x.prio = p ∧ x.dflt = false ∧ ap x = true) → ∀ j p, bestGo ap i b l = some (j, p) → ∃ x, L[j]? = some x ∧ x.prio = p ∧ x.dflt = false ∧ ap x = true
  | [], i, b, _, hb, j, p, h => hb j p h
  | x :: l, i, b, hL, hb, j, p, h => by
    rw [bestGo] at h
    refine bestGo_in ap L l (i + 1) _ (fun k => ?_) (fun j p hjp => ?_) j p h
    · have := hL (k + 1)
      rw [List.getElem?_cons_succ] at this
      rw [this]; congr 1; omega
    · split at hjp
      · rename_i hc
        simp only [Bool.and_eq_true, Bool.not_eq_true'] at hc
        obtain ⟨rfl, rfl⟩ := Prod.mk.inj (Option.some.inj hjp)
        have := hL 0
        simp only [List.getElem?_cons_zero, Nat.add_zero] at this
        exact ⟨x, this.symm, rfl, hc.1.1, hc.1.2⟩
      · exact hb j p hjp
end Go.Proofs.YtfamnloobmdhdaaDoor
