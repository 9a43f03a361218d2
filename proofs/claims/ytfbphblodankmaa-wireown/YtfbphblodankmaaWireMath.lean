import Derived.Test.YtfbphblodankmaaProg
namespace Go.Proofs.Ytfbphblodankmaa
open Go
set_option maxRecDepth 20000

/-- A number's lowest bytes, so many, the highest first. -/
def beB : Nat → Nat → List UInt8
  | 0, _ => []
  | k + 1, n => beB k (n / 256) ++ [UInt8.ofNat (n % 256)]
theorem beB_len : ∀ k n, (beB k n).length = k
  | 0, _ => rfl
  | k + 1, n => by rw [beB, List.length_append, beB_len k]; rfl
/-- The next byte stands ahead of those that were found. -/
theorem beB_ahead : ∀ k n, beB (k + 1) n = UInt8.ofNat (n / 256 ^ k % 256) :: beB k n
  | 0, n => by simp [beB]
  | k + 1, n => by
    have e : beB (k + 1) n = beB k (n / 256) ++ [UInt8.ofNat (n % 256)] := rfl
    rw [beB, beB_ahead k (n / 256), List.cons_append, ← e, Nat.div_div_eq_div_mul, ← Nat.pow_succ']
/-- Bytes as a number. -/
def valB (L : List UInt8) : Nat := L.foldl (fun n b => n * 256 + b.toNat) 0
theorem valB_snoc (L : List UInt8) (b : UInt8) : valB (L ++ [b]) = valB L * 256 + b.toNat := by unfold valB; rw [List.foldl_append]; rfl
theorem valB_lt : ∀ (L : List UInt8), valB L < 256 ^ L.length := by
  have key : ∀ (L : List UInt8) (n m : Nat), n < m → L.foldl (fun n b => n * 256 + b.toNat) n < m * 256 ^ L.length := by
    intro L
    induction L with
    | nil => intro n m h; simpa using h
    | cons b L ih =>
      intro n m h
      rw [List.foldl_cons, List.length_cons, Nat.pow_succ', ← Nat.mul_assoc]
      refine ih _ _ ?_
      have := b.toNat_lt
      have : n * 256 + 256 ≤ m * 256 := by
        have := Nat.mul_le_mul_right 256 (show n + 1 ≤ m from h)
        rw [Nat.add_mul, Nat.one_mul] at this
        exact this
      omega
  intro L
  have := key L 0 1 (by decide)
  rwa [Nat.one_mul] at this
theorem valB_be : ∀ k n, valB (beB k n) = n % 256 ^ k
  | 0, n => by rw [Nat.pow_zero, Nat.mod_one]; rfl
  | k + 1, n => by
    rw [beB, valB_snoc, valB_be k, UInt8.toNat_ofNat', Nat.mod_mod_of_dvd _ (by decide)]
    have h256 : 256 ^ (k + 1) = 256 * 256 ^ k := Nat.pow_succ'
    rw [h256, Nat.mod_mul]
    have : n % 256 % 256 = n % 256 := Nat.mod_mod _ _
    omega
/-- What was laid is taken again. -/
theorem take_put (k n : Nat) (h : n < 256 ^ k) : valB (beB k n) = n := by rw [valB_be, Nat.mod_eq_of_lt h]
/-- And the other way round. -/
theorem be_valB : ∀ L : List UInt8, beB L.length (valB L) = L := by
  have key : ∀ (k : Nat) (L : List UInt8), L.length = k → beB k (valB L) = L := by
    intro k
    induction k with
    | zero => intro L h; rw [List.eq_nil_of_length_eq_zero h]; rfl
    | succ k ih =>
      intro L h
      rcases List.eq_nil_or_concat L with rfl | ⟨L', b, rfl⟩
      · simp at h
      · rw [List.concat_eq_append] at h ⊢
        have hl : L'.length = k := by simpa using h
        have hb := b.toNat_lt
        rw [valB_snoc, beB, show (valB L' * 256 + b.toNat) / 256 = valB L' by omega, ih L' hl, show (valB L' * 256 + b.toNat) % 256 = b.toNat by omega, UInt8.ofNat_toNat]
  exact fun L => key _ L rfl
/-- What is left of a number behind its lowest bytes. -/
theorem be_rest (n k : Nat) : n / 256 ^ k = 0 ↔ n < 256 ^ k := by
  rw [Nat.div_eq_zero_iff]
  have : 0 < 256 ^ k := Nat.pow_pos (by decide)
  omega

/-- A frame. -/
def sealB (kind : Nat) (body : List UInt8) : List UInt8 := beB 2 body.length ++ (UInt8.ofNat kind :: body)
/-- The kind and the body of a frame. -/
def openB (b : List UInt8) : Option (Nat × List UInt8) := match b with
  | h :: l :: k :: body => if h.toNat * 256 + l.toNat = body.length then some (k.toNat, body) else none
  | _ => none
theorem seal_len (kind : Nat) (body : List UInt8) : (sealB kind body).length = body.length + 3 := by
  unfold sealB
  rw [List.length_append, beB_len]; simp; omega
theorem seal_form (kind : Nat) (body : List UInt8) (hb : body.length ≤ 65535) : ∃ h l : UInt8, sealB kind body = h :: l :: UInt8.ofNat kind :: body ∧ h.toNat * 256 + l.toNat = body.length := by
  refine ⟨UInt8.ofNat (body.length / 256 % 256), UInt8.ofNat (body.length % 256), ?_, ?_⟩
  · unfold sealB
    simp [beB]
  · rw [UInt8.toNat_ofNat', UInt8.toNat_ofNat']; omega
theorem open_seal (kind : Nat) (hk : kind < 256) (body : List UInt8) (hb : body.length ≤ 65535) : openB (sealB kind body) = some (kind, body) := by
  obtain ⟨h, l, e, hl⟩ := seal_form kind body hb
  rw [e]
  show (if h.toNat * 256 + l.toNat = body.length then some ((UInt8.ofNat kind).toNat, body) else none) = _
  rw [if_pos hl, UInt8.toNat_ofNat', Nat.mod_eq_of_lt hk]
/-- With a byte more, or less, it is none. -/
theorem open_more (kind : Nat) (body : List UInt8) (hb : body.length ≤ 65535) (m : UInt8) : openB (sealB kind body ++ [m]) = none := by
  obtain ⟨h, l, e, hl⟩ := seal_form kind body hb
  rw [e]
  show (if h.toNat * 256 + l.toNat = (body ++ [m]).length then some ((UInt8.ofNat kind).toNat, body ++ [m]) else none) = none
  rw [if_neg (by simp; omega)]
theorem open_less (kind : Nat) (body : List UInt8) (hb : body.length ≤ 65535) : openB ((sealB kind body).take ((sealB kind body).length - 1)) = none := by
  obtain ⟨h, l, e, hl⟩ := seal_form kind body hb
  rw [seal_len, e]
  cases body with
  | nil => rfl
  | cons c body =>
    rw [show (c :: body).length + 3 - 1 = body.length + 3 by simp]
    simp only [List.take_succ_cons]
    show (if h.toNat * 256 + l.toNat = ((c :: body).take body.length).length then _ else none) = none
    rw [if_neg (by simp at hl ⊢; omega)]
/-- What is opened is sealed to the same bytes. -/
theorem seal_open {b : List UInt8} {k : Nat} {body : List UInt8} (h : openB b = some (k, body)) : sealB k body = b ∧ k < 256 ∧ body.length ≤ 65535 := by
  unfold openB at h
  split at h
  · rename_i x l c d
    split at h
    · rename_i hl
      obtain ⟨rfl, rfl⟩ := Prod.mk.inj (Option.some.inj h)
      have hx := x.toNat_lt
      have hl2 := l.toNat_lt
      refine ⟨?_, c.toNat_lt, by omega⟩
      unfold sealB
      rw [show beB 2 d.length = [x, l] from ?_]
      · rw [UInt8.ofNat_toNat]; rfl
      · have := be_valB [x, l]
        rw [← this]
        congr 1
        show d.length = (0 * 256 + x.toNat) * 256 + l.toNat
        omega
    · cases h
  · cases h
end Go.Proofs.Ytfbphblodankmaa
