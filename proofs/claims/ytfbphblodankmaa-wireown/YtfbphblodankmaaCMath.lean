import Derived.Test.YtfbphblodankmaaRefPut2
namespace Go.Proofs.Ytfbphblodankmaa
open Go Go.RowKit
set_option maxRecDepth 20000

/-- A byte's bit, the highest first. -/
def yb (x : Int) (j : Nat) : Bool := x / 2 ^ (7 - j) % 2 == 1
/-- A header's bit. -/
def bt (L : List Int) (i : Nat) : Bool := yb (L.getD (i / 8) 0) (i % 8)

theorem yb_test (x : Int) (h : 0 ≤ x) (j : Nat) : yb x j = x.toNat.testBit (7 - j) := by
  unfold yb
  obtain ⟨n, rfl⟩ := Int.eq_ofNat_of_zero_le h
  rw [Nat.testBit_eq_decide_div_mod_eq, Bool.eq_iff_iff, beq_iff_eq, decide_eq_true_eq, Int.toNat_natCast]
  constructor
  · intro h; exact_mod_cast h
  · intro h; exact_mod_cast h

theorem bits_u8 (op : BinOp) (x y : Int) : 0 ≤ bits op .u8 x y ∧ bits op .u8 x y < 256 := by
  unfold bits
  simp only []
  rw [IntKind.wrap_u8]
  omega

theorem ofInt8 (x : Int) (h0 : 0 ≤ x) (h1 : x < 256) : (BitVec.ofInt 8 x).toNat = x.toNat := by
  rw [BitVec.toNat_ofInt]; omega

theorem and_nat (x y : Int) (hx : 0 ≤ x ∧ x < 256) (hy : 0 ≤ y ∧ y < 256) : (bits .and .u8 x y).toNat = x.toNat &&& y.toNat := by
  have e : bits .and .u8 x y = ((BitVec.ofInt 8 x &&& BitVec.ofInt 8 y).toNat : Int) % 256 := by
    unfold bits
    simp only []
    rw [IntKind.wrap_u8]
    rfl
  rw [e, BitVec.toNat_and, ofInt8 x hx.1 hx.2, ofInt8 y hy.1 hy.2]
  have := Nat.and_lt_two_pow (n := 8) x.toNat (y := y.toNat) (by omega)
  omega
theorem or_nat (x y : Int) (hx : 0 ≤ x ∧ x < 256) (hy : 0 ≤ y ∧ y < 256) : (bits .or .u8 x y).toNat = x.toNat ||| y.toNat := by
  have e : bits .or .u8 x y = ((BitVec.ofInt 8 x ||| BitVec.ofInt 8 y).toNat : Int) % 256 := by
    unfold bits
    simp only []
    rw [IntKind.wrap_u8]
    rfl
  rw [e, BitVec.toNat_or, ofInt8 x hx.1 hx.2, ofInt8 y hy.1 hy.2]
  have := Nat.or_lt_two_pow (n := 8) (x := x.toNat) (y := y.toNat) (by omega) (by omega)
  omega
theorem xor_nat (x y : Int) (hx : 0 ≤ x ∧ x < 256) (hy : 0 ≤ y ∧ y < 256) : (bits .xor .u8 x y).toNat = x.toNat ^^^ y.toNat := by
  have e : bits .xor .u8 x y = ((BitVec.ofInt 8 x ^^^ BitVec.ofInt 8 y).toNat : Int) % 256 := by
    unfold bits
    simp only []
    rw [IntKind.wrap_u8]
    rfl
  rw [e, BitVec.toNat_xor, ofInt8 x hx.1 hx.2, ofInt8 y hy.1 hy.2]
  have := Nat.xor_lt_two_pow (n := 8) (x := x.toNat) (y := y.toNat) (by omega) (by omega)
  omega

theorem and_yb (x y : Int) (hx : 0 ≤ x ∧ x < 256) (hy : 0 ≤ y ∧ y < 256) (j : Nat) : yb (bits .and .u8 x y) j = (yb x j && yb y j) := by
  rw [yb_test _ (bits_u8 _ _ _).1, yb_test _ hx.1, yb_test _ hy.1, and_nat x y hx hy, Nat.testBit_and]
theorem or_yb (x y : Int) (hx : 0 ≤ x ∧ x < 256) (hy : 0 ≤ y ∧ y < 256) (j : Nat) : yb (bits .or .u8 x y) j = (yb x j || yb y j) := by
  rw [yb_test _ (bits_u8 _ _ _).1, yb_test _ hx.1, yb_test _ hy.1, or_nat x y hx hy, Nat.testBit_or]
theorem xor_yb (x y : Int) (hx : 0 ≤ x ∧ x < 256) (hy : 0 ≤ y ∧ y < 256) (j : Nat) : yb (bits .xor .u8 x y) j = (yb x j != yb y j) := by
  rw [yb_test _ (bits_u8 _ _ _).1, yb_test _ hx.1, yb_test _ hy.1, xor_nat x y hx hy, Nat.testBit_xor]

theorem yb_255 (j : Nat) (hj : j < 8) : yb 255 j = true := by
  have : ∀ j : Fin 8, yb 255 j.val = true := by decide
  exact this ⟨j, hj⟩
theorem yb_0 (j : Nat) : yb 0 j = false := by unfold yb; simp

theorem byte_ext (x y : Int) (hx : 0 ≤ x ∧ x < 256) (hy : 0 ≤ y ∧ y < 256) (h : ∀ j, j < 8 → yb x j = yb y j) : x = y := by
  have g : ∀ j, j < 8 → x / 2 ^ (7 - j) % 2 = y / 2 ^ (7 - j) % 2 := fun j hj => by
    have := h j hj
    unfold yb at this
    rw [Bool.eq_iff_iff, beq_iff_eq, beq_iff_eq] at this
    have a1 : x / 2 ^ (7 - j) % 2 = 0 ∨ x / 2 ^ (7 - j) % 2 = 1 := by omega
    have a2 : y / 2 ^ (7 - j) % 2 = 0 ∨ y / 2 ^ (7 - j) % 2 = 1 := by omega
    omega
  have g0 := g 0 (by decide)
  have g1 := g 1 (by decide)
  have g2 := g 2 (by decide)
  have g3 := g 3 (by decide)
  have g4 := g 4 (by decide)
  have g5 := g 5 (by decide)
  have g6 := g 6 (by decide)
  have g7 := g 7 (by decide)
  simp only [Nat.sub_zero, Nat.reduceSub, Int.reducePow, Int.pow_zero, Int.ediv_one] at g0 g1 g2 g3 g4 g5 g6 g7
  omega

theorem zero_byte (x : Int) (hx : 0 ≤ x ∧ x < 256) : x = 0 ↔ ∀ j, j < 8 → yb x j = false :=
  ⟨fun h j _ => by rw [h, yb_0], fun h => byte_ext x 0 hx (by decide) fun j hj => by rw [h j hj, yb_0]⟩

theorem ext13 (A B : List Int) (hA : A.length = 13) (hB : B.length = 13) (h : ∀ k, k < 13 → A.getD k 0 = B.getD k 0) : A = B := by
  apply List.ext_getElem (by omega)
  intro k h1 h2
  have := h k (by omega)
  simpa [List.getD, h1, h2] using this

theorem bt_ext (A B : List Int) (hA : Byt A) (hB : Byt B) (h : ∀ i, i < 104 → bt A i = bt B i) : A = B :=
  ext13 A B hA.1 hB.1 fun k hk => byte_ext _ _ (hA.2 k) (hB.2 k) fun j hj => by
    have := h (8 * k + j) (by omega)
    unfold bt at this
    rwa [show (8 * k + j) / 8 = k by omega, show (8 * k + j) % 8 = j by omega] at this

/-- The byte with these bits. -/
def mkY (f : Nat → Bool) : Int :=
  (if f 0 then 128 else 0) + (if f 1 then 64 else 0) + (if f 2 then 32 else 0) + (if f 3 then 16 else 0) + (if f 4 then 8 else 0) + (if f 5 then 4 else 0) + (if f 6 then 2 else 0) + (if f 7 then 1 else 0)
theorem mkY_yb (f : Nat → Bool) (j : Nat) (hj : j < 8) : yb (mkY f) j = f j := by
  have h : ∀ a b c d e g h i : Bool, ∀ j : Fin 8, yb ((if a then 128 else 0) + (if b then 64 else 0) + (if c then 32 else 0) + (if d then 16 else 0) + (if e then 8 else 0) + (if g then 4 else 0) + (if h then 2 else 0) + (if i then 1 else 0)) j.val = [a, b, c, d, e, g, h, i].getD j.val false := by decide +kernel
  unfold mkY
  rw [h _ _ _ _ _ _ _ _ ⟨j, hj⟩]
  rcases (show j = 0 ∨ j = 1 ∨ j = 2 ∨ j = 3 ∨ j = 4 ∨ j = 5 ∨ j = 6 ∨ j = 7 by omega) with h | h | h | h | h | h | h | h <;> subst h <;> rfl
theorem mkY_bd (f : Nat → Bool) : 0 ≤ mkY f ∧ mkY f < 256 := by
  unfold mkY
  constructor <;> (repeat' split) <;> omega

/-- The header with these bits. -/
def mk (f : Nat → Bool) : List Int := (List.range 13).map fun k => mkY fun j => f (8 * k + j)
theorem mk_at (f : Nat → Bool) (k : Nat) (hk : k < 13) : (mk f).getD k 0 = mkY fun j => f (8 * k + j) := by
  unfold mk
  simp [List.getD, hk]
theorem mk_byt (f : Nat → Bool) : Byt (mk f) := by
  refine ⟨by simp [mk], fun k => ?_⟩
  rcases Nat.lt_or_ge k 13 with h | h
  · rw [mk_at f k h]; exact mkY_bd _
  · rw [List.getD, List.getElem?_eq_none (by simpa [mk] using h)]; decide
theorem mk_bt (f : Nat → Bool) (i : Nat) (hi : i < 104) : bt (mk f) i = f i := by
  unfold bt
  rw [mk_at f _ (by omega), mkY_yb _ _ (by omega)]
  congr 1; omega
theorem mk_eq (L : List Int) (hL : Byt L) (f : Nat → Bool) (h : ∀ i, i < 104 → bt L i = f i) : L = mk f :=
  bt_ext L _ hL (mk_byt f) fun i hi => by rw [h i hi, mk_bt f i hi]
theorem mk_ext (f g : Nat → Bool) (h : ∀ i, i < 104 → f i = g i) : mk f = mk g :=
  mk_eq _ (mk_byt f) g fun i hi => by rw [mk_bt f i hi, h i hi]
theorem mk_of (L : List Int) (hL : Byt L) : mk (bt L) = L := (mk_eq L hL _ fun _ _ => rfl).symm
theorem mk_inj (f g : Nat → Bool) (h : mk f = mk g) : ∀ i, i < 104 → f i = g i := fun i hi => by rw [← mk_bt f i hi, ← mk_bt g i hi, h]

theorem bitB_bt (L : List Int) (i : Nat) (hi : i < 104) : bitB L (i : Int) = bt L i := by
  unfold bitB byteAt bt yb
  rw [decide_eq_true (by omega), Bool.true_and, show ((i : Int) / 8).toNat = i / 8 by omega, show (7 - (i : Int) % 8).toNat = 7 - i % 8 by omega]
theorem setB_mk (L : List Int) (hL : Byt L) (i : Nat) (b : Bool) (hi : i < 104) : setB L (i : Int) b = mk fun k => if k = i then b else bt L k := by
  obtain ⟨h1, h2⟩ := setB_bit L hL i b (by omega) (by omega)
  refine mk_eq _ h1 _ fun k hk => ?_
  rw [← bitB_bt _ k hk, h2 k (by omega) (by omega), ← bitB_bt L k hk]
  by_cases e : k = i
  · rw [if_pos e, if_pos (by omega)]
  · rw [if_neg e, if_neg (by omega)]
theorem flipL_mk (L : List Int) (hL : Byt L) (i : Nat) (hi : i < 104) : flipL L (i : Int) = mk fun k => if k = i then !(bt L k) else bt L k := by
  refine mk_eq _ (flip_byt L hL i) _ fun k hk => ?_
  rw [← bitB_bt _ k hk, flip_bit L hL i k, bitB_bt L k hk, decide_eq_true (by omega)]
  by_cases e : k = i
  · rw [if_pos e, decide_eq_true (by omega)]; cases bt L k <;> rfl
  · rw [if_neg e, decide_eq_false (by omega)]; cases bt L k <;> rfl
theorem Byt.at {L : List Int} (h : Byt L) (k : Nat) : 0 ≤ L.getD k 0 ∧ L.getD k 0 < 256 := h.2 k
theorem byt_set (L : List Int) (hL : Byt L) (k : Nat) (x : Int) (hk : k < 13) (hx : 0 ≤ x ∧ x < 256) : Byt (L.set k x) := by
  refine ⟨by rw [List.length_set]; exact hL.1, fun j => ?_⟩
  rw [getD_set _ _ _ _ (by rw [hL.1]; exact hk)]
  split
  · exact hx
  · exact hL.2 j
end Go.Proofs.Ytfbphblodankmaa
