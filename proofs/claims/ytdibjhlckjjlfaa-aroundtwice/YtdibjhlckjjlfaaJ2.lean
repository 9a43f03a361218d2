import Derived.Test.YtdibjhlckjjlfaaJ1
import Derived.StillTail
namespace Go.Proofs.Ytdibjhlckjjlfaa
open Go Go.RowKit
set_option maxRecDepth 20000

/-- A byte's bit, the highest first. -/
def yb (x : Int) (j : Nat) : Bool := x / 2 ^ (7 - j) % 2 == 1
/-- A header's bit. -/
def bt (L : List Int) (i : Nat) : Bool := yb (L.getD (i / 8) 0) (i % 8)

theorem yb_test (x : Int) (h : 0 ≤ x) (j : Nat) : yb x j = x.toNat.testBit (7 - j) := by
  unfold yb
  obtain ⟨n, rfl⟩ := Int.eq_ofNat_of_zero_le h
  rw [Nat.testBit_eq_decide_div_mod_eq, Bool.eq_iff_iff, beq_iff_eq, decide_eq_true_eq, Int.toNat_natCast]
  constructor
  · intro h; exact_mod_cast h
  · intro h; exact_mod_cast h

theorem bits_u8 (op : BinOp) (x y : Int) : 0 ≤ bits op .u8 x y ∧ bits op .u8 x y < 256 := by
  unfold bits
  simp only []
  rw [IntKind.wrap_u8]
  omega

theorem ofInt8 (x : Int) (h0 : 0 ≤ x) (h1 : x < 256) : (BitVec.ofInt 8 x).toNat = x.toNat := by
  rw [BitVec.toNat_ofInt]; omega

theorem and_nat (x y : Int) (hx : 0 ≤ x ∧ x < 256) (hy : 0 ≤ y ∧ y < 256) : (bits .and .u8 x y).toNat = x.toNat &&& y.toNat := by
  have e : bits .and .u8 x y = ((BitVec.ofInt 8 x &&& BitVec.ofInt 8 y).toNat : Int) % 256 := by
    unfold bits
    simp only []
    rw [IntKind.wrap_u8]
    rfl
  rw [e, BitVec.toNat_and, ofInt8 x hx.1 hx.2, ofInt8 y hy.1 hy.2]
  have := Nat.and_lt_two_pow (n := 8) x.toNat (y := y.toNat) (by omega)
  omega
theorem or_nat (x y : Int) (hx : 0 ≤ x ∧ x < 256) (hy : 0 ≤ y ∧ y < 256) : (bits .or .u8 x y).toNat = x.toNat ||| y.toNat := by
  have e : bits .or .u8 x y = ((BitVec.ofInt 8 x ||| BitVec.ofInt 8 y).toNat : Int) % 256 := by
    unfold bits
    simp only []
    rw [IntKind.wrap_u8]
    rfl
  rw [e, BitVec.toNat_or, ofInt8 x hx.1 hx.2, ofInt8 y hy.1 hy.2]
  have := Nat.or_lt_two_pow (n := 8) (x := x.toNat) (y := y.toNat) (by omega) (by omega)
  omega
theorem xor_nat (x y : Int) (hx : 0 ≤ x ∧ x < 256) (hy : 0 ≤ y ∧ y < 256) : (bits .xor .u8 x y).toNat = x.toNat ^^^ y.toNat := by
  have e : bits .xor .u8 x y = ((BitVec.ofInt 8 x ^^^ BitVec.ofInt 8 y).toNat : Int) % 256 := by
    unfold bits
    simp only []
    rw [IntKind.wrap_u8]
    rfl
  rw [e, BitVec.toNat_xor, ofInt8 x hx.1 hx.2, ofInt8 y hy.1 hy.2]
  have := Nat.xor_lt_two_pow (n := 8) (x := x.toNat) (y := y.toNat) (by omega) (by omega)
  omega

theorem and_yb (x y : Int) (hx : 0 ≤ x ∧ x < 256) (hy : 0 ≤ y ∧ y < 256) (j : Nat) : yb (bits .and .u8 x y) j = (yb x j && yb y j) := by
  rw [yb_test _ (bits_u8 _ _ _).1, yb_test _ hx.1, yb_test _ hy.1, and_nat x y hx hy, Nat.testBit_and]
theorem or_yb (x y : Int) (hx : 0 ≤ x ∧ x < 256) (hy : 0 ≤ y ∧ y < 256) (j : Nat) : yb (bits .or .u8 x y) j = (yb x j || yb y j) := by
  rw [yb_test _ (bits_u8 _ _ _).1, yb_test _ hx.1, yb_test _ hy.1, or_nat x y hx hy, Nat.testBit_or]
theorem xor_yb (x y : Int) (hx : 0 ≤ x ∧ x < 256) (hy : 0 ≤ y ∧ y < 256) (j : Nat) : yb (bits .xor .u8 x y) j = (yb x j != yb y j) := by
  rw [yb_test _ (bits_u8 _ _ _).1, yb_test _ hx.1, yb_test _ hy.1, xor_nat x y hx hy, Nat.testBit_xor]

theorem yb_0 (j : Nat) : yb 0 j = false := by unfold yb; simp

theorem byte_ext (x y : Int) (hx : 0 ≤ x ∧ x < 256) (hy : 0 ≤ y ∧ y < 256) (h : ∀ j, j < 8 → yb x j = yb y j) : x = y := by
  have g : ∀ j, j < 8 → x / 2 ^ (7 - j) % 2 = y / 2 ^ (7 - j) % 2 := fun j hj => by
    have := h j hj
    unfold yb at this
    rw [Bool.eq_iff_iff, beq_iff_eq, beq_iff_eq] at this
    have a1 : x / 2 ^ (7 - j) % 2 = 0 ∨ x / 2 ^ (7 - j) % 2 = 1 := by omega
    have a2 : y / 2 ^ (7 - j) % 2 = 0 ∨ y / 2 ^ (7 - j) % 2 = 1 := by omega
    omega
  have g0 := g 0 (by decide)
  have g1 := g 1 (by decide)
  have g2 := g 2 (by decide)
  have g3 := g 3 (by decide)
  have g4 := g 4 (by decide)
  have g5 := g 5 (by decide)
  have g6 := g 6 (by decide)
  have g7 := g 7 (by decide)
  simp only [Nat.sub_zero, Nat.reduceSub, Int.reducePow, Int.pow_zero, Int.ediv_one] at g0 g1 g2 g3 g4 g5 g6 g7
  omega

theorem zero_byte (x : Int) (hx : 0 ≤ x ∧ x < 256) : x = 0 ↔ ∀ j, j < 8 → yb x j = false :=
  ⟨fun h j _ => by rw [h, yb_0], fun h => byte_ext x 0 hx (by decide) fun j hj => by rw [h j hj, yb_0]⟩

theorem ext13 (A B : List Int) (hA : A.length = 13) (hB : B.length = 13) (h : ∀ k, k < 13 → A.getD k 0 = B.getD k 0) : A = B := by
  apply List.ext_getElem (by omega)
  intro k h1 h2
  have := h k (by omega)
  simpa [List.getD, h1, h2] using this

theorem bt_ext (A B : List Int) (hA : Byt A) (hB : Byt B) (h : ∀ i, i < 104 → bt A i = bt B i) : A = B :=
  ext13 A B hA.1 hB.1 fun k hk => byte_ext _ _ (hA.2 k) (hB.2 k) fun j hj => by
    have := h (8 * k + j) (by omega)
    unfold bt at this
    rwa [show (8 * k + j) / 8 = k by omega, show (8 * k + j) % 8 = j by omega] at this

/-- The byte with these bits. -/
def mkY (f : Nat → Bool) : Int :=
  (if f 0 then 128 else 0) + (if f 1 then 64 else 0) + (if f 2 then 32 else 0) + (if f 3 then 16 else 0) + (if f 4 then 8 else 0) + (if f 5 then 4 else 0) + (if f 6 then 2 else 0) + (if f 7 then 1 else 0)
theorem mkY_yb (f : Nat → Bool) (j : Nat) (hj : j < 8) : yb (mkY f) j = f j := by
  have h : ∀ a b c d e g h i : Bool, ∀ j : Fin 8, yb ((if a then 128 else 0) + (if b then 64 else 0) + (if c then 32 else 0) + (if d then 16 else 0) + (if e then 8 else 0) + (if g then 4 else 0) + (if h then 2 else 0) + (if i then 1 else 0)) j.val = [a, b, c, d, e, g, h, i].getD j.val false := by decide +kernel
  unfold mkY
  rw [h _ _ _ _ _ _ _ _ ⟨j, hj⟩]
  rcases (show j = 0 ∨ j = 1 ∨ j = 2 ∨ j = 3 ∨ j = 4 ∨ j = 5 ∨ j = 6 ∨ j = 7 by omega) with h | h | h | h | h | h | h | h <;> subst h <;> rfl
theorem mkY_bd (f : Nat → Bool) : 0 ≤ mkY f ∧ mkY f < 256 := by
  unfold mkY
  constructor <;> (repeat' split) <;> omega

/-- The header with these bits. -/
def mk (f : Nat → Bool) : List Int := (List.range 13).map fun k => mkY fun j => f (8 * k + j)
theorem mk_at (f : Nat → Bool) (k : Nat) (hk : k < 13) : (mk f).getD k 0 = mkY fun j => f (8 * k + j) := by
  unfold mk
  simp [List.getD, hk]
theorem mk_byt (f : Nat → Bool) : Byt (mk f) := by
  refine ⟨by simp [mk], fun k => ?_⟩
  rcases Nat.lt_or_ge k 13 with h | h
  · rw [mk_at f k h]; exact mkY_bd _
  · rw [List.getD, List.getElem?_eq_none (by simpa [mk] using h)]; decide
theorem mk_bt (f : Nat → Bool) (i : Nat) (hi : i < 104) : bt (mk f) i = f i := by
  unfold bt
  rw [mk_at f _ (by omega), mkY_yb _ _ (by omega)]
  congr 1; omega
theorem mk_eq (L : List Int) (hL : Byt L) (f : Nat → Bool) (h : ∀ i, i < 104 → bt L i = f i) : L = mk f :=
  bt_ext L _ hL (mk_byt f) fun i hi => by rw [h i hi, mk_bt f i hi]
theorem mk_ext (f g : Nat → Bool) (h : ∀ i, i < 104 → f i = g i) : mk f = mk g :=
  mk_eq _ (mk_byt f) g fun i hi => by rw [mk_bt f i hi, h i hi]
theorem mk_of (L : List Int) (hL : Byt L) : mk (bt L) = L := (mk_eq L hL _ fun _ _ => rfl).symm
theorem bitB_bt (L : List Int) (i : Nat) (hi : i < 104) : bitB L (i : Int) = bt L i := by
  unfold bitB byteAt bt yb
  rw [decide_eq_true (by omega), Bool.true_and, show ((i : Int) / 8).toNat = i / 8 by omega, show (7 - (i : Int) % 8).toNat = 7 - i % 8 by omega]
theorem setB_mk (L : List Int) (hL : Byt L) (i : Nat) (b : Bool) (hi : i < 104) : setB L (i : Int) b = mk fun k => if k = i then b else bt L k := by
  obtain ⟨h1, h2⟩ := setB_bit L hL i b (by omega) (by omega)
  refine mk_eq _ h1 _ fun k hk => ?_
  rw [← bitB_bt _ k hk, h2 k (by omega) (by omega), ← bitB_bt L k hk]
  by_cases e : k = i
  · rw [if_pos e, if_pos (by omega)]
  · rw [if_neg e, if_neg (by omega)]
theorem flipL_mk (L : List Int) (hL : Byt L) (i : Nat) (hi : i < 104) : flipL L (i : Int) = mk fun k => if k = i then !(bt L k) else bt L k := by
  refine mk_eq _ (flip_byt L hL i) _ fun k hk => ?_
  rw [← bitB_bt _ k hk, flip_bit L hL i k, bitB_bt L k hk, decide_eq_true (by omega)]
  by_cases e : k = i
  · rw [if_pos e, decide_eq_true (by omega)]; cases bt L k <;> rfl
  · rw [if_neg e, decide_eq_false (by omega)]; cases bt L k <;> rfl
theorem Byt.at {L : List Int} (h : Byt L) (k : Nat) : 0 ≤ L.getD k 0 ∧ L.getD k 0 < 256 := h.2 k
theorem byt_set (L : List Int) (hL : Byt L) (k : Nat) (x : Int) (hk : k < 13) (hx : 0 ≤ x ∧ x < 256) : Byt (L.set k x) := by
  refine ⟨by rw [List.length_set]; exact hL.1, fun j => ?_⟩
  rw [getD_set _ _ _ _ (by rw [hL.1]; exact hk)]
  split
  · exact hx
  · exact hL.2 j
end Go.Proofs.Ytdibjhlckjjlfaa
namespace Go.Proofs.Ytdibjhlckjjlfaa
open Go Go.RowKit
set_option maxRecDepth 20000

section
variable {P : Program} {ops : Array Oper} {md : Region.Mode} {C : World → Prop}
def anyL (P : Program) (md : Region.Mode) (ops : Array Oper) (C : World → Prop) (n : Nat) (L : Array Bool → Act → Prop) : Nat → Array Bool → Act → Prop
  | 0, listed, a => L listed a
  | f + 1, listed, a =>
    Region.ready md ops listed ≠ [] ∧ ∀ i ∈ Region.ready md ops listed, i < n ∧ qOp P ops C i (anyL P md ops C n L f (listed.setIfInBounds i true)) a
theorem any_of_head {n g : Nat} {L : Array Bool → Act → Prop} {Q' : Exit → Act → World → Prop} (hL : ∀ listed a w, C w → L listed a → wpAny P md ops Q' g listed a w) :
    ∀ (f : Nat) (listed : Array Bool) (a : Act) (w : World), C w → anyL P md ops C n L f listed a → wpAny P md ops Q' (f + g) listed a w
  | 0, listed, a, w, hw, h => by rw [Nat.zero_add]; exact hL _ _ _ hw h
  | f + 1, listed, a, w, hw, h => by
    rw [show f + 1 + g = (f + g) + 1 by omega]
    exact ⟨fun h0 => absurd h0 h.1, fun i hi => wpOp_of_qOp hw (fun a' w' hw' h' => any_of_head hL f _ a' w' hw' h') (h.2 i hi).2⟩
theorem anyL_first {n i : Nat} {oi : Oper} {v : Value} {L : Array Bool → Act → Prop} (hi : ops[i]? = some oi) (hsel : ∀ (j : Nat) (o : Oper) cs b, ops[j]? = some o → o.op ≠ .select cs b)
    (hs : Region.sinkB md ops n = true) (hc : Region.chainB md ops n = true) (hn : n < ops.size) (hin : i < n)
    (hdone : ∀ listed a, L listed a → ∀ j ∈ Region.ready md ops listed, n ≤ j) :
    ∀ (f : Nat) (listed : Array Bool) (a : Act), HeadInv md ops n listed →
      (∀ j oj, ops[j]? = some oj → j ≠ i → listed.getD j true = false → (∀ e ∈ oj.after, Region.binds md e = true → e.on ≠ i) → oi.apart ops oj = true) →
      i ∈ Region.ready md ops listed → YieldsIn P ops C oi v a →
      anyL P md ops C n L f (listed.setIfInBounds i true) (a.put oi.dst v) → anyL P md ops C n L (f + 1) listed a := by
  intro f
  induction f with
  | zero =>
    intro listed a inv _ hr hy H
    have hun := (mem_ready.1 hr).1
    refine ⟨fun h => (by rw [h] at hr; cases hr), fun j hj => ?_⟩
    have hjn : j < n := by
      rcases Nat.lt_or_ge j n with h | h
      · exact h
      · exact absurd hj (tail_waits hs hc hn inv _ i rfl hin hun j h)
    refine ⟨hjn, ?_⟩
    by_cases hji : j = i
    · subst hji; exact hy.qOp hi H
    · have := hdone _ _ H j (ready_mono hj hji)
      omega
  | succ f ih =>
    intro listed a inv hfree hr hy H
    have hun := (mem_ready.1 hr).1
    refine ⟨fun h => (by rw [h] at hr; cases hr), fun j hj => ?_⟩
    have hjn : j < n := by
      rcases Nat.lt_or_ge j n with h | h
      · exact h
      · exact absurd hj (tail_waits hs hc hn inv _ i rfl hin hun j h)
    refine ⟨hjn, ?_⟩
    by_cases hji : j = i
    · subst hji; exact hy.qOp hi H
    · have h1 := (H.2 j (ready_mono hj hji)).2
      obtain ⟨hjun, oj, hoj, hall⟩ := mem_ready.1 hj
      have hnot : ∀ e ∈ oj.after, Region.binds md e = true → e.on ≠ i := fun e he hb heq => by
        have h1 := hall e he hb
        rw [heq, getD_both hun] at h1
        cases h1
      have h2 := qOp_put hoj (hfree j oj hoj hji hjun hnot) (fun cs b => hsel i oi cs b hi) (fun cs b => hsel j oj cs b hoj) hy h1
      have hfree' : ∀ k ok, ops[k]? = some ok → k ≠ i → (listed.setIfInBounds j true).getD k true = false →
          (∀ e ∈ ok.after, Region.binds md e = true → e.on ≠ i) → oi.apart ops ok = true := fun k ok hk hki hun hno => by
        refine hfree k ok hk hki ?_ hno
        by_cases hjk : j = k
        · subst hjk; exact hjun
        · rw [getD_set_ne true hjk] at hun; exact hun
      refine qOp_mono (fun a' h3 => ih (listed.setIfInBounds j true) a' (inv.set hj hjn) hfree' (ready_mono hr (Ne.symm hji)) h3.1 ?_) h2
      rw [Array.setIfInBounds_comm _ _ hji]
      exact h3.2
theorem anyL_lex {n g : Nat} {Lq : Act → Prop} (hsel : Region.noSelect ops = true) (hs : Region.sinkB md ops n = true) (hc : Region.chainB md ops n = true) (hn : n < ops.size) :
    ∀ (l : List Oper) (k : Nat) (listed : Array Bool) (a : Act), (∀ j, j < l.length → l[j]? = ops[k + j]?) → k + l.length = n → HeadInv md ops n listed →
    Region.lexHead md ops g l.length k listed = true → wpQuiet P ops C Lq l a →
    anyL P md ops C n (fun listed' a' => Region.seqB md ops g n listed' = true ∧ Lq a') l.length listed a
  | [], k, listed, a, _, hk, _, hB, h => by
    have : k = n := by simpa using hk
    subst this
    exact ⟨by simpa [Region.lexHead] using hB, h⟩
  | o :: l, k, listed, a, hl, hk, inv, hB, h => by
    have h0 : ops[k]? = some o := by simpa using (hl 0 (by simp)).symm
    simp only [List.length_cons, Region.lexHead, Bool.and_eq_true] at hB
    obtain ⟨⟨hr, hf⟩, hB'⟩ := hB
    have hkn : k < n := by simp only [List.length_cons] at hk; omega
    have hr' : k ∈ Region.ready md ops listed := by simpa using hr
    have hst : qOp P ops C k (wpQuiet P ops C Lq l) a := by unfold qOp; simp only [h0]; exact h
    obtain ⟨v, hy, hK⟩ := yieldsIn_of_qOp h0 hst
    exact anyL_first h0 (Region.noSelect_spec hsel) hs hc hn hkn (fun listed' a' hL => seqB_ready hL.1) l.length listed a inv (Region.free_spec h0 hf) hr' hy
      (anyL_lex hsel hs hc hn l (k + 1) _ _ (fun j hj => by have := hl (j + 1) (by simp; omega); simpa [Nat.add_assoc, Nat.add_comm 1 j] using this) (by simp only [List.length_cons] at hk; omega) (inv.set hr' hkn) hB' hK)
end

/-- A drawn region whose first n operations only read and call, in any order, and whose rest comes behind them in order. -/
theorem wp_region_latertail {P : Program} {id : Nat} {Q : Exit → Act → World → Prop} {a : Act} {w : World} {l : List Oper} (n : Nat) (hm : P.follows .mixedOrders = true) (hB : Region.lexTailB .any l.toArray n = true)
    (h : wpQuiet P l.toArray (fun w' => ∃ u : Later w, w' = u.world) (fun a' => ∀ w', (∃ u : Later w, w' = u.world) → wpList P l.toArray Q (l.drop n) a' w') (l.take n) a) : (Code.region id l.toArray true).wp P Q a w := by
  simp only [Region.lexTailB, Bool.and_eq_true, decide_eq_true_eq] at hB
  obtain ⟨⟨⟨⟨hsel, hn⟩, hs⟩, hc⟩, hlex⟩ := hB
  have hn' : n < l.length := by simpa using hn
  have htl : (l.take n).length = n := by simp; omega
  have hdl : (l.drop n).length = l.toArray.size - n := by simp
  have inv0 : HeadInv .any l.toArray n (Array.replicate l.toArray.size false) :=
    ⟨by simp, fun j oj _ hl => (by rw [getD_replicate_false] at hl; cases hl), fun t _ ht => getD_in (by simpa using ht) (getD_replicate_false _ _)⟩
  have H := anyL_lex (md := .any) (g := l.toArray.size - n) hsel hs hc hn (l.take n) 0 _ a (fun j hj => by
    have hj' : j < n := by rw [htl] at hj; exact hj
    simp [hj']) (by simpa using htl) inv0 (by rw [htl]; exact hlex) h
  refine wp_region_any hm ?_
  have hC : (fun w' => ∃ u : Later w, w' = u.world) w.drew := ⟨⟨w.drew, (Below.refl _ _).drew⟩, rfl⟩
  have := any_of_head (Q' := Q) (g := l.toArray.size - n) (fun listed a' w' hw' hL => by
    rw [← hdl] at hL ⊢
    exact wpAny_of_seq (l.drop n) n listed a' w' (fun j => by simp) hL.1 (hL.2 w' hw')) _ _ _ _ hC H
  rw [htl, show n + (l.toArray.size - n) = l.toArray.size by omega] at this
  exact this
end Go.Proofs.Ytdibjhlckjjlfaa
namespace Go.Proofs.Ytdibjhlckjjlfaa
open Go Go.RowKit
set_option maxRecDepth 20000

/-- A cube's cells: its value's, then its mask's. -/
def cv (V M : List Int) : Array Value := hv (V ++ M)
theorem cv_size (V M : List Int) (hV : V.length = 13) (hM : M.length = 13) : (cv V M).size = 26 := by
  unfold cv; rw [hv_size, List.length_append, hV, hM]
theorem cv_one (V M : List Int) : (cv V M).all (·.oneCell') = true := hv_one _
theorem cv_val (V M : List Int) (hV : V.length = 13) (k : Nat) (hk : k < 13) : (cv V M)[k]? = some (.int .u8 (V.getD k 0)) := by
  unfold cv hv
  simp [List.getElem?_append, hV, hk, List.getD]
theorem cv_mask (V M : List Int) (hV : V.length = 13) (hM : M.length = 13) (k : Nat) (hk : k < 13) : (cv V M)[13 + k]? = some (.int .u8 (M.getD k 0)) := by
  unfold cv hv
  simp [List.getElem?_append, hV, List.getElem?_eq_getElem (show k < M.length by omega), List.getD]
theorem cv_set_val (V M : List Int) (hV : V.length = 13) (k : Nat) (hk : k < 13) (x : Int) : (cv V M).setIfInBounds k (.int .u8 x) = cv (V.set k x) M := by
  unfold cv
  rw [hv_set, List.set_append_left _ _ (by omega)]
theorem cv_set_mask (V M : List Int) (hV : V.length = 13) (k : Nat) (x : Int) : (cv V M).setIfInBounds (13 + k) (.int .u8 x) = cv V (M.set k x) := by
  unfold cv
  rw [hv_set, List.set_append_right _ _ (by omega), hV, Nat.add_sub_cancel_left]

abbrev zeroC : Array Value := #[.int .u8 0, .int .u8 0, .int .u8 0, .int .u8 0, .int .u8 0, .int .u8 0, .int .u8 0, .int .u8 0, .int .u8 0, .int .u8 0, .int .u8 0, .int .u8 0, .int .u8 0, .int .u8 0, .int .u8 0, .int .u8 0, .int .u8 0, .int .u8 0, .int .u8 0, .int .u8 0, .int .u8 0, .int .u8 0, .int .u8 0, .int .u8 0, .int .u8 0, .int .u8 0]
/-- Thirteen noughts. -/
def Z : List Int := mk fun _ => false
theorem Z_eq : Z = [0, 0, 0, 0, 0, 0, 0, 0, 0, 0, 0, 0, 0] := by kernel_rfl
theorem zeroC_eq : zeroC = cv Z Z := by rw [Z_eq]; rfl
theorem Z_byt : Byt Z := mk_byt _
theorem sizeC (V M : List Int) (hV : V.length = 13) (hM : M.length = 13) : (Try.prog.info? 30).map (·.size) = some (cv V M).size := by
  rw [cv_size V M hV hM]; kernel_rfl

theorem wl_loadC {ops : Array Oper} {rest : List Oper} {o : Oper} {a : Act} {w : World} {Q : Exit → Act → World → Prop} (hgd : o.guard = none) (x : Operand) (ho : o.op = .load 30 x)
    (g : Nat) (hx : a.eval x = .pointer (some ⟨g, 0, none⟩)) (V M : List Int) (hg : w.heap[g]? = some (.cells (cv V M) 30 (0, 0))) (hV : V.length = 13) (hM : M.length = 13)
    (h : wpList Try.prog ops Q rest (a.put o.dst (.agg (cv V M))) w) : wpList Try.prog ops Q (o :: rest) a w :=
  wpList_load_row hgd 30 x ho g hx 30 (cv V M) (0, 0) _ hg Try.underlying30 rfl (sizeC V M hV hM) h
theorem wl_loadHg {ops : Array Oper} {rest : List Oper} {o : Oper} {a : Act} {w : World} {Q : Exit → Act → World → Prop} (hw : Region.wanted o (yielded ops a.tmps) = true) (x : Operand) (ho : o.op = .load 28 x)
    (g : Nat) (hx : a.eval x = .pointer (some ⟨g, 0, none⟩)) (L : List Int) (hg : w.heap[g]? = some (.cells (hv L) 28 (0, 0))) (hL : L.length = 13)
    (h : wpList Try.prog ops Q rest (a.put o.dst (.agg (hv L))) w) : wpList Try.prog ops Q (o :: rest) a w := by
  refine wpList_step fun K hK => ?_
  rw [if_pos hw]
  exact wp_load_row 28 x ho g hx 28 (hv L) (0, 0) _ hg Try.underlying28 rfl (size26 L hL) (hK _ _ h)
theorem wl_storeC {ops : Array Oper} {rest : List Oper} {o : Oper} {a : Act} {w : World} {Q : Exit → Act → World → Prop} (hgd : o.guard = none) (x y : Operand) (ho : o.op = .store 30 x y)
    (g : Nat) (V M : List Int) (hx : a.eval x = .pointer (some ⟨g, 0, none⟩)) (hy : a.eval y = .agg (cv V M)) (old : Array Value) (hg : w.heap[g]? = some (.cells old 30 (0, 0))) (hold : old.size = 26) (hV : V.length = 13) (hM : M.length = 13)
    (w' : World) (hw' : w.setRow g (cv V M) = w')
    (h : wpList Try.prog ops Q rest (a.put o.dst undef) w') : wpList Try.prog ops Q (o :: rest) a w :=
  wpList_store_row hgd 30 x y ho g (cv V M) hx hy 30 old hg (sizeC V M hV hM) (by rw [cv_size V M hV hM, hold]) (cv_one V M) (by rw [hw']; exact h)
theorem retC {fn : Func} {R : Ending → World → Prop} {a : Act} {w : World} {p : Tmp} (hr : fn.results = #[.cell p 30]) (hd : a.defers = []) (g : Nat) (hp : a.tmps.getD p undef = .pointer (some ⟨g, 0, none⟩)) (V M : List Int) (hV : V.length = 13) (hM : M.length = 13)
    (hg : w.heap[g]? = some (.cells (cv V M) 30 (0, 0))) (h : R (.returned (.agg (cv V M))) w) : bodyPost Try.prog fn R .ret a w :=
  bodyPost_ret (v := .agg (cv V M)) (results_cell_row hr _ _ g 30 (cv V M) (0, 0) _ hp hg Try.underlying30 rfl (sizeC V M hV hM)) hd h

theorem part_val (V M : List Int) (hV : V.length = 13) (w : World) : (part 28 (cv V M) 0).run Try.prog w = .ok (.agg (hv V)) w := by
  have hz : ∀ w, (sizeOf 28).run Try.prog w = .ok 13 w := fun w => by kernel_rfl
  have ha : ∀ w, (isAgg 28).run Try.prog w = .ok true w := fun w => by kernel_rfl
  have e : (cv V M).extract 0 13 = hv V := by
    unfold cv hv
    simp [hV]
  simp [part, ha, hz, Sem.run_bind, e]
theorem part_mask (V M : List Int) (hV : V.length = 13) (hM : M.length = 13) (w : World) : (part 28 (cv V M) 13).run Try.prog w = .ok (.agg (hv M)) w := by
  have hz : ∀ w, (sizeOf 28).run Try.prog w = .ok 13 w := fun w => by kernel_rfl
  have ha : ∀ w, (isAgg 28).run Try.prog w = .ok true w := fun w => by kernel_rfl
  have e : (cv V M).extract 13 26 = hv M := by
    unfold cv hv
    simp [hV, List.take_of_length_le, hM]
  simp [part, ha, hz, Sem.run_bind, e]

theorem eqC (V M V' M' : List Int) (hV : V.length = 13) (hM : M.length = 13) (hV' : V'.length = 13) (hM' : M'.length = 13) (w : World) :
    (Op.equalIn 10000 30 (.agg (cv V M)) (.agg (cv V' M'))).run Try.prog w = .ok (V == V' && M == M') w := by
  have eH : ∀ A B : List Int, A.length = 13 → B.length = 13 → ∀ w, (Op.equalIn 9999 28 (.agg (hv A)) (.agg (hv B))).run Try.prog w = .ok (A == B) w := fun A B hA hB w => by
    have z5 : (sizeOf 5).run Try.prog w = .ok 1 w := by kernel_rfl
    rw [show (9999 : Nat) = 9998 + 1 from rfl, Op.equalIn]
    simp only [Sem.run_bind, run_underlying Try.underlying28, Result.andThen_ok, z5]
    simp only [Std.Legacy.Range.forIn_eq_forIn_range', Std.Legacy.Range.size, Nat.sub_zero, Nat.add_sub_cancel, Nat.div_one]
    rw [← all_eq A B hA hB]
    exact loopN 9997 A B hA hB w _ rfl rfl (List.range' 0 13) (fun i hi => by simp at hi; omega)
  rw [show (10000 : Nat) = 9999 + 1 from rfl, run_equalIn_struct w 9999 30 _ _ (by kernel_rfl) (by kernel_rfl)]
  rw [show (Try.prog.fieldsOf 30).toList = [{ name := "Value", type := 28, offset := 0, embedded := false, tag := "", pkgPath := "", byteOffset := 0 }, { name := "Mask", type := 28, offset := 13, embedded := false, tag := "", pkgPath := "", byteOffset := 13 }] from by kernel_rfl]
  simp only [Op.eqFields, ne_eq, String.reduceEq, not_false_eq_true, if_true, Sem.run_bind]
  simp only [part_val V M hV, part_val V' M' hV', Result.andThen_ok, eH V V' hV hV']
  cases hA : (V == V')
  · simp
  · simp only [Bool.not_true, Bool.false_eq_true, if_false, Sem.run_bind, part_mask V M hV hM, part_mask V' M' hV' hM', Result.andThen_ok, eH M M' hM hM']
    cases hB : (M == M') <;> simp
theorem egC (op : BinOp) (x y : Operand) (xs ys : Array Value) (w : World) : (eqGuard op 30 x y (.agg xs) (.agg ys)).run Try.prog w = .ok () w :=
  run_eqGuard_agg w op 30 x y xs ys (by kernel_rfl)
theorem qlH {W : World} {ops : Array Oper} {Q : Act → Prop} {rest : List Oper} {o : Oper} {a : Act} (hw : Region.wanted o (yielded ops a.tmps) = true) (x : Operand) (ho : o.op = .load 28 x)
    (g : Nat) (hx : a.eval x = .pointer (some ⟨g, 0, none⟩)) (L : List Int) (hg : W.heap[g]? = some (.cells (hv L) 28 (0, 0))) (hL : L.length = 13)
    (h : wpQuiet Try.prog ops (fun w' => ∃ u : Later W, w' = u.world) Q rest (a.put o.dst (.agg (hv L)))) : wpQuiet Try.prog ops (fun w' => ∃ u : Later W, w' = u.world) Q (o :: rest) a :=
  q_load_row hw 28 x ho g hx 28 (hv L) (0, 0) _ (later_block hg) Try.underlying28 rfl (size26 L hL) h
theorem qlC {W : World} {ops : Array Oper} {Q : Act → Prop} {rest : List Oper} {o : Oper} {a : Act} (hw : Region.wanted o (yielded ops a.tmps) = true) (x : Operand) (ho : o.op = .load 30 x)
    (g : Nat) (hx : a.eval x = .pointer (some ⟨g, 0, none⟩)) (V M : List Int) (hg : W.heap[g]? = some (.cells (cv V M) 30 (0, 0))) (hV : V.length = 13) (hM : M.length = 13)
    (h : wpQuiet Try.prog ops (fun w' => ∃ u : Later W, w' = u.world) Q rest (a.put o.dst (.agg (cv V M)))) : wpQuiet Try.prog ops (fun w' => ∃ u : Later W, w' = u.world) Q (o :: rest) a :=
  q_load_row hw 30 x ho g hx 30 (cv V M) (0, 0) _ (later_block hg) Try.underlying30 rfl (sizeC V M hV hM) h
/-- One byte is read, in any world above. -/
theorem later_cell {W : World} {g k : Nat} {cs : Array Value} {t : TypeId} {v : Value} (hg : W.heap[g]? = some (.cells cs t (0, 0))) (hk : cs[k]? = some v) : ∀ u : Later W, u.world.cell? ⟨g, k, none⟩ = some v := fun u => by
  rw [cell_of_row u.world _ _ _ _ _ (later_block hg _ ⟨u, rfl⟩)]; exact hk
end Go.Proofs.Ytdibjhlckjjlfaa
namespace Go.Proofs.Ytdibjhlckjjlfaa
open Go Go.RowKit
set_option maxRecDepth 20000

/-- The value of the right one. -/
def can (V M : List Int) : List Int := mk fun i => bt V i && bt M i

theorem bt_at (L : List Int) (i : Nat) : bt L i = yb (L.getD (i / 8) 0) (i % 8) := rfl

set_option maxHeartbeats 1000000 in
theorem canon_any (V M : List Int) (hV : Byt V) (hM : Byt M) (w : World) :
    Calls Try.prog 25 #[.agg (cv V M)] w fun e w' => e = .returned (.agg (cv (can V M) M)) ∧ Below w.heap.size w w' := by
  have hVl := hV.1
  have hMl := hM.1
  have HV : Hid (Byt V) := hV
  have HM : Hid (Byt M) := hM
  clear hV hM
  go_enter Try.func25, Try.ntmps25
  go_wp2
  go_loopw [4] (fun i wr => ∃ k : Nat, k ≤ 13 ∧ i = .int .i64 k ∧ ∃ U : List Int, Byt U ∧ (∀ j, j < 13 → U.getD j 0 = if j < k then bits .and .u8 (V.getD j 0) (M.getD j 0) else V.getD j 0) ∧ wr.heap[w.heap.size]? = some (.cells (cv U M) 30 (0, 0)) ∧ wr.heap[w.heap.size + 1]? = some (.cells zeroC 30 (0, 0)) ∧ Below w.heap.size w wr) (fun i _ => 13 - (intOf i).toNat)
  case atStart => exact ⟨0, Nat.zero_le _, rfl, V, HV.out, fun j _ => by simp, heap_past _ _ _ _ (heap_new _ _ _ rfl), heap_new _ _ _ (by simp), ((Below.refl _ _).alloc (Nat.le_refl _) _).alloc (by simp) _⟩
  case round =>
    obtain ⟨k, hk, rfl, U, hU, hUj, g0, g1, hb⟩ := hrel
    have hUl := hU.1
    by_cases hlt : k < 13
    · obtain ⟨x, hx, hxe⟩ : ∃ x, (cv U M)[k]? = some (.int .u8 x) ∧ x = U.getD k 0 := ⟨_, cv_val U M hUl k hlt, rfl⟩
      obtain ⟨y, hy, hye⟩ : ∃ y, (cv U M)[13 + k]? = some (.int .u8 y) ∧ y = M.getD k 0 := ⟨_, cv_mask U M hUl hMl k hlt, rfl⟩
      have hx0 : wr.cell? ⟨w.heap.size, k, none⟩ = some (.int .u8 x) := by rw [cell_of_row wr _ _ _ _ _ g0]; exact hx
      have hy0 : wr.cell? ⟨w.heap.size, 13 + k, none⟩ = some (.int .u8 y) := by rw [cell_of_row wr _ _ _ _ _ g0]; exact hy
      have hf0 : wr.frozen? ⟨w.heap.size, k, none⟩ = false := frozen_of_row wr _ _ _ _ g0
      have HU : Hid (Byt U) := hU
      have HUJ : Hid (∀ j, j < 13 → U.getD j 0 = if j < k then bits .and .u8 (V.getD j 0) (M.getD j 0) else V.getD j 0) := hUj
      have HX : Hid (x = U.getD k 0) := hxe
      have HY : Hid (y = M.getD k 0) := hye
      clear hU hUj hxe hye hx hy
      go_wp2_with fail
      refine wp_region_tail 11 (by kernel_rfl) (by kernel_rfl) ?_
      simp only [List.take_succ_cons, List.take_zero, List.drop_succ_cons, List.drop_zero]
      repeat go_big_quiet_step (fail)
      refine wpQuiet_nil ?_
      go_wp2_with fail
      go_roundw
      case rel =>
        refine ⟨k + 1, by omega, by go_num, U.set k (bits .and .u8 x y), byt_set U HU.out k _ hlt (bits_u8 _ _ _), fun j hj => ?_, ?_, ?_, ?_⟩
        · rw [getD_set _ _ _ _ (by omega)]
          by_cases e : k = j
          · subst e
            rw [if_pos rfl, if_pos (by omega), HX.out, HY.out, HUJ.out k hlt, if_neg (by omega)]
          · rw [if_neg e, HUJ.out j hj]
            by_cases h : j < k
            · rw [if_pos h, if_pos (by omega)]
            · rw [if_neg h, if_neg (by omega)]
        · rw [← cv_set_val U M hUl k hlt]; exact heap_setCell_same wr _ _ _ _ _ g0
        · exact (heap_setCell_other wr ⟨w.heap.size, k, none⟩ (w.heap.size + 1) _ (by simp)).trans g1
        · exact (hb.setCell (Nat.le_refl _) _).drew
      case measure => simp [intOf]; omega
    · obtain rfl : k = 13 := by omega
      have HU : Hid (Byt U) := hU
      have HUJ : Hid (∀ j, j < 13 → U.getD j 0 = if j < 13 then bits .and .u8 (V.getD j 0) (M.getD j 0) else V.getD j 0) := hUj
      clear hU hUj
      go_wp2_with (first
        | (refine wl_loadC rfl _ rfl w.heap.size rfl U M g0 hUl hMl ?_)
        | (refine wl_storeC rfl _ _ rfl (w.heap.size + 1) U M rfl rfl _ g1 rfl hUl hMl _ rfl ?_))
      have e : U = can V M := mk_eq U HU.out _ fun i hi => by
        rw [bt_at, HUJ.out _ (by omega), if_pos (by omega), and_yb _ _ (HV.out.2 _) (HM.out.2 _)]; rfl
      subst e
      refine retC (p := 2) rfl rfl (w.heap.size + 1) rfl (can V M) M hUl hMl (setRow_heap _ _ _ _ _ _ g1) ⟨rfl, ?_⟩
      exact below_setRow hb (by omega) _
end Go.Proofs.Ytdibjhlckjjlfaa
namespace Go.Proofs.Ytdibjhlckjjlfaa
open Go Go.RowKit
set_option maxRecDepth 20000

/-- Does a cube have a header? -/
def has (V M H : List Int) : Bool := (List.range 104).all fun i => !(bt M i) || (bt V i == bt H i)
theorem has_iff (V M H : List Int) : has V M H = true ↔ ∀ i, i < 104 → bt M i = true → bt V i = bt H i := by
  unfold has
  simp only [List.all_eq_true, List.mem_range, Bool.or_eq_true, Bool.not_eq_true', beq_iff_eq]
  constructor
  · intro h i hi hm
    rcases h i hi with h' | h'
    · rw [h'] at hm; cases hm
    · exact h'
  · intro h i hi
    cases hm : bt M i
    · exact .inl rfl
    · exact .inr (h i hi hm)

theorem has_byte (v h m : Int) (hv : 0 ≤ v ∧ v < 256) (hh : 0 ≤ h ∧ h < 256) (hm : 0 ≤ m ∧ m < 256) : bits .and .u8 (bits .xor .u8 v h) m = 0 ↔ ∀ j, j < 8 → yb m j = true → yb v j = yb h j := by
  rw [zero_byte _ (bits_u8 _ _ _)]
  constructor
  · intro g j hj hmj
    have := g j hj
    rw [and_yb _ _ (bits_u8 _ _ _) hm, xor_yb _ _ hv hh, hmj] at this
    simpa using this
  · intro g j hj
    rw [and_yb _ _ (bits_u8 _ _ _) hm, xor_yb _ _ hv hh]
    cases hmj : yb m j
    · simp
    · rw [g j hj hmj]; simp

theorem has_all (V M H : List Int) (hV : Byt V) (hM : Byt M) (hH : Byt H) (h : ∀ k, k < 13 → bits .and .u8 (bits .xor .u8 (V.getD k 0) (H.getD k 0)) (M.getD k 0) = 0) : has V M H = true :=
  (has_iff V M H).2 fun i hi hm => (has_byte _ _ _ (hV.2 _) (hH.2 _) (hM.2 _)).1 (h (i / 8) (by omega)) (i % 8) (by omega) hm
theorem has_not (V M H : List Int) (hV : Byt V) (hM : Byt M) (hH : Byt H) (k : Nat) (hk : k < 13) (h : bits .and .u8 (bits .xor .u8 (V.getD k 0) (H.getD k 0)) (M.getD k 0) ≠ 0) : has V M H = false := by
  cases e : has V M H
  · rfl
  · refine absurd ((has_byte _ _ _ (hV.2 _) (hH.2 _) (hM.2 _)).2 fun j hj hm => ?_) h
    have := (has_iff V M H).1 e (8 * k + j) (by omega)
    unfold bt at this
    rw [show (8 * k + j) / 8 = k by omega, show (8 * k + j) % 8 = j by omega] at this
    exact this hm

set_option maxHeartbeats 1000000 in
theorem has_any (V M H : List Int) (hV : Byt V) (hM : Byt M) (hH : Byt H) (w : World) :
    Calls Try.prog 16 #[.agg (cv V M), .agg (hv H)] w fun e w' => e = .returned (.bool (has V M H)) ∧ Below w.heap.size w w' := by
  have hVl := hV.1
  have hMl := hM.1
  have hHl := hH.1
  have HV : Hid (Byt V) := hV
  have HM : Hid (Byt M) := hM
  have HH : Hid (Byt H) := hH
  clear hV hM hH
  go_enter Try.func16, Try.ntmps16
  go_wp2
  go_loopw [6] (fun i wr => ∃ k : Nat, k ≤ 13 ∧ i = .int .i64 k ∧ (∀ j, j < k → bits .and .u8 (bits .xor .u8 (V.getD j 0) (H.getD j 0)) (M.getD j 0) = 0) ∧ wr.heap[w.heap.size]? = some (.cells (cv V M) 30 (0, 0)) ∧ wr.heap[w.heap.size + 1]? = some (.cells (hv H) 28 (0, 0)) ∧ Below w.heap.size w wr) (fun i _ => 13 - (intOf i).toNat)
  case atStart => exact ⟨0, Nat.zero_le _, rfl, fun j hj => by omega, heap_past _ _ _ _ (heap_new _ _ _ rfl), heap_new _ _ _ (by simp), ((Below.refl _ _).alloc (Nat.le_refl _) _).alloc (by simp) _⟩
  case round =>
    obtain ⟨k, hk, rfl, hUj, g0, g1, hb⟩ := hrel
    by_cases hlt : k < 13
    · obtain ⟨x, hx, hxe⟩ : ∃ x, (cv V M)[k]? = some (.int .u8 x) ∧ x = V.getD k 0 := ⟨_, cv_val V M hVl k hlt, rfl⟩
      obtain ⟨y, hy, hye⟩ : ∃ y, (cv V M)[13 + k]? = some (.int .u8 y) ∧ y = M.getD k 0 := ⟨_, cv_mask V M hVl hMl k hlt, rfl⟩
      obtain ⟨z, hz, hze⟩ : ∃ z, (hv H)[k]? = some (.int .u8 z) ∧ z = H.getD k 0 := ⟨_, hv_at H hHl k hlt, rfl⟩
      have hx0 := later_cell g0 hx
      have hy0 := later_cell g0 hy
      have hz0 := later_cell g1 hz
      have HUJ : Hid (∀ j, j < k → bits .and .u8 (bits .xor .u8 (V.getD j 0) (H.getD j 0)) (M.getD j 0) = 0) := hUj
      have HX : Hid (x = V.getD k 0) := hxe
      have HY : Hid (y = M.getD k 0) := hye
      have HZ : Hid (z = H.getD k 0) := hze
      have ne1 := Later.ne wr
      clear hUj hxe hye hx hy hz hze
      by_cases hc : bits .and .u8 (bits .xor .u8 x z) y = 0
      · have HC : Hid (bits .and .u8 (bits .xor .u8 x z) y = 0) := hc
        have hne : (bits .and .u8 (bits .xor .u8 x z) y != 0) = false := by simp [hc]
        clear hc
        go_wp2_with fail
        refine wp_region_later (by kernel_rfl) (by kernel_rfl) ?_
        repeat go_big_quiet_step (fail)
        refine wpQuiet_nil ?_
        rintro w' ⟨u, rfl⟩
        go_wp2_with fail
        go_roundw
        case rel =>
          refine ⟨k + 1, by omega, by go_num, fun j hj => ?_, later_block g0 _ ⟨u, rfl⟩, later_block g1 _ ⟨u, rfl⟩, hb.trans (u.below.mono hb.size)⟩
          by_cases e : j = k
          · subst e; rw [← HX.out, ← HY.out, ← HZ.out]; exact HC.out
          · exact HUJ.out j (by omega)
        case measure => simp [intOf]; omega
      · have HC : Hid (¬ bits .and .u8 (bits .xor .u8 x z) y = 0) := hc
        have hne : (bits .and .u8 (bits .xor .u8 x z) y != 0) = true := by simp [hc]
        clear hc
        go_wp2_with fail
        refine wp_region_later (by kernel_rfl) (by kernel_rfl) ?_
        repeat go_big_quiet_step (fail)
        refine wpQuiet_nil ?_
        rintro w' ⟨u, rfl⟩
        go_wp2_with fail
        go_ret
        refine ⟨ret_bool ?_, hb.trans (u.below.mono hb.size)⟩
        have hn := HC.out
        rw [HX.out, HY.out, HZ.out] at hn
        rw [has_not V M H HV.out HM.out HH.out k hlt hn]
    · obtain rfl : k = 13 := by omega
      have HUJ : Hid (∀ j, j < 13 → bits .and .u8 (bits .xor .u8 (V.getD j 0) (H.getD j 0)) (M.getD j 0) = 0) := hUj
      clear hUj
      go_wp2_with fail
      go_ret
      exact ⟨ret_bool (has_all V M H HV.out HM.out HH.out HUJ.out).symm, hb⟩
end Go.Proofs.Ytdibjhlckjjlfaa
