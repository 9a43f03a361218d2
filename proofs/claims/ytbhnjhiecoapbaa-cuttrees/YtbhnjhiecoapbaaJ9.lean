import Derived.Test.YtbhnjhiecoapbaaJ8
import Derived.Test.YtbhnjhiecoapbaaJ1
import Derived.Laws.Externs
import Derived.Lib.Hide
import Derived.Test.YtbhnjhiecoapbaaJ4
import Derived.Test.YtbhnjhiecoapbaaJ5
import Derived.Test.YtbhnjhiecoapbaaJ7
import Derived.SizedLaws
namespace Go.Proofs.Ytbhnjhiecoapbaa

/-- One place stands ahead of another: by what it holds, and of those that stand alike the lower one. -/
def ahead (K : Nat → Int) (i j : Nat) : Prop := K i < K j ∨ (K i = K j ∧ i < j)
theorem ahead_asymm {K : Nat → Int} {i j : Nat} (h : ahead K i j) (h' : ahead K j i) : False := by unfold ahead at h h'; omega
theorem ahead_trans {K : Nat → Int} {i j k : Nat} (h : ahead K i j) (h' : ahead K j k) : ahead K i k := by unfold ahead at h h' ⊢; omega
theorem ahead_total {K : Nat → Int} {i j : Nat} (h : i ≠ j) : ahead K i j ∨ ahead K j i := by unfold ahead; omega
/-- All places below n, in their order. -/
def IsOrd (K : Nat → Int) (n : Nat) (o : List Nat) : Prop := (∀ i, i ∈ o ↔ i < n) ∧ o.Pairwise (ahead K)
theorem ord_ext {K : Nat → Int} : ∀ {o p : List Nat}, o.Pairwise (ahead K) → p.Pairwise (ahead K) → (∀ x, x ∈ o ↔ x ∈ p) → o = p
  | [], [], _, _, _ => rfl
  | [], b :: p, _, _, h => absurd ((h b).2 (by simp)) (by simp)
  | a :: o, [], _, _, h => absurd ((h a).1 (by simp)) (by simp)
  | a :: o, b :: p, ho, hp, h => by
    rw [List.pairwise_cons] at ho hp
    have hab : a = b := by
      rcases Nat.lt_trichotomy a b with hl | hl | hl
      · exfalso
        have h1 : a ∈ p := by rcases List.mem_cons.1 ((h a).1 (by simp)) with e | e; omega; exact e
        have h2 : b ∈ o := by rcases List.mem_cons.1 ((h b).2 (by simp)) with e | e; omega; exact e
        exact ahead_asymm (ho.1 b h2) (hp.1 a h1)
      · exact hl
      · exfalso
        have h1 : a ∈ p := by rcases List.mem_cons.1 ((h a).1 (by simp)) with e | e; omega; exact e
        have h2 : b ∈ o := by rcases List.mem_cons.1 ((h b).2 (by simp)) with e | e; omega; exact e
        exact ahead_asymm (ho.1 b h2) (hp.1 a h1)
    subst hab
    have ha : a ∉ o := fun e => ahead_asymm (ho.1 a e) (ho.1 a e)
    have hb : a ∉ p := fun e => ahead_asymm (hp.1 a e) (hp.1 a e)
    rw [ord_ext ho.2 hp.2 fun x => ?_]
    constructor
    · intro hx
      rcases List.mem_cons.1 ((h x).1 (List.mem_cons_of_mem _ hx)) with e | e
      · rw [e] at hx; exact absurd hx ha
      · exact e
    · intro hx
      rcases List.mem_cons.1 ((h x).2 (List.mem_cons_of_mem _ hx)) with e | e
      · rw [e] at hx; exact absurd hx hb
      · exact e
/-- There is just one such list. -/
theorem ord_one {K : Nat → Int} {n : Nat} {o p : List Nat} (ho : IsOrd K n o) (hp : IsOrd K n p) : o = p := ord_ext ho.2 hp.2 fun x => (ho.1 x).trans (hp.1 x).symm

/-- The first of those that are left, picked one by one. -/
def PartOrd (K : Nat → Int) (n : Nat) (o : List Nat) : Prop := (∀ i ∈ o, i < n) ∧ o.Pairwise (ahead K) ∧ ∀ i ∈ o, ∀ j, j < n → j ∉ o → ahead K i j
theorem part_nil (K : Nat → Int) (n : Nat) : PartOrd K n [] := ⟨fun _ h => by simp at h, List.Pairwise.nil, fun _ h => by simp at h⟩
/-- The first of those below m that are left. -/
def IsFirst (K : Nat → Int) (o : List Nat) (m b : Nat) : Prop := b < m ∧ b ∉ o ∧ ∀ j, j < m → j ∉ o → j ≠ b → ahead K b j
theorem part_snoc {K : Nat → Int} {n : Nat} {o : List Nat} {b : Nat} (h : PartOrd K n o) (hb : IsFirst K o n b) : PartOrd K n (o ++ [b]) := by
  obtain ⟨h1, h2, h3⟩ := h
  obtain ⟨b1, b2, b3⟩ := hb
  refine ⟨fun i hi => ?_, ?_, fun i hi j hj hjn => ?_⟩
  · rcases List.mem_append.1 hi with h | h
    · exact h1 i h
    · have : i = b := by simpa using h
      omega
  · rw [List.pairwise_append]
    refine ⟨h2, by simp, fun i hi j hj => ?_⟩
    have : j = b := by simpa using hj
    rw [this]
    exact h3 i hi b b1 b2
  · have hj1 : j ∉ o := fun e => hjn (List.mem_append_left _ e)
    have hj2 : j ≠ b := fun e => hjn (by rw [e]; simp)
    rcases List.mem_append.1 hi with h | h
    · exact h3 i h j hj hj1
    · have : i = b := by simpa using h
      rw [this]
      exact b3 j hj hj1 hj2
/-- How the first is found: none yet, or one, below m; the next place is m. -/
theorem first_skip {K : Nat → Int} {o : List Nat} {m b : Nat} (h : IsFirst K o m b) (hm : m ∈ o ∨ ¬ K m < K b) : IsFirst K o (m + 1) b := by
  obtain ⟨h1, h2, h3⟩ := h
  refine ⟨by omega, h2, fun j hj hjo hjb => ?_⟩
  by_cases e : j = m
  · subst e
    rcases hm with hm | hm
    · exact absurd hm hjo
    · unfold ahead; omega
  · exact h3 j (by omega) hjo hjb
theorem first_take {K : Nat → Int} {o : List Nat} {m b : Nat} (h : IsFirst K o m b) (hm : m ∉ o) (hk : K m < K b) : IsFirst K o (m + 1) m := by
  obtain ⟨h1, h2, h3⟩ := h
  refine ⟨by omega, hm, fun j hj hjo hjm => ?_⟩
  by_cases e : j = b
  · subst e; exact .inl hk
  · exact ahead_trans (.inl hk) (h3 j (by omega) hjo e)
theorem first_begin {K : Nat → Int} {o : List Nat} {m : Nat} (hm : m ∉ o) (h : ∀ j, j < m → j ∈ o) : IsFirst K o (m + 1) m :=
  ⟨by omega, hm, fun j hj hjo hjm => absurd (h j (by omega)) hjo⟩
/-- A list of different places below n has at most n of them; with n all are there. -/
theorem places_le (n : Nat) : ∀ (o : List Nat), (∀ i ∈ o, i < n) → o.Nodup → o.length ≤ n := by
  induction n with
  | zero =>
    intro o h _
    cases o with
    | nil => simp
    | cons a o => have := h a (by simp); omega
  | succ n ih =>
    intro o h hn
    have h1 := ih (o.erase n) (fun i hi => by
      have h2 := h i (List.mem_of_mem_erase hi)
      have h3 : i ≠ n := fun e => by rw [e] at hi; exact (List.Nodup.not_mem_erase hn) hi
      omega) (hn.erase n)
    have h4 : o.length ≤ (o.erase n).length + 1 := by rw [List.length_erase]; split <;> omega
    omega
theorem places_all (n : Nat) (o : List Nat) (h : ∀ i ∈ o, i < n) (hn : o.Nodup) (hl : o.length = n) (i : Nat) (hi : i < n) : i ∈ o := by
  rcases Classical.em (i ∈ o) with hm | hm
  · exact hm
  · exfalso
    have := places_le n (i :: o) (fun j hj => by rcases List.mem_cons.1 hj with e | e; omega; exact h j e) (List.nodup_cons.2 ⟨hm, hn⟩)
    simp at this
    omega
theorem part_nodup {K : Nat → Int} {n : Nat} {o : List Nat} (h : PartOrd K n o) : o.Nodup :=
  h.2.1.imp fun hab e => by rw [e] at hab; exact ahead_asymm hab hab
/-- When so many were picked as there are, all are in their order. -/
theorem part_all {K : Nat → Int} {n : Nat} {o : List Nat} (h : PartOrd K n o) (hl : o.length = n) : IsOrd K n o :=
  ⟨fun i => ⟨h.1 i, places_all n o h.1 (part_nodup h) hl i⟩, h.2.1⟩
theorem sub_len : ∀ (l o : List Nat), l.Nodup → (∀ x ∈ l, x ∈ o) → l.length ≤ o.length
  | [], _, _, _ => Nat.zero_le _
  | a :: l, o, hn, h => by
    rw [List.nodup_cons] at hn
    have ha : a ∈ o := h a (by simp)
    have h1 := sub_len l (o.erase a) hn.2 fun x hx => by
      have hne : x ≠ a := fun e => hn.1 (by rw [← e]; exact hx)
      exact (List.mem_erase_of_ne hne).2 (h x (by simp [hx]))
    have h2 : (o.erase a).length = o.length - 1 := List.length_erase_of_mem ha
    have h3 : 0 < o.length := List.length_pos_of_mem ha
    simp only [List.length_cons]
    omega
theorem part_more {n : Nat} {o : List Nat} (hl : o.length < n) : ∃ i, i < n ∧ i ∉ o := by
  rcases Classical.em (∃ i, i < n ∧ i ∉ o) with h1 | h1
  · exact h1
  · exfalso
    have h3 := sub_len (List.range n) o List.nodup_range fun i hi => Classical.byContradiction fun h3 => h1 ⟨i, List.mem_range.1 hi, h3⟩
    rw [List.length_range] at h3
    omega
end Go.Proofs.Ytbhnjhiecoapbaa
namespace Go.Proofs.Ytbhnjhiecoapbaa
open Ieee

/-- Where a word stands among all: what is no number behind all others. -/
def placeT (b : Nat) : Int := if isN double b = true then 9223372036854775807 else plc double b
theorem plc_le (b : Nat) (hb : b < 2 * double.signWeight) (hn : isN double b = false) : -9218868437227405312 ≤ plc double b ∧ plc double b ≤ 9218868437227405312 := by
  obtain ⟨s, r, hr, e1, e2, e3⟩ := word_split double b hb
  unfold isN at hn
  rw [e1, d_inf] at hn
  have : r ≤ 9218868437227405312 := by simpa using hn
  rw [e3]
  unfold sg
  cases s <;> simp <;> omega
theorem placeT_le (b : Nat) (hb : b < 2 * double.signWeight) : placeT b ≤ 9223372036854775807 := by
  unfold placeT
  cases h : isN double b with
  | true => simp
  | false => have := plc_le b hb h; simp; omega
theorem placeT_nan (b : Nat) (h : isN double b = true) : placeT b = 9223372036854775807 := by unfold placeT; rw [if_pos h]
theorem placeT_num (b : Nat) (h : isN double b = false) : placeT b = plc double b := by unfold placeT; rw [if_neg (by rw [h]; simp)]
theorem less_nan (x y : Nat) (hy : y < 2 * double.signWeight) (h : isN double x = true) : ¬ placeT x < placeT y := by
  have := placeT_le y hy
  rw [placeT_nan x h]
  omega
theorem less_num_nan (x y : Nat) (hx : x < 2 * double.signWeight) (h : isN double x = false) (h' : isN double y = true) : placeT x < placeT y := by
  have := plc_le x hx h
  rw [placeT_nan y h', placeT_num x h]
  omega
theorem order_place (x y : Nat) (hx : x < 2 * double.signWeight) (hy : y < 2 * double.signWeight) (h : isN double x = false) (h' : isN double y = false) : double.order x y = some (compare (placeT x) (placeT y)) := by
  rw [order_word double dE x y hx hy h h', placeT_num x h, placeT_num y h']
theorem some_lt (a b : Int) : (some (compare a b) == some Ordering.lt) = decide (a < b) := by
  rcases Int.lt_trichotomy a b with h | h | h
  · rw [cmp_lt h]; simp [h]
  · rw [cmp_eq h]; simp [h]
  · rw [cmp_gt h]; simp; omega
theorem some_eq (a b : Int) : (some (compare a b) == some Ordering.eq) = decide (a = b) := by
  rcases Int.lt_trichotomy a b with h | h | h
  · rw [cmp_lt h]; simp; omega
  · rw [cmp_eq h]; simp [h]
  · rw [cmp_gt h]; simp; omega
theorem some_gt (a b : Int) : (some (compare a b) == some Ordering.gt) = decide (b < a) := by
  rcases Int.lt_trichotomy a b with h | h | h
  · rw [cmp_lt h]; simp; omega
  · rw [cmp_eq h]; simp [h]
  · rw [cmp_gt h]; simp [h]
theorem rung_num (r : Nat) (h : r ≤ double.infRung) : isN double r = false ∧ plc double r = (r : Int) := by
  have h2 := double.infRung_lt
  unfold isN plc
  rw [Nat.mod_eq_of_lt (by omega), if_neg (by omega)]
  simp
  omega
/-- Two rungs are compared as numbers. -/
theorem order_rung (x y : Nat) (hx : x ≤ double.infRung) (hy : y ≤ double.infRung) : double.order x y = some (compare (x : Int) (y : Int)) := by
  have h2 := double.infRung_lt
  rw [order_word double dE x y (by omega) (by omega) (rung_num x hx).1 (rung_num y hy).1, (rung_num x hx).2, (rung_num y hy).2]
end Go.Proofs.Ytbhnjhiecoapbaa
namespace Go.Proofs.Ytbhnjhiecoapbaa
open Go Go.Lib Go.RowKit Ieee
set_option maxRecDepth 20000

theorem f64d : FloatKind.f64.format = double := rfl
/-- A word's bits. -/
def Wd (x : Nat) : Prop := x < 2 * double.signWeight
theorem wd_iff (x : Nat) : Wd x ↔ x < 18446744073709551616 := by unfold Wd; rw [d_sw]
theorem wd_rung {x : Nat} (h : x ≤ double.infRung) : Wd x := by rw [wd_iff]; rw [d_inf] at h; omega
theorem nan_iff (x : Nat) : isN double x = true ↔ double.infRung < x % double.signWeight := by unfold isN; simp
theorem num_iff (x : Nat) : isN double x = false ↔ x % double.signWeight ≤ double.infRung := by unfold isN; simp
theorem order_gt0 (x : Nat) (hx : Wd x) : (FloatKind.f64.format.order x 0 == some Ordering.gt) = decide (0 < x ∧ x ≤ double.infRung) := by
  rw [f64d]
  have h2 := double.infRung_lt
  cases hn : isN double x with
  | true =>
    rw [order_nan double dE x 0 (.inl hn)]
    have h := (nan_iff x).1 hn
    have : ¬ (0 < x ∧ x ≤ double.infRung) := fun ⟨_, h3⟩ => by rw [Nat.mod_eq_of_lt (by omega)] at h; omega
    rw [decide_eq_false this]; rfl
  | false =>
    have h := (num_iff x).1 hn
    rw [order_word double dE x 0 hx (by rw [d_sw]; decide) hn (rung_num 0 (Nat.zero_le _)).1, (rung_num 0 (Nat.zero_le _)).2, some_gt]
    apply decide_eq_decide.2
    unfold plc
    by_cases hs : double.signWeight ≤ x
    · rw [if_pos hs]; omega
    · rw [if_neg hs]
      rw [Nat.mod_eq_of_lt (by omega)] at h
      omega
theorem order_gtM (x : Nat) (hx : Wd x) : (FloatKind.f64.format.order x 9218868437227405311 == some Ordering.gt) = decide (x = double.infRung) := by
  rw [f64d]
  have h2 := double.infRung_lt
  have hm : (9218868437227405311 : Nat) + 1 = double.infRung := max_inf
  cases hn : isN double x with
  | true =>
    rw [order_nan double dE x _ (.inl hn)]
    have h := (nan_iff x).1 hn
    have : ¬ (x = double.infRung) := fun h3 => by rw [Nat.mod_eq_of_lt (by omega)] at h; omega
    rw [decide_eq_false this]; rfl
  | false =>
    have h := (num_iff x).1 hn
    have hr := rung_num 9218868437227405311 (by omega)
    rw [order_word double dE x _ hx (by rw [d_sw]; decide) hn hr.1, hr.2, some_gt]
    apply decide_eq_decide.2
    unfold plc
    by_cases hs : double.signWeight ≤ x
    · rw [if_pos hs]; omega
    · rw [if_neg hs]
      rw [Nat.mod_eq_of_lt (by omega)] at h
      omega
theorem order_self (x : Nat) (hx : Wd x) : (FloatKind.f64.format.order x x == some Ordering.eq) = !(isN double x) := by
  rw [f64d]
  cases hn : isN double x with
  | true => rw [order_nan double dE x _ (.inl hn)]; rfl
  | false => rw [order_word double dE x x hx hx hn hn, some_eq]; simp
theorem cleanT_none (x : Nat) (h : ¬ (0 < x ∧ x ≤ double.infRung)) : cleanT x = 0 := by
  unfold cleanT
  split
  · rfl
  · omega
theorem clean_any (x : Nat) (hx : Wd x) (w : World) : Calls Try.prog 46 #[.float .f64 x] w fun e w' => e = .returned (.float .f64 (cleanT x)) ∧ w' = w := by
  have h1 := order_gt0 x hx
  have h2 := order_gtM x hx
  have hm : (9218868437227405311 : Nat) + 1 = double.infRung := max_inf
  by_cases c1 : 0 < x ∧ x ≤ double.infRung
  · rw [decide_eq_true c1] at h1
    by_cases c2 : x = double.infRung
    · have HV : Hid (cleanT x = 9218868437227405311) := by show _ = _; rw [cleanT_rung x c1.2]; unfold MAXR; omega
      rw [decide_eq_true c2] at h2
      clear c1 c2 hx hm
      go_enter Try.func46, Try.ntmps46
      go_wp2
      go_ret
      exact ⟨by rw [HV.out]; rfl, rfl⟩
    · have HV : Hid (cleanT x = x) := cleanT_fix x (by omega)
      rw [decide_eq_false c2] at h2
      clear c1 c2 hx hm
      go_enter Try.func46, Try.ntmps46
      go_wp2
      go_ret
      exact ⟨by rw [HV.out]; rfl, rfl⟩
  · have HV : Hid (cleanT x = 0) := cleanT_none x c1
    rw [decide_eq_false c1] at h1
    clear c1 hx hm h2
    go_enter Try.func46, Try.ntmps46
    go_wp2
    go_ret
    exact ⟨by rw [HV.out]; rfl, rfl⟩
theorem isnan_any (x : Nat) (hx : Wd x) (w : World) : Calls Try.prog 47 #[.float .f64 x] w fun e w' => e = .returned (.bool (isN double x)) ∧ w' = w := by
  have h1 := order_self x hx
  clear hx
  generalize isN double x = b at h1 ⊢
  cases b
  · go_enter Try.func47, Try.ntmps47
    go_wp2
    go_ret
    exact ⟨by simpa using h1, rfl⟩
  · go_enter Try.func47, Try.ntmps47
    go_wp2
    go_ret
    exact ⟨by simpa using h1, rfl⟩
theorem order_lss (x y : Nat) (hx : Wd x) (hy : Wd y) : (FloatKind.f64.format.order x y == some Ordering.lt) = (!(isN double x) && !(isN double y) && decide (placeT x < placeT y)) := by
  rw [f64d]
  cases h : isN double x with
  | true => rw [order_nan double dE x y (.inl h)]; rfl
  | false =>
    cases h' : isN double y with
    | true => rw [order_nan double dE x y (.inr h')]; rfl
    | false => rw [order_place x y hx hy h h', some_lt]; simp
/-- Less. -/
theorem less_any (x y : Nat) (hx : Wd x) (hy : Wd y) (w : World) : Calls Try.prog 29 #[.float .f64 x, .float .f64 y] w fun e w' => e = .returned (.bool (decide (placeT x < placeT y))) ∧ w' = w := by
  have HN : Hid (∀ x W, Wd x → Calls Try.prog 47 #[.float .f64 x] W fun e w' => e = .returned (.bool (isN double x)) ∧ w' = W) := fun x W h => isnan_any x h W
  have HX : Hid (Wd x) := hx
  have HY : Hid (Wd y) := hy
  have h1 := order_lss x y hx hy
  cases hn : isN double x with
  | true =>
    have HV : Hid (decide (placeT x < placeT y) = false) := decide_eq_false (less_nan x y hy hn)
    rw [hn] at h1
    clear hx hy
    go_enter Try.func29, Try.ntmps29
    go_wp2_with (go_at_call 47; refine (HN.out _ _ (by first | exact HX.out | exact HY.out)).mono ?_; rintro e w' ⟨rfl, rfl⟩; try rw [hn])
    go_ret
    exact ⟨by rw [HV.out]; rfl, rfl⟩
  | false =>
    cases hn' : isN double y with
    | true =>
      have HV : Hid (decide (placeT x < placeT y) = true) := decide_eq_true (less_num_nan x y hx hn hn')
      rw [hn, hn'] at h1
      clear hx hy
      go_enter Try.func29, Try.ntmps29
      go_wp2_with (go_at_call 47; refine (HN.out _ _ (by first | exact HX.out | exact HY.out)).mono ?_; rintro e w' ⟨rfl, rfl⟩; try (first | rw [hn] | rw [hn']))
      go_ret
      exact ⟨by rw [HV.out]; rfl, rfl⟩
    | false =>
      rw [hn, hn'] at h1
      clear hx hy
      generalize decide (placeT x < placeT y) = tb at h1 ⊢
      simp only [Bool.not_false, Bool.true_and] at h1
      go_enter Try.func29, Try.ntmps29
      go_wp2_with (go_at_call 47; refine (HN.out _ _ (by first | exact HX.out | exact HY.out)).mono ?_; rintro e w' ⟨rfl, rfl⟩; try (first | rw [hn] | rw [hn']))
      go_ret
      exact ⟨by rfl, rfl⟩
end Go.Proofs.Ytbhnjhiecoapbaa
namespace Go.Proofs.Ytbhnjhiecoapbaa
open Go.ChangeShapes Go.WideShapes Go.ChangeAt Go.WideMaps Go.WideElems Go.RowKit
set_option maxRecDepth 20000

theorem wd_wf12 {b : Nat} (h : (Lit.float .f64 b).wf = true) : Wd b := by
  rw [wd_iff]
  simpa [Lit.wf] using h
theorem take_one12 {cs : List Value} {i : Nat} {v : Value} (h : (cs.drop i).take 1 = [v]) : cs[i]? = some v := by
  have := congrArg List.head? h
  rw [List.head?_take, if_neg (by decide), List.head?_drop] at this
  simpa using this
theorem field_int12 {P : Program} {H : Type} {enc : TypeId × Value → H} {W : World} {base : Nat} {spare : Nat → Bool} {held : Bool} {n : Nat} {t : TypeId} {cs : List Value} {y : Option (DataW H × List MemPlace)} {i : Nat} {k : IntKind} (ht : P.underlying t = some (.int k)) (hc : P.cellsOf t = 1)
    (h : DataW.trod enc P W base spare held n t ((cs.drop i).take (P.cellsOf t)) = y) (hy : y.isSome = true) : ∃ z : Int, cs[i]? = some (.int k z) := by
  obtain ⟨y', rfl⟩ := Option.isSome_iff_exists.1 hy
  obtain ⟨z, h1, _, h3⟩ := DataW.trod_int ht h
  rw [hc] at h1
  exact ⟨z, take_one12 h1⟩
theorem xs_some12 {α : Type} {xs : List α} {n i : Nat} (h : xs.length = n) (hi : i < n) : (xs[i]?).isSome = true := by
  rw [List.getElem?_eq_getElem (by omega)]; rfl
theorem cube_of12 {H : Type} {enc : TypeId × Value → H} {W : World} {base : Nat} {spare : Nat → Bool} {held : Bool} {fuel : Nat} {cs : List Value} {x : DataW H × List MemPlace} (hl : cs.length = 26)
    (h : DataW.trod enc Try.prog W base spare held fuel 26 cs = some x) : ∃ V M : List Int, cs = (cv V M).toList ∧ Byt V ∧ Byt M := by
  have c13 : Try.prog.cellsOf 24 = 13 := by kernel_rfl
  obtain ⟨y0, y1, k, hy, _, t0, t1⟩ := trod_struct2 Try.underlying26 h
  rw [c13] at t0 t1
  obtain ⟨V, hV, bV⟩ := bytes_of (by simp; omega) t0
  obtain ⟨M, hM, bM⟩ := bytes_of (by simp; omega) t1
  refine ⟨V, M, ?_, bV, bM⟩
  unfold cv hv
  rw [List.map_append, ← hV, ← hM]
  simp only [List.drop_zero]
  rw [List.take_of_length_le (l := List.drop 13 cs) (by simp; omega), List.take_append_drop]
theorem rule_of12 {H : Type} {enc : TypeId × Value → H} {W : World} {base : Nat} {spare : Nat → Bool} {held : Bool} (fuel : Nat) (cs : List Value) (x : DataW H × List MemPlace) (hl : cs.length = 28)
    (h : DataW.trod enc Try.prog W base spare held fuel 30 cs = some x) : ∃ r : { r : RuleM // okR8 r }, cs = (ruleV r.1).toList ∧ True := by
  have c3 : Try.prog.cellsOf 3 = 1 := by kernel_rfl
  have c26 : Try.prog.cellsOf 26 = 26 := by kernel_rfl
  obtain ⟨xs, n, _, _, _, hxl, hf⟩ := DataW.trod_struct Try.underlying30 h
  obtain ⟨n0, h0⟩ := field_int12 Try.underlying3 c3 (hf 0 _ rfl) (xs_some12 hxl (by decide))
  obtain ⟨n2, h2⟩ := field_int12 Try.underlying3 c3 (hf 2 _ rfl) (xs_some12 hxl (by decide))
  have h1 : DataW.trod enc Try.prog W base spare held n 26 ((cs.drop 1).take (Try.prog.cellsOf 26)) = xs[1]? := hf 1 _ rfl
  have hs1 := xs_some12 hxl (show 1 < 3 by decide)
  obtain ⟨y, hy⟩ := Option.isSome_iff_exists.1 hs1
  rw [hy] at h1
  rw [c26] at h1
  obtain ⟨V, M, hVM, bV, bM⟩ := cube_of12 (by simp; omega) h1
  have hR : okR8 ⟨n0, (V, M), n2⟩ := ⟨bV, bM⟩
  have key : cs = (ruleV ⟨n0, (V, M), n2⟩).toList := by
    have hsz := ruleV_size hR
    obtain ⟨r0, r1, r2⟩ := rule_at hR
    apply List.ext_getElem?
    intro k
    have e : (ruleV ⟨n0, (V, M), n2⟩).toList[k]? = (ruleV ⟨n0, (V, M), n2⟩)[k]? := Array.getElem?_toList
    rw [e]
    rcases (show k = 0 ∨ (1 ≤ k ∧ k < 27) ∨ k = 27 ∨ 28 ≤ k by omega) with rfl | ⟨k1, k2⟩ | rfl | hk
    · rw [r0]; exact h0
    · obtain ⟨j, rfl⟩ : ∃ j, k = 1 + j := ⟨k - 1, by omega⟩
      rw [r1 j (by omega), ← Array.getElem?_toList, ← hVM, List.getElem?_take_of_lt (by omega), List.getElem?_drop]
    · rw [r2]; exact h2
    · rw [List.getElem?_eq_none (by omega), Array.getElem?_eq_none (by omega)]
  exact ⟨⟨_, hR⟩, key, trivial⟩
theorem gsl_map12 {α β : Type} {E : El} {enc : β → Array Value} {f : α → β} {w : World} {v : Value} {C : List α} (h : GSl E (fun a => enc (f a)) w v C) : GSl E enc w v (C.map f) := by
  obtain ⟨o, cap, h1, h2, h3, h4⟩ := h
  refine ⟨o, cap, by rw [List.length_map]; exact h1, by rw [List.length_map]; exact h2, h3, fun i hi => ?_⟩
  have hi' : i < C.length := by rw [List.length_map] at hi; exact hi
  obtain ⟨g, off, cur, t, fr, e1, e2, e3⟩ := h4 i hi'
  refine ⟨g, off, cur, t, fr, e1, e2, fun j hj => ?_⟩
  have e4 := e3 j hj
  rw [List.getElem_map]
  exact e4
/-- Rules that come in. -/
theorem open_rules12 {H : Type} {enc : TypeId × Value → H} {W : World} {r : Reach} {b0 base : Nat} {spare : Nat → Bool} {held : Bool} {v : Value} {d : DataW H} {p : List MemPlace}
    (hok : Value.okWide Try.prog W r b0 22 v) (h : DataW.Trod enc Try.prog W base spare held 22 v d p) :
    ∃ l, RulesAt W v l ∧ ∀ r ∈ l, okR8 r := by
  obtain ⟨fuel, hf⟩ := h
  have hv1 : v.cells.toList = [v] := by
    simp only [Value.okWide, Cell.okWide, Cell.ok, Try.underlying22] at hok
    cases v <;> simp_all [Value.cells]
  rw [hv1] at hf
  have hin : Inhabited { r : RuleM // okR8 r } := ⟨⟨rule0, rule0_ok⟩⟩
  have hsz : ∀ a : { r : RuleM // okR8 r }, (ruleV a.1).size = RuleE.size := fun a => ruleV_size a.2
  have hof : ∀ (fuel : Nat) (cs : List Value) (x : DataW H × List MemPlace), cs.length = RuleE.size → DataW.trod enc Try.prog W base spare held fuel RuleE.elem cs = some x → ∃ r : { r : RuleM // okR8 r }, cs = (ruleV r.1).toList ∧ True := fun fuel cs x h1 h2 => rule_of12 fuel cs x h1 h2
  obtain ⟨l, h1, _⟩ := open_any (E := RuleE) RuleOk (fun r : { r : RuleM // okR8 r } => ruleV r.1) hsz (fun _ => True) hof hf
  refine ⟨l.map (fun q : { r : RuleM // okR8 r } => q.1), gsl_map12 (enc := ruleV) (f := fun q : { r : RuleM // okR8 r } => q.1) h1, fun r hr => ?_⟩
  obtain ⟨q, _, rfl⟩ := List.mem_map.1 hr
  exact q.2
end Go.Proofs.Ytbhnjhiecoapbaa
namespace Go.Proofs.Ytbhnjhiecoapbaa
open Go Go.RowKit
set_option maxRecDepth 20000

/-- A bit of a cube: 0, 1, or 2, if it is free. -/
def atI (V M : List Int) (i : Nat) : Int := if bt M i then (if bt V i then 1 else 0) else 2
theorem at_ne2 (V M : List Int) (i : Nat) : (atI V M i != 2) = bt M i := by
  unfold atI; cases bt M i <;> cases bt V i <;> rfl
theorem at_eq1 (V M : List Int) (i : Nat) : (atI V M i == 1) = (bt V i && bt M i) := by
  unfold atI; cases bt M i <;> cases bt V i <;> rfl
theorem at_ne0 (V M : List Int) (i : Nat) : (atI V M i != 0) = ((bt V i && bt M i) || !(bt M i)) := by
  unfold atI; cases bt M i <;> cases bt V i <;> rfl
theorem at_cases (V M : List Int) (i : Nat) : atI V M i = 0 ∨ atI V M i = 1 ∨ atI V M i = 2 := by
  unfold atI; cases bt M i <;> cases bt V i <;> simp

set_option maxHeartbeats 1000000 in
theorem at_any (V M : List Int) (hV : Byt V) (hM : Byt M) (i : Nat) (hi : i < 104) (w : World) :
    Calls Try.prog 30 #[.agg (cv V M), .int .i64 (i : Int)] w fun e w' => e = .returned (.int .i64 (atI V M i)) ∧ Below w.heap.size w w' := by
  have hVl := hV.1
  have hMl := hM.1
  have CM : Hid (∀ W, Calls Try.prog 48 #[.agg (hv M), .int .i64 (i : Int)] W fun e w' => e = .returned (.bool (bt M i)) ∧ Below W.heap.size W w') := rbit_nat M hM i hi
  have CV : Hid (∀ W, Calls Try.prog 48 #[.agg (hv V), .int .i64 (i : Int)] W fun e w' => e = .returned (.bool (bt V i)) ∧ Below W.heap.size W w') := rbit_nat V hV i hi
  clear hV hM
  unfold atI
  obtain ⟨bm, hbm⟩ : ∃ b, b = bt M i := ⟨_, rfl⟩
  obtain ⟨bv, hbv⟩ : ∃ b, b = bt V i := ⟨_, rfl⟩
  rw [← hbm] at CM ⊢
  rw [← hbv] at CV ⊢
  clear hbm hbv
  go_enter Try.func30, Try.ntmps30
  go_wp2_with (first
    | (refine wl_loadM rfl _ rfl w.heap.size rfl V M (heap_new _ _ _ rfl) hVl hMl ?_))
  refine (CM.out _).mono ?_
  rintro e w1 ⟨rfl, hb1⟩
  have g0 : w1.heap[w.heap.size]? = some (.cells (cv V M) 26 (0, 0)) := by rw [hb1.block _ (by simp)]; exact heap_new _ _ _ rfl
  have B1 : Below w.heap.size w w1 := ((Below.refl _ _).alloc (Nat.le_refl _) _).trans (hb1.mono (by simp))
  clear hb1 CM
  cases bm
  · go_wp2_with fail
    go_ret
    exact ⟨rfl, B1⟩
  · go_wp2_with (first
      | (refine wl_loadV rfl _ rfl w.heap.size rfl V M g0 hVl ?_))
    refine (CV.out _).mono ?_
    rintro e w2 ⟨rfl, hb2⟩
    have B2 := B1.trans (hb2.mono B1.size)
    clear hb2 CV
    cases bv
    · go_wp2_with fail
      go_ret
      exact ⟨rfl, B2⟩
    · go_wp2_with fail
      go_ret
      exact ⟨rfl, B2⟩

set_option maxHeartbeats 1000000 in
theorem rset_any (V M : List Int) (hV : Byt V) (hM : Byt M) (i : Nat) (hi : i < 104) (v : Int) (w : World) :
    Calls Try.prog 50 #[.agg (cv V M), .int .i64 (i : Int), .int .i64 v] w fun e w' => e = .returned (.agg (cv (setb V i (v == 1)) (setb M i (v != 2)))) ∧ Below w.heap.size w w' := by
  have hVl := hV.1
  have hMl := hM.1
  have hFl : (setb M i (v != 2)).length = 13 := (setb_byt M i _).1
  have hGl : (setb V i (v == 1)).length = 13 := (setb_byt V i _).1
  have C1 : Hid (∀ W, Calls Try.prog 58 #[.agg (hv M), .int .i64 (i : Int), .bool (v != 2)] W fun e w' => e = .returned (.agg (hv (setb M i (v != 2)))) ∧ Below W.heap.size W w') := rput_nat M hM i hi _
  have C2 : Hid (∀ W, Calls Try.prog 58 #[.agg (hv V), .int .i64 (i : Int), .bool (v == 1)] W fun e w' => e = .returned (.agg (hv (setb V i (v == 1)))) ∧ Below W.heap.size W w') := rput_nat V hV i hi _
  clear hV hM
  obtain ⟨N, hN⟩ : ∃ N, N = setb M i (v != 2) := ⟨_, rfl⟩
  obtain ⟨U, hU⟩ : ∃ U, U = setb V i (v == 1) := ⟨_, rfl⟩
  rw [← hN] at C1 hFl ⊢
  rw [← hU] at C2 hGl ⊢
  clear hN hU
  go_enter Try.func50, Try.ntmps50
  have g0 : ((w.alloc (.cells (cv V M) 26)).alloc (.cells zeroC 26)).heap[w.heap.size]? = some (.cells (cv V M) 26 (0, 0)) := heap_past _ _ _ _ (heap_new _ _ _ rfl)
  have g1 : ((w.alloc (.cells (cv V M) 26)).alloc (.cells zeroC 26)).heap[w.heap.size + 1]? = some (.cells zeroC 26 (0, 0)) := heap_new _ _ _ (by simp)
  have hb : Below w.heap.size w ((w.alloc (.cells (cv V M) 26)).alloc (.cells zeroC 26)) := ((Below.refl _ _).alloc (Nat.le_refl _) _).alloc (by simp) _
  go_wp2_with (first
    | (refine wl_loadM rfl _ rfl w.heap.size rfl V M g0 hVl hMl ?_))
  refine (C1.out _).mono ?_
  rintro e w2 ⟨rfl, hb2⟩
  have m0 : w2.heap[w.heap.size]? = some (.cells (cv V M) 26 (0, 0)) := by rw [hb2.block _ (by simp; omega)]; exact g0
  have m1 : w2.heap[w.heap.size + 1]? = some (.cells zeroC 26 (0, 0)) := by rw [hb2.block _ (by simp)]; exact g1
  have hz2 : w.heap.size + 2 ≤ w2.heap.size := Nat.le_trans (by simp) hb2.size
  have hB2 := hb.trans (hb2.mono hb.size)
  clear g0 g1 hb hb2 C1
  have n0 : (w2.setRow w.heap.size (cv V N)).heap[w.heap.size]? = some (.cells (cv V N) 26 (0, 0)) := setRow_heap _ _ _ _ _ _ m0
  have n1 : (w2.setRow w.heap.size (cv V N)).heap[w.heap.size + 1]? = some (.cells zeroC 26 (0, 0)) := (setRow_other _ _ _ _ (by omega)).trans m1
  go_wp2_with (first
    | (refine wl_storeM rfl _ _ rfl w.heap.size rfl V M N rfl hVl hMl hFl m0 _ rfl ?_)
    | (refine wl_loadV rfl _ rfl w.heap.size rfl V N n0 hVl ?_))
  refine (C2.out _).mono ?_
  rintro e w3 ⟨rfl, hb3⟩
  have p0 : w3.heap[w.heap.size]? = some (.cells (cv V N) 26 (0, 0)) := by rw [hb3.block _ (by simp; omega)]; exact n0
  have p1 : w3.heap[w.heap.size + 1]? = some (.cells zeroC 26 (0, 0)) := by rw [hb3.block _ (by simp; omega)]; exact n1
  have hB3 := (below_setRow hB2 (Nat.le_refl _) (cv V N)).trans (hb3.mono (by simpa using hB2.size))
  clear m0 m1 n0 n1 hB2 hb3 hz2 C2
  have q0 : (w3.setRow w.heap.size (cv U N)).heap[w.heap.size]? = some (.cells (cv U N) 26 (0, 0)) := setRow_heap _ _ _ _ _ _ p0
  have q1 : (w3.setRow w.heap.size (cv U N)).heap[w.heap.size + 1]? = some (.cells zeroC 26 (0, 0)) := (setRow_other _ _ _ _ (by omega)).trans p1
  go_wp2_with (first
    | (refine wl_storeV rfl _ _ rfl w.heap.size rfl V N U rfl hVl hFl hGl p0 _ rfl ?_)
    | (refine wl_loadC rfl _ rfl w.heap.size rfl U N q0 hGl hFl ?_)
    | (refine wl_storeC rfl _ _ rfl (w.heap.size + 1) U N rfl rfl _ q1 rfl hGl hFl _ rfl ?_))
  refine retC (p := 6) rfl rfl (w.heap.size + 1) rfl _ _ hGl hFl (setRow_heap _ _ _ _ _ _ q1) ⟨rfl, ?_⟩
  exact below_setRow (below_setRow hB3 (Nat.le_refl _) _) (by omega) _

/-- The bits ahead of a place, all others nought. -/
def upto (k : Nat) (f : Nat → Bool) : List Int := mk fun j => decide (j < k) && f j
theorem upto_byt (k : Nat) (f : Nat → Bool) : Byt (upto k f) := mk_byt _
theorem upto_zero (f : Nat → Bool) : upto 0 f = Z := mk_ext _ _ fun i _ => by simp
theorem upto_all (f : Nat → Bool) : upto 104 f = mk f := mk_ext _ _ fun i hi => by simp [hi]
theorem upto_succ (k : Nat) (f : Nat → Bool) : setb (upto k f) k (f k) = upto (k + 1) f :=
  mk_ext _ _ fun i hi => by
    by_cases e : i = k
    · subst e; simp
    · rw [if_neg e]
      unfold upto
      rw [mk_bt _ i hi]
      congr 1
      rw [decide_eq_decide]
      omega
end Go.Proofs.Ytbhnjhiecoapbaa
namespace Go.Proofs.Ytbhnjhiecoapbaa
open Go Go.RowKit
set_option maxRecDepth 20000

/-- Has the second cube all that the first one has? -/
def within (V M V' M' : List Int) : Bool := (List.range 104).all fun i => !(bt M' i) || (bt M i && (bt V i == bt V' i))
theorem within_iff (V M V' M' : List Int) : within V M V' M' = true ↔ ∀ i, i < 104 → bt M' i = true → bt M i = true ∧ bt V i = bt V' i := by
  unfold within
  simp only [List.all_eq_true, List.mem_range, Bool.or_eq_true, Bool.not_eq_true', Bool.and_eq_true, beq_iff_eq]
  constructor
  · intro h i hi hm
    rcases h i hi with h' | h'
    · rw [h'] at hm; cases hm
    · exact h'
  · intro h i hi
    cases hm : bt M' i
    · exact .inl rfl
    · exact .inr (h i hi hm)

theorem within_eq (V M V' M' : List Int) (hM : Byt M) (h : meets V M V' M' = true) : (meetV V M V' M' == can V M && meetM M M' == M) = within V M V' M' := by
  rw [Bool.eq_iff_iff, Bool.and_eq_true, beq_iff_eq, beq_iff_eq, within_iff]
  have hm := (meets_iff V M V' M').1 h
  constructor
  · rintro ⟨_, g2⟩ i hi h1
    have e2 : bt (meetM M M') i = (bt M i || bt M' i) := mk_bt _ i hi
    rw [g2, h1, Bool.or_true] at e2
    exact ⟨e2, hm i hi e2 h1⟩
  · intro g
    refine ⟨mk_ext _ _ fun i hi => ?_, (mk_eq M hM _ fun i hi => ?_).symm⟩
    · have := g i hi
      revert this
      cases bt V i <;> cases bt V' i <;> cases bt M i <;> cases bt M' i <;> simp
    · have := g i hi
      revert this
      cases bt M i <;> cases bt M' i <;> simp
theorem within_no (V M V' M' : List Int) (h : meets V M V' M' = false) : within V M V' M' = false := by
  cases e : within V M V' M'
  · rfl
  · rw [within_iff] at e
    have : meets V M V' M' = true := (meets_iff _ _ _ _).2 fun i hi _ h2 => (e i hi h2).2
    rw [h] at this; cases this

set_option maxHeartbeats 2000000 in
theorem within_yes_any (V M V' M' : List Int) (hV : Byt V) (hM : Byt M) (hV' : Byt V') (hM' : Byt M') (h : meets V M V' M' = true) (w : World) :
    Calls Try.prog 42 #[.agg (cv V M), .agg (cv V' M')] w fun e w' => e = .returned (.bool (within V M V' M')) ∧ Below w.heap.size w w' := by
  have hVl := hV.1
  have hMl := hM.1
  have hVl' := hV'.1
  have hMl' := hM'.1
  have hAl := (meetV_byt V M V' M').1
  have hBl := (meetM_byt M M').1
  have hCl := (can_byt V M).1
  obtain ⟨r, hr⟩ : ∃ r, r = within V M V' M' := ⟨_, rfl⟩
  have C1 : Hid (∀ W, Calls Try.prog 23 #[.agg (cv V M), .agg (cv V' M')] W fun e w' => e = .returned (.tuple #[.agg (cv (meetV V M V' M') (meetM M M')), .bool true]) ∧ Below W.heap.size W w') := by
    have := meet_any V M V' M' hV hM hV' hM'; rwa [meetR_yes _ _ _ _ h] at this
  have C2 : Hid (∀ W, Calls Try.prog 41 #[.agg (cv V M)] W fun e w' => e = .returned (.agg (cv (can V M) M)) ∧ Below W.heap.size W w') := canon_any V M hV hM
  have e1 : ∀ w, (Op.equalIn 10000 26 (.agg (cv (meetV V M V' M') (meetM M M'))) (.agg (cv (can V M) M))).run Try.prog w = .ok r w := fun w => by rw [eqC _ _ _ _ hAl hBl hCl hMl, within_eq V M V' M' hM h, hr]
  have eg : ∀ op x y (xs ys : Array Value) w, (eqGuard op 26 x y (.agg xs) (.agg ys)).run Try.prog w = .ok () w := egC
  rw [← hr]
  clear hV hM hV' hM' h hr
  go_enter Try.func42, Try.ntmps42
  go_wp2_with (first
    | (refine wl_loadC rfl _ rfl w.heap.size rfl V M (heap_past _ _ _ _ (heap_new _ _ _ rfl)) hVl hMl ?_)
    | (refine wl_loadC rfl _ rfl (w.heap.size + 1) rfl V' M' (heap_new _ _ _ (by simp)) hVl' hMl' ?_))
  refine (C1.out _).mono ?_
  rintro e w1 ⟨rfl, hb1⟩
  have g0 : w1.heap[w.heap.size]? = some (.cells (cv V M) 26 (0, 0)) := by rw [hb1.block _ (by simp; omega)]; exact heap_past _ _ _ _ (heap_new _ _ _ rfl)
  have B1 : Below w.heap.size w w1 := (((Below.refl _ _).alloc (Nat.le_refl _) _).alloc (by simp) _).trans (hb1.mono (by simp; omega))
  clear hb1 C1
  have n0 := heap_past w1 (.cells (cv (meetV V M V' M') (meetM M M')) 26) _ _ g0
  have n1 := heap_new w1 (.cells (cv (meetV V M V' M') (meetM M M')) 26) _ rfl
  have B5 := B1.alloc B1.size (.cells (cv (meetV V M V' M') (meetM M M')) 26)
  obtain ⟨W, hW⟩ : ∃ W, W = w1.alloc (.cells (cv (meetV V M V' M') (meetM M M')) 26) := ⟨_, rfl⟩
  go_wp2_with (first
    | (refine wl_storeC rfl _ _ rfl w1.heap.size _ _ rfl rfl _ (heap_new _ _ _ rfl) rfl hAl hBl _ (setRow_new _ _ _ _ _ rfl) ?_))
  rw [← hW] at n0 n1 B5 ⊢
  clear hW g0 B1
  have ne1 := Later.ne W
  refine wp_region_later (by kernel_rfl) (by kernel_rfl) ?_
  go_big_quiet_step (fail)
  go_big_quiet_step (fail)
  refine qlC rfl _ rfl w1.heap.size rfl (meetV V M V' M') (meetM M M') n1 hAl hBl ?_
  simp only [Act.put, List.setIfInBounds_toArray, List.set_cons_succ, List.set_cons_zero]
  refine qlC rfl _ rfl w.heap.size rfl V M n0 hVl hMl ?_
  simp only [Act.put, List.setIfInBounds_toArray, List.set_cons_succ, List.set_cons_zero]
  go_big_quiet_want; go_big_quiet_op
  refine ⟨_, fun u => Calls.later_of (C2.out u.world), ?_⟩
  go_big_quiet_on
  go_big_quiet_step (fail)
  go_big_quiet_step (fail)
  go_big_quiet_step (fail)
  refine wpQuiet_nil ?_
  rintro w' ⟨u, rfl⟩
  go_wp2
  go_ret
  exact ⟨rfl, B5.trans (u.below.mono B5.size)⟩

set_option maxHeartbeats 2000000 in
theorem within_no_any (V M V' M' : List Int) (hV : Byt V) (hM : Byt M) (hV' : Byt V') (hM' : Byt M') (h : meets V M V' M' = false) (w : World) :
    Calls Try.prog 42 #[.agg (cv V M), .agg (cv V' M')] w fun e w' => e = .returned (.bool false) ∧ Below w.heap.size w w' := by
  have hVl := hV.1
  have hMl := hM.1
  have hVl' := hV'.1
  have hMl' := hM'.1
  have hzl := Z_byt.1
  have C1 : Hid (∀ W, Calls Try.prog 23 #[.agg (cv V M), .agg (cv V' M')] W fun e w' => e = .returned (.tuple #[.agg (cv Z Z), .bool false]) ∧ Below W.heap.size W w') := by
    have := meet_any V M V' M' hV hM hV' hM'; rwa [meetR_no _ _ _ _ h] at this
  clear hV hM hV' hM' h
  go_enter Try.func42, Try.ntmps42
  go_wp2_with (first
    | (refine wl_loadC rfl _ rfl w.heap.size rfl V M (heap_past _ _ _ _ (heap_new _ _ _ rfl)) hVl hMl ?_)
    | (refine wl_loadC rfl _ rfl (w.heap.size + 1) rfl V' M' (heap_new _ _ _ (by simp)) hVl' hMl' ?_))
  refine (C1.out _).mono ?_
  rintro e w1 ⟨rfl, hb1⟩
  have B1 : Below w.heap.size w w1 := (((Below.refl _ _).alloc (Nat.le_refl _) _).alloc (by simp) _).trans (hb1.mono (by simp; omega))
  clear hb1 C1
  have B5 := B1.alloc B1.size (.cells (cv Z Z) 26)
  obtain ⟨W, hW⟩ : ∃ W, W = w1.alloc (.cells (cv Z Z) 26) := ⟨_, rfl⟩
  go_wp2_with (first
    | (refine wl_storeC rfl _ _ rfl w1.heap.size Z Z rfl rfl _ (heap_new _ _ _ rfl) rfl hzl hzl _ (setRow_new _ _ _ _ _ rfl) ?_))
  rw [← hW] at B5 ⊢
  clear hW B1
  have ne1 := Later.ne W
  refine wp_region_later (by kernel_rfl) (by kernel_rfl) ?_
  go_big_quiet_step (fail)
  go_big_quiet_step (fail)
  go_big_quiet_step (fail)
  go_big_quiet_step (fail)
  go_big_quiet_step (fail)
  go_big_quiet_step (fail)
  go_big_quiet_step (fail)
  go_big_quiet_step (fail)
  refine wpQuiet_nil ?_
  rintro w' ⟨u, rfl⟩
  go_wp2
  go_ret
  exact ⟨rfl, B5.trans (u.below.mono B5.size)⟩

theorem within_any (V M V' M' : List Int) (hV : Byt V) (hM : Byt M) (hV' : Byt V') (hM' : Byt M') (w : World) :
    Calls Try.prog 42 #[.agg (cv V M), .agg (cv V' M')] w fun e w' => e = .returned (.bool (within V M V' M')) ∧ Below w.heap.size w w' := by
  cases h : meets V M V' M'
  · rw [within_no V M V' M' h]; exact within_no_any V M V' M' hV hM hV' hM' h w
  · exact within_yes_any V M V' M' hV hM hV' hM' h w

set_option maxHeartbeats 2000000 in
theorem rwithin_any (V M V' M' : List Int) (hV : Byt V) (hM : Byt M) (hV' : Byt V') (hM' : Byt M') (w : World) :
    Calls Try.prog 49 #[.agg (cv V M), .agg (cv V' M')] w fun e w' => e = .returned (.bool (within V M V' M')) ∧ Below w.heap.size w w' := by
  have hVl := hV.1
  have hMl := hM.1
  have hVl' := hV'.1
  have hMl' := hM'.1
  have CA : Hid (∀ k : Nat, k < 104 → ∀ W, Calls Try.prog 30 #[.agg (cv V M), .int .i64 (k : Int)] W fun e w' => e = .returned (.int .i64 (atI V M k)) ∧ Below W.heap.size W w') := fun k hk => at_any V M hV hM k hk
  have CB : Hid (∀ k : Nat, k < 104 → ∀ W, Calls Try.prog 30 #[.agg (cv V' M'), .int .i64 (k : Int)] W fun e w' => e = .returned (.int .i64 (atI V' M' k)) ∧ Below W.heap.size W w') := fun k hk => at_any V' M' hV' hM' k hk
  clear hV hM hV' hM'
  go_enter Try.func49, Try.ntmps49
  go_wp2_with fail
  go_loopw [5] (fun i wr => ∃ k : Nat, k ≤ 104 ∧ i = .int .i64 k ∧ (∀ j, j < k → bt M' j = true → bt M j = true ∧ bt V j = bt V' j) ∧ wr.heap[w.heap.size]? = some (.cells (cv V M) 26 (0, 0)) ∧ wr.heap[w.heap.size + 1]? = some (.cells (cv V' M') 26 (0, 0)) ∧ Below w.heap.size w wr) (fun i _ => 104 - (intOf i).toNat)
  case atStart => exact ⟨0, Nat.zero_le _, rfl, fun j hj => by omega, heap_past _ _ _ _ (heap_new _ _ _ rfl), heap_new _ _ _ (by simp), ((Below.refl _ _).alloc (Nat.le_refl _) _).alloc (by simp) _⟩
  case round =>
    obtain ⟨k, hk, rfl, hj, g0, g1, hb⟩ := hrel
    have HJ : Hid (∀ j, j < k → bt M' j = true → bt M j = true ∧ bt V j = bt V' j) := hj
    have hz := (Array.getElem?_eq_some_iff.1 g1).1
    clear hj
    by_cases hlt : k < 104
    · go_wp2_with (first
        | (refine wl_loadC rfl _ rfl (w.heap.size + 1) rfl V' M' g1 hVl' hMl' ?_))
      refine (CB.out k hlt _).mono ?_
      rintro e w1 ⟨rfl, hb1⟩
      have k0 : w1.heap[w.heap.size]? = some (.cells (cv V M) 26 (0, 0)) := by rw [hb1.block _ (by omega)]; exact g0
      have k1 : w1.heap[w.heap.size + 1]? = some (.cells (cv V' M') 26 (0, 0)) := by rw [hb1.block _ (by omega)]; exact g1
      have B1 := hb.trans (hb1.mono hb.size)
      have hz1 := Nat.lt_of_lt_of_le hz hb1.size
      clear g0 g1 hb hb1 hz
      by_cases hm : bt M' k = true
      · have HM : Hid (bt M' k = true) := hm
        have hy : (atI V' M' k != 2) = true := by rw [at_ne2]; exact hm
        obtain ⟨y, hye⟩ : ∃ y, y = atI V' M' k := ⟨_, rfl⟩
        obtain ⟨x, hxe⟩ : ∃ x, x = atI V M k := ⟨_, rfl⟩
        have hxy : (x != y) = !(bt M k && (bt V k == bt V' k)) := by
          rw [hxe, hye]; unfold atI; rw [hm]
          cases bt M k <;> cases bt V k <;> cases bt V' k <;> rfl
        have C1 : Hid (∀ W, Calls Try.prog 30 #[.agg (cv V M), .int .i64 (k : Int)] W fun e w' => e = .returned (.int .i64 x) ∧ Below W.heap.size W w') := by rw [hxe]; exact CA.out k hlt
        rw [← hye] at hy ⊢
        have HXY : Hid ((x != y) = !(bt M k && (bt V k == bt V' k))) := hxy
        clear hm hye hxe hxy
        by_cases hne : x = y
        · have hn : (x != y) = false := by simp [hne]
          have HN : Hid ((x != y) = false) := hn
          clear hne
          go_wp2_with (first
            | (refine wl_loadCg rfl _ rfl w.heap.size rfl V M k0 hVl hMl ?_))
          refine (C1.out _).mono ?_
          rintro e w2 ⟨rfl, hb2⟩
          have l0 : w2.heap[w.heap.size]? = some (.cells (cv V M) 26 (0, 0)) := by rw [hb2.block _ (by omega)]; exact k0
          have l1 : w2.heap[w.heap.size + 1]? = some (.cells (cv V' M') 26 (0, 0)) := by rw [hb2.block _ (by omega)]; exact k1
          have B2 := B1.trans (hb2.mono B1.size)
          clear k0 k1 hb2 C1 B1 hz1
          go_wp2_with fail
          go_roundw
          case rel =>
            refine ⟨k + 1, by omega, by go_num, fun j hj hm => ?_, l0, l1, B2⟩
            by_cases e : j = k
            · subst e
              have := HXY.out
              rw [HN.out] at this
              simpa using this.symm
            · exact HJ.out j (by omega) hm
          case measure => simp [intOf]; omega
        · have hn : (x != y) = true := by simpa using hne
          have HN : Hid ((x != y) = true) := hn
          clear hne
          go_wp2_with (first
            | (refine wl_loadCg rfl _ rfl w.heap.size rfl V M k0 hVl hMl ?_))
          refine (C1.out _).mono ?_
          rintro e w2 ⟨rfl, hb2⟩
          have B2 := B1.trans (hb2.mono B1.size)
          clear k0 k1 hb2 C1 B1 hz1
          go_wp2_with fail
          go_ret
          refine ⟨ret_bool ?_, B2⟩
          cases e : within V M V' M'
          · rfl
          · have h3 := (within_iff V M V' M').1 e k hlt HM.out
            have := HXY.out
            rw [HN.out, h3.1, h3.2] at this
            simp at this
      · have hm' : bt M' k = false := by simpa using hm
        have HM : Hid (bt M' k = false) := hm'
        have ea : atI V' M' k = 2 := by unfold atI; rw [hm']; rfl
        rw [ea]
        clear hm hm' ea
        go_wp2_with fail
        go_roundw
        case rel =>
          refine ⟨k + 1, by omega, by go_num, fun j hj hm => ?_, k0, k1, B1⟩
          by_cases e : j = k
          · subst e; rw [HM.out] at hm; cases hm
          · exact HJ.out j (by omega) hm
        case measure => simp [intOf]; omega
    · obtain rfl : k = 104 := by omega
      go_wp2_with fail
      go_ret
      exact ⟨ret_bool ((within_iff V M V' M').2 HJ.out).symm, hb⟩
end Go.Proofs.Ytbhnjhiecoapbaa
