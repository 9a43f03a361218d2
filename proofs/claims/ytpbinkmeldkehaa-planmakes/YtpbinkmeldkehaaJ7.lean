import Derived.Test.YtpbinkmeldkehaaJ6
import Derived.Test.YtpbinkmeldkehaaJ1
import Derived.Laws.Externs
import Derived.Lib.Hide
import Derived.Test.YtpbinkmeldkehaaJ4
import Derived.Test.YtpbinkmeldkehaaJ5
import Derived.SizedLaws
import Derived.Laws.AppendOwn
import Derived.Laws.OwnMore
import Derived.Laws.AppendOwnNone
import Derived.Maps.AppendAt
import Derived.OwnWalk
namespace Go.Proofs.Ytpbinkmeldkehaa

/-- One place stands ahead of another: by what it holds, and of those that stand alike the lower one. -/
def ahead (K : Nat → Int) (i j : Nat) : Prop := K i < K j ∨ (K i = K j ∧ i < j)
theorem ahead_asymm {K : Nat → Int} {i j : Nat} (h : ahead K i j) (h' : ahead K j i) : False := by unfold ahead at h h'; omega
theorem ahead_trans {K : Nat → Int} {i j k : Nat} (h : ahead K i j) (h' : ahead K j k) : ahead K i k := by unfold ahead at h h' ⊢; omega
/-- All places below n, in their order. -/
def IsOrd (K : Nat → Int) (n : Nat) (o : List Nat) : Prop := (∀ i, i ∈ o ↔ i < n) ∧ o.Pairwise (ahead K)
theorem ord_ext {K : Nat → Int} : ∀ {o p : List Nat}, o.Pairwise (ahead K) → p.Pairwise (ahead K) → (∀ x, x ∈ o ↔ x ∈ p) → o = p
  | [], [], _, _, _ => rfl
  | [], b :: p, _, _, h => absurd ((h b).2 (by simp)) (by simp)
  | a :: o, [], _, _, h => absurd ((h a).1 (by simp)) (by simp)
  | a :: o, b :: p, ho, hp, h => by
    rw [List.pairwise_cons] at ho hp
    have hab : a = b := by
      rcases Nat.lt_trichotomy a b with hl | hl | hl
      · exfalso
        have h1 : a ∈ p := by rcases List.mem_cons.1 ((h a).1 (by simp)) with e | e; omega; exact e
        have h2 : b ∈ o := by rcases List.mem_cons.1 ((h b).2 (by simp)) with e | e; omega; exact e
        exact ahead_asymm (ho.1 b h2) (hp.1 a h1)
      · exact hl
      · exfalso
        have h1 : a ∈ p := by rcases List.mem_cons.1 ((h a).1 (by simp)) with e | e; omega; exact e
        have h2 : b ∈ o := by rcases List.mem_cons.1 ((h b).2 (by simp)) with e | e; omega; exact e
        exact ahead_asymm (ho.1 b h2) (hp.1 a h1)
    subst hab
    have ha : a ∉ o := fun e => ahead_asymm (ho.1 a e) (ho.1 a e)
    have hb : a ∉ p := fun e => ahead_asymm (hp.1 a e) (hp.1 a e)
    rw [ord_ext ho.2 hp.2 fun x => ?_]
    constructor
    · intro hx
      rcases List.mem_cons.1 ((h x).1 (List.mem_cons_of_mem _ hx)) with e | e
      · rw [e] at hx; exact absurd hx ha
      · exact e
    · intro hx
      rcases List.mem_cons.1 ((h x).2 (List.mem_cons_of_mem _ hx)) with e | e
      · rw [e] at hx; exact absurd hx hb
      · exact e
/-- There is just one such list. -/
theorem ord_one {K : Nat → Int} {n : Nat} {o p : List Nat} (ho : IsOrd K n o) (hp : IsOrd K n p) : o = p := ord_ext ho.2 hp.2 fun x => (ho.1 x).trans (hp.1 x).symm

/-- The first of those that are left, picked one by one. -/
def PartOrd (K : Nat → Int) (n : Nat) (o : List Nat) : Prop := (∀ i ∈ o, i < n) ∧ o.Pairwise (ahead K) ∧ ∀ i ∈ o, ∀ j, j < n → j ∉ o → ahead K i j
theorem part_nil (K : Nat → Int) (n : Nat) : PartOrd K n [] := ⟨fun _ h => by simp at h, List.Pairwise.nil, fun _ h => by simp at h⟩
/-- The first of those below m that are left. -/
def IsFirst (K : Nat → Int) (o : List Nat) (m b : Nat) : Prop := b < m ∧ b ∉ o ∧ ∀ j, j < m → j ∉ o → j ≠ b → ahead K b j
theorem part_snoc {K : Nat → Int} {n : Nat} {o : List Nat} {b : Nat} (h : PartOrd K n o) (hb : IsFirst K o n b) : PartOrd K n (o ++ [b]) := by
  obtain ⟨h1, h2, h3⟩ := h
  obtain ⟨b1, b2, b3⟩ := hb
  refine ⟨fun i hi => ?_, ?_, fun i hi j hj hjn => ?_⟩
  · rcases List.mem_append.1 hi with h | h
    · exact h1 i h
    · have : i = b := by simpa using h
      omega
  · rw [List.pairwise_append]
    refine ⟨h2, by simp, fun i hi j hj => ?_⟩
    have : j = b := by simpa using hj
    rw [this]
    exact h3 i hi b b1 b2
  · have hj1 : j ∉ o := fun e => hjn (List.mem_append_left _ e)
    have hj2 : j ≠ b := fun e => hjn (by rw [e]; simp)
    rcases List.mem_append.1 hi with h | h
    · exact h3 i h j hj hj1
    · have : i = b := by simpa using h
      rw [this]
      exact b3 j hj hj1 hj2
/-- How the first is found: none yet, or one, below m; the next place is m. -/
theorem first_skip {K : Nat → Int} {o : List Nat} {m b : Nat} (h : IsFirst K o m b) (hm : m ∈ o ∨ ¬ K m < K b) : IsFirst K o (m + 1) b := by
  obtain ⟨h1, h2, h3⟩ := h
  refine ⟨by omega, h2, fun j hj hjo hjb => ?_⟩
  by_cases e : j = m
  · subst e
    rcases hm with hm | hm
    · exact absurd hm hjo
    · unfold ahead; omega
  · exact h3 j (by omega) hjo hjb
theorem first_take {K : Nat → Int} {o : List Nat} {m b : Nat} (h : IsFirst K o m b) (hm : m ∉ o) (hk : K m < K b) : IsFirst K o (m + 1) m := by
  obtain ⟨h1, h2, h3⟩ := h
  refine ⟨by omega, hm, fun j hj hjo hjm => ?_⟩
  by_cases e : j = b
  · subst e; exact .inl hk
  · exact ahead_trans (.inl hk) (h3 j (by omega) hjo e)
theorem first_begin {K : Nat → Int} {o : List Nat} {m : Nat} (hm : m ∉ o) (h : ∀ j, j < m → j ∈ o) : IsFirst K o (m + 1) m :=
  ⟨by omega, hm, fun j hj hjo hjm => absurd (h j (by omega)) hjo⟩
/-- A list of different places below n has at most n of them; with n all are there. -/
theorem places_le (n : Nat) : ∀ (o : List Nat), (∀ i ∈ o, i < n) → o.Nodup → o.length ≤ n := by
  induction n with
  | zero =>
    intro o h _
    cases o with
    | nil => simp
    | cons a o => have := h a (by simp); omega
  | succ n ih =>
    intro o h hn
    have h1 := ih (o.erase n) (fun i hi => by
      have h2 := h i (List.mem_of_mem_erase hi)
      have h3 : i ≠ n := fun e => by rw [e] at hi; exact (List.Nodup.not_mem_erase hn) hi
      omega) (hn.erase n)
    have h4 : o.length ≤ (o.erase n).length + 1 := by rw [List.length_erase]; split <;> omega
    omega
theorem places_all (n : Nat) (o : List Nat) (h : ∀ i ∈ o, i < n) (hn : o.Nodup) (hl : o.length = n) (i : Nat) (hi : i < n) : i ∈ o := by
  rcases Classical.em (i ∈ o) with hm | hm
  · exact hm
  · exfalso
    have := places_le n (i :: o) (fun j hj => by rcases List.mem_cons.1 hj with e | e; omega; exact h j e) (List.nodup_cons.2 ⟨hm, hn⟩)
    simp at this
    omega
theorem part_nodup {K : Nat → Int} {n : Nat} {o : List Nat} (h : PartOrd K n o) : o.Nodup :=
  h.2.1.imp fun hab e => by rw [e] at hab; exact ahead_asymm hab hab
/-- When so many were picked as there are, all are in their order. -/
theorem part_all {K : Nat → Int} {n : Nat} {o : List Nat} (h : PartOrd K n o) (hl : o.length = n) : IsOrd K n o :=
  ⟨fun i => ⟨h.1 i, places_all n o h.1 (part_nodup h) hl i⟩, h.2.1⟩
theorem sub_len : ∀ (l o : List Nat), l.Nodup → (∀ x ∈ l, x ∈ o) → l.length ≤ o.length
  | [], _, _, _ => Nat.zero_le _
  | a :: l, o, hn, h => by
    rw [List.nodup_cons] at hn
    have ha : a ∈ o := h a (by simp)
    have h1 := sub_len l (o.erase a) hn.2 fun x hx => by
      have hne : x ≠ a := fun e => hn.1 (by rw [← e]; exact hx)
      exact (List.mem_erase_of_ne hne).2 (h x (by simp [hx]))
    have h2 : (o.erase a).length = o.length - 1 := List.length_erase_of_mem ha
    have h3 : 0 < o.length := List.length_pos_of_mem ha
    simp only [List.length_cons]
    omega
theorem part_more {n : Nat} {o : List Nat} (hl : o.length < n) : ∃ i, i < n ∧ i ∉ o := by
  rcases Classical.em (∃ i, i < n ∧ i ∉ o) with h1 | h1
  · exact h1
  · exfalso
    have h3 := sub_len (List.range n) o List.nodup_range fun i hi => Classical.byContradiction fun h3 => h1 ⟨i, List.mem_range.1 hi, h3⟩
    rw [List.length_range] at h3
    omega
end Go.Proofs.Ytpbinkmeldkehaa
namespace Go.Proofs.Ytpbinkmeldkehaa
open Ieee

/-- Where a word stands among all: what is no number behind all others. -/
def placeT (b : Nat) : Int := if isN double b = true then 9223372036854775807 else plc double b
theorem plc_le (b : Nat) (hb : b < 2 * double.signWeight) (hn : isN double b = false) : -9218868437227405312 ≤ plc double b ∧ plc double b ≤ 9218868437227405312 := by
  obtain ⟨s, r, hr, e1, e2, e3⟩ := word_split double b hb
  unfold isN at hn
  rw [e1, d_inf] at hn
  have : r ≤ 9218868437227405312 := by simpa using hn
  rw [e3]
  unfold sg
  cases s <;> simp <;> omega
theorem placeT_le (b : Nat) (hb : b < 2 * double.signWeight) : placeT b ≤ 9223372036854775807 := by
  unfold placeT
  cases h : isN double b with
  | true => simp
  | false => have := plc_le b hb h; simp; omega
theorem placeT_nan (b : Nat) (h : isN double b = true) : placeT b = 9223372036854775807 := by unfold placeT; rw [if_pos h]
theorem placeT_num (b : Nat) (h : isN double b = false) : placeT b = plc double b := by unfold placeT; rw [if_neg (by rw [h]; simp)]
theorem less_nan (x y : Nat) (hy : y < 2 * double.signWeight) (h : isN double x = true) : ¬ placeT x < placeT y := by
  have := placeT_le y hy
  rw [placeT_nan x h]
  omega
theorem less_num_nan (x y : Nat) (hx : x < 2 * double.signWeight) (h : isN double x = false) (h' : isN double y = true) : placeT x < placeT y := by
  have := plc_le x hx h
  rw [placeT_nan y h', placeT_num x h]
  omega
theorem order_place (x y : Nat) (hx : x < 2 * double.signWeight) (hy : y < 2 * double.signWeight) (h : isN double x = false) (h' : isN double y = false) : double.order x y = some (compare (placeT x) (placeT y)) := by
  rw [order_word double dE x y hx hy h h', placeT_num x h, placeT_num y h']
theorem some_lt (a b : Int) : (some (compare a b) == some Ordering.lt) = decide (a < b) := by
  rcases Int.lt_trichotomy a b with h | h | h
  · rw [cmp_lt h]; simp [h]
  · rw [cmp_eq h]; simp [h]
  · rw [cmp_gt h]; simp; omega
theorem some_eq (a b : Int) : (some (compare a b) == some Ordering.eq) = decide (a = b) := by
  rcases Int.lt_trichotomy a b with h | h | h
  · rw [cmp_lt h]; simp; omega
  · rw [cmp_eq h]; simp [h]
  · rw [cmp_gt h]; simp; omega
theorem some_gt (a b : Int) : (some (compare a b) == some Ordering.gt) = decide (b < a) := by
  rcases Int.lt_trichotomy a b with h | h | h
  · rw [cmp_lt h]; simp; omega
  · rw [cmp_eq h]; simp [h]
  · rw [cmp_gt h]; simp [h]
theorem rung_num (r : Nat) (h : r ≤ double.infRung) : isN double r = false ∧ plc double r = (r : Int) := by
  have h2 := double.infRung_lt
  unfold isN plc
  rw [Nat.mod_eq_of_lt (by omega), if_neg (by omega)]
  simp
  omega
end Go.Proofs.Ytpbinkmeldkehaa
namespace Go.Proofs.Ytpbinkmeldkehaa
open Go Go.Lib Go.RowKit Ieee
set_option maxRecDepth 20000

theorem f64d : FloatKind.f64.format = double := rfl
/-- A word's bits. -/
def Wd (x : Nat) : Prop := x < 2 * double.signWeight
theorem wd_iff (x : Nat) : Wd x ↔ x < 18446744073709551616 := by unfold Wd; rw [d_sw]
theorem wd_rung {x : Nat} (h : x ≤ double.infRung) : Wd x := by rw [wd_iff]; rw [d_inf] at h; omega
theorem nan_iff (x : Nat) : isN double x = true ↔ double.infRung < x % double.signWeight := by unfold isN; simp
theorem num_iff (x : Nat) : isN double x = false ↔ x % double.signWeight ≤ double.infRung := by unfold isN; simp
theorem order_gt0 (x : Nat) (hx : Wd x) : (FloatKind.f64.format.order x 0 == some Ordering.gt) = decide (0 < x ∧ x ≤ double.infRung) := by
  rw [f64d]
  have h2 := double.infRung_lt
  cases hn : isN double x with
  | true =>
    rw [order_nan double dE x 0 (.inl hn)]
    have h := (nan_iff x).1 hn
    have : ¬ (0 < x ∧ x ≤ double.infRung) := fun ⟨_, h3⟩ => by rw [Nat.mod_eq_of_lt (by omega)] at h; omega
    rw [decide_eq_false this]; rfl
  | false =>
    have h := (num_iff x).1 hn
    rw [order_word double dE x 0 hx (by rw [d_sw]; decide) hn (rung_num 0 (Nat.zero_le _)).1, (rung_num 0 (Nat.zero_le _)).2, some_gt]
    apply decide_eq_decide.2
    unfold plc
    by_cases hs : double.signWeight ≤ x
    · rw [if_pos hs]; omega
    · rw [if_neg hs]
      rw [Nat.mod_eq_of_lt (by omega)] at h
      omega
theorem order_gtM (x : Nat) (hx : Wd x) : (FloatKind.f64.format.order x 9218868437227405311 == some Ordering.gt) = decide (x = double.infRung) := by
  rw [f64d]
  have h2 := double.infRung_lt
  have hm : (9218868437227405311 : Nat) + 1 = double.infRung := max_inf
  cases hn : isN double x with
  | true =>
    rw [order_nan double dE x _ (.inl hn)]
    have h := (nan_iff x).1 hn
    have : ¬ (x = double.infRung) := fun h3 => by rw [Nat.mod_eq_of_lt (by omega)] at h; omega
    rw [decide_eq_false this]; rfl
  | false =>
    have h := (num_iff x).1 hn
    have hr := rung_num 9218868437227405311 (by omega)
    rw [order_word double dE x _ hx (by rw [d_sw]; decide) hn hr.1, hr.2, some_gt]
    apply decide_eq_decide.2
    unfold plc
    by_cases hs : double.signWeight ≤ x
    · rw [if_pos hs]; omega
    · rw [if_neg hs]
      rw [Nat.mod_eq_of_lt (by omega)] at h
      omega
theorem order_self (x : Nat) (hx : Wd x) : (FloatKind.f64.format.order x x == some Ordering.eq) = !(isN double x) := by
  rw [f64d]
  cases hn : isN double x with
  | true => rw [order_nan double dE x _ (.inl hn)]; rfl
  | false => rw [order_word double dE x x hx hx hn hn, some_eq]; simp
theorem cleanT_none (x : Nat) (h : ¬ (0 < x ∧ x ≤ double.infRung)) : cleanT x = 0 := by
  unfold cleanT
  split
  · rfl
  · omega
theorem clean_any (x : Nat) (hx : Wd x) (w : World) : Calls Try.prog 77 #[.float .f64 x] w fun e w' => e = .returned (.float .f64 (cleanT x)) ∧ w' = w := by
  have h1 := order_gt0 x hx
  have h2 := order_gtM x hx
  have hm : (9218868437227405311 : Nat) + 1 = double.infRung := max_inf
  by_cases c1 : 0 < x ∧ x ≤ double.infRung
  · rw [decide_eq_true c1] at h1
    by_cases c2 : x = double.infRung
    · have HV : Hid (cleanT x = 9218868437227405311) := by show _ = _; rw [cleanT_rung x c1.2]; unfold MAXR; omega
      rw [decide_eq_true c2] at h2
      clear c1 c2 hx hm
      go_enter Try.func77, Try.ntmps77
      go_wp2
      go_ret
      exact ⟨by rw [HV.out]; rfl, rfl⟩
    · have HV : Hid (cleanT x = x) := cleanT_fix x (by omega)
      rw [decide_eq_false c2] at h2
      clear c1 c2 hx hm
      go_enter Try.func77, Try.ntmps77
      go_wp2
      go_ret
      exact ⟨by rw [HV.out]; rfl, rfl⟩
  · have HV : Hid (cleanT x = 0) := cleanT_none x c1
    rw [decide_eq_false c1] at h1
    clear c1 hx hm h2
    go_enter Try.func77, Try.ntmps77
    go_wp2
    go_ret
    exact ⟨by rw [HV.out]; rfl, rfl⟩
theorem isnan_any (x : Nat) (hx : Wd x) (w : World) : Calls Try.prog 78 #[.float .f64 x] w fun e w' => e = .returned (.bool (isN double x)) ∧ w' = w := by
  have h1 := order_self x hx
  clear hx
  generalize isN double x = b at h1 ⊢
  cases b
  · go_enter Try.func78, Try.ntmps78
    go_wp2
    go_ret
    exact ⟨by simpa using h1, rfl⟩
  · go_enter Try.func78, Try.ntmps78
    go_wp2
    go_ret
    exact ⟨by simpa using h1, rfl⟩
theorem order_lss (x y : Nat) (hx : Wd x) (hy : Wd y) : (FloatKind.f64.format.order x y == some Ordering.lt) = (!(isN double x) && !(isN double y) && decide (placeT x < placeT y)) := by
  rw [f64d]
  cases h : isN double x with
  | true => rw [order_nan double dE x y (.inl h)]; rfl
  | false =>
    cases h' : isN double y with
    | true => rw [order_nan double dE x y (.inr h')]; rfl
    | false => rw [order_place x y hx hy h h', some_lt]; simp
/-- Less. -/
theorem less_any (x y : Nat) (hx : Wd x) (hy : Wd y) (w : World) : Calls Try.prog 58 #[.float .f64 x, .float .f64 y] w fun e w' => e = .returned (.bool (decide (placeT x < placeT y))) ∧ w' = w := by
  have HN : Hid (∀ x W, Wd x → Calls Try.prog 78 #[.float .f64 x] W fun e w' => e = .returned (.bool (isN double x)) ∧ w' = W) := fun x W h => isnan_any x h W
  have HX : Hid (Wd x) := hx
  have HY : Hid (Wd y) := hy
  have h1 := order_lss x y hx hy
  cases hn : isN double x with
  | true =>
    have HV : Hid (decide (placeT x < placeT y) = false) := decide_eq_false (less_nan x y hy hn)
    rw [hn] at h1
    clear hx hy
    go_enter Try.func58, Try.ntmps58
    go_wp2_with (go_at_call 78; refine (HN.out _ _ (by first | exact HX.out | exact HY.out)).mono ?_; rintro e w' ⟨rfl, rfl⟩; try rw [hn])
    go_ret
    exact ⟨by rw [HV.out]; rfl, rfl⟩
  | false =>
    cases hn' : isN double y with
    | true =>
      have HV : Hid (decide (placeT x < placeT y) = true) := decide_eq_true (less_num_nan x y hx hn hn')
      rw [hn, hn'] at h1
      clear hx hy
      go_enter Try.func58, Try.ntmps58
      go_wp2_with (go_at_call 78; refine (HN.out _ _ (by first | exact HX.out | exact HY.out)).mono ?_; rintro e w' ⟨rfl, rfl⟩; try (first | rw [hn] | rw [hn']))
      go_ret
      exact ⟨by rw [HV.out]; rfl, rfl⟩
    | false =>
      rw [hn, hn'] at h1
      clear hx hy
      generalize decide (placeT x < placeT y) = tb at h1 ⊢
      simp only [Bool.not_false, Bool.true_and] at h1
      go_enter Try.func58, Try.ntmps58
      go_wp2_with (go_at_call 78; refine (HN.out _ _ (by first | exact HX.out | exact HY.out)).mono ?_; rintro e w' ⟨rfl, rfl⟩; try (first | rw [hn] | rw [hn']))
      go_ret
      exact ⟨by rfl, rfl⟩
end Go.Proofs.Ytpbinkmeldkehaa
namespace Go.Proofs.Ytpbinkmeldkehaa
open Go.ChangeShapes Go.WideShapes Go.ChangeAt Go.WideMaps Go.WideElems Go.RowKit
set_option maxRecDepth 20000

theorem take_one12 {cs : List Value} {i : Nat} {v : Value} (h : (cs.drop i).take 1 = [v]) : cs[i]? = some v := by
  have := congrArg List.head? h
  rw [List.head?_take, if_neg (by decide), List.head?_drop] at this
  simpa using this
theorem field_int12 {P : Program} {H : Type} {enc : TypeId × Value → H} {W : World} {base : Nat} {spare : Nat → Bool} {held : Bool} {n : Nat} {t : TypeId} {cs : List Value} {y : Option (DataW H × List MemPlace)} {i : Nat} {k : IntKind} (ht : P.underlying t = some (.int k)) (hc : P.cellsOf t = 1)
    (h : DataW.trod enc P W base spare held n t ((cs.drop i).take (P.cellsOf t)) = y) (hy : y.isSome = true) : ∃ z : Int, cs[i]? = some (.int k z) := by
  obtain ⟨y', rfl⟩ := Option.isSome_iff_exists.1 hy
  obtain ⟨z, h1, _, h3⟩ := DataW.trod_int ht h
  rw [hc] at h1
  exact ⟨z, take_one12 h1⟩
theorem xs_some12 {α : Type} {xs : List α} {n i : Nat} (h : xs.length = n) (hi : i < n) : (xs[i]?).isSome = true := by
  rw [List.getElem?_eq_getElem (by omega)]; rfl
theorem cube_of12 {H : Type} {enc : TypeId × Value → H} {W : World} {base : Nat} {spare : Nat → Bool} {held : Bool} {fuel : Nat} {cs : List Value} {x : DataW H × List MemPlace} (hl : cs.length = 26)
    (h : DataW.trod enc Try.prog W base spare held fuel 42 cs = some x) : ∃ V M : List Int, cs = (cv V M).toList ∧ Byt V ∧ Byt M := by
  have c13 : Try.prog.cellsOf 38 = 13 := by kernel_rfl
  obtain ⟨y0, y1, k, hy, _, t0, t1⟩ := trod_struct2 Try.underlying42 h
  rw [c13] at t0 t1
  obtain ⟨V, hV, bV⟩ := bytes_of (by simp; omega) t0
  obtain ⟨M, hM, bM⟩ := bytes_of (by simp; omega) t1
  refine ⟨V, M, ?_, bV, bM⟩
  unfold cv hv
  rw [List.map_append, ← hV, ← hM]
  simp only [List.drop_zero]
  rw [List.take_of_length_le (l := List.drop 13 cs) (by simp; omega), List.take_append_drop]
theorem rule_of12 {H : Type} {enc : TypeId × Value → H} {W : World} {base : Nat} {spare : Nat → Bool} {held : Bool} (fuel : Nat) (cs : List Value) (x : DataW H × List MemPlace) (hl : cs.length = 28)
    (h : DataW.trod enc Try.prog W base spare held fuel 44 cs = some x) : ∃ r : { r : RuleM // okR8 r }, cs = (ruleV r.1).toList ∧ True := by
  have c3 : Try.prog.cellsOf 3 = 1 := by kernel_rfl
  have c26 : Try.prog.cellsOf 42 = 26 := by kernel_rfl
  obtain ⟨xs, n, _, _, _, hxl, hf⟩ := DataW.trod_struct Try.underlying44 h
  obtain ⟨n0, h0⟩ := field_int12 Try.underlying3 c3 (hf 0 _ rfl) (xs_some12 hxl (by decide))
  obtain ⟨n2, h2⟩ := field_int12 Try.underlying3 c3 (hf 2 _ rfl) (xs_some12 hxl (by decide))
  have h1 : DataW.trod enc Try.prog W base spare held n 42 ((cs.drop 1).take (Try.prog.cellsOf 42)) = xs[1]? := hf 1 _ rfl
  have hs1 := xs_some12 hxl (show 1 < 3 by decide)
  obtain ⟨y, hy⟩ := Option.isSome_iff_exists.1 hs1
  rw [hy] at h1
  rw [c26] at h1
  obtain ⟨V, M, hVM, bV, bM⟩ := cube_of12 (by simp; omega) h1
  have hR : okR8 ⟨n0, (V, M), n2⟩ := ⟨bV, bM⟩
  have key : cs = (ruleV ⟨n0, (V, M), n2⟩).toList := by
    have hsz := ruleV_size hR
    obtain ⟨r0, r1, r2⟩ := rule_at hR
    apply List.ext_getElem?
    intro k
    have e : (ruleV ⟨n0, (V, M), n2⟩).toList[k]? = (ruleV ⟨n0, (V, M), n2⟩)[k]? := Array.getElem?_toList
    rw [e]
    rcases (show k = 0 ∨ (1 ≤ k ∧ k < 27) ∨ k = 27 ∨ 28 ≤ k by omega) with rfl | ⟨k1, k2⟩ | rfl | hk
    · rw [r0]; exact h0
    · obtain ⟨j, rfl⟩ : ∃ j, k = 1 + j := ⟨k - 1, by omega⟩
      rw [r1 j (by omega), ← Array.getElem?_toList, ← hVM, List.getElem?_take_of_lt (by omega), List.getElem?_drop]
    · rw [r2]; exact h2
    · rw [List.getElem?_eq_none (by omega), Array.getElem?_eq_none (by omega)]
  exact ⟨⟨_, hR⟩, key, trivial⟩
theorem gsl_map12 {α β : Type} {E : El} {enc : β → Array Value} {f : α → β} {w : World} {v : Value} {C : List α} (h : GSl E (fun a => enc (f a)) w v C) : GSl E enc w v (C.map f) := by
  obtain ⟨o, cap, h1, h2, h3, h4⟩ := h
  refine ⟨o, cap, by rw [List.length_map]; exact h1, by rw [List.length_map]; exact h2, h3, fun i hi => ?_⟩
  have hi' : i < C.length := by rw [List.length_map] at hi; exact hi
  obtain ⟨g, off, cur, t, fr, e1, e2, e3⟩ := h4 i hi'
  refine ⟨g, off, cur, t, fr, e1, e2, fun j hj => ?_⟩
  have e4 := e3 j hj
  rw [List.getElem_map]
  exact e4
/-- Rules that come in. -/
theorem open_rules12 {H : Type} {enc : TypeId × Value → H} {W : World} {r : Reach} {b0 base : Nat} {spare : Nat → Bool} {held : Bool} {v : Value} {d : DataW H} {p : List MemPlace}
    (hok : Value.okWide Try.prog W r b0 27 v) (h : DataW.Trod enc Try.prog W base spare held 27 v d p) :
    ∃ l, RulesAt W v l ∧ ∀ r ∈ l, okR8 r := by
  obtain ⟨fuel, hf⟩ := h
  have hv1 : v.cells.toList = [v] := by
    simp only [Value.okWide, Cell.okWide, Cell.ok, Try.underlying27] at hok
    cases v <;> simp_all [Value.cells]
  rw [hv1] at hf
  have hin : Inhabited { r : RuleM // okR8 r } := ⟨⟨rule0, rule0_ok⟩⟩
  have hsz : ∀ a : { r : RuleM // okR8 r }, (ruleV a.1).size = RuleE.size := fun a => ruleV_size a.2
  have hof : ∀ (fuel : Nat) (cs : List Value) (x : DataW H × List MemPlace), cs.length = RuleE.size → DataW.trod enc Try.prog W base spare held fuel RuleE.elem cs = some x → ∃ r : { r : RuleM // okR8 r }, cs = (ruleV r.1).toList ∧ True := fun fuel cs x h1 h2 => rule_of12 fuel cs x h1 h2
  obtain ⟨l, h1, _⟩ := open_any (E := RuleE) RuleOk (fun r : { r : RuleM // okR8 r } => ruleV r.1) hsz (fun _ => True) hof hf
  refine ⟨l.map (fun q : { r : RuleM // okR8 r } => q.1), gsl_map12 (enc := ruleV) (f := fun q : { r : RuleM // okR8 r } => q.1) h1, fun r hr => ?_⟩
  obtain ⟨q, _, rfl⟩ := List.mem_map.1 hr
  exact q.2
end Go.Proofs.Ytpbinkmeldkehaa
namespace Go.Proofs.Ytpbinkmeldkehaa
open Go Go.Lib Go.RowKit Ieee
set_option maxRecDepth 20000

theorem bits_run (x : Nat) (w : World) : (callFunc 89 #[.float .f64 x]).run Try.prog w = .ok (.value (.int .u64 x)) w := by
  rw [run_callFunc_extern (e := Extern.MathFloatBits.float64bits) Try.func89 (by kernel_rfl) (by kernel_rfl) (by kernel_rfl) (by kernel_rfl)]
  rfl
theorem frombits_run (n : Int) (w : World) : (callFunc 90 #[.int .u64 n]).run Try.prog w = .ok (.value (.float .f64 n.toNat)) w := by
  rw [run_callFunc_extern (e := Extern.MathFloatBits.float64frombits) Try.func90 (by kernel_rfl) (by kernel_rfl) (by kernel_rfl) (by kernel_rfl)]
  rfl
theorem rclean_any (x : Nat) (hx : Wd x) (w : World) : Calls Try.prog 70 #[.float .f64 x] w fun e w' => e = .returned (.float .f64 (cleanT x)) ∧ w' = w := by
  have h1 := bits_run x
  have h2 := frombits_run
  have hx' := (wd_iff x).1 hx
  clear hx
  by_cases c1 : 9223372036854775808 ≤ x
  · have h3 : (x : Int) / 9223372036854775808 = 1 := by omega
    have HV : Hid (cleanT x = 0) := by show _ = _; unfold cleanT; rw [d_sw, if_pos (.inl c1)]
    clear c1 hx'
    go_enter Try.func70, Try.ntmps70
    go_wp2
    go_ret
    exact ⟨by rw [HV.out]; rfl, rfl⟩
  · have h3 : (x : Int) / 9223372036854775808 = 0 := by omega
    by_cases c2 : 9218868437227405312 < x
    · have h4 : (9218868437227405312 : Int) < (x : Int) := by omega
      have HV : Hid (cleanT x = 0) := by show _ = _; unfold cleanT; rw [d_inf, if_pos (.inr c2)]
      clear c1 c2 hx'
      go_enter Try.func70, Try.ntmps70
      go_wp2
      go_ret
      exact ⟨by rw [HV.out]; rfl, rfl⟩
    · have h4 : ¬ (9218868437227405312 : Int) < (x : Int) := by omega
      have hr := cleanT_rung x (by rw [d_inf]; omega)
      by_cases c3 : 9218868437227405311 < x
      · have h5 : (9218868437227405311 : Int) < (x : Int) := by omega
        have HV : Hid (cleanT x = 9218868437227405311) := by show _ = _; rw [hr]; unfold MAXR; omega
        clear c1 c2 c3 hx' hr
        go_enter Try.func70, Try.ntmps70
        go_wp2
        go_ret
        exact ⟨by rw [HV.out]; rfl, rfl⟩
      · have h5 : ¬ (9218868437227405311 : Int) < (x : Int) := by omega
        have HV : Hid (cleanT x = x) := by show _ = _; rw [hr]; unfold MAXR; omega
        clear c1 c2 c3 hx' hr
        go_enter Try.func70, Try.ntmps70
        go_wp2
        go_ret
        exact ⟨by rw [HV.out]; rfl, rfl⟩
theorem rplace_any (x : Nat) (hx : Wd x) (w : World) : Calls Try.prog 91 #[.float .f64 x] w fun e w' => e = .returned (.int .i64 (placeT x)) ∧ w' = w := by
  have h1 := bits_run x
  have hx' := (wd_iff x).1 hx
  obtain ⟨r, hr⟩ : ∃ r, r = x % 9223372036854775808 := ⟨_, rfl⟩
  obtain ⟨z, hz⟩ : ∃ z, z = 2 * r := ⟨_, rfl⟩
  have h4 : IntKind.u64.wrap ((x : Int) * 2) = (z : Int) := by rw [IntKind.wrap_u64]; omega
  have h5 : (z : Int) / 2 = (r : Int) := by omega
  have h6 : wrap64 (r : Int) = (r : Int) := by unfold wrap64; omega
  have h7 : wrap64 (-(r : Int)) = -(r : Int) := by unfold wrap64; omega
  by_cases c1 : 9218868437227405312 < r
  · have h8 : (18437736874454810624 : Int) < (z : Int) := by omega
    have HV : Hid (placeT x = 9223372036854775807) := placeT_nan x ((nan_iff x).2 (by rw [d_inf, d_sw, ← hr]; exact c1))
    clear c1 hx' hx hr hz
    go_enter Try.func91, Try.ntmps91
    go_wp2
    go_ret
    exact ⟨by rw [HV.out]; rfl, rfl⟩
  · have h8 : ¬ (18437736874454810624 : Int) < (z : Int) := by omega
    have hp := placeT_num x ((num_iff x).2 (by rw [d_inf, d_sw, ← hr]; omega))
    unfold plc at hp
    rw [d_sw] at hp
    by_cases c2 : 9223372036854775808 ≤ x
    · have h3 : (x : Int) / 9223372036854775808 = 1 := by omega
      have HV : Hid (placeT x = -(r : Int)) := by show _ = _; rw [hp, if_pos c2]; omega
      clear c1 c2 hx' hx hr hz hp
      go_enter Try.func91, Try.ntmps91
      go_wp2
      go_ret
      exact ⟨by rw [HV.out]; rfl, rfl⟩
    · have h3 : (x : Int) / 9223372036854775808 = 0 := by omega
      have h9 : wrap64 (x : Int) = (x : Int) := by unfold wrap64; omega
      have HV : Hid (placeT x = (x : Int)) := by show _ = _; rw [hp, if_neg c2]
      clear c1 c2 hx' hx hr hz hp
      go_enter Try.func91, Try.ntmps91
      go_wp2
      go_ret
      exact ⟨by rw [HV.out]; rfl, rfl⟩
theorem rless_any (x y : Nat) (hx : Wd x) (hy : Wd y) (w : World) : Calls Try.prog 71 #[.float .f64 x, .float .f64 y] w fun e w' => e = .returned (.bool (decide (placeT x < placeT y))) ∧ w' = w := by
  have HP : Hid (∀ x W, Wd x → Calls Try.prog 91 #[.float .f64 x] W fun e w' => e = .returned (.int .i64 (placeT x)) ∧ w' = W) := fun x W h => rplace_any x h W
  have HX : Hid (Wd x) := hx
  have HY : Hid (Wd y) := hy
  clear hx hy
  go_enter Try.func71, Try.ntmps71
  go_wp2_with (go_at_call 91; refine (HP.out _ _ (by first | exact HX.out | exact HY.out)).mono ?_; rintro e w' ⟨rfl, rfl⟩)
  go_ret
  exact ⟨by simp, rfl⟩
end Go.Proofs.Ytpbinkmeldkehaa
namespace Go.Proofs.Ytpbinkmeldkehaa
open Go Go.Lib Go.RowKit Ieee
set_option maxRecDepth 20000

theorem foi (n : Int) (h : 0 ≤ n) : floatOfInt .f64 n = intF n.toNat := by
  have e : floatOfInt .f64 n = double.write (.number (decide (n < 0)) n.natAbs 0) := rfl
  rw [e, decide_eq_false (by omega), write_int, show n.natAbs = n.toNat by omega]
theorem addF (P : Program) (x y : Nat) (hx : x < double.infRung) (hy : y < double.infRung) (t : TypeId) (W : World) : (binOp .add t (.float .f64 x) (.float .f64 y)).run P W = .ok (.float .f64 (addR x y)) W := run_float_arith W .add t .f64 x y _ (add_eq x y hx hy)
theorem mulF (P : Program) (x y : Nat) (hx : x < double.infRung) (hy : y < double.infRung) (t : TypeId) (W : World) : (binOp .mul t (.float .f64 x) (.float .f64 y)).run P W = .ok (.float .f64 (mulR x y)) W := run_float_arith W .mul t .f64 x y _ (mul_eq x y hx hy)
theorem int_lt (n : Int) (h : n ≤ 9223372036854775807) : intF n.toNat < double.infRung := intF_lt _ (by omega)
/-- Cost. -/
theorem cost_any (load : Int) (v : Nat) (hl : load ≤ 9223372036854775807) (hv : Wd v) (w : World) : Calls Try.prog 56 #[.int .i64 load, .float .f64 v] w fun e w' => e = .returned (.float .f64 (costT load v)) ∧ w' = w := by
  have HC : Hid (∀ x W, Wd x → Calls Try.prog 77 #[.float .f64 x] W fun e w' => e = .returned (.float .f64 (cleanT x)) ∧ w' = W) := fun x W h => clean_any x h W
  have HX : Hid (Wd v) := hv
  by_cases c1 : load < 0
  · have HV : Hid (costT load v = 0) := by show _ = _; unfold costT; rw [if_pos c1]
    clear hl hv
    go_enter Try.func56, Try.ntmps56
    go_wp2
    go_ret
    exact ⟨by rw [HV.out]; rfl, rfl⟩
  · have HV : Hid (costT load v = mulR (intF load.toNat) (addR ONE (cleanT v))) := by show _ = _; unfold costT; rw [if_neg c1]
    have h1 := foi load (by omega)
    have h2 := addF Try.prog ONE (cleanT v) (by rw [d_inf]; decide) (cleanT_lt v)
    have h3 := mulF Try.prog (intF load.toNat) (addR ONE (cleanT v)) (int_lt load hl) (addR_one_lt _ (cleanT_lt v))
    unfold ONE at h2 h3 HV
    generalize costT load v = R at HV ⊢
    generalize intF load.toNat = A at h1 h3 HV
    clear hl hv
    go_enter Try.func56, Try.ntmps56
    go_wp2_with (go_at_call 77; refine (HC.out _ _ HX.out).mono ?_; rintro e w' ⟨rfl, rfl⟩)
    go_ret
    exact ⟨by rw [HV.out]; rfl, rfl⟩
theorem rcost_any (load : Int) (v : Nat) (hl : load ≤ 9223372036854775807) (hv : Wd v) (w : World) : Calls Try.prog 74 #[.int .i64 load, .float .f64 v] w fun e w' => e = .returned (.float .f64 (costT load v)) ∧ w' = w := by
  have HC : Hid (∀ x W, Wd x → Calls Try.prog 70 #[.float .f64 x] W fun e w' => e = .returned (.float .f64 (cleanT x)) ∧ w' = W) := fun x W h => rclean_any x h W
  have HX : Hid (Wd v) := hv
  by_cases c1 : load < 0
  · have HV : Hid (costT load v = 0) := by show _ = _; unfold costT; rw [if_pos c1]
    clear hl hv
    go_enter Try.func74, Try.ntmps74
    go_wp2
    go_ret
    exact ⟨by rw [HV.out]; rfl, rfl⟩
  · have HV : Hid (costT load v = mulR (intF load.toNat) (addR ONE (cleanT v))) := by show _ = _; unfold costT; rw [if_neg c1]
    have h1 := foi load (by omega)
    have h2 := addF Try.prog ONE (cleanT v) (by rw [d_inf]; decide) (cleanT_lt v)
    have h3 := mulF Try.prog (intF load.toNat) (addR ONE (cleanT v)) (int_lt load hl) (addR_one_lt _ (cleanT_lt v))
    unfold ONE at h2 h3 HV
    generalize costT load v = R at HV ⊢
    generalize intF load.toNat = A at h1 h3 HV
    clear hl hv
    go_enter Try.func74, Try.ntmps74
    go_wp2_with (go_at_call 70; refine (HC.out _ _ HX.out).mono ?_; rintro e w' ⟨rfl, rfl⟩)
    go_ret
    exact ⟨by rw [HV.out]; rfl, rfl⟩
end Go.Proofs.Ytpbinkmeldkehaa
namespace Go.Proofs.Ytpbinkmeldkehaa
open Go Go.RowKit
set_option maxRecDepth 20000

/-! Slices whose elements are one cell each: numbers, floats, truths. -/
theorem add_formV (g off j : Nat) : (⟨g, off, none⟩ : Addr).add j = ⟨g, off + j, none⟩ := by unfold Addr.add; split <;> simp_all
/-- Cells, wherever they lie. -/
def VSl (w : World) (v : Value) (L : List Value) : Prop :=
  ∃ (o : Option Addr) (cap : Nat), v = .slice o L.length cap ∧ L.length ≤ cap ∧ cap ≤ maxLen ∧ (o = none → cap = 0) ∧ ∀ (i : Nat) (hi : i < L.length), ∃ g off cur t fr, o = some ⟨g, off, none⟩ ∧ w.heap[g]? = some (.cells cur t fr) ∧ cur[off + i]? = some L[i]
theorem VSl.of_heap {w w' : World} {v : Value} {L : List Value} (h : VSl w v L) (hb : ∀ g o, w.heap[g]? = some o → v.ownBlock = some g → w'.heap[g]? = some o) : VSl w' v L := by
  obtain ⟨o, cap, rfl, h1, h2, h3, h4⟩ := h
  refine ⟨o, cap, rfl, h1, h2, h3, fun i hi => ?_⟩
  obtain ⟨g, off, cur, t, fr, rfl, h5, h6⟩ := h4 i hi
  exact ⟨g, off, cur, t, fr, rfl, hb _ _ h5 rfl, h6⟩
theorem VSl.below {w w' : World} {v : Value} {L : List Value} (h : VSl w v L) (hb : Below w.heap.size w w') : VSl w' v L :=
  h.of_heap fun g _ hg _ => (hb.block g (Array.getElem?_eq_some_iff.1 hg).1).trans hg
theorem VSl.alloc {w : World} {v : Value} {L : List Value} (h : VSl w v L) (x : Obj) : VSl (w.alloc x) v L :=
  h.of_heap fun _ _ hg _ => heap_past _ _ _ _ hg
theorem VSl.slice {w : World} {v : Value} {L : List Value} (h : VSl w v L) : ∃ o cap, v = .slice o L.length cap ∧ L.length ≤ cap ∧ cap ≤ maxLen := by
  obtain ⟨o, cap, rfl, h1, h2, _⟩ := h
  exact ⟨o, cap, rfl, h1, h2⟩
theorem VSl.len {w : World} {o : Option Addr} {n cap : Nat} {L : List Value} (h : VSl w (.slice o n cap) L) : n = L.length := by
  obtain ⟨o', cap', h1, _⟩ := h
  simp only [Value.slice.injEq] at h1
  exact h1.2.1
theorem VSl.at {w : World} {o : Option Addr} {n cap : Nat} {L : List Value} (h : VSl w (.slice o n cap) L) (k : Nat) (hk : k < n) :
    ∃ g off c, o = some ⟨g, off, none⟩ ∧ w.cell? ⟨g, off + k, none⟩ = some c ∧ L[k]? = some c := by
  obtain ⟨o', cap', h1, _, _, _, h3⟩ := h
  simp only [Value.slice.injEq] at h1
  obtain ⟨rfl, rfl, rfl⟩ := h1
  obtain ⟨g, off, cur, t, fr, h4, h5, h6⟩ := h3 k hk
  exact ⟨g, off, L[k], h4, by rw [cell_of_row _ _ _ _ _ _ h5]; exact h6, List.getElem?_eq_getElem hk⟩
theorem VSl.row {w : World} {o : Option Addr} {n cap : Nat} {L : List Value} (h : VSl w (.slice o n cap) L) (k : Nat) (hk : k < n) :
    ∃ g off c, o = some ⟨g, off, none⟩ ∧ (∃ cur t fr, w.heap[g]? = some (.cells cur t fr) ∧ cur[off + k]? = some c) ∧ L[k]? = some c := by
  obtain ⟨o', cap', h1, _, _, _, h3⟩ := h
  simp only [Value.slice.injEq] at h1
  obtain ⟨rfl, rfl, rfl⟩ := h1
  obtain ⟨g, off, cur, t, fr, h4, h5, h6⟩ := h3 k hk
  exact ⟨g, off, L[k], h4, ⟨cur, t, fr, h5, h6⟩, List.getElem?_eq_getElem hk⟩
/-- The first of it. -/
theorem VSl.front {w : World} {o : Option Addr} {n cap : Nat} {L : List Value} (h : VSl w (.slice o n cap) L) (q : Nat) (hq : q ≤ n) : VSl w (.slice o q cap) (L.take q) := by
  have hn := h.len
  obtain ⟨o', cap0, h1, h2, h3, h4, h5⟩ := h
  simp only [Value.slice.injEq] at h1
  obtain ⟨rfl, rfl, rfl⟩ := h1
  have hl : (L.take q).length = q := by simp; omega
  refine ⟨o, cap, by rw [hl], by omega, h3, h4, fun i hi => ?_⟩
  rw [hl] at hi
  obtain ⟨g', off', cur, t, fr, e, h6, h7⟩ := h5 i (by omega)
  refine ⟨g', off', cur, t, fr, e, h6, ?_⟩
  rw [h7]
  simp [List.getElem_take]
theorem vsl_nil (w : World) : VSl w (.slice none 0 0) [] := ⟨none, 0, rfl, Nat.le_refl _, Nat.zero_le _, fun _ => rfl, fun i hi => absurd hi (by simp)⟩

/-- Cells of one's own. -/
def VOwn (ty : TypeId) (B : Nat) (w : World) (v : Value) (L : List Value) : Prop := w.ownsRow B ty 1 v L.length L
theorem VOwn.sl {ty : TypeId} {B : Nat} {w : World} {v : Value} {L : List Value} (h : VOwn ty B w v L) : VSl w v L := by
  obtain ⟨h1, ⟨rfl, h2⟩ | ⟨g, cap, cur, rfl, hB, hcur, h5, h6, _, h4⟩⟩ := h
  · exact ⟨none, 0, by rw [h2], by omega, Nat.zero_le _, fun _ => rfl, fun i hi => by omega⟩
  · refine ⟨_, cap, rfl, h5, h6, (fun e => by cases e), fun i hi => ⟨g, 0, cur, _, _, rfl, hcur, ?_⟩⟩
    have h7 := congrArg (·[i]?) h4
    rw [Nat.mul_one, List.getElem?_take_of_lt hi, List.getElem?_eq_getElem hi] at h7
    rw [Nat.zero_add]
    simpa using h7
theorem VOwn.nil (ty B : Nat) (w : World) : VOwn ty B w (.slice none 0 0) [] := World.ownsRow_nil _ _ _ _
theorem VOwn.base {ty B B' : Nat} {w : World} {v : Value} {L : List Value} (h : VOwn ty B w v L) (hB : B' ≤ B) : VOwn ty B' w v L := by
  obtain ⟨h1, h2 | ⟨g', cap, cur, rfl, hB, h3⟩⟩ := h
  · exact ⟨h1, .inl h2⟩
  · exact ⟨h1, .inr ⟨g', cap, cur, rfl, by omega, h3⟩⟩
theorem VOwn.below {ty B : Nat} {w w' : World} {v : Value} {L : List Value} (h : VOwn ty B w v L) (hb : Below w.heap.size w w') : VOwn ty B w' v L := by
  obtain ⟨h1, h2 | ⟨g, cap, cur, rfl, hB, hcur, h3⟩⟩ := h
  · exact ⟨h1, .inl h2⟩
  · exact ⟨h1, .inr ⟨g, cap, cur, rfl, hB, (hb.block g (Array.getElem?_eq_some_iff.1 hcur).1).trans hcur, h3⟩⟩
theorem VOwn.grown {ty B : Nat} {w w' : World} {v : Value} {L : List Value} (h : VOwn ty B w v L) {row : Option Nat} (hg : w.grownBy w' row) (hne : ∀ g, v.ownBlock = some g → row ≠ some g) : VOwn ty B w' v L := by
  obtain ⟨h1, h2 | ⟨g, cap, cur, rfl, hB, hcur, h3⟩⟩ := h
  · exact ⟨h1, .inl h2⟩
  · exact ⟨h1, .inr ⟨g, cap, cur, rfl, hB, (hg.block g (Array.getElem?_eq_some_iff.1 hcur).1 fun e => hne g rfl e.symm).trans hcur, h3⟩⟩
theorem VOwn.ge {ty B : Nat} {w : World} {v : Value} {L : List Value} (h : VOwn ty B w v L) : ∀ g, v.ownBlock = some g → B ≤ g ∧ g < w.heap.size := fun g hg => World.ownsRow.lt h g hg
theorem VOwn.set {ty B : Nat} {w : World} {g n cap : Nat} {L : List Value} (h : VOwn ty B w (.slice (some ⟨g, 0, none⟩) n cap) L) (k : Nat) (u : Value) : VOwn ty B (w.setCell ⟨g, k, none⟩ u) (.slice (some ⟨g, 0, none⟩) n cap) (L.set k u) := by
  have hn := h.sl.len
  subst hn
  have := (World.ownsRow.stored h k u).1
  unfold VOwn
  rw [List.length_set]
  exact this
theorem VOwn.setBelow {ty B : Nat} {w : World} {g n cap : Nat} {L : List Value} (h : VOwn ty B w (.slice (some ⟨g, 0, none⟩) n cap) L) (k : Nat) (u : Value) : w.grownBy (w.setCell ⟨g, k, none⟩ u) (some g) := by
  have hn := h.sl.len
  subst hn
  exact (World.ownsRow.stored h k u).2
theorem VOwn.cell {ty B : Nat} {w : World} {g n cap : Nat} {L : List Value} (h : VOwn ty B w (.slice (some ⟨g, 0, none⟩) n cap) L) (k : Nat) (hk : k < n) : ∃ c, w.cell? ⟨g, k, none⟩ = some c ∧ L[k]? = some c ∧ w.frozen? ⟨g, k, none⟩ = false := by
  have hn := h.sl.len
  subst hn
  obtain ⟨g', off, c, e, h1, h2⟩ := h.sl.at k hk
  simp only [Option.some.injEq, Addr.mk.injEq, and_true] at e
  obtain ⟨rfl, rfl⟩ := e
  rw [Nat.zero_add] at h1
  obtain ⟨_, ⟨e, _⟩ | ⟨g', cap', cur, e, hB, hcur, _⟩⟩ := h
  · cases e
  · simp only [Value.slice.injEq, Option.some.injEq, Addr.mk.injEq, and_true] at e
    obtain ⟨⟨rfl, _⟩, _⟩ := e
    exact ⟨c, h1, h2, by simp [World.frozen?, hcur]⟩

/-- What is asked of an element's type. -/
structure Sc (ty sl : TypeId) (z : Value) : Prop where
  hs : Try.prog.underlying sl = some (.slice ty)
  info : ∃ i b, Try.prog.info? ty = some i ∧ i.zero = some z ∧ i.size = 1 ∧ i.bytes = b ∧ 1 ≤ b ∧ b ≤ 8
  hz : z.cells = #[z]
theorem info_of {ty : TypeId} {z : Value} {b : Nat} (h : (Try.prog.info? ty).map (fun i => (i.zero, i.size, i.bytes)) = some (some z, 1, b)) (h1 : 1 ≤ b) (h8 : b ≤ 8) : ∃ i b, Try.prog.info? ty = some i ∧ i.zero = some z ∧ i.size = 1 ∧ i.bytes = b ∧ 1 ≤ b ∧ b ≤ 8 := by
  cases hi : Try.prog.info? ty with
  | none => rw [hi] at h; simp at h
  | some i =>
    rw [hi] at h
    simp only [Option.map_some, Option.some.injEq, Prod.mk.injEq] at h
    exact ⟨i, b, rfl, h.1, h.2.1, h.2.2, h1, h8⟩
theorem scI : Sc 3 28 (.int .i64 0) := ⟨Try.underlying28, info_of (b := 8) (by kernel_rfl) (by decide) (by decide), rfl⟩
theorem scB : Sc 4 89 (.bool false) := ⟨Try.underlying89, info_of (b := 1) (by kernel_rfl) (by decide) (by decide), rfl⟩

/-- So many noughts. -/
theorem wl_makeV {ty sl : TypeId} {z : Value} (S : Sc ty sl z) {ops : Array Oper} {rest : List Oper} {o : Oper} {a : Act} {w : World} {Q : Exit → Act → World → Prop} (hgd : o.guard = none) (x y : Operand) (ho : o.op = .makeSlice sl x y)
    (n : Nat) (hx : a.eval x = .int .i64 (n : Int)) (hy : a.eval y = .int .i64 (n : Int)) (hn : n ≤ 1000000)
    (h : ∀ w', VOwn ty w.heap.size w' (.slice (some ⟨w.heap.size, 0, none⟩) n n) (List.replicate n z) → Below w.heap.size w w' → wpList Try.prog ops Q rest (a.put o.dst (.slice (some ⟨w.heap.size, 0, none⟩) n n)) w') : wpList Try.prog ops Q (o :: rest) a w := by
  obtain ⟨i, b, hi, hz, h1, h2, h3, h4⟩ := S.info
  refine wpList_plain hgd fun K hK => ?_
  obtain ⟨w', hr, hown, hgr⟩ := run_make_full (P := Try.prog) w w.heap.size sl ty i z 1 S.hs hi hz h1 .i64 .i64 n (by rw [h2]; have := Nat.mul_le_mul h4 hn; omega) (by unfold maxLen; omega) (Nat.le_refl _)
  unfold Oper.wp execOp
  simp only [ho, hx, hy, hr, Sem.run_bind, Sem.run_pure, Result.andThen_ok]
  refine hK _ _ (h w' ?_ ((Below.refl _ _).grown hgr (Nat.le_refl _) fun k hk => by cases hk))
  unfold VOwn
  rw [List.length_replicate]
  have e : List.replicate n z = (madeCells z.cells (n * 1)).toList := by
    rw [S.hz, toList_madeCells_one, Nat.mul_one]
  rw [e]
  exact hown
/-- No element. -/
theorem wl_build0V {ty sl : TypeId} {z : Value} (S : Sc ty sl z) {ops : Array Oper} {rest : List Oper} {o : Oper} {a : Act} {w : World} {Q : Exit → Act → World → Prop} (hg : o.guard = none) (ho : o.op = .buildSlice sl 0 #[])
    (h : wpList Try.prog ops Q rest (a.put o.dst (.slice (some ⟨w.heap.size, 0, none⟩) 0 0)) (w.alloc (.cells #[] ty))) : wpList Try.prog ops Q (o :: rest) a w := by
  obtain ⟨ie, b, hie, hz, hs, _⟩ := S.info
  refine wpList_plain hg fun _ hK => ?_
  unfold Oper.wp execOp
  have hrun : (Instr.buildSlice sl 0 #[]).run Try.prog w = .ok (.slice (some ⟨w.heap.size, 0, none⟩) 0 0) (w.alloc (.cells #[] ty)) := by
    have h0 : Array.range 0 = #[] := Array.eq_empty_of_size_eq_zero (by simp)
    simp [Instr.buildSlice, run_underlying S.hs, sizeOf, typeInfo, hie, Instr.fill, newRow, h0]
  simp only [ho, Sem.run_bind, List.map_toArray, List.map_nil, hrun, Result.andThen_ok]
  exact hK _ _ h
theorem vown0 (w : World) (ty : TypeId) : VOwn ty w.heap.size (w.alloc (.cells #[] ty)) (.slice (some ⟨w.heap.size, 0, none⟩) 0 0) [] := ⟨by simp, .inr ⟨_, 0, #[], rfl, Nat.le_refl _, heap_new _ _ _ rfl, Nat.le_refl _, Nat.zero_le _, by simp, by simp⟩⟩
/-- One element appended to a row of one's own. -/
theorem wl_app1V {ty sl : TypeId} {z : Value} (S : Sc ty sl z) {ops : Array Oper} {rest : List Oper} {o : Oper} {a : Act} {w : World} {Q : Exit → Act → World → Prop} (hgd : o.guard = none) (s x : Operand) (ho : o.op = .call { callee := .builtin .append, args := #[s, x], argTypes := #[sl, sl] })
    (B : Nat) (v : Value) (L : List Value) (u : Value) (hu : u.oneCell' = true) (hs : a.eval s = v) (hb : VOwn ty B w v L) (g cap : Nat) (hx : a.eval x = .slice (some ⟨g, 0, none⟩) 1 cap) (hg : w.heap[g]? = some (.cells #[u] ty (0, 0))) (hn : L.length ≤ 1000000) (hB : B ≤ w.heap.size)
    (h : ∀ v' w', VOwn ty B w' v' (L ++ [u]) → w.grownBy w' v.ownBlock → (v'.ownBlock = v.ownBlock ∨ v'.ownBlock = some w.heap.size) → wpList Try.prog ops Q rest (a.put o.dst v') w') : wpList Try.prog ops Q (o :: rest) a w := by
  obtain ⟨i, b, hi, hz, h1, h2, h3, h4⟩ := S.info
  refine wpList_append_own_at _ hgd s x sl ho B ty i z 1 b S.hs hi hz h1 h2 (by rw [S.hz]; rfl) (by decide) v _ _ hs hb ⟨g, 0, none⟩ 1 cap [u] hx rfl (fun j y hy => ?_) (fun y hy => ?_) (by unfold maxLen; omega) ?_ hB ?_
  · rw [add_formV, cell_of_row w g _ _ _ _ hg, ← hy, Nat.zero_add]
    simp
  · obtain rfl : y = u := by simpa using hy
    exact hu
  · exact Nat.le_trans (Nat.mul_le_mul (show L.length + 1 ≤ 1000001 by omega) h4) (by decide)
  · intro v' w' h5 h6 _ h7
    refine h v' w' ?_ h6 h7
    unfold VOwn
    rw [List.length_append]; exact h5
end Go.Proofs.Ytpbinkmeldkehaa
