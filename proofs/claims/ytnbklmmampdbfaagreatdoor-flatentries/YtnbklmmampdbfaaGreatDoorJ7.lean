import Derived.Test.YtnbklmmampdbfaaGreatDoorJ6
import Derived.Test.YtnbklmmampdbfaaGreatDoorJ5
import Derived.OwnWalk
import Derived.Test.YtnbklmmampdbfaaGreatDoorJ2
namespace Go.Proofs.YtnbklmmampdbfaaGreatDoor
open Go Go.RowKit
set_option maxRecDepth 20000

theorem rclip_any (n : Int) (w : World) : Calls Tryz.prog 35 #[.int .i64 n] w fun e w' => e = .returned (.int .i64 (clip8 n : Nat)) ∧ w' = w := by
  have h : ((clip8 n : Nat) : Int) = min (max n 0) 32 := by unfold clip8; omega
  rw [h]
  go_enter Tryz.func35, Tryz.ntmps35
  go_wp2_with fail
  go_ret
  exact ⟨rfl, rfl⟩
theorem ent_g {w : World} {b : Nat} {x : Ent} {ty : TypeId} {fr : Nat × Nat} (h : w.heap[b]? = some (.cells (entV x) ty fr)) :
    w.cell? ⟨b, 0, none⟩ = some (.bool x.dflt) ∧ w.cell? ⟨b, 2, none⟩ = some (.int .u32 x.src) ∧ w.cell? ⟨b, 3, none⟩ = some (.int .i64 x.srcBits) ∧ w.cell? ⟨b, 4, none⟩ = some (.int .u32 x.dst) ∧ w.cell? ⟨b, 5, none⟩ = some (.int .i64 x.dstBits) ∧ w.cell? ⟨b, 6, none⟩ = some (.int .i64 x.slow) ∧ w.cell? ⟨b, 7, none⟩ = some (.int .i64 x.shigh) ∧ w.cell? ⟨b, 8, none⟩ = some (.int .i64 x.dlow) ∧ w.cell? ⟨b, 9, none⟩ = some (.int .i64 x.dhigh) ∧ w.cell? ⟨b, 10, none⟩ = some (.int .i64 x.proto) ∧ w.cell? ⟨b, 11, none⟩ = some (.int .i64 x.action) := by
  refine ⟨?_, ?_, ?_, ?_, ?_, ?_, ?_, ?_, ?_, ?_, ?_⟩ <;> (rw [cell_of_row _ _ _ _ _ _ h]; rfl)
/-- How many cubes an entry has. -/
def manyN (x : Ent) : Nat := (cubesT x).length
theorem many_le (x : Ent) : manyN x ≤ 1000 := cubes_few x
set_option maxHeartbeats 8000000 in
theorem rmany_any (x : Ent) (w : World) :
    Calls Tryz.prog 18 #[.agg (entV x)] w fun e w' => e = .returned (.int .i64 (manyN x : Nat)) ∧ Below w.heap.size w w' := by
  have RG : Hid (∀ l h W, Calls Tryz.prog 33 #[.int .i64 l, .int .i64 h] W fun e w' => ∃ u, e = .returned (.tuple #[u, .int .i64 (ranE l h)]) ∧ w'.ownsRow W.heap.size 102 2 u (ran l h).length (pcells (ran l h)) ∧ Below W.heap.size W w') := fun l h W => rrange_any l h W
  have HL := cubes_len x
  have hs := ran_few x.slow x.shigh
  have hd := ran_few x.dlow x.dhigh
  obtain ⟨ns, hns⟩ : ∃ n, n = (ran x.slow x.shigh).length := ⟨_, rfl⟩
  obtain ⟨nd, hnd⟩ : ∃ n, n = (ran x.dlow x.dhigh).length := ⟨_, rfl⟩
  rw [← hns] at hs HL
  rw [← hnd] at hd HL
  have HNS : Hid (ns = (ran x.slow x.shigh).length) := hns
  have HND : Hid (nd = (ran x.dlow x.dhigh).length) := hnd
  have HM : Hid (manyN x = if x.dflt then 1 else if canB x then ns * nd else 0) := HL
  have KN : Hid ((w.alloc (.cells (entV x) 35)).heap[w.heap.size]? = some (.cells (entV x) 35 (0, 0))) := heap_new _ _ _ rfl
  have B0 : Hid (Below w.heap.size w (w.alloc (.cells (entV x) 35))) := (Below.refl _ _).alloc (Nat.le_refl _) _
  clear HL hns hnd
  obtain ⟨f0, f2, f3, f4, f5, f6, f7, f8, f9, f10, f11⟩ := ent_g KN.out
  go_enter Tryz.func18, Tryz.ntmps18
  go_wp2_with fail
  refine (RG.out _ _ _).mono ?_
  rintro e w1 ⟨u1, rfl, ho1, hb1⟩
  have K1 : Hid (w1.heap[w.heap.size]? = some (.cells (entV x) 35 (0, 0))) := (hb1.block _ (by simp)).trans KN.out
  have B1 : Hid (Below w.heap.size w w1) := B0.out.trans (hb1.mono B0.out.size)
  obtain ⟨o1, c1, rfl⟩ := gown_slice ho1
  rw [← HNS.out]
  clear ho1 hb1 f0 f2 f3 f4 f5 f6 f7 f8 f9 f10 f11
  obtain ⟨f0, f2, f3, f4, f5, f6, f7, f8, f9, f10, f11⟩ := ent_g K1.out
  go_wp2_with fail
  refine (RG.out _ _ _).mono ?_
  rintro e w2 ⟨u2, rfl, ho2, hb2⟩
  have K2 : Hid (w2.heap[w.heap.size]? = some (.cells (entV x) 35 (0, 0))) := (hb2.block _ (Array.getElem?_eq_some_iff.1 K1.out).1).trans K1.out
  have B2 : Hid (Below w.heap.size w w2) := B1.out.trans (hb2.mono B1.out.size)
  obtain ⟨o2, c2, rfl⟩ := gown_slice ho2
  rw [← HND.out]
  clear ho2 hb2 f0 f2 f3 f4 f5 f6 f7 f8 f9 f10 f11
  obtain ⟨f0, f2, f3, f4, f5, f6, f7, f8, f9, f10, f11⟩ := ent_g K2.out
  cases hdf : x.dflt with
  | true =>
    rw [hdf] at f0
    have e : manyN x = 1 := by rw [HM.out, hdf]; rfl
    go_wp2_with fail
    go_ret
    exact ⟨by rw [e]; rfl, B2.out⟩
  | false =>
    rw [hdf] at f0
    have HM2 : Hid (manyN x = if canB x then ns * nd else 0) := by show _ = _; rw [HM.out, hdf]; rfl
    by_cases h1 : isR x.slow x.shigh = true
    · by_cases h2 : isR x.dlow x.dhigh = true
      · have e1 : ranE x.slow x.shigh = 0 := by unfold ranE; rw [if_pos h1]
        have e2 : ranE x.dlow x.dhigh = 0 := by unfold ranE; rw [if_pos h2]
        rw [e1, e2]
        by_cases h3 : x.proto < -1
        · have e : manyN x = 0 := by rw [HM2.out]; unfold canB; rw [if_neg]; simp; omega
          go_wp2_with fail
          go_ret
          exact ⟨by rw [e]; rfl, B2.out⟩
        · by_cases h4 : 255 < x.proto
          · have e : manyN x = 0 := by rw [HM2.out]; unfold canB; rw [if_neg]; simp; omega
            go_wp2_with fail
            go_ret
            exact ⟨by rw [e]; rfl, B2.out⟩
          · have e : ((manyN x : Nat) : Int) = (ns : Int) * (nd : Int) := by
              rw [HM2.out, if_pos (by unfold canB; rw [h1, h2]; simp; omega)]
              simp
            have hb : (0 : Int) ≤ (ns : Int) * (nd : Int) ∧ (ns : Int) * (nd : Int) ≤ 900 := by
              have := Nat.mul_le_mul hs hd
              rw [← Int.natCast_mul]
              omega
            go_wp2_with fail
            go_ret
            exact ⟨by rw [e]; rfl, B2.out⟩
      · have e2 : ranE x.dlow x.dhigh = 10 := by unfold ranE; rw [if_neg h2]
        have e1 : ranE x.slow x.shigh = 0 := by unfold ranE; rw [if_pos h1]
        have e : manyN x = 0 := by rw [HM2.out, if_neg]; unfold canB; simp [h2]
        rw [e1, e2]
        go_wp2_with fail
        go_ret
        exact ⟨by rw [e]; rfl, B2.out⟩
    · have e1 : ranE x.slow x.shigh = 10 := by unfold ranE; rw [if_neg h1]
      have e : manyN x = 0 := by rw [HM2.out, if_neg]; unfold canB; simp [h1]
      rw [e1]
      go_wp2_with fail
      go_ret
      exact ⟨by rw [e]; rfl, B2.out⟩
end Go.Proofs.YtnbklmmampdbfaaGreatDoor
namespace Go.Proofs.YtnbklmmampdbfaaGreatDoor
open Go
set_option maxRecDepth 20000

/-- Does an entry take the place of the best one so far? -/
def better (x y : Ent) : Bool := (y.dflt && !x.dflt) || (!y.dflt && !x.dflt && decide (y.prio < x.prio))
theorem better_ahead {x y : Ent} (i j : Nat) (h : better x y = true) : aheadB x i y j = true := by
  unfold better at h
  unfold aheadB
  cases hx : x.dflt <;> cases hy : y.dflt <;> simp [hx, hy] at h ⊢
  left; exact h
theorem ahead_of_not {x y : Ent} {i j : Nat} (h : better x y = false) (hij : j < i) : aheadB y j x i = true := by
  unfold better at h
  unfold aheadB
  cases hx : x.dflt <;> cases hy : y.dflt <;> simp [hx, hy] at h ⊢ <;> omega
theorem ahead_trans {L : List Ent} {i j k : Nat} (h1 : aheadAt L i j) (h2 : aheadAt L j k) : aheadAt L i k := by
  obtain ⟨x, y, hx, hy, h⟩ := h1
  obtain ⟨y', z, hy', hz, h'⟩ := h2
  rw [hy] at hy'
  obtain rfl := Option.some.inj hy'
  refine ⟨x, z, hx, hz, ?_⟩
  unfold aheadB at h h' ⊢
  cases hdx : x.dflt <;> cases hdy : y.dflt <;> cases hdz : z.dflt <;> simp [hdx, hdy, hdz] at h h' ⊢ <;> omega

/-- The first of the rows, so far. -/
structure PartRows (L : List Ent) (R : List Nat) : Prop where
  sorted : R.Pairwise (aheadAt L)
  within : ∀ i ∈ R, i < L.length
  first : ∀ i ∈ R, ∀ j, j < L.length → j ∉ R → aheadAt L i j
theorem PartRows.nil (L : List Ent) : PartRows L [] := ⟨List.Pairwise.nil, fun i h => by simp at h, fun i h => by simp at h⟩
/-- The best of those that are left. -/
def IsBest (L : List Ent) (R : List Nat) (n b : Nat) : Prop := b < n ∧ b ∉ R ∧ ∀ j, j < n → j ∉ R → j ≠ b → aheadAt L b j
theorem best_new {L : List Ent} {R : List Nat} {n : Nat} (h : ∀ j, j < n → j ∈ R) (hn : n ∉ R) : IsBest L R (n + 1) n :=
  ⟨Nat.lt_succ_self n, hn, fun j hj hR hne => absurd (h j (by omega)) hR⟩
theorem best_done {L : List Ent} {R : List Nat} {n b : Nat} (h : IsBest L R n b) (hn : n ∈ R) : IsBest L R (n + 1) b :=
  ⟨by have := h.1; omega, h.2.1, fun j hj hR hne => by
    by_cases e : j = n
    · subst e; exact absurd hn hR
    · exact h.2.2 j (by omega) hR hne⟩
theorem best_stay {L : List Ent} {R : List Nat} {n b : Nat} {x y : Ent} (h : IsBest L R n b) (hx : L[n]? = some x) (hy : L[b]? = some y) (hb : better x y = false) : IsBest L R (n + 1) b :=
  ⟨by have := h.1; omega, h.2.1, fun j hj hR hne => by
    by_cases e : j = n
    · subst e; exact ⟨y, x, hy, hx, ahead_of_not hb h.1⟩
    · exact h.2.2 j (by omega) hR hne⟩
theorem best_turn {L : List Ent} {R : List Nat} {n b : Nat} {x y : Ent} (h : IsBest L R n b) (hx : L[n]? = some x) (hy : L[b]? = some y) (hb : better x y = true) (hn : n ∉ R) : IsBest L R (n + 1) n := by
  have hnb : aheadAt L n b := ⟨x, y, hx, hy, better_ahead n b hb⟩
  refine ⟨Nat.lt_succ_self n, hn, fun j hj hR hne => ?_⟩
  by_cases e : j = b
  · subst e; exact hnb
  · exact ahead_trans hnb (h.2.2 j (by omega) hR e)
theorem PartRows.snoc {L : List Ent} {R : List Nat} {b : Nat} (h : PartRows L R) (hb : IsBest L R L.length b) : PartRows L (R ++ [b]) := by
  refine ⟨?_, fun i hi => ?_, fun i hi j hj hn => ?_⟩
  · rw [List.pairwise_append]
    refine ⟨h.sorted, by simp, fun i hi j hj => ?_⟩
    obtain rfl : j = b := by simpa using hj
    exact h.first i hi j hb.1 hb.2.1
  · rcases List.mem_append.1 hi with hi | hi
    · exact h.within i hi
    · obtain rfl : i = b := by simpa using hi
      exact hb.1
  · have hn1 : j ∉ R := fun e => hn (List.mem_append_left _ e)
    have hn2 : j ≠ b := fun e => hn (by simp [e])
    rcases List.mem_append.1 hi with hi | hi
    · exact h.first i hi j hj hn1
    · obtain rfl : i = b := by simpa using hi
      exact hb.2.2 j hj hn1 hn2
theorem few_places : ∀ (n : Nat) (R : List Nat), R.Nodup → (∀ i ∈ R, i < n) → R.length ≤ n
  | 0, R, _, h => by
    cases R with
    | nil => exact Nat.le_refl _
    | cons a R => exact absurd (h a (by simp)) (Nat.not_lt_zero _)
  | n + 1, R, hd, h => by
    by_cases hn : n ∈ R
    · have h1 := few_places n (R.erase n) (hd.erase n) fun i hi => by
        have := (hd.mem_erase_iff).1 hi
        have h2 := h i this.2
        have h3 := this.1
        omega
      rw [List.length_erase_of_mem hn] at h1
      omega
    · have := few_places n R hd fun i hi => by
        have h2 := h i hi
        have h3 : i ≠ n := fun e => hn (e ▸ hi)
        omega
      omega
theorem PartRows.nodup {L : List Ent} {R : List Nat} (h : PartRows L R) : R.Nodup :=
  List.Pairwise.imp (fun {a b} hab e => by subst e; exact ahead_asymm hab hab) h.sorted
/-- All of the rows. -/
theorem PartRows.rows {L : List Ent} {R : List Nat} (h : PartRows L R) (hn : R.length = L.length) : IsRows L R := by
  refine ⟨h.sorted, fun i => ⟨h.within i, fun hi => ?_⟩⟩
  by_cases hR : i ∈ R
  · exact hR
  · have := few_places L.length (i :: R) (List.nodup_cons.2 ⟨hR, h.nodup⟩) fun j hj => by
      rcases List.mem_cons.1 hj with rfl | hj
      · exact hi
      · exact h.within j hj
    simp at this
    omega
theorem rows_left {L : List Ent} {R : List Nat} (hn : R.length < L.length) : ∃ i, i < L.length ∧ i ∉ R := by
  by_cases hc : ∃ i, i < L.length ∧ i ∉ R
  · exact hc
  · exfalso
    have hall : ∀ i, i < L.length → i ∈ R := fun i hi => by
      by_cases hR : i ∈ R
      · exact hR
      · exact absurd ⟨i, hi, hR⟩ hc
    have hsub : (List.range L.length).length ≤ R.length := by
      have key : ∀ (m : Nat) (S : List Nat), (∀ i, i < m → i ∈ S) → m ≤ S.length := by
        intro m
        induction m with
        | zero => intro S _; exact Nat.zero_le _
        | succ m ih =>
          intro S hS
          have hm := hS m (Nat.lt_succ_self m)
          have := ih (S.erase m) fun i hi => (List.mem_erase_of_ne (by omega)).2 (hS i (by omega))
          rw [List.length_erase_of_mem hm] at this
          have hp : 0 < S.length := List.length_pos_of_mem hm
          omega
      rw [List.length_range]
      exact key _ R hall
    rw [List.length_range] at hsub
    omega
/-- The entries at some places. -/
def entZ8 : Ent := ⟨false, 0, 0, 0, 0, 0, 0, 0, 0, 0, 0, 0⟩
def entsOf (l : List Ent) (R : List Nat) : List Ent := R.map fun i => l.getD i entZ8
end Go.Proofs.YtnbklmmampdbfaaGreatDoor
namespace Go.Proofs.YtnbklmmampdbfaaGreatDoor
open Go Go.RowKit
set_option maxRecDepth 20000

/-! The rows by their places, and the rows as they are sorted: the same. -/
theorem ents_range (l : List Ent) : entsOf l (List.range l.length) = l := by
  apply List.ext_getElem?
  intro i
  unfold entsOf
  rw [List.getElem?_map]
  by_cases hi : i < l.length
  · rw [List.getElem?_range hi, List.getElem?_eq_getElem hi]
    show some (l.getD i entZ8) = _
    rw [List.getD_eq_getElem?_getD, List.getElem?_eq_getElem hi]; rfl
  · rw [List.getElem?_eq_none (by rw [List.length_range]; omega), List.getElem?_eq_none (by omega)]; rfl
theorem filter_same {l : List Ent} {R : List Nat} (h : IsRows l R) (q : Ent → Bool) (hq : ∀ i j x y, l[i]? = some x → l[j]? = some y → q x = true → q y = true → aheadB x i y j = true → i < j) : (entsOf l R).filter q = l.filter q := by
  have e1 : R.filter (fun i => q (l.getD i entZ8)) = (List.range l.length).filter fun i => q (l.getD i entZ8) := by
    refine pairwise_one (r := fun a b : Nat => a < b) (fun a b h1 h2 => by omega) _ _ ?_ (List.pairwise_lt_range.filter _) fun a => ?_
    · refine List.Pairwise.imp_of_mem ?_ (h.sorted.filter _)
      intro a b ha hb hab
      obtain ⟨x, y, hx, hy, hh⟩ := hab
      have ha := (List.mem_filter.1 ha).2
      have hb := (List.mem_filter.1 hb).2
      rw [List.getD_eq_getElem?_getD, hx] at ha
      rw [List.getD_eq_getElem?_getD, hy] at hb
      exact hq a b x y hx hy ha hb hh
    · rw [List.mem_filter, List.mem_filter, h.all, List.mem_range]
  have e2 : ∀ L : List Nat, (entsOf l L).filter q = (L.filter fun i => q (l.getD i entZ8)).map fun i => l.getD i entZ8 := fun L => by
    unfold entsOf
    rw [List.filter_map]; rfl
  rw [e2, e1, ← e2, ents_range]
theorem split_dflt : ∀ {E : List Ent}, E.Pairwise (fun x y => x.dflt = true → y.dflt = true) → E = E.filter (fun x => !x.dflt) ++ E.filter fun x => x.dflt
  | [], _ => rfl
  | x :: E, h => by
    obtain ⟨h1, h2⟩ := List.pairwise_cons.1 h
    have ih := split_dflt h2
    cases hx : x.dflt with
    | false =>
      rw [List.filter_cons, List.filter_cons, if_pos (by rw [hx]; rfl), if_neg (by rw [hx]; decide), List.cons_append, ← ih]
    | true =>
      rw [List.filter_cons, List.filter_cons, if_neg (by rw [hx]; decide), if_pos hx, List.filter_eq_nil_iff.2 fun y hy => by rw [h1 y hy hx]; decide, List.nil_append, List.filter_eq_self.2 fun y hy => h1 y hy hx]
theorem rows_link {l : List Ent} {R : List Nat} (h : IsRows l R) : RowsOf l (entsOf l R) := by
  have hlen : R.length = l.length := by
    have h1 := few_places l.length R (h.sorted.imp_of_mem fun {a b} ha hb hab => by
      rintro rfl
      exact ahead_asymm hab hab) fun i hi => (h.all i).1 hi
    by_cases h2 : R.length < l.length
    · obtain ⟨i, hi, hn⟩ := rows_left h2
      exact absurd ((h.all i).2 hi) hn
    · omega
  have hd := filter_same h (fun x => x.dflt) fun i j x y hx hy qx qy hh => by
    unfold aheadB at hh
    rw [if_pos qx, Bool.and_eq_true, decide_eq_true_eq] at hh
    exact hh.2
  have hp : (entsOf l R).Pairwise fun x y => aheadB x 0 y 1 = true ∨ (x.dflt = y.dflt ∧ (x.dflt = false → x.prio = y.prio)) := by
    unfold entsOf
    rw [List.pairwise_map]
    refine h.sorted.imp fun {a b} hab => ?_
    obtain ⟨x, y, hx, hy, hh⟩ := hab
    rw [List.getD_eq_getElem?_getD, List.getD_eq_getElem?_getD, hx, hy]
    show aheadB x 0 y 1 = true ∨ (x.dflt = y.dflt ∧ (x.dflt = false → x.prio = y.prio))
    unfold aheadB at hh ⊢
    cases hdx : x.dflt <;> cases hdy : y.dflt <;> simp [hdx, hdy] at hh ⊢ <;> omega
  refine ⟨(entsOf l R).filter fun x => !x.dflt, ⟨?_, ?_, fun k => ?_⟩, ?_⟩
  · have e1 : ∀ L : List Ent, (L.filter fun x => !x.dflt).length + (L.filter fun x => x.dflt).length = L.length := fun L => by
      induction L with
      | nil => rfl
      | cons x L ih =>
        rw [List.filter_cons, List.filter_cons, List.length_cons]
        cases x.dflt <;> simp <;> omega
    have e2 := e1 l
    have e3 := e1 (entsOf l R)
    rw [hd] at e3
    have e4 : (entsOf l R).length = R.length := by unfold entsOf; simp
    omega
  · show ((entsOf l R).filter fun x => !x.dflt).Pairwise _
    refine List.Pairwise.imp_of_mem ?_ (hp.filter _)
    intro x y hx hy hxy
    have hx := (List.mem_filter.1 hx).2
    have hy := (List.mem_filter.1 hy).2
    show y.prio ≤ x.prio
    unfold aheadB at hxy
    cases hdx : x.dflt <;> cases hdy : y.dflt <;> simp [hdx, hdy] at hx hy hxy <;> omega
  · rw [List.filter_filter, List.filter_filter]
    refine filter_same h (fun x => (x.prio == k) && !x.dflt) fun i j x y hx hy qx qy hh => ?_
    rw [Bool.and_eq_true, beq_iff_eq, Bool.not_eq_true'] at qx qy
    unfold aheadB at hh
    rw [qx.2, qy.2, qx.1, qy.1] at hh
    simp at hh
    exact hh
  · rw [← hd]
    exact split_dflt (hp.imp fun {x y} h hx => by
      unfold aheadB at h
      cases hdy : y.dflt
      · simp [hx, hdy] at h
      · rfl)
end Go.Proofs.YtnbklmmampdbfaaGreatDoor
namespace Go.Proofs.YtnbklmmampdbfaaGreatDoor
open Go Go.RowKit
set_option maxRecDepth 20000

def own15_ops : List Oper := [
      { dst := some 48, op := .fieldAddr 129 (.tmp 5) 2, type := 0, pos := "reader.go:110", after := #[], guard := none },
      { dst := some 49, op := .load 127 (.tmp 48), type := 127, pos := "reader.go:110", after := #[{ on := 0, ground := .data }], guard := none },
      { dst := some 50, op := .move (.tmp 0), type := 120, pos := "reader.go:110", after := #[], guard := none },
      { dst := some 51, op := .call { callee := .value (.func 96), args := #[.tmp 50], argTypes := #[120] }, type := 89, pos := "reader.go:110", after := #[{ on := 2, ground := .data }], guard := none },
      { dst := some 52, op := .buildSlice 127 1 #[(0, .tmp 51)], type := 127, pos := "reader.go:110", after := #[{ on := 3, ground := .data }], guard := none },
      { dst := some 53, op := .call { callee := .builtin .append, args := #[.tmp 49, .tmp 52], argTypes := #[127, 127] }, type := 127, pos := "reader.go:110", after := #[{ on := 1, ground := .data }, { on := 4, ground := .data }, { on := 3, ground := .chain }], guard := none },
      { dst := some 54, op := .fieldAddr 129 (.tmp 5) 2, type := 0, pos := "reader.go:110", after := #[{ on := 0, ground := .phase }, { on := 1, ground := .phase }, { on := 2, ground := .phase }, { on := 3, ground := .phase }, { on := 4, ground := .phase }, { on := 5, ground := .phase }], guard := none },
      { dst := none, op := .store 127 (.tmp 54) (.tmp 53), type := 0, pos := "reader.go:110", after := #[{ on := 6, ground := .data }, { on := 5, ground := .data }, { on := 5, ground := .chain }, { on := 0, ground := .phase }, { on := 1, ground := .phase }, { on := 2, ground := .phase }, { on := 3, ground := .phase }, { on := 4, ground := .phase }, { on := 5, ground := .phase }], guard := none }]
theorem own15_sizes (a : Act) (hs : 55 ≤ a.tmps.size) : (own15_ops.toArray).size = 8 ∧ 55 ≤ a.tmps.size := ⟨rfl, hs⟩

set_option maxHeartbeats 2000000 in
theorem own15_region {id : Nat} {Q : Exit → Act → World → Prop} {a : Act} {w : World} (hs : 55 ≤ a.tmps.size) (g p : Nat) (h0 : a.eval (.tmp 0) = .pointer (some ⟨g, 0, none⟩)) (hp : a.eval (.tmp 5) = .pointer (some ⟨p, 0, none⟩))
    (cs : Array Value) (hcs : w.heap[p]? = some (.cells cs 129 (0, 0))) (v : Value) (hv : cs[2]? = some v) (hpg : p ≠ g)
    (F : List Fig) (B : Nat) (hown : w.ownsRow B 89 2 v F.length (gcells figV F)) (hF : F.length ≤ 1000) (hB : B ≤ w.heap.size) (hgB : g < B) (c : Fig) (D : World → Prop)
    (hcall : Calls Tryz.prog 96 #[.pointer (some ⟨g, 0, none⟩)] w.drew fun e w' => e = .returned (.agg (figV c)) ∧ w.drew.grownBy w' (some g) ∧ D w')
    (hK : ∀ a' w1 w3 v', (∃ y0 y1 y2 y3 y4 y5 y6, a' = (((((((a.put (some 48) y0).put (some 49) y1).put (some 50) y2).put (some 51) y3).put (some 52) y4).put (some 53) y5).put (some 54) y6)) → D w1 → w.grownBy w1 (some g) → (w1.alloc (.cells (figV c) 89)).grownBy w3 v.ownBlock → w3.ownsRow B 89 2 v' (F ++ [c]).length (gcells figV (F ++ [c])) → w3.heap[p]? = some (.cells cs 129 (0, 0)) →
      Q .normal a' (w3.setCell ⟨p, 2, none⟩ v')) : (Code.region id own15_ops.toArray true).wp Tryz.prog Q a w := by
  have hfa : ∀ W, (Instr.fieldAt 129 (.pointer (some ⟨p, 0, none⟩)) 2).run Tryz.prog W = .ok (.pointer (some ⟨p, 2, none⟩)) W := fun W => by simp [go_sem]
  have hcell : ∀ W : World, W.heap[p]? = some (.cells cs 129 (0, 0)) → W.cell? ⟨p, 2, none⟩ = some v := fun W hW => by rw [cell_of_row _ _ _ _ _ _ hW]; exact hv
  have hplt := (Array.getElem?_eq_some_iff.1 hcs).1
  have keep : ∀ w1, w.drew.grownBy w1 (some g) → w1.heap[p]? = some (.cells cs 129 (0, 0)) := fun w1 hg => (hg.block p hplt (by simp; omega)).trans hcs
  have hvp : v.ownBlock ≠ some p := fun hq => by
    obtain ⟨_, ⟨rfl, _⟩ | ⟨g', cap, cur, rfl, _, h2, _⟩⟩ := hown
    · simp [Value.ownBlock] at hq
    · simp only [Value.ownBlock, Option.some.injEq] at hq
      subst hq
      rw [hcs] at h2
      simp at h2
  refine region_cut (fun a a' w' => ∃ w1 w3 v', (∃ y0 y1 y2 y3 y4 y5 y6, a' = (((((((a.put (some 48) y0).put (some 49) y1).put (some 50) y2).put (some 51) y3).put (some 52) y4).put (some 53) y5).put (some 54) y6)) ∧ D w1 ∧ w.grownBy w1 (some g) ∧ (w1.alloc (.cells (figV c) 89)).grownBy w3 v.ownBlock ∧ w3.ownsRow B 89 2 v' (F ++ [c]).length (gcells figV (F ++ [c])) ∧ w3.heap[p]? = some (.cells cs 129 (0, 0)) ∧ w' = w3.setCell ⟨p, 2, none⟩ v') ?_ ?_
  case refine_2 =>
    rintro a' w' ⟨w1, w3, v', ha, h1, h2, h3, h4, h5, rfl⟩
    exact hK a' w1 w3 v' ha h1 h2 h3 h4 h5
  -- what is left behind the first five operations
  have tail : ∀ (b : Act) (w1 : World), (∃ y0 y1 y2 y3 y4, b = (((((a.put (some 48) y0).put (some 49) y1).put (some 50) y2).put (some 51) y3).put (some 52) y4)) → b.eval (.tmp 49) = v → b.eval (.tmp 52) = .slice (some ⟨w1.heap.size, 0, none⟩) 1 1 → b.eval (.tmp 5) = .pointer (some ⟨p, 0, none⟩) → b.tmps.size = a.tmps.size → w.drew.grownBy w1 (some g) → D w1 →
      wpAnyH Tryz.prog .any own15_ops.toArray (fun e a' w' => e = .normal ∧ ∃ w1 w3 v', (∃ y0 y1 y2 y3 y4 y5 y6, a' = (((((((a.put (some 48) y0).put (some 49) y1).put (some 50) y2).put (some 51) y3).put (some 52) y4).put (some 53) y5).put (some 54) y6)) ∧ D w1 ∧ w.grownBy w1 (some g) ∧ (w1.alloc (.cells (figV c) 89)).grownBy w3 v.ownBlock ∧ w3.ownsRow B 89 2 v' (F ++ [c]).length (gcells figV (F ++ [c])) ∧ w3.heap[p]? = some (.cells cs 129 (0, 0)) ∧ w' = w3.setCell ⟨p, 2, none⟩ v') (fun _ => True) 3 #[true, true, true, true, true, false, false, false] b (w1.alloc (.cells (figV c) 89)) := by
    rintro b w1 ⟨y0, y1, y2, y3, y4, hb⟩ e1 e4 e5 hbs hg1 hD
    have hown1 : (w1.alloc (.cells (figV c) 89)).ownsRow B 89 2 v F.length (gcells figV F) := (own_by (grown_trans (gb_drew w g) hg1) hgB hown).alloc _
    have hz1 := hg1.size
    rw [w_set_heap] at hz1
    refine wpAnyH_all (rs := [5]) (by kernel_rfl) (by decide) ?_
    intro i hi
    obtain rfl := List.mem_singleton.1 hi
    refine wpOp_of_list rfl ?_
    refine wl_appendE (E := FigE) FigOk figV rfl _ _ rfl B v F c (fig_fits _) e1 hown1 w1.heap.size 1 e4 (heap_new _ _ _ rfl) (by omega) (by simp; omega) ?_
    intro v' w3 hown3 hgr3 _
    have hp3 : w3.heap[p]? = some (.cells cs 129 (0, 0)) := (hgr3.block p (by simp; omega) (fun hq => hvp hq.symm)).trans (heap_past _ _ _ _ (keep w1 hg1))
    obtain ⟨o3, cap3, hv3⟩ := gown_slice hown3
    refine ⟨trivial, ?_⟩
    show wpAnyH Tryz.prog .any own15_ops.toArray _ _ 2 _ (b.put (some 53) v') w3
    have s5 : (b.put (some 53) v').eval (.tmp 5) = .pointer (some ⟨p, 0, none⟩) := by rw [eval_put _ _ _ _ (by omega), if_neg (by decide)]; exact e5
    have s6 : (b.put (some 53) v').eval (.tmp 53) = v' := by rw [eval_put _ _ _ _ (by omega), if_pos rfl]
    refine wpAnyH_all (rs := [6]) (by kernel_rfl) (by decide) ?_
    intro i hi
    obtain rfl := List.mem_singleton.1 hi
    refine wpOp_val rfl rfl (.pointer (some ⟨p, 2, none⟩)) (run_fieldOp rfl _ _ _ ((congrArg (fun y => (Instr.fieldAt 129 y 2).run Tryz.prog w3) s5).trans (hfa w3))) (some 54) rfl ?_
    refine ⟨trivial, ?_⟩
    refine wpAnyH_all (rs := [7]) (by kernel_rfl) (by decide) ?_
    intro i hi
    obtain rfl := List.mem_singleton.1 hi
    refine wpOp_skip0 (w' := w3.setCell ⟨p, 2, none⟩ v') rfl rfl ?_ rfl ?_
    · have s7 : ((b.put (some 53) v').put (some 54) (.pointer (some ⟨p, 2, none⟩))).eval (.tmp 54) = .pointer (some ⟨p, 2, none⟩) := by rw [eval_put _ _ _ _ (by rw [size_put]; omega), if_pos rfl]
      have s8 : ((b.put (some 53) v').put (some 54) (.pointer (some ⟨p, 2, none⟩))).eval (.tmp 53) = v' := by rw [eval_put _ _ _ _ (by rw [size_put]; omega), if_neg (by decide)]; exact s6
      have hst := store_cell (ty := 127) (fun W => Tryz.sizeOf127 W) w3 ⟨p, 2, none⟩ v' v ⟨o3, _, cap3, hv3⟩ (hcell w3 hp3) (tc_frozen hp3 rfl)
      exact run_storeOp rfl _ _ _ _ _ s7 s8 hst
    · refine ⟨trivial, wpAnyH_done (by kernel_rfl) ?_ _⟩
      refine ⟨rfl, w1, w3, v', ⟨y0, y1, y2, y3, y4, v', .pointer (some ⟨p, 2, none⟩), ?_⟩, hD, grown_trans (gb_drew w g) hg1, hgr3, hown3, hp3, rfl⟩
      rw [hb]
  have hQ : ∀ (d : Option Tmp) (x : Value) ch (b : Act) (W : World), (fun (e : Exit) (a' : Act) (w' : World) => e = .normal ∧ ∃ w1 w3 v', (∃ y0 y1 y2 y3 y4 y5 y6, a' = (((((((a.put (some 48) y0).put (some 49) y1).put (some 50) y2).put (some 51) y3).put (some 52) y4).put (some 53) y5).put (some 54) y6)) ∧ D w1 ∧ w.grownBy w1 (some g) ∧ (w1.alloc (.cells (figV c) 89)).grownBy w3 v.ownBlock ∧ w3.ownsRow B 89 2 v' (F ++ [c]).length (gcells figV (F ++ [c])) ∧ w3.heap[p]? = some (.cells cs 129 (0, 0)) ∧ w' = w3.setCell ⟨p, 2, none⟩ v') (.panic ch) (Act.put b d x) W → (fun (e : Exit) (a' : Act) (w' : World) => e = .normal ∧ ∃ w1 w3 v', (∃ y0 y1 y2 y3 y4 y5 y6, a' = (((((((a.put (some 48) y0).put (some 49) y1).put (some 50) y2).put (some 51) y3).put (some 52) y4).put (some 53) y5).put (some 54) y6)) ∧ D w1 ∧ w.grownBy w1 (some g) ∧ (w1.alloc (.cells (figV c) 89)).grownBy w3 v.ownBlock ∧ w3.ownsRow B 89 2 v' (F ++ [c]).length (gcells figV (F ++ [c])) ∧ w3.heap[p]? = some (.cells cs 129 (0, 0)) ∧ w' = w3.setCell ⟨p, 2, none⟩ v') (.panic ch) b W := fun _ _ _ _ _ h => absurd h.1 (by simp)
  refine region_beginS (fun _ => True) 8 rfl (by kernel_rfl) ?_
  refine wpAnyH_take (i := 0) (v := .pointer (some ⟨p, 2, none⟩)) rfl (by kernel_rfl) (by kernel_rfl) (by kernel_rfl) (fun c b W => hQ _ _ c b W) (.inl ⟨rfl, fun W _ => run_fieldOp rfl _ _ _ ((congrArg (fun y => (Instr.fieldAt 129 y 2).run Tryz.prog W) hp).trans (hfa W))⟩) trivial ?_
  have a1 : (a.put (some 48) (.pointer (some ⟨p, 2, none⟩))).eval (.tmp 0) = .pointer (some ⟨g, 0, none⟩) := by rw [eval_put _ _ _ _ (by omega), if_neg (by decide)]; exact h0
  refine wpAnyH_take (i := 2) (v := .pointer (some ⟨g, 0, none⟩)) rfl (by kernel_rfl) (by kernel_rfl) (by kernel_rfl) (fun c b W => hQ _ _ c b W) (.inl ⟨rfl, fun W _ => run_moveOp rfl _ _ _ a1⟩) trivial ?_
  have hs2 : ((a.put (some 48) (.pointer (some ⟨p, 2, none⟩))).put (some 50) (.pointer (some ⟨g, 0, none⟩))).tmps.size = a.tmps.size := by rw [size_put, size_put]
  have hcF : ∀ vs W, (callFunc 96 vs).run Tryz.prog W = .ok (.enter 96 vs) W := fun vs W => by have hf := Tryz.func96; simp [go_sem]
  obtain ⟨a2, ha2⟩ : ∃ a2, a2 = ((a.put (some 48) (.pointer (some ⟨p, 2, none⟩))).put (some 50) (.pointer (some ⟨g, 0, none⟩))) := ⟨_, rfl⟩
  have x0 : a2.eval (.tmp 48) = .pointer (some ⟨p, 2, none⟩) := by rw [ha2, eval_put _ _ _ _ (by rw [size_put]; omega), if_neg (by decide), eval_put _ _ _ _ (by omega), if_pos rfl]
  have x2 : a2.eval (.tmp 50) = .pointer (some ⟨g, 0, none⟩) := by rw [ha2, eval_put _ _ _ _ (by rw [size_put]; omega), if_pos rfl]
  have xb : a2.eval (.tmp 5) = .pointer (some ⟨p, 0, none⟩) := by rw [ha2, eval_put _ _ _ _ (by rw [size_put]; omega), if_neg (by decide), eval_put _ _ _ _ (by omega), if_neg (by decide)]; exact hp
  have xs : a2.tmps.size = a.tmps.size := by rw [ha2]; exact hs2
  have comm : ∀ (k j : Nat) (b : Act) (y z : Value), k ≠ j → (b.put (some k) y).put (some j) z = (b.put (some j) z).put (some k) y := fun k j b y z hkj => by
    simp only [Act.put]
    congr 1
    exact Array.setIfInBounds_comm _ _ hkj
  show wpAnyH Tryz.prog .any own15_ops.toArray _ _ 6 _ ((a.put (some 48) (.pointer (some ⟨p, 2, none⟩))).put (some 50) (.pointer (some ⟨g, 0, none⟩))) w.drew
  rw [← ha2]
  have hg0 : w.drew.grownBy w.drew (some g) := gb_refl _ _
  refine wpAnyH_all (rs := [1, 3]) (by kernel_rfl) (by decide) ?_
  intro i hi
  rcases List.mem_cons.1 hi with rfl | hi
  · refine wpOp_val rfl rfl v (run_loadOp rfl _ _ _ _ x0 (load_cell (e := 89) Tryz.underlying127 _ _ _ (hcell _ (keep _ hg0)))) (some 49) rfl ⟨trivial, ?_⟩
    refine wpAnyH_all (rs := [3]) (by kernel_rfl) (by decide) ?_
    intro i hi
    obtain rfl := List.mem_singleton.1 hi
    refine wpOp_callQ rfl rfl 96 #[.pointer (some ⟨g, 0, none⟩)] (run_callOp rfl hcF _ _ _ (by rw [eval_put _ _ _ _ (by omega), if_neg (by decide)]; exact x2)) _ hcall (some 51) rfl ?_ (fun ch w' h => absurd h.1 (by simp)) (fun w' h => absurd h.1 (by simp))
    rintro u w1 ⟨hu, hg1, hD⟩
    obtain rfl : u = .agg (figV c) := by simpa using hu
    refine ⟨trivial, ?_⟩
    refine wpAnyH_all (rs := [4]) (by kernel_rfl) (by decide) ?_
    intro i hi
    obtain rfl := List.mem_singleton.1 hi
    refine wpOp_of_list rfl ?_
    refine wl_buildE (E := FigE) FigOk rfl _ rfl (figV c) rfl (by rw [eval_put _ _ _ _ (by rw [size_put]; omega), if_pos rfl]) ?_
    refine ⟨trivial, ?_⟩
    refine (show wpAnyH Tryz.prog .any own15_ops.toArray _ _ 3 _ (((a2.put (some 49) v).put (some 51) (.agg (figV c))).put (some 52) (.slice (some ⟨w1.heap.size, 0, none⟩) 1 1)) _ from tail (((a2.put (some 49) v).put (some 51) (.agg (figV c))).put (some 52) (.slice (some ⟨w1.heap.size, 0, none⟩) 1 1)) w1 ⟨.pointer (some ⟨p, 2, none⟩), v, .pointer (some ⟨g, 0, none⟩), .agg (figV c), .slice (some ⟨w1.heap.size, 0, none⟩) 1 1, ?_⟩ ?_ ?_ ?_ ?_ hg1 hD)
    · rw [ha2, comm 50 49 _ _ _ (by decide)]
    · rw [eval_put _ _ _ _ (by rw [size_put, size_put]; omega), if_neg (by decide), eval_put _ _ _ _ (by rw [size_put]; omega), if_neg (by decide), eval_put _ _ _ _ (by omega), if_pos rfl]
    · rw [eval_put _ _ _ _ (by rw [size_put, size_put]; omega), if_pos rfl]
    · rw [eval_put _ _ _ _ (by rw [size_put, size_put]; omega), if_neg (by decide), eval_put _ _ _ _ (by rw [size_put]; omega), if_neg (by decide), eval_put _ _ _ _ (by omega), if_neg (by decide)]; exact xb
    · rw [size_put, size_put, size_put]; exact xs
  · obtain rfl := List.mem_singleton.1 hi
    refine wpOp_callQ rfl rfl 96 #[.pointer (some ⟨g, 0, none⟩)] (run_callOp rfl hcF _ _ _ x2) _ hcall (some 51) rfl ?_ (fun ch w' h => absurd h.1 (by simp)) (fun w' h => absurd h.1 (by simp))
    rintro u w1 ⟨hu, hg1, hD⟩
    obtain rfl : u = .agg (figV c) := by simpa using hu
    refine ⟨trivial, ?_⟩
    refine wpAnyH_all (rs := [1, 4]) (by kernel_rfl) (by decide) ?_
    intro i hi
    rcases List.mem_cons.1 hi with rfl | hi
    · refine wpOp_val rfl rfl v (run_loadOp rfl _ _ _ _ (by rw [eval_put _ _ _ _ (by omega), if_neg (by decide)]; exact x0) (load_cell (e := 89) Tryz.underlying127 _ _ _ (hcell _ (keep _ hg1)))) (some 49) rfl ⟨trivial, ?_⟩
      refine wpAnyH_all (rs := [4]) (by kernel_rfl) (by decide) ?_
      intro i hi
      obtain rfl := List.mem_singleton.1 hi
      refine wpOp_of_list rfl ?_
      refine wl_buildE (E := FigE) FigOk rfl _ rfl (figV c) rfl (by rw [eval_put _ _ _ _ (by rw [size_put]; omega), if_neg (by decide), eval_put _ _ _ _ (by omega), if_pos rfl]) ?_
      refine ⟨trivial, ?_⟩
      refine (show wpAnyH Tryz.prog .any own15_ops.toArray _ _ 3 _ (((a2.put (some 51) (.agg (figV c))).put (some 49) v).put (some 52) (.slice (some ⟨w1.heap.size, 0, none⟩) 1 1)) _ from tail (((a2.put (some 51) (.agg (figV c))).put (some 49) v).put (some 52) (.slice (some ⟨w1.heap.size, 0, none⟩) 1 1)) w1 ⟨.pointer (some ⟨p, 2, none⟩), v, .pointer (some ⟨g, 0, none⟩), .agg (figV c), .slice (some ⟨w1.heap.size, 0, none⟩) 1 1, ?_⟩ ?_ ?_ ?_ ?_ hg1 hD)
      · rw [comm 51 49 _ _ _ (by decide), ha2, comm 50 49 _ _ _ (by decide)]
      · rw [eval_put _ _ _ _ (by rw [size_put, size_put]; omega), if_neg (by decide), eval_put _ _ _ _ (by rw [size_put]; omega), if_pos rfl]
      · rw [eval_put _ _ _ _ (by rw [size_put, size_put]; omega), if_pos rfl]
      · rw [eval_put _ _ _ _ (by rw [size_put, size_put]; omega), if_neg (by decide), eval_put _ _ _ _ (by rw [size_put]; omega), if_neg (by decide), eval_put _ _ _ _ (by omega), if_neg (by decide)]; exact xb
      · rw [size_put, size_put, size_put]; exact xs
    · obtain rfl := List.mem_singleton.1 hi
      refine wpOp_of_list rfl ?_
      refine wl_buildE (E := FigE) FigOk rfl _ rfl (figV c) rfl (by rw [eval_put _ _ _ _ (by omega), if_pos rfl]) ?_
      refine ⟨trivial, ?_⟩
      show wpAnyH Tryz.prog .any own15_ops.toArray _ _ 4 _ ((a2.put (some 51) (.agg (figV c))).put (some 52) (.slice (some ⟨w1.heap.size, 0, none⟩) 1 1)) _
      refine wpAnyH_all (rs := [1]) (by kernel_rfl) (by decide) ?_
      intro i hi
      obtain rfl := List.mem_singleton.1 hi
      refine wpOp_val rfl rfl v (run_loadOp rfl _ _ _ _ (by rw [eval_put _ _ _ _ (by rw [size_put]; omega), if_neg (by decide), eval_put _ _ _ _ (by omega), if_neg (by decide)]; exact x0) (load_cell (e := 89) Tryz.underlying127 _ _ _ (hcell _ (heap_past _ _ _ _ (keep _ hg1))))) (some 49) rfl ⟨trivial, ?_⟩
      refine (show wpAnyH Tryz.prog .any own15_ops.toArray _ _ 3 _ (((a2.put (some 51) (.agg (figV c))).put (some 52) (.slice (some ⟨w1.heap.size, 0, none⟩) 1 1)).put (some 49) v) _ from tail (((a2.put (some 51) (.agg (figV c))).put (some 52) (.slice (some ⟨w1.heap.size, 0, none⟩) 1 1)).put (some 49) v) w1 ⟨.pointer (some ⟨p, 2, none⟩), v, .pointer (some ⟨g, 0, none⟩), .agg (figV c), .slice (some ⟨w1.heap.size, 0, none⟩) 1 1, ?_⟩ ?_ ?_ ?_ ?_ hg1 hD)
      · rw [comm 52 49 _ _ _ (by decide), comm 51 49 _ _ _ (by decide), ha2, comm 50 49 _ _ _ (by decide)]
      · rw [eval_put _ _ _ _ (by rw [size_put, size_put]; omega), if_pos rfl]
      · rw [eval_put _ _ _ _ (by rw [size_put, size_put]; omega), if_neg (by decide), eval_put _ _ _ _ (by rw [size_put]; omega), if_pos rfl]
      · rw [eval_put _ _ _ _ (by rw [size_put, size_put]; omega), if_neg (by decide), eval_put _ _ _ _ (by rw [size_put]; omega), if_neg (by decide), eval_put _ _ _ _ (by omega), if_neg (by decide)]; exact xb
      · rw [size_put, size_put, size_put]; exact xs

set_option maxHeartbeats 2000000 in
theorem own15_panics {id : Nat} {Q : Exit → Act → World → Prop} {a : Act} {w : World} (hs : 55 ≤ a.tmps.size) (g p : Nat) (h0 : a.eval (.tmp 0) = .pointer (some ⟨g, 0, none⟩)) (hp : a.eval (.tmp 5) = .pointer (some ⟨p, 0, none⟩))
    (cs : Array Value) (hcs : w.heap[p]? = some (.cells cs 129 (0, 0))) (v : Value) (hv : cs[2]? = some v)
    (ch : List PanicEntry) (D : World → Prop) (hcall : Calls Tryz.prog 96 #[.pointer (some ⟨g, 0, none⟩)] w.drew fun e w' => e = .panicked ch ∧ D w')
    (hK : ∀ a' w', a'.defers = a.defers → D w' → Q (.panic ch) a' w') : (Code.region id own15_ops.toArray true).wp Tryz.prog Q a w := by
  have hfa : ∀ W, (Instr.fieldAt 129 (.pointer (some ⟨p, 0, none⟩)) 2).run Tryz.prog W = .ok (.pointer (some ⟨p, 2, none⟩)) W := fun W => by simp [go_sem]
  have hcell : w.drew.cell? ⟨p, 2, none⟩ = some v := by rw [cell_of_row _ _ _ _ _ _ (show w.drew.heap[p]? = _ from hcs)]; exact hv
  refine Code.wp_mono (Q := fun e a' w' => e = .panic ch ∧ a'.defers = a.defers ∧ D w') (by rintro e a' w' ⟨rfl, hd, h⟩; exact hK a' w' hd h) ?_
  refine region_beginS (fun _ => True) 8 rfl (by kernel_rfl) ?_
  refine wpAnyH_take (i := 0) (v := .pointer (some ⟨p, 2, none⟩)) rfl (by kernel_rfl) (by kernel_rfl) (by kernel_rfl) (fun _ _ _ h => ⟨h.1, h.2.1, h.2.2⟩) (.inl ⟨rfl, fun W _ => run_fieldOp rfl _ _ _ ((congrArg (fun y => (Instr.fieldAt 129 y 2).run Tryz.prog W) hp).trans (hfa W))⟩) trivial ?_
  have a1 : (a.put (some 48) (.pointer (some ⟨p, 2, none⟩))).eval (.tmp 0) = .pointer (some ⟨g, 0, none⟩) := by rw [eval_put _ _ _ _ (by omega), if_neg (by decide)]; exact h0
  refine wpAnyH_take (i := 2) (v := .pointer (some ⟨g, 0, none⟩)) rfl (by kernel_rfl) (by kernel_rfl) (by kernel_rfl) (fun _ _ _ h => ⟨h.1, h.2.1, h.2.2⟩) (.inl ⟨rfl, fun W _ => run_moveOp rfl _ _ _ a1⟩) trivial ?_
  have hs2 : ((a.put (some 48) (.pointer (some ⟨p, 2, none⟩))).put (some 50) (.pointer (some ⟨g, 0, none⟩))).tmps.size = a.tmps.size := by rw [size_put, size_put]
  have hcF : ∀ vs W, (callFunc 96 vs).run Tryz.prog W = .ok (.enter 96 vs) W := fun vs W => by have hf := Tryz.func96; simp [go_sem]
  obtain ⟨a2, ha2⟩ : ∃ a2, a2 = ((a.put (some 48) (.pointer (some ⟨p, 2, none⟩))).put (some 50) (.pointer (some ⟨g, 0, none⟩))) := ⟨_, rfl⟩
  have x0 : a2.eval (.tmp 48) = .pointer (some ⟨p, 2, none⟩) := by rw [ha2, eval_put _ _ _ _ (by rw [size_put]; omega), if_neg (by decide), eval_put _ _ _ _ (by omega), if_pos rfl]
  have x2 : a2.eval (.tmp 50) = .pointer (some ⟨g, 0, none⟩) := by rw [ha2, eval_put _ _ _ _ (by rw [size_put]; omega), if_pos rfl]
  have xs : a2.tmps.size = a.tmps.size := by rw [ha2]; exact hs2
  show wpAnyH Tryz.prog .any own15_ops.toArray _ _ 6 _ ((a.put (some 48) (.pointer (some ⟨p, 2, none⟩))).put (some 50) (.pointer (some ⟨g, 0, none⟩))) w.drew
  rw [← ha2]
  refine wpAnyH_all (rs := [1, 3]) (by kernel_rfl) (by decide) ?_
  intro i hi
  rcases List.mem_cons.1 hi with rfl | hi
  · refine wpOp_val rfl rfl v (run_loadOp rfl _ _ _ _ x0 (load_cell (e := 89) Tryz.underlying127 _ _ _ hcell)) (some 49) rfl ⟨trivial, ?_⟩
    refine wpAnyH_all (rs := [3]) (by kernel_rfl) (by decide) ?_
    intro i hi
    obtain rfl := List.mem_singleton.1 hi
    refine wpOp_callQ rfl rfl 96 #[.pointer (some ⟨g, 0, none⟩)] (run_callOp rfl hcF _ _ _ (by rw [eval_put _ _ _ _ (by omega), if_neg (by decide)]; exact x2)) _ hcall (some 51) rfl (fun v w' h => absurd h.1 (by simp)) (fun ch' w' h => ⟨by rw [Ending.panicked.inj h.1], by rw [ha2]; rfl, h.2⟩) (fun w' h => absurd h.1 (by simp))
  · obtain rfl := List.mem_singleton.1 hi
    refine wpOp_callQ rfl rfl 96 #[.pointer (some ⟨g, 0, none⟩)] (run_callOp rfl hcF _ _ _ x2) _ hcall (some 51) rfl (fun v w' h => absurd h.1 (by simp)) (fun ch' w' h => ⟨by rw [Ending.panicked.inj h.1], by rw [ha2]; rfl, h.2⟩) (fun w' h => absurd h.1 (by simp))
end Go.Proofs.YtnbklmmampdbfaaGreatDoor
namespace Go.Proofs.YtnbklmmampdbfaaGreatDoor
open Go Go.RowKit
set_option maxRecDepth 20000

/-- A clause behind its word: what its numbers come to. -/
def addrC (E : Nat) (t : Tok) (T : List Tok) : Res (Cla × List Tok) := (addrT E T).bind fun y => (takeO E 4 y.2).map fun z => (⟨t.text, (t.pos : Int), y.1 ++ z.1.toList, z.1.isSome, false⟩, z.2)
def portC6 (E : Nat) (t : Tok) (T : List Tok) : Res (Cla × List Tok) := (takeF E T).bind fun x => (takeO E 5 x.2).map fun z => (⟨t.text, (t.pos : Int), x.1 :: z.1.toList, false, z.1.isSome⟩, z.2)
def protC (E : Nat) (t : Tok) (T : List Tok) : Res (Cla × List Tok) := (takeF E T).map fun x => (⟨t.text, (t.pos : Int), [x.1], false, false⟩, x.2)
theorem takeD_len {E : Nat} : ∀ (n : Nat) {T : List Tok} {F : List Fig} {T1 : List Tok}, takeD E n T = .ok (F, T1) → F.length = n
  | 0, T, F, T1, h => by
    have h' : (Except.ok (([] : List Fig), T) : Res (List Fig × List Tok)) = .ok (F, T1) := h
    cases h'
    rfl
  | n + 1, T, F, T1, h => by
    rw [takeD] at h
    cases hK : takeK E 3 T with
    | error x => rw [hK] at h; cases h
    | ok x =>
      rw [hK] at h
      have h1 : ((takeF E x.2).bind fun y => (takeD E n y.2).map fun z => (y.1 :: z.1, z.2)) = .ok (F, T1) := h
      cases hF : takeF E x.2 with
      | error y => rw [hF] at h1; cases h1
      | ok y =>
        rw [hF] at h1
        have h2 : ((takeD E n y.2).map fun z => (y.1 :: z.1, z.2)) = .ok (F, T1) := h1
        cases hD : takeD E n y.2 with
        | error z => rw [hD] at h2; cases h2
        | ok z =>
          rw [hD] at h2
          have h3 : (Except.ok (y.1 :: z.1, z.2) : Res (List Fig × List Tok)) = .ok (F, T1) := h2
          simp at h3
          rw [← h3.1, List.length_cons, takeD_len n (F := z.1) (T1 := z.2) hD]
theorem addrT_len {E : Nat} {T : List Tok} {F : List Fig} {T1 : List Tok} (h : addrT E T = .ok (F, T1)) : F.length = 4 := by
  unfold addrT at h
  cases hF : takeF E T with
  | error y => rw [hF] at h; cases h
  | ok y =>
    rw [hF] at h
    have h2 : ((takeD E 3 y.2).map fun z => (y.1 :: z.1, z.2)) = .ok (F, T1) := h
    cases hD : takeD E 3 y.2 with
    | error z => rw [hD] at h2; cases h2
    | ok z =>
      rw [hD] at h2
      have h3 : (Except.ok (y.1 :: z.1, z.2) : Res (List Fig × List Tok)) = .ok (F, T1) := h2
      simp at h3
      rw [← h3.1, List.length_cons, takeD_len 3 (F := z.1) (T1 := z.2) hD]
theorem rdO_no {E k : Nat} {T : List Tok} (h : (hd E T).kind ≠ k) : takeO E k T = .ok (none, T) ∧ follT E k T = .ok (false, T) := by
  refine ⟨?_, if_neg h⟩
  cases T with
  | nil => rfl
  | cons t T => exact if_neg h
theorem rdO_yes {E k : Nat} (hk : k ≠ 0) {T : List Tok} (h : (hd E T).kind = k) : ∃ T', takeO E k T = (takeF E T').map (fun y => (some y.1, y.2)) ∧ follT E k T = .ok (true, T') := by
  cases T with
  | nil => exact absurd h.symm hk
  | cons t T => exact ⟨T, if_pos h, if_pos h⟩
/-- A clause that was made: its numbers lie in a row of their own. -/
def ClaR (B : Nat) (w : World) (c : Cla) (v : Value) : Prop := ∃ u, v = .agg (claV c u) ∧ FigsOwn B w c.nums u
theorem cla_fits (c : Cla) (u : Value) (hu : ∃ o n k, u = .slice o n k) : Fits ClaE (claV c u) := by
  obtain ⟨o, n, k, rfl⟩ := hu
  exact ⟨rfl, by simp [claV, Value.oneCell']⟩
theorem own_set {w : World} {B : Nat} {e e' : TypeId} {s : Nat} {v : Value} {n : Nat} {xs : List Value} (h : w.ownsRow B e s v n xs) {p i : Nat} {cs : Array Value} {fr : Nat × Nat} (hp : w.heap[p]? = some (.cells cs e' fr)) (hne : e ≠ e') (y : Value) : (w.setCell ⟨p, i, none⟩ y).ownsRow B e s v n xs := by
  obtain ⟨h0, h1 | ⟨g, cap, cur, rfl, hB, hcur, h3⟩⟩ := h
  · exact ⟨h0, .inl h1⟩
  · refine ⟨h0, .inr ⟨g, cap, cur, rfl, hB, ?_, h3⟩⟩
    rw [tc_far (by rintro rfl; rw [hp] at hcur; simp only [Option.some.injEq, Obj.cells.injEq] at hcur; exact hne hcur.2.1.symm) y]
    exact hcur
theorem own_setRow6 {w : World} {B : Nat} {e e' : TypeId} {s : Nat} {v : Value} {n : Nat} {xs : List Value} (h : w.ownsRow B e s v n xs) {p : Nat} {cs : Array Value} {fr : Nat × Nat} (hp : w.heap[p]? = some (.cells cs e' fr)) (hne : e ≠ e') (ys : Array Value) : (w.setRow p ys).ownsRow B e s v n xs := by
  obtain ⟨h0, h1 | ⟨g, cap, cur, rfl, hB, hcur, h3⟩⟩ := h
  · exact ⟨h0, .inl h1⟩
  · refine ⟨h0, .inr ⟨g, cap, cur, rfl, hB, ?_, h3⟩⟩
    rw [setRow_other _ _ _ _ (by rintro rfl; rw [hp] at hcur; simp only [Option.some.injEq, Obj.cells.injEq] at hcur; exact hne hcur.2.1.symm)]
    exact hcur

set_option maxHeartbeats 4000000 in
set_option maxRecDepth 10000 in
theorem clause_src (W0 w : World) (g E : Nat) (t : Tok) (ht : t.text = wSrc) (T : List Tok) (h : Rd W0 w g E T) :
    Calls Tryz.prog 115 #[.pointer (some ⟨g, 0, none⟩), .agg (encT t)] w fun e w' => Took W0 w g E (ClaR w.heap.size) (addrC E t T) e w' := by
  have CF : Hid (∀ W T, Rd W0 W g E T → Calls Tryz.prog 96 #[.pointer (some ⟨g, 0, none⟩)] W fun e w' => Took W0 W g E (fun _ f v => v = .agg (figV f)) (takeF E T) e w') := fun W T h => figure_any W0 W g E T h
  have CA : Hid (∀ W T, Rd W0 W g E T → Calls Tryz.prog 122 #[.pointer (some ⟨g, 0, none⟩)] W fun e w' => Took W0 W g E (FigsOwn W.heap.size) (addrT E T) e w') := fun W T h => address_any W0 W g E T h
  have C4 : Hid (∀ W T, Rd W0 W g E T → Calls Tryz.prog 123 #[.pointer (some ⟨g, 0, none⟩), .int .i64 4] W fun e w' => Took W0 W g E (fun _ b v => v = .bool b) (follT E 4 T) e w') := fun W T h => follows_any W0 W g E 4 (by decide) T h
  have C5 : Hid (∀ W T, Rd W0 W g E T → Calls Tryz.prog 123 #[.pointer (some ⟨g, 0, none⟩), .int .i64 5] W fun e w' => Took W0 W g E (fun _ b v => v = .bool b) (follT E 5 T) e w') := fun W T h => follows_any W0 W g E 5 (by decide) T h
  have hgl := h.size
  have e0 : (t.text == [115, 114, 99]) = true := by rw [ht]; rfl
  have H : Hid (Rd W0 w g E T) := h
  obtain ⟨A, hA⟩ : ∃ A, A = addrC E t T := ⟨_, rfl⟩
  rw [← hA]
  unfold addrC at hA
  have q1 := fun x => tok_cells (heap_past _ x _ _ (heap_new w (.cells (encT t) 117) _ rfl))
  have q2 := fun x y => tok_cells (heap_past _ y _ _ (heap_past _ x _ _ (heap_new w (.cells (encT t) 117) _ rfl)))
  have t1 := fun x => (q1 x).2.1
  have t2 := fun x => (q1 x).2.2.1
  have t5 := fun x y => (q2 x y).2.1
  have t6 := fun x y => (q2 x y).2.2.1
  clear q1 q2
  clear h ht
  go_enter Tryz.func115, Tryz.ntmps115
  go_wp2_with (first
    | (refine wl_storeE (E := ClaE) ClaOk rfl _ _ rfl (w.heap.size + 2) (claV ⟨t.text, (t.pos : Int), [], false, false⟩ (.slice none 0 0)) (cla_fits _ _ ⟨_, _, _, rfl⟩) rfl rfl _ (heap_new _ _ _ (by simp)) rfl _ (setRow_new _ _ _ _ _ (by simp)) ?_))
  refine (CA.out _ T (((H.out.alloc _).alloc _).alloc _)).mono ?_
  cases hF : addrT E T with
  | error x =>
    obtain ⟨c, q⟩ := x
    have HA2 : Hid (A = .error (c, q)) := by show _ = _; rw [hA, hF]; rfl
    clear hA hF
    rintro e w1 ⟨hg1, rfl⟩
    go_wp2_with fail
    rw [HA2.out]
    exact ⟨rfl, grown_trans (gb_alloc (gb_alloc (gb_alloc (gb_refl w g) _) _) _) hg1, rfl⟩
  | ok x =>
    obtain ⟨F, T1⟩ := x
    have HA : Hid (A = (takeO E 4 T1).map fun z => ((⟨t.text, (t.pos : Int), F ++ z.1.toList, z.1.isSome, false⟩ : Cla), z.2)) := by show _ = _; rw [hA, hF]; rfl
    have HFL : Hid (F.length = 4) := addrT_len hF
    clear hA
    rintro e w1 ⟨hg1, ⟨u, rfl, hown1⟩, R1⟩
    obtain ⟨o, cap, rfl⟩ := gown_slice hown1
    have OWN1 : Hid (w1.ownsRow w.heap.size 89 2 (.slice o F.length cap) F.length (gcells figV F)) := gown_base hown1 (by simp; omega)
    have G1 : w.grownBy w1 (some g) := grown_trans (gb_alloc (gb_alloc (gb_alloc (gb_refl w g) _) _) _) hg1
    have z1 : w.heap.size + 3 ≤ w1.heap.size := by have := hg1.size; simp at this; omega
    have r1 : w1.heap[w.heap.size + 1]? = some (.cells (claV ⟨[], 0, [], false, false⟩ (.slice none 0 0)) 129 (0, 0)) := (hg1.block _ (by simp) (by simp; omega)).trans (heap_past _ _ _ _ (heap_new _ _ _ (by simp)))
    have rP : w1.heap[(w.heap.size + 1 + 1)]? = some (.cells (claV ⟨t.text, (t.pos : Int), [], false, false⟩ (.slice none 0 0)) 129 (0, 0)) := (hg1.block _ (by simp) (by simp; omega)).trans (heap_new _ _ _ (by simp))
    have c2 : w1.cell? ⟨(w.heap.size + 1 + 1), 2, none⟩ = some (.slice none 0 0) := by rw [cell_of_row _ _ _ _ _ _ rP]; rfl
    have f2 : w1.frozen? ⟨(w.heap.size + 1 + 1), 2, none⟩ = false := tc_frozen rP rfl
    have R1' : Rd W0 (w1.setCell ⟨(w.heap.size + 1 + 1), 2, none⟩ (.slice o F.length cap)) g E T1 := rd_setCell R1 (by omega) (by omega) _ _
    have G1' : w.grownBy (w1.setCell ⟨(w.heap.size + 1 + 1), 2, none⟩ (.slice o F.length cap)) (some g) := gb_setCell G1 (.inr (by omega)) _ _
    have rP' : (w1.setCell ⟨(w.heap.size + 1 + 1), 2, none⟩ (.slice o F.length cap)).heap[(w.heap.size + 1 + 1)]? = some (.cells (claV ⟨t.text, (t.pos : Int), [], false, false⟩ (.slice o F.length cap)) 129 (0, 0)) := tc_row rP _
    have r1' : (w1.setCell ⟨(w.heap.size + 1 + 1), 2, none⟩ (.slice o F.length cap)).heap[w.heap.size + 1]? = some (.cells (claV ⟨[], 0, [], false, false⟩ (.slice none 0 0)) 129 (0, 0)) := (tc_far (by omega) _).trans r1
    have OWN2 : Hid ((w1.setCell ⟨(w.heap.size + 1 + 1), 2, none⟩ (.slice o F.length cap)).ownsRow w.heap.size 89 2 (.slice o F.length cap) F.length (gcells figV F)) := own_set OWN1.out rP (by decide) _
    have KP : Hid (_ ∧ _ ∧ _ ∧ _) := ⟨R1', G1', rP', r1'⟩
    clear R1 G1 rP r1 R1' G1' rP' r1' OWN1 hg1 hF
    go_wp2_with fail
    refine (C4.out _ T1 KP.out.1).mono ?_
    by_cases hk : (hd E T1).kind = 4
    · obtain ⟨T2, hO, hf4⟩ := rdO_yes (by decide) hk
      rw [hf4]
      rw [hO] at HA
      clear hk hO hf4 c2 f2
      rintro e w2 ⟨hg2, ⟨v, rfl, rfl⟩, R2⟩
      have z2 : w1.heap.size ≤ w2.heap.size := by have := hg2.size; rw [tc_size] at this; simpa using this
      have rP2 : w2.heap[(w.heap.size + 1 + 1)]? = some (.cells (claV ⟨t.text, (t.pos : Int), [], false, false⟩ (.slice o F.length cap)) 129 (0, 0)) := (hg2.block _ (by rw [tc_size]; omega) (by simp; omega)).trans KP.out.2.2.1
      have r12 : w2.heap[w.heap.size + 1]? = some (.cells (claV ⟨[], 0, [], false, false⟩ (.slice none 0 0)) 129 (0, 0)) := (hg2.block _ (by rw [tc_size]; omega) (by simp; omega)).trans KP.out.2.2.2
      have c3 : w2.cell? ⟨(w.heap.size + 1 + 1), 3, none⟩ = some (.bool false) := by rw [cell_of_row _ _ _ _ _ _ rP2]; rfl
      have f3 : w2.frozen? ⟨(w.heap.size + 1 + 1), 3, none⟩ = false := tc_frozen rP2 rfl
      have rP3 : (w2.setCell ⟨(w.heap.size + 1 + 1), 3, none⟩ (.bool true)).heap[(w.heap.size + 1 + 1)]? = some (.cells (claV ⟨t.text, (t.pos : Int), [], true, false⟩ (.slice o F.length cap)) 129 (0, 0)) := tc_row rP2 _
      have r13 : (w2.setCell ⟨(w.heap.size + 1 + 1), 3, none⟩ (.bool true)).heap[w.heap.size + 1]? = some (.cells (claV ⟨[], 0, [], false, false⟩ (.slice none 0 0)) 129 (0, 0)) := (tc_far (by omega) _).trans r12
      have R3 : Rd W0 (w2.setCell ⟨(w.heap.size + 1 + 1), 3, none⟩ (.bool true)) g E T2 := rd_setCell R2 (by omega) (by omega) _ _
      have G3 : w.grownBy (w2.setCell ⟨(w.heap.size + 1 + 1), 3, none⟩ (.bool true)) (some g) := gb_setCell (grown_trans KP.out.2.1 hg2) (.inr (by omega)) _ _
      have OWN3 : Hid ((w2.setCell ⟨(w.heap.size + 1 + 1), 3, none⟩ (.bool true)).ownsRow w.heap.size 89 2 (.slice o F.length cap) F.length (gcells figV F)) := own_set (own_by hg2 hgl.2 OWN2.out) rP2 (by decide) _
      have d3 : (w2.setCell ⟨(w.heap.size + 1 + 1), 3, none⟩ (.bool true)).cell? ⟨(w.heap.size + 1 + 1), 3, none⟩ = some (.bool true) := by rw [cell_of_row _ _ _ _ _ _ rP3]; rfl
      have d4 : (w2.setCell ⟨(w.heap.size + 1 + 1), 3, none⟩ (.bool true)).cell? ⟨(w.heap.size + 1 + 1), 4, none⟩ = some (.bool false) := by rw [cell_of_row _ _ _ _ _ _ rP3]; rfl
      have K3 : Hid (_ ∧ _ ∧ _ ∧ _) := ⟨R3, G3, rP3, r13⟩
      clear hg2 R2 rP2 r12 rP3 r13 R3 G3 OWN2 KP
      go_wp2_with fail
      obtain ⟨w4, hw4⟩ : ∃ w4, w4 = w2.setCell ⟨(w.heap.size + 1 + 1), 3, none⟩ (.bool true) := ⟨_, rfl⟩
      rw [← hw4] at K3 OWN3 ⊢
      have z4 : w4.heap.size = w2.heap.size := by rw [hw4, tc_size]
      clear hw4 d3 d4 c3 f3
      cases hF2 : takeF E T2 with
      | error x =>
        obtain ⟨c, q⟩ := x
        rw [hF2] at HA
        refine own15_panics (Nat.le_of_ble_eq_true rfl) g (w.heap.size + 1 + 1) rfl rfl _ K3.out.2.2.1 (.slice o F.length cap) rfl [{ v := faultV c q, recovered := false }] (fun w' => w.grownBy w' (some g)) ?_ ?_
        · refine (CF.out w4.drew T2 (K3.out.1.below ((Below.refl _ _).drew))).mono ?_
          rw [hF2]
          rintro e w' ⟨hg, rfl⟩
          exact ⟨rfl, grown_trans K3.out.2.1 (grown_trans (gb_drew w4 g) hg)⟩
        · intro a' w' hdf hg
          go_wp2_with fail
          rw [HA.out]
          exact ⟨hdf, hg, rfl⟩
      | ok x =>
        obtain ⟨f2, T3⟩ := x
        rw [hF2] at HA
        refine own15_region (Nat.le_of_ble_eq_true rfl) g (w.heap.size + 1 + 1) rfl rfl _ K3.out.2.2.1 (.slice o F.length cap) rfl (by omega) F w.heap.size OWN3.out (by have := HFL.out; omega) (by omega) hgl.2 f2 (fun w' => w.grownBy w' (some g) ∧ Rd W0 w' g E T3) ?_ ?_
        · refine (CF.out w4.drew T2 (K3.out.1.below ((Below.refl _ _).drew))).mono ?_
          rw [hF2]
          rintro e w' ⟨hg, ⟨v, rfl, rfl⟩, R⟩
          exact ⟨rfl, hg, grown_trans K3.out.2.1 (grown_trans (gb_drew w4 g) hg), R⟩
        · rintro a' w5 w6 v' ⟨y0, y1, y2, y3, y4, y5, y6, rfl⟩ ⟨G5, R5⟩ hg5 hgr6 hown6 hp6
          simp only [Act.put, List.setIfInBounds_toArray, List.set_cons_succ, List.set_cons_zero]
          obtain ⟨o6, cap6, rfl⟩ := gown_slice hown6
          have z5 := hg5.size
          have z6 := hgr6.size
          have own5 := own_by hg5 hgl.2 OWN3.out
          have hub : ∀ k, ((.slice o F.length cap) : Value).ownBlock = some k → w.heap.size ≤ k := fun k hk => (OWN3.out.lt k hk).1
          have r16 : w6.heap[w.heap.size + 1]? = some (.cells (claV ⟨[], 0, [], false, false⟩ (.slice none 0 0)) 129 (0, 0)) := by
            refine (hgr6.block _ (by simp; omega) ?_).trans (heap_past _ _ _ _ ((hg5.block _ (by omega) (by simp; omega)).trans K3.out.2.2.2))
            intro hq
            have hx := hq.symm
            obtain ⟨_, ⟨hv, _⟩ | ⟨g', cap', cur', hv, _, h2, _⟩⟩ := OWN3.out
            · rw [hv] at hx; simp [Value.ownBlock] at hx
            · rw [hv] at hx
              simp only [Value.ownBlock, Option.some.injEq] at hx
              rw [hx, K3.out.2.2.2] at h2
              simp at h2
          have G6 : w.grownBy w6 (some g) := gb_own (gb_alloc G5 _) hgr6 hub
          have R6 : Rd W0 w6 g E T3 := rd_own (R5.alloc _) hgr6 fun k hk => Nat.lt_of_lt_of_le hgl.2 (hub k hk)
          have rP7 : Hid ((w6.setCell ⟨(w.heap.size + 1 + 1), 2, none⟩ (.slice o6 (F ++ [f2]).length cap6)).heap[(w.heap.size + 1 + 1)]? = some (.cells (claV ⟨t.text, (t.pos : Int), F ++ [f2], true, false⟩ (.slice o6 (F ++ [f2]).length cap6)) 129 (0, 0))) := tc_row hp6 _
          have r17 : Hid ((w6.setCell ⟨(w.heap.size + 1 + 1), 2, none⟩ (.slice o6 (F ++ [f2]).length cap6)).heap[w.heap.size + 1]? = some (.cells (claV ⟨[], 0, [], false, false⟩ (.slice none 0 0)) 129 (0, 0))) := (tc_far (by omega) _).trans r16
          have OWN7 : Hid ((w6.setCell ⟨(w.heap.size + 1 + 1), 2, none⟩ (.slice o6 (F ++ [f2]).length cap6)).ownsRow w.heap.size 89 2 (.slice o6 (F ++ [f2]).length cap6) (F ++ [f2]).length (gcells figV (F ++ [f2]))) := own_set hown6 hp6 (by decide) _
          have G7 : Hid (w.grownBy (w6.setCell ⟨(w.heap.size + 1 + 1), 2, none⟩ (.slice o6 (F ++ [f2]).length cap6)) (some g)) := gb_setCell G6 (.inr (by omega)) _ _
          have R7 : Hid (Rd W0 (w6.setCell ⟨(w.heap.size + 1 + 1), 2, none⟩ (.slice o6 (F ++ [f2]).length cap6)) g E T3) := rd_setCell R6 (by omega) (by omega) _ _
          clear hown6 hp6 r16 hgr6 own5 G6 R6 G5 R5 hg5
          go_wp2_with (first
            | (refine wl_loadE (E := ClaE) ClaOk rfl _ rfl (w.heap.size + 1 + 1) 0 rfl _ _ _ (claV ⟨t.text, (t.pos : Int), F ++ [f2], true, false⟩ (.slice o6 (F ++ [f2]).length cap6)) rfl rP7.out (own_cells _ _) ?_)
            | (refine wl_storeE (E := ClaE) ClaOk rfl _ _ rfl (w.heap.size + 1) (claV ⟨t.text, (t.pos : Int), F ++ [f2], true, false⟩ (.slice o6 (F ++ [f2]).length cap6)) (cla_fits _ _ ⟨_, _, _, rfl⟩) rfl rfl _ r17.out rfl _ rfl ?_))
          refine retE (E := ClaE) ClaOk rfl rfl (w.heap.size + 1) rfl (claV ⟨t.text, (t.pos : Int), F ++ [f2], true, false⟩ (.slice o6 (F ++ [f2]).length cap6)) rfl (setRow_heap _ _ _ _ _ _ r17.out) ?_
          rw [HA.out]
          exact ⟨gb_setRow G7.out (.inr (by omega)) _, ⟨_, rfl, _, rfl, own_setRow6 OWN7.out r17.out (by decide) _⟩, rd_setRow R7.out (by omega) (by omega) _⟩
    · obtain ⟨hO, hf4⟩ := rdO_no hk
      rw [hf4]
      rw [hO] at HA
      clear hk hO hf4 c2 f2
      rintro e w2 ⟨hg2, ⟨v, rfl, rfl⟩, R2⟩
      have z2 : w1.heap.size ≤ w2.heap.size := by have := hg2.size; rw [tc_size] at this; simpa using this
      have rP2 : w2.heap[(w.heap.size + 1 + 1)]? = some (.cells (claV ⟨t.text, (t.pos : Int), [], false, false⟩ (.slice o F.length cap)) 129 (0, 0)) := (hg2.block _ (by rw [tc_size]; omega) (by simp; omega)).trans KP.out.2.2.1
      have r12 : w2.heap[w.heap.size + 1]? = some (.cells (claV ⟨[], 0, [], false, false⟩ (.slice none 0 0)) 129 (0, 0)) := (hg2.block _ (by rw [tc_size]; omega) (by simp; omega)).trans KP.out.2.2.2
      have c3 : w2.cell? ⟨(w.heap.size + 1 + 1), 3, none⟩ = some (.bool false) := by rw [cell_of_row _ _ _ _ _ _ rP2]; rfl
      have f3 : w2.frozen? ⟨(w.heap.size + 1 + 1), 3, none⟩ = false := tc_frozen rP2 rfl
      have rP3 : (w2.setCell ⟨(w.heap.size + 1 + 1), 3, none⟩ (.bool false)).heap[(w.heap.size + 1 + 1)]? = some (.cells (claV ⟨t.text, (t.pos : Int), F, false, false⟩ (.slice o F.length cap)) 129 (0, 0)) := tc_row rP2 _
      have r13 : (w2.setCell ⟨(w.heap.size + 1 + 1), 3, none⟩ (.bool false)).heap[w.heap.size + 1]? = some (.cells (claV ⟨[], 0, [], false, false⟩ (.slice none 0 0)) 129 (0, 0)) := (tc_far (by omega) _).trans r12
      have R3 : Rd W0 (w2.setCell ⟨(w.heap.size + 1 + 1), 3, none⟩ (.bool false)) g E T1 := rd_setCell R2 (by omega) (by omega) _ _
      have G3 : w.grownBy (w2.setCell ⟨(w.heap.size + 1 + 1), 3, none⟩ (.bool false)) (some g) := gb_setCell (grown_trans KP.out.2.1 hg2) (.inr (by omega)) _ _
      have OWN3 : Hid ((w2.setCell ⟨(w.heap.size + 1 + 1), 3, none⟩ (.bool false)).ownsRow w.heap.size 89 2 (.slice o F.length cap) F.length (gcells figV F)) := own_set (own_by hg2 hgl.2 OWN2.out) rP2 (by decide) _
      have d3 : (w2.setCell ⟨(w.heap.size + 1 + 1), 3, none⟩ (.bool false)).cell? ⟨(w.heap.size + 1 + 1), 3, none⟩ = some (.bool false) := by rw [cell_of_row _ _ _ _ _ _ rP3]; rfl
      have d4 : (w2.setCell ⟨(w.heap.size + 1 + 1), 3, none⟩ (.bool false)).cell? ⟨(w.heap.size + 1 + 1), 4, none⟩ = some (.bool false) := by rw [cell_of_row _ _ _ _ _ _ rP3]; rfl
      have K3 : Hid (_ ∧ _ ∧ _ ∧ _) := ⟨R3, G3, rP3, r13⟩
      have HA3 : Hid (A = .ok ((⟨t.text, (t.pos : Int), F, false, false⟩ : Cla), T1)) := by show _ = _; rw [HA.out]; simp [Except.map]
      clear hg2 R2 rP2 r12 rP3 r13 R3 G3 OWN2 KP
      go_wp2_with (first
        | (refine wl_loadE (E := ClaE) ClaOk rfl _ rfl (w.heap.size + 1 + 1) 0 rfl _ _ _ (claV ⟨t.text, (t.pos : Int), F, false, false⟩ (.slice o F.length cap)) rfl K3.out.2.2.1 (own_cells _ _) ?_)
        | (refine wl_storeE (E := ClaE) ClaOk rfl _ _ rfl (w.heap.size + 1) (claV ⟨t.text, (t.pos : Int), F, false, false⟩ (.slice o F.length cap)) (cla_fits _ _ ⟨_, _, _, rfl⟩) rfl rfl _ K3.out.2.2.2 rfl _ rfl ?_))
      refine retE (E := ClaE) ClaOk rfl rfl (w.heap.size + 1) rfl (claV ⟨t.text, (t.pos : Int), F, false, false⟩ (.slice o F.length cap)) rfl (setRow_heap _ _ _ _ _ _ K3.out.2.2.2) ?_
      rw [HA3.out]
      exact ⟨gb_setRow K3.out.2.1 (.inr (by omega)) _, ⟨_, rfl, _, rfl, own_setRow6 OWN3.out K3.out.2.2.2 (by decide) _⟩, rd_setRow K3.out.1 (by omega) (by omega) _⟩

set_option maxHeartbeats 4000000 in
set_option maxRecDepth 10000 in
theorem clause_dst (W0 w : World) (g E : Nat) (t : Tok) (ht : t.text = wDst) (T : List Tok) (h : Rd W0 w g E T) :
    Calls Tryz.prog 115 #[.pointer (some ⟨g, 0, none⟩), .agg (encT t)] w fun e w' => Took W0 w g E (ClaR w.heap.size) (addrC E t T) e w' := by
  have CF : Hid (∀ W T, Rd W0 W g E T → Calls Tryz.prog 96 #[.pointer (some ⟨g, 0, none⟩)] W fun e w' => Took W0 W g E (fun _ f v => v = .agg (figV f)) (takeF E T) e w') := fun W T h => figure_any W0 W g E T h
  have CA : Hid (∀ W T, Rd W0 W g E T → Calls Tryz.prog 122 #[.pointer (some ⟨g, 0, none⟩)] W fun e w' => Took W0 W g E (FigsOwn W.heap.size) (addrT E T) e w') := fun W T h => address_any W0 W g E T h
  have C4 : Hid (∀ W T, Rd W0 W g E T → Calls Tryz.prog 123 #[.pointer (some ⟨g, 0, none⟩), .int .i64 4] W fun e w' => Took W0 W g E (fun _ b v => v = .bool b) (follT E 4 T) e w') := fun W T h => follows_any W0 W g E 4 (by decide) T h
  have C5 : Hid (∀ W T, Rd W0 W g E T → Calls Tryz.prog 123 #[.pointer (some ⟨g, 0, none⟩), .int .i64 5] W fun e w' => Took W0 W g E (fun _ b v => v = .bool b) (follT E 5 T) e w') := fun W T h => follows_any W0 W g E 5 (by decide) T h
  have hgl := h.size
  have e0 : (t.text == [115, 114, 99]) = false := by rw [ht]; rfl
  have e1 : (t.text == [100, 115, 116]) = true := by rw [ht]; rfl
  have H : Hid (Rd W0 w g E T) := h
  obtain ⟨A, hA⟩ : ∃ A, A = addrC E t T := ⟨_, rfl⟩
  rw [← hA]
  unfold addrC at hA
  have q1 := fun x => tok_cells (heap_past _ x _ _ (heap_new w (.cells (encT t) 117) _ rfl))
  have q2 := fun x y => tok_cells (heap_past _ y _ _ (heap_past _ x _ _ (heap_new w (.cells (encT t) 117) _ rfl)))
  have t1 := fun x => (q1 x).2.1
  have t2 := fun x => (q1 x).2.2.1
  have t5 := fun x y => (q2 x y).2.1
  have t6 := fun x y => (q2 x y).2.2.1
  clear q1 q2
  clear h ht
  go_enter Tryz.func115, Tryz.ntmps115
  go_wp2_with (first
    | (refine wl_storeE (E := ClaE) ClaOk rfl _ _ rfl (w.heap.size + 2) (claV ⟨t.text, (t.pos : Int), [], false, false⟩ (.slice none 0 0)) (cla_fits _ _ ⟨_, _, _, rfl⟩) rfl rfl _ (heap_new _ _ _ (by simp)) rfl _ (setRow_new _ _ _ _ _ (by simp)) ?_))
  refine (CA.out _ T (((H.out.alloc _).alloc _).alloc _)).mono ?_
  cases hF : addrT E T with
  | error x =>
    obtain ⟨c, q⟩ := x
    have HA2 : Hid (A = .error (c, q)) := by show _ = _; rw [hA, hF]; rfl
    clear hA hF
    rintro e w1 ⟨hg1, rfl⟩
    go_wp2_with fail
    rw [HA2.out]
    exact ⟨rfl, grown_trans (gb_alloc (gb_alloc (gb_alloc (gb_refl w g) _) _) _) hg1, rfl⟩
  | ok x =>
    obtain ⟨F, T1⟩ := x
    have HA : Hid (A = (takeO E 4 T1).map fun z => ((⟨t.text, (t.pos : Int), F ++ z.1.toList, z.1.isSome, false⟩ : Cla), z.2)) := by show _ = _; rw [hA, hF]; rfl
    have HFL : Hid (F.length = 4) := addrT_len hF
    clear hA
    rintro e w1 ⟨hg1, ⟨u, rfl, hown1⟩, R1⟩
    obtain ⟨o, cap, rfl⟩ := gown_slice hown1
    have OWN1 : Hid (w1.ownsRow w.heap.size 89 2 (.slice o F.length cap) F.length (gcells figV F)) := gown_base hown1 (by simp; omega)
    have G1 : w.grownBy w1 (some g) := grown_trans (gb_alloc (gb_alloc (gb_alloc (gb_refl w g) _) _) _) hg1
    have z1 : w.heap.size + 3 ≤ w1.heap.size := by have := hg1.size; simp at this; omega
    have r1 : w1.heap[w.heap.size + 1]? = some (.cells (claV ⟨[], 0, [], false, false⟩ (.slice none 0 0)) 129 (0, 0)) := (hg1.block _ (by simp) (by simp; omega)).trans (heap_past _ _ _ _ (heap_new _ _ _ (by simp)))
    have rP : w1.heap[(w.heap.size + 1 + 1)]? = some (.cells (claV ⟨t.text, (t.pos : Int), [], false, false⟩ (.slice none 0 0)) 129 (0, 0)) := (hg1.block _ (by simp) (by simp; omega)).trans (heap_new _ _ _ (by simp))
    have c2 : w1.cell? ⟨(w.heap.size + 1 + 1), 2, none⟩ = some (.slice none 0 0) := by rw [cell_of_row _ _ _ _ _ _ rP]; rfl
    have f2 : w1.frozen? ⟨(w.heap.size + 1 + 1), 2, none⟩ = false := tc_frozen rP rfl
    have R1' : Rd W0 (w1.setCell ⟨(w.heap.size + 1 + 1), 2, none⟩ (.slice o F.length cap)) g E T1 := rd_setCell R1 (by omega) (by omega) _ _
    have G1' : w.grownBy (w1.setCell ⟨(w.heap.size + 1 + 1), 2, none⟩ (.slice o F.length cap)) (some g) := gb_setCell G1 (.inr (by omega)) _ _
    have rP' : (w1.setCell ⟨(w.heap.size + 1 + 1), 2, none⟩ (.slice o F.length cap)).heap[(w.heap.size + 1 + 1)]? = some (.cells (claV ⟨t.text, (t.pos : Int), [], false, false⟩ (.slice o F.length cap)) 129 (0, 0)) := tc_row rP _
    have r1' : (w1.setCell ⟨(w.heap.size + 1 + 1), 2, none⟩ (.slice o F.length cap)).heap[w.heap.size + 1]? = some (.cells (claV ⟨[], 0, [], false, false⟩ (.slice none 0 0)) 129 (0, 0)) := (tc_far (by omega) _).trans r1
    have OWN2 : Hid ((w1.setCell ⟨(w.heap.size + 1 + 1), 2, none⟩ (.slice o F.length cap)).ownsRow w.heap.size 89 2 (.slice o F.length cap) F.length (gcells figV F)) := own_set OWN1.out rP (by decide) _
    have KP : Hid (_ ∧ _ ∧ _ ∧ _) := ⟨R1', G1', rP', r1'⟩
    clear R1 G1 rP r1 R1' G1' rP' r1' OWN1 hg1 hF
    go_wp2_with fail
    refine (C4.out _ T1 KP.out.1).mono ?_
    by_cases hk : (hd E T1).kind = 4
    · obtain ⟨T2, hO, hf4⟩ := rdO_yes (by decide) hk
      rw [hf4]
      rw [hO] at HA
      clear hk hO hf4 c2 f2
      rintro e w2 ⟨hg2, ⟨v, rfl, rfl⟩, R2⟩
      have z2 : w1.heap.size ≤ w2.heap.size := by have := hg2.size; rw [tc_size] at this; simpa using this
      have rP2 : w2.heap[(w.heap.size + 1 + 1)]? = some (.cells (claV ⟨t.text, (t.pos : Int), [], false, false⟩ (.slice o F.length cap)) 129 (0, 0)) := (hg2.block _ (by rw [tc_size]; omega) (by simp; omega)).trans KP.out.2.2.1
      have r12 : w2.heap[w.heap.size + 1]? = some (.cells (claV ⟨[], 0, [], false, false⟩ (.slice none 0 0)) 129 (0, 0)) := (hg2.block _ (by rw [tc_size]; omega) (by simp; omega)).trans KP.out.2.2.2
      have c3 : w2.cell? ⟨(w.heap.size + 1 + 1), 3, none⟩ = some (.bool false) := by rw [cell_of_row _ _ _ _ _ _ rP2]; rfl
      have f3 : w2.frozen? ⟨(w.heap.size + 1 + 1), 3, none⟩ = false := tc_frozen rP2 rfl
      have rP3 : (w2.setCell ⟨(w.heap.size + 1 + 1), 3, none⟩ (.bool true)).heap[(w.heap.size + 1 + 1)]? = some (.cells (claV ⟨t.text, (t.pos : Int), [], true, false⟩ (.slice o F.length cap)) 129 (0, 0)) := tc_row rP2 _
      have r13 : (w2.setCell ⟨(w.heap.size + 1 + 1), 3, none⟩ (.bool true)).heap[w.heap.size + 1]? = some (.cells (claV ⟨[], 0, [], false, false⟩ (.slice none 0 0)) 129 (0, 0)) := (tc_far (by omega) _).trans r12
      have R3 : Rd W0 (w2.setCell ⟨(w.heap.size + 1 + 1), 3, none⟩ (.bool true)) g E T2 := rd_setCell R2 (by omega) (by omega) _ _
      have G3 : w.grownBy (w2.setCell ⟨(w.heap.size + 1 + 1), 3, none⟩ (.bool true)) (some g) := gb_setCell (grown_trans KP.out.2.1 hg2) (.inr (by omega)) _ _
      have OWN3 : Hid ((w2.setCell ⟨(w.heap.size + 1 + 1), 3, none⟩ (.bool true)).ownsRow w.heap.size 89 2 (.slice o F.length cap) F.length (gcells figV F)) := own_set (own_by hg2 hgl.2 OWN2.out) rP2 (by decide) _
      have d3 : (w2.setCell ⟨(w.heap.size + 1 + 1), 3, none⟩ (.bool true)).cell? ⟨(w.heap.size + 1 + 1), 3, none⟩ = some (.bool true) := by rw [cell_of_row _ _ _ _ _ _ rP3]; rfl
      have d4 : (w2.setCell ⟨(w.heap.size + 1 + 1), 3, none⟩ (.bool true)).cell? ⟨(w.heap.size + 1 + 1), 4, none⟩ = some (.bool false) := by rw [cell_of_row _ _ _ _ _ _ rP3]; rfl
      have K3 : Hid (_ ∧ _ ∧ _ ∧ _) := ⟨R3, G3, rP3, r13⟩
      clear hg2 R2 rP2 r12 rP3 r13 R3 G3 OWN2 KP
      go_wp2_with fail
      obtain ⟨w4, hw4⟩ : ∃ w4, w4 = w2.setCell ⟨(w.heap.size + 1 + 1), 3, none⟩ (.bool true) := ⟨_, rfl⟩
      rw [← hw4] at K3 OWN3 ⊢
      have z4 : w4.heap.size = w2.heap.size := by rw [hw4, tc_size]
      clear hw4 d3 d4 c3 f3
      cases hF2 : takeF E T2 with
      | error x =>
        obtain ⟨c, q⟩ := x
        rw [hF2] at HA
        refine own15_panics (Nat.le_of_ble_eq_true rfl) g (w.heap.size + 1 + 1) rfl rfl _ K3.out.2.2.1 (.slice o F.length cap) rfl [{ v := faultV c q, recovered := false }] (fun w' => w.grownBy w' (some g)) ?_ ?_
        · refine (CF.out w4.drew T2 (K3.out.1.below ((Below.refl _ _).drew))).mono ?_
          rw [hF2]
          rintro e w' ⟨hg, rfl⟩
          exact ⟨rfl, grown_trans K3.out.2.1 (grown_trans (gb_drew w4 g) hg)⟩
        · intro a' w' hdf hg
          go_wp2_with fail
          rw [HA.out]
          exact ⟨hdf, hg, rfl⟩
      | ok x =>
        obtain ⟨f2, T3⟩ := x
        rw [hF2] at HA
        refine own15_region (Nat.le_of_ble_eq_true rfl) g (w.heap.size + 1 + 1) rfl rfl _ K3.out.2.2.1 (.slice o F.length cap) rfl (by omega) F w.heap.size OWN3.out (by have := HFL.out; omega) (by omega) hgl.2 f2 (fun w' => w.grownBy w' (some g) ∧ Rd W0 w' g E T3) ?_ ?_
        · refine (CF.out w4.drew T2 (K3.out.1.below ((Below.refl _ _).drew))).mono ?_
          rw [hF2]
          rintro e w' ⟨hg, ⟨v, rfl, rfl⟩, R⟩
          exact ⟨rfl, hg, grown_trans K3.out.2.1 (grown_trans (gb_drew w4 g) hg), R⟩
        · rintro a' w5 w6 v' ⟨y0, y1, y2, y3, y4, y5, y6, rfl⟩ ⟨G5, R5⟩ hg5 hgr6 hown6 hp6
          simp only [Act.put, List.setIfInBounds_toArray, List.set_cons_succ, List.set_cons_zero]
          obtain ⟨o6, cap6, rfl⟩ := gown_slice hown6
          have z5 := hg5.size
          have z6 := hgr6.size
          have own5 := own_by hg5 hgl.2 OWN3.out
          have hub : ∀ k, ((.slice o F.length cap) : Value).ownBlock = some k → w.heap.size ≤ k := fun k hk => (OWN3.out.lt k hk).1
          have r16 : w6.heap[w.heap.size + 1]? = some (.cells (claV ⟨[], 0, [], false, false⟩ (.slice none 0 0)) 129 (0, 0)) := by
            refine (hgr6.block _ (by simp; omega) ?_).trans (heap_past _ _ _ _ ((hg5.block _ (by omega) (by simp; omega)).trans K3.out.2.2.2))
            intro hq
            have hx := hq.symm
            obtain ⟨_, ⟨hv, _⟩ | ⟨g', cap', cur', hv, _, h2, _⟩⟩ := OWN3.out
            · rw [hv] at hx; simp [Value.ownBlock] at hx
            · rw [hv] at hx
              simp only [Value.ownBlock, Option.some.injEq] at hx
              rw [hx, K3.out.2.2.2] at h2
              simp at h2
          have G6 : w.grownBy w6 (some g) := gb_own (gb_alloc G5 _) hgr6 hub
          have R6 : Rd W0 w6 g E T3 := rd_own (R5.alloc _) hgr6 fun k hk => Nat.lt_of_lt_of_le hgl.2 (hub k hk)
          have rP7 : Hid ((w6.setCell ⟨(w.heap.size + 1 + 1), 2, none⟩ (.slice o6 (F ++ [f2]).length cap6)).heap[(w.heap.size + 1 + 1)]? = some (.cells (claV ⟨t.text, (t.pos : Int), F ++ [f2], true, false⟩ (.slice o6 (F ++ [f2]).length cap6)) 129 (0, 0))) := tc_row hp6 _
          have r17 : Hid ((w6.setCell ⟨(w.heap.size + 1 + 1), 2, none⟩ (.slice o6 (F ++ [f2]).length cap6)).heap[w.heap.size + 1]? = some (.cells (claV ⟨[], 0, [], false, false⟩ (.slice none 0 0)) 129 (0, 0))) := (tc_far (by omega) _).trans r16
          have OWN7 : Hid ((w6.setCell ⟨(w.heap.size + 1 + 1), 2, none⟩ (.slice o6 (F ++ [f2]).length cap6)).ownsRow w.heap.size 89 2 (.slice o6 (F ++ [f2]).length cap6) (F ++ [f2]).length (gcells figV (F ++ [f2]))) := own_set hown6 hp6 (by decide) _
          have G7 : Hid (w.grownBy (w6.setCell ⟨(w.heap.size + 1 + 1), 2, none⟩ (.slice o6 (F ++ [f2]).length cap6)) (some g)) := gb_setCell G6 (.inr (by omega)) _ _
          have R7 : Hid (Rd W0 (w6.setCell ⟨(w.heap.size + 1 + 1), 2, none⟩ (.slice o6 (F ++ [f2]).length cap6)) g E T3) := rd_setCell R6 (by omega) (by omega) _ _
          clear hown6 hp6 r16 hgr6 own5 G6 R6 G5 R5 hg5
          go_wp2_with (first
            | (refine wl_loadE (E := ClaE) ClaOk rfl _ rfl (w.heap.size + 1 + 1) 0 rfl _ _ _ (claV ⟨t.text, (t.pos : Int), F ++ [f2], true, false⟩ (.slice o6 (F ++ [f2]).length cap6)) rfl rP7.out (own_cells _ _) ?_)
            | (refine wl_storeE (E := ClaE) ClaOk rfl _ _ rfl (w.heap.size + 1) (claV ⟨t.text, (t.pos : Int), F ++ [f2], true, false⟩ (.slice o6 (F ++ [f2]).length cap6)) (cla_fits _ _ ⟨_, _, _, rfl⟩) rfl rfl _ r17.out rfl _ rfl ?_))
          refine retE (E := ClaE) ClaOk rfl rfl (w.heap.size + 1) rfl (claV ⟨t.text, (t.pos : Int), F ++ [f2], true, false⟩ (.slice o6 (F ++ [f2]).length cap6)) rfl (setRow_heap _ _ _ _ _ _ r17.out) ?_
          rw [HA.out]
          exact ⟨gb_setRow G7.out (.inr (by omega)) _, ⟨_, rfl, _, rfl, own_setRow6 OWN7.out r17.out (by decide) _⟩, rd_setRow R7.out (by omega) (by omega) _⟩
    · obtain ⟨hO, hf4⟩ := rdO_no hk
      rw [hf4]
      rw [hO] at HA
      clear hk hO hf4 c2 f2
      rintro e w2 ⟨hg2, ⟨v, rfl, rfl⟩, R2⟩
      have z2 : w1.heap.size ≤ w2.heap.size := by have := hg2.size; rw [tc_size] at this; simpa using this
      have rP2 : w2.heap[(w.heap.size + 1 + 1)]? = some (.cells (claV ⟨t.text, (t.pos : Int), [], false, false⟩ (.slice o F.length cap)) 129 (0, 0)) := (hg2.block _ (by rw [tc_size]; omega) (by simp; omega)).trans KP.out.2.2.1
      have r12 : w2.heap[w.heap.size + 1]? = some (.cells (claV ⟨[], 0, [], false, false⟩ (.slice none 0 0)) 129 (0, 0)) := (hg2.block _ (by rw [tc_size]; omega) (by simp; omega)).trans KP.out.2.2.2
      have c3 : w2.cell? ⟨(w.heap.size + 1 + 1), 3, none⟩ = some (.bool false) := by rw [cell_of_row _ _ _ _ _ _ rP2]; rfl
      have f3 : w2.frozen? ⟨(w.heap.size + 1 + 1), 3, none⟩ = false := tc_frozen rP2 rfl
      have rP3 : (w2.setCell ⟨(w.heap.size + 1 + 1), 3, none⟩ (.bool false)).heap[(w.heap.size + 1 + 1)]? = some (.cells (claV ⟨t.text, (t.pos : Int), F, false, false⟩ (.slice o F.length cap)) 129 (0, 0)) := tc_row rP2 _
      have r13 : (w2.setCell ⟨(w.heap.size + 1 + 1), 3, none⟩ (.bool false)).heap[w.heap.size + 1]? = some (.cells (claV ⟨[], 0, [], false, false⟩ (.slice none 0 0)) 129 (0, 0)) := (tc_far (by omega) _).trans r12
      have R3 : Rd W0 (w2.setCell ⟨(w.heap.size + 1 + 1), 3, none⟩ (.bool false)) g E T1 := rd_setCell R2 (by omega) (by omega) _ _
      have G3 : w.grownBy (w2.setCell ⟨(w.heap.size + 1 + 1), 3, none⟩ (.bool false)) (some g) := gb_setCell (grown_trans KP.out.2.1 hg2) (.inr (by omega)) _ _
      have OWN3 : Hid ((w2.setCell ⟨(w.heap.size + 1 + 1), 3, none⟩ (.bool false)).ownsRow w.heap.size 89 2 (.slice o F.length cap) F.length (gcells figV F)) := own_set (own_by hg2 hgl.2 OWN2.out) rP2 (by decide) _
      have d3 : (w2.setCell ⟨(w.heap.size + 1 + 1), 3, none⟩ (.bool false)).cell? ⟨(w.heap.size + 1 + 1), 3, none⟩ = some (.bool false) := by rw [cell_of_row _ _ _ _ _ _ rP3]; rfl
      have d4 : (w2.setCell ⟨(w.heap.size + 1 + 1), 3, none⟩ (.bool false)).cell? ⟨(w.heap.size + 1 + 1), 4, none⟩ = some (.bool false) := by rw [cell_of_row _ _ _ _ _ _ rP3]; rfl
      have K3 : Hid (_ ∧ _ ∧ _ ∧ _) := ⟨R3, G3, rP3, r13⟩
      have HA3 : Hid (A = .ok ((⟨t.text, (t.pos : Int), F, false, false⟩ : Cla), T1)) := by show _ = _; rw [HA.out]; simp [Except.map]
      clear hg2 R2 rP2 r12 rP3 r13 R3 G3 OWN2 KP
      go_wp2_with (first
        | (refine wl_loadE (E := ClaE) ClaOk rfl _ rfl (w.heap.size + 1 + 1) 0 rfl _ _ _ (claV ⟨t.text, (t.pos : Int), F, false, false⟩ (.slice o F.length cap)) rfl K3.out.2.2.1 (own_cells _ _) ?_)
        | (refine wl_storeE (E := ClaE) ClaOk rfl _ _ rfl (w.heap.size + 1) (claV ⟨t.text, (t.pos : Int), F, false, false⟩ (.slice o F.length cap)) (cla_fits _ _ ⟨_, _, _, rfl⟩) rfl rfl _ K3.out.2.2.2 rfl _ rfl ?_))
      refine retE (E := ClaE) ClaOk rfl rfl (w.heap.size + 1) rfl (claV ⟨t.text, (t.pos : Int), F, false, false⟩ (.slice o F.length cap)) rfl (setRow_heap _ _ _ _ _ _ K3.out.2.2.2) ?_
      rw [HA3.out]
      exact ⟨gb_setRow K3.out.2.1 (.inr (by omega)) _, ⟨_, rfl, _, rfl, own_setRow6 OWN3.out K3.out.2.2.2 (by decide) _⟩, rd_setRow K3.out.1 (by omega) (by omega) _⟩

set_option maxHeartbeats 4000000 in
set_option maxRecDepth 10000 in
theorem clause_sport (W0 w : World) (g E : Nat) (t : Tok) (ht : t.text = wSport) (T : List Tok) (h : Rd W0 w g E T) :
    Calls Tryz.prog 115 #[.pointer (some ⟨g, 0, none⟩), .agg (encT t)] w fun e w' => Took W0 w g E (ClaR w.heap.size) (portC6 E t T) e w' := by
  have CF : Hid (∀ W T, Rd W0 W g E T → Calls Tryz.prog 96 #[.pointer (some ⟨g, 0, none⟩)] W fun e w' => Took W0 W g E (fun _ f v => v = .agg (figV f)) (takeF E T) e w') := fun W T h => figure_any W0 W g E T h
  have CA : Hid (∀ W T, Rd W0 W g E T → Calls Tryz.prog 122 #[.pointer (some ⟨g, 0, none⟩)] W fun e w' => Took W0 W g E (FigsOwn W.heap.size) (addrT E T) e w') := fun W T h => address_any W0 W g E T h
  have C4 : Hid (∀ W T, Rd W0 W g E T → Calls Tryz.prog 123 #[.pointer (some ⟨g, 0, none⟩), .int .i64 4] W fun e w' => Took W0 W g E (fun _ b v => v = .bool b) (follT E 4 T) e w') := fun W T h => follows_any W0 W g E 4 (by decide) T h
  have C5 : Hid (∀ W T, Rd W0 W g E T → Calls Tryz.prog 123 #[.pointer (some ⟨g, 0, none⟩), .int .i64 5] W fun e w' => Took W0 W g E (fun _ b v => v = .bool b) (follT E 5 T) e w') := fun W T h => follows_any W0 W g E 5 (by decide) T h
  have hgl := h.size
  have e0 : (t.text == [115, 114, 99]) = false := by rw [ht]; rfl
  have e1 : (t.text == [100, 115, 116]) = false := by rw [ht]; rfl
  have e2 : (t.text == [115, 112, 111, 114, 116]) = true := by rw [ht]; rfl
  have H : Hid (Rd W0 w g E T) := h
  obtain ⟨A, hA⟩ : ∃ A, A = portC6 E t T := ⟨_, rfl⟩
  rw [← hA]
  unfold portC6 at hA
  have q1 := fun x => tok_cells (heap_past _ x _ _ (heap_new w (.cells (encT t) 117) _ rfl))
  have q2 := fun x y => tok_cells (heap_past _ y _ _ (heap_past _ x _ _ (heap_new w (.cells (encT t) 117) _ rfl)))
  have t1 := fun x => (q1 x).2.1
  have t2 := fun x => (q1 x).2.2.1
  have t5 := fun x y => (q2 x y).2.1
  have t6 := fun x y => (q2 x y).2.2.1
  clear q1 q2
  clear h ht
  go_enter Tryz.func115, Tryz.ntmps115
  go_wp2_with (first
    | (refine wl_storeE (E := ClaE) ClaOk rfl _ _ rfl (w.heap.size + 2) (claV ⟨t.text, (t.pos : Int), [], false, false⟩ (.slice none 0 0)) (cla_fits _ _ ⟨_, _, _, rfl⟩) rfl rfl _ (heap_new _ _ _ (by simp)) rfl _ (setRow_new _ _ _ _ _ (by simp)) ?_))
  refine (CF.out _ T (((H.out.alloc _).alloc _).alloc _)).mono ?_
  cases hF : takeF E T with
  | error x =>
    obtain ⟨c, q⟩ := x
    have HA2 : Hid (A = .error (c, q)) := by show _ = _; rw [hA, hF]; rfl
    clear hA hF
    rintro e w1 ⟨hg1, rfl⟩
    go_wp2_with fail
    rw [HA2.out]
    exact ⟨rfl, grown_trans (gb_alloc (gb_alloc (gb_alloc (gb_refl w g) _) _) _) hg1, rfl⟩
  | ok x =>
    obtain ⟨f, T1⟩ := x
    have HA : Hid (A = (takeO E 5 T1).map fun z => ((⟨t.text, (t.pos : Int), f :: z.1.toList, false, z.1.isSome⟩ : Cla), z.2)) := by show _ = _; rw [hA, hF]; rfl
    clear hA
    rintro e w1 ⟨hg1, ⟨v, rfl, rfl⟩, R1⟩
    have G1 : w.grownBy w1 (some g) := grown_trans (gb_alloc (gb_alloc (gb_alloc (gb_refl w g) _) _) _) hg1
    have z1 : w.heap.size + 3 ≤ w1.heap.size := by have := hg1.size; simp at this; omega
    have r1 : w1.heap[w.heap.size + 1]? = some (.cells (claV ⟨[], 0, [], false, false⟩ (.slice none 0 0)) 129 (0, 0)) := (hg1.block _ (by simp) (by simp; omega)).trans (heap_past _ _ _ _ (heap_new _ _ _ (by simp)))
    have rP : w1.heap[(w.heap.size + 1 + 1)]? = some (.cells (claV ⟨t.text, (t.pos : Int), [], false, false⟩ (.slice none 0 0)) 129 (0, 0)) := (hg1.block _ (by simp) (by simp; omega)).trans (heap_new _ _ _ (by simp))
    have OWN1 : Hid ((w1.alloc (.cells (figV f) 89)).ownsRow w.heap.size 89 2 (.slice (some ⟨w1.heap.size, 0, none⟩) 1 1) [f].length (gcells figV [f])) := ⟨rfl, Or.inr ⟨w1.heap.size, 1, figV f, rfl, by omega, heap_new _ _ _ rfl, Nat.le_refl 1, by decide, rfl, rfl⟩⟩
    replace r1 := heap_past _ (.cells (figV f) 89) _ _ r1
    have rP0 := rP
    replace rP := heap_past _ (.cells (figV f) 89) _ _ rP
    replace R1 := R1.alloc (.cells (figV f) 89)
    replace G1 := gb_alloc G1 (.cells (figV f) 89)
    have z1' : (w1.alloc (.cells (figV f) 89)).heap.size = w1.heap.size + 1 := by simp
    have c2 : ∀ x, (w1.alloc x).cell? ⟨(w.heap.size + 1 + 1), 2, none⟩ = some (.slice none 0 0) := fun x => by rw [cell_of_row _ _ _ _ _ _ (heap_past _ x _ _ rP0)]; rfl
    have f2 : ∀ x, (w1.alloc x).frozen? ⟨(w.heap.size + 1 + 1), 2, none⟩ = false := fun x => tc_frozen (heap_past _ x _ _ rP0) rfl
    have R1' : Rd W0 ((w1.alloc (.cells (figV f) 89)).setCell ⟨(w.heap.size + 1 + 1), 2, none⟩ (.slice (some ⟨w1.heap.size, 0, none⟩) 1 1)) g E T1 := rd_setCell R1 (by omega) (by omega) _ _
    have G1' : w.grownBy ((w1.alloc (.cells (figV f) 89)).setCell ⟨(w.heap.size + 1 + 1), 2, none⟩ (.slice (some ⟨w1.heap.size, 0, none⟩) 1 1)) (some g) := gb_setCell G1 (.inr (by omega)) _ _
    have rP' : ((w1.alloc (.cells (figV f) 89)).setCell ⟨(w.heap.size + 1 + 1), 2, none⟩ (.slice (some ⟨w1.heap.size, 0, none⟩) 1 1)).heap[(w.heap.size + 1 + 1)]? = some (.cells (claV ⟨t.text, (t.pos : Int), [], false, false⟩ (.slice (some ⟨w1.heap.size, 0, none⟩) 1 1)) 129 (0, 0)) := tc_row rP _
    have r1' : ((w1.alloc (.cells (figV f) 89)).setCell ⟨(w.heap.size + 1 + 1), 2, none⟩ (.slice (some ⟨w1.heap.size, 0, none⟩) 1 1)).heap[w.heap.size + 1]? = some (.cells (claV ⟨[], 0, [], false, false⟩ (.slice none 0 0)) 129 (0, 0)) := (tc_far (by omega) _).trans r1
    have OWN2 : Hid (((w1.alloc (.cells (figV f) 89)).setCell ⟨(w.heap.size + 1 + 1), 2, none⟩ (.slice (some ⟨w1.heap.size, 0, none⟩) 1 1)).ownsRow w.heap.size 89 2 (.slice (some ⟨w1.heap.size, 0, none⟩) 1 1) [f].length (gcells figV [f])) := own_set OWN1.out rP (by decide) _
    have KP : Hid (_ ∧ _ ∧ _ ∧ _) := ⟨R1', G1', rP', r1'⟩
    clear R1 G1 rP r1 R1' G1' rP' r1' OWN1 hg1 hF z1'
    clear rP0
    go_wp2_with (first
      | (refine wl_buildE (E := FigE) FigOk rfl _ rfl (figV f) rfl rfl ?_))
    refine (C5.out _ T1 KP.out.1).mono ?_
    by_cases hk : (hd E T1).kind = 5
    · obtain ⟨T2, hO, hf4⟩ := rdO_yes (by decide) hk
      rw [hf4]
      rw [hO] at HA
      clear hk hO hf4 c2 f2
      rintro e w2 ⟨hg2, ⟨v, rfl, rfl⟩, R2⟩
      have z2 : w1.heap.size + 1 ≤ w2.heap.size := by have := hg2.size; rw [tc_size] at this; simpa using this
      have rP2 : w2.heap[(w.heap.size + 1 + 1)]? = some (.cells (claV ⟨t.text, (t.pos : Int), [], false, false⟩ (.slice (some ⟨w1.heap.size, 0, none⟩) 1 1)) 129 (0, 0)) := (hg2.block _ (by rw [tc_size]; simp; omega) (by simp; omega)).trans KP.out.2.2.1
      have r12 : w2.heap[w.heap.size + 1]? = some (.cells (claV ⟨[], 0, [], false, false⟩ (.slice none 0 0)) 129 (0, 0)) := (hg2.block _ (by rw [tc_size]; simp; omega) (by simp; omega)).trans KP.out.2.2.2
      have c3 : w2.cell? ⟨(w.heap.size + 1 + 1), 4, none⟩ = some (.bool false) := by rw [cell_of_row _ _ _ _ _ _ rP2]; rfl
      have f3 : w2.frozen? ⟨(w.heap.size + 1 + 1), 4, none⟩ = false := tc_frozen rP2 rfl
      have rP3 : (w2.setCell ⟨(w.heap.size + 1 + 1), 4, none⟩ (.bool true)).heap[(w.heap.size + 1 + 1)]? = some (.cells (claV ⟨t.text, (t.pos : Int), [], false, true⟩ (.slice (some ⟨w1.heap.size, 0, none⟩) 1 1)) 129 (0, 0)) := tc_row rP2 _
      have r13 : (w2.setCell ⟨(w.heap.size + 1 + 1), 4, none⟩ (.bool true)).heap[w.heap.size + 1]? = some (.cells (claV ⟨[], 0, [], false, false⟩ (.slice none 0 0)) 129 (0, 0)) := (tc_far (by omega) _).trans r12
      have R3 : Rd W0 (w2.setCell ⟨(w.heap.size + 1 + 1), 4, none⟩ (.bool true)) g E T2 := rd_setCell R2 (by omega) (by omega) _ _
      have G3 : w.grownBy (w2.setCell ⟨(w.heap.size + 1 + 1), 4, none⟩ (.bool true)) (some g) := gb_setCell (grown_trans KP.out.2.1 hg2) (.inr (by omega)) _ _
      have OWN3 : Hid ((w2.setCell ⟨(w.heap.size + 1 + 1), 4, none⟩ (.bool true)).ownsRow w.heap.size 89 2 (.slice (some ⟨w1.heap.size, 0, none⟩) 1 1) [f].length (gcells figV [f])) := own_set (own_by hg2 hgl.2 OWN2.out) rP2 (by decide) _
      have d3 : (w2.setCell ⟨(w.heap.size + 1 + 1), 4, none⟩ (.bool true)).cell? ⟨(w.heap.size + 1 + 1), 3, none⟩ = some (.bool false) := by rw [cell_of_row _ _ _ _ _ _ rP3]; rfl
      have d4 : (w2.setCell ⟨(w.heap.size + 1 + 1), 4, none⟩ (.bool true)).cell? ⟨(w.heap.size + 1 + 1), 4, none⟩ = some (.bool true) := by rw [cell_of_row _ _ _ _ _ _ rP3]; rfl
      have K3 : Hid (_ ∧ _ ∧ _ ∧ _) := ⟨R3, G3, rP3, r13⟩
      clear hg2 R2 rP2 r12 rP3 r13 R3 G3 OWN2 KP
      go_wp2_with fail
      obtain ⟨w4, hw4⟩ : ∃ w4, w4 = w2.setCell ⟨(w.heap.size + 1 + 1), 4, none⟩ (.bool true) := ⟨_, rfl⟩
      rw [← hw4] at K3 OWN3 ⊢
      have z4 : w4.heap.size = w2.heap.size := by rw [hw4, tc_size]
      clear hw4 d3 d4 c3 f3
      cases hF2 : takeF E T2 with
      | error x =>
        obtain ⟨c, q⟩ := x
        rw [hF2] at HA
        refine own15_panics (Nat.le_of_ble_eq_true rfl) g (w.heap.size + 1 + 1) rfl rfl _ K3.out.2.2.1 (.slice (some ⟨w1.heap.size, 0, none⟩) 1 1) rfl [{ v := faultV c q, recovered := false }] (fun w' => w.grownBy w' (some g)) ?_ ?_
        · refine (CF.out w4.drew T2 (K3.out.1.below ((Below.refl _ _).drew))).mono ?_
          rw [hF2]
          rintro e w' ⟨hg, rfl⟩
          exact ⟨rfl, grown_trans K3.out.2.1 (grown_trans (gb_drew w4 g) hg)⟩
        · intro a' w' hdf hg
          go_wp2_with fail
          rw [HA.out]
          exact ⟨hdf, hg, rfl⟩
      | ok x =>
        obtain ⟨f2, T3⟩ := x
        rw [hF2] at HA
        refine own15_region (Nat.le_of_ble_eq_true rfl) g (w.heap.size + 1 + 1) rfl rfl _ K3.out.2.2.1 (.slice (some ⟨w1.heap.size, 0, none⟩) 1 1) rfl (by omega) [f] w.heap.size OWN3.out (by simp) (by omega) hgl.2 f2 (fun w' => w.grownBy w' (some g) ∧ Rd W0 w' g E T3) ?_ ?_
        · refine (CF.out w4.drew T2 (K3.out.1.below ((Below.refl _ _).drew))).mono ?_
          rw [hF2]
          rintro e w' ⟨hg, ⟨v, rfl, rfl⟩, R⟩
          exact ⟨rfl, hg, grown_trans K3.out.2.1 (grown_trans (gb_drew w4 g) hg), R⟩
        · rintro a' w5 w6 v' ⟨y0, y1, y2, y3, y4, y5, y6, rfl⟩ ⟨G5, R5⟩ hg5 hgr6 hown6 hp6
          simp only [Act.put, List.setIfInBounds_toArray, List.set_cons_succ, List.set_cons_zero]
          obtain ⟨o6, cap6, rfl⟩ := gown_slice hown6
          have z5 := hg5.size
          have z6 := hgr6.size
          have own5 := own_by hg5 hgl.2 OWN3.out
          have hub : ∀ k, ((.slice (some ⟨w1.heap.size, 0, none⟩) 1 1) : Value).ownBlock = some k → w.heap.size ≤ k := fun k hk => (OWN3.out.lt k hk).1
          have r16 : w6.heap[w.heap.size + 1]? = some (.cells (claV ⟨[], 0, [], false, false⟩ (.slice none 0 0)) 129 (0, 0)) := by
            refine (hgr6.block _ (by simp; omega) ?_).trans (heap_past _ _ _ _ ((hg5.block _ (by omega) (by simp; omega)).trans K3.out.2.2.2))
            intro hq
            have hx := hq.symm
            obtain ⟨_, ⟨hv, _⟩ | ⟨g', cap', cur', hv, _, h2, _⟩⟩ := OWN3.out
            · rw [hv] at hx; simp [Value.ownBlock] at hx
            · rw [hv] at hx
              simp only [Value.ownBlock, Option.some.injEq] at hx
              rw [hx, K3.out.2.2.2] at h2
              simp at h2
          have G6 : w.grownBy w6 (some g) := gb_own (gb_alloc G5 _) hgr6 hub
          have R6 : Rd W0 w6 g E T3 := rd_own (R5.alloc _) hgr6 fun k hk => Nat.lt_of_lt_of_le hgl.2 (hub k hk)
          have rP7 : Hid ((w6.setCell ⟨(w.heap.size + 1 + 1), 2, none⟩ (.slice o6 ([f] ++ [f2]).length cap6)).heap[(w.heap.size + 1 + 1)]? = some (.cells (claV ⟨t.text, (t.pos : Int), [f] ++ [f2], false, true⟩ (.slice o6 ([f] ++ [f2]).length cap6)) 129 (0, 0))) := tc_row hp6 _
          have r17 : Hid ((w6.setCell ⟨(w.heap.size + 1 + 1), 2, none⟩ (.slice o6 ([f] ++ [f2]).length cap6)).heap[w.heap.size + 1]? = some (.cells (claV ⟨[], 0, [], false, false⟩ (.slice none 0 0)) 129 (0, 0))) := (tc_far (by omega) _).trans r16
          have OWN7 : Hid ((w6.setCell ⟨(w.heap.size + 1 + 1), 2, none⟩ (.slice o6 ([f] ++ [f2]).length cap6)).ownsRow w.heap.size 89 2 (.slice o6 ([f] ++ [f2]).length cap6) ([f] ++ [f2]).length (gcells figV ([f] ++ [f2]))) := own_set hown6 hp6 (by decide) _
          have G7 : Hid (w.grownBy (w6.setCell ⟨(w.heap.size + 1 + 1), 2, none⟩ (.slice o6 ([f] ++ [f2]).length cap6)) (some g)) := gb_setCell G6 (.inr (by omega)) _ _
          have R7 : Hid (Rd W0 (w6.setCell ⟨(w.heap.size + 1 + 1), 2, none⟩ (.slice o6 ([f] ++ [f2]).length cap6)) g E T3) := rd_setCell R6 (by omega) (by omega) _ _
          clear hown6 hp6 r16 hgr6 own5 G6 R6 G5 R5 hg5
          go_wp2_with (first
            | (refine wl_loadE (E := ClaE) ClaOk rfl _ rfl (w.heap.size + 1 + 1) 0 rfl _ _ _ (claV ⟨t.text, (t.pos : Int), [f] ++ [f2], false, true⟩ (.slice o6 ([f] ++ [f2]).length cap6)) rfl rP7.out (own_cells _ _) ?_)
            | (refine wl_storeE (E := ClaE) ClaOk rfl _ _ rfl (w.heap.size + 1) (claV ⟨t.text, (t.pos : Int), [f] ++ [f2], false, true⟩ (.slice o6 ([f] ++ [f2]).length cap6)) (cla_fits _ _ ⟨_, _, _, rfl⟩) rfl rfl _ r17.out rfl _ rfl ?_))
          refine retE (E := ClaE) ClaOk rfl rfl (w.heap.size + 1) rfl (claV ⟨t.text, (t.pos : Int), [f] ++ [f2], false, true⟩ (.slice o6 ([f] ++ [f2]).length cap6)) rfl (setRow_heap _ _ _ _ _ _ r17.out) ?_
          rw [HA.out]
          exact ⟨gb_setRow G7.out (.inr (by omega)) _, ⟨_, rfl, _, rfl, own_setRow6 OWN7.out r17.out (by decide) _⟩, rd_setRow R7.out (by omega) (by omega) _⟩
    · obtain ⟨hO, hf4⟩ := rdO_no hk
      rw [hf4]
      rw [hO] at HA
      clear hk hO hf4 c2 f2
      rintro e w2 ⟨hg2, ⟨v, rfl, rfl⟩, R2⟩
      have z2 : w1.heap.size + 1 ≤ w2.heap.size := by have := hg2.size; rw [tc_size] at this; simpa using this
      have rP2 : w2.heap[(w.heap.size + 1 + 1)]? = some (.cells (claV ⟨t.text, (t.pos : Int), [], false, false⟩ (.slice (some ⟨w1.heap.size, 0, none⟩) 1 1)) 129 (0, 0)) := (hg2.block _ (by rw [tc_size]; simp; omega) (by simp; omega)).trans KP.out.2.2.1
      have r12 : w2.heap[w.heap.size + 1]? = some (.cells (claV ⟨[], 0, [], false, false⟩ (.slice none 0 0)) 129 (0, 0)) := (hg2.block _ (by rw [tc_size]; simp; omega) (by simp; omega)).trans KP.out.2.2.2
      have c3 : w2.cell? ⟨(w.heap.size + 1 + 1), 4, none⟩ = some (.bool false) := by rw [cell_of_row _ _ _ _ _ _ rP2]; rfl
      have f3 : w2.frozen? ⟨(w.heap.size + 1 + 1), 4, none⟩ = false := tc_frozen rP2 rfl
      have rP3 : (w2.setCell ⟨(w.heap.size + 1 + 1), 4, none⟩ (.bool false)).heap[(w.heap.size + 1 + 1)]? = some (.cells (claV ⟨t.text, (t.pos : Int), [f], false, false⟩ (.slice (some ⟨w1.heap.size, 0, none⟩) 1 1)) 129 (0, 0)) := tc_row rP2 _
      have r13 : (w2.setCell ⟨(w.heap.size + 1 + 1), 4, none⟩ (.bool false)).heap[w.heap.size + 1]? = some (.cells (claV ⟨[], 0, [], false, false⟩ (.slice none 0 0)) 129 (0, 0)) := (tc_far (by omega) _).trans r12
      have R3 : Rd W0 (w2.setCell ⟨(w.heap.size + 1 + 1), 4, none⟩ (.bool false)) g E T1 := rd_setCell R2 (by omega) (by omega) _ _
      have G3 : w.grownBy (w2.setCell ⟨(w.heap.size + 1 + 1), 4, none⟩ (.bool false)) (some g) := gb_setCell (grown_trans KP.out.2.1 hg2) (.inr (by omega)) _ _
      have OWN3 : Hid ((w2.setCell ⟨(w.heap.size + 1 + 1), 4, none⟩ (.bool false)).ownsRow w.heap.size 89 2 (.slice (some ⟨w1.heap.size, 0, none⟩) 1 1) [f].length (gcells figV [f])) := own_set (own_by hg2 hgl.2 OWN2.out) rP2 (by decide) _
      have d3 : (w2.setCell ⟨(w.heap.size + 1 + 1), 4, none⟩ (.bool false)).cell? ⟨(w.heap.size + 1 + 1), 3, none⟩ = some (.bool false) := by rw [cell_of_row _ _ _ _ _ _ rP3]; rfl
      have d4 : (w2.setCell ⟨(w.heap.size + 1 + 1), 4, none⟩ (.bool false)).cell? ⟨(w.heap.size + 1 + 1), 4, none⟩ = some (.bool false) := by rw [cell_of_row _ _ _ _ _ _ rP3]; rfl
      have K3 : Hid (_ ∧ _ ∧ _ ∧ _) := ⟨R3, G3, rP3, r13⟩
      have HA3 : Hid (A = .ok ((⟨t.text, (t.pos : Int), [f], false, false⟩ : Cla), T1)) := by show _ = _; rw [HA.out]; simp [Except.map]
      clear hg2 R2 rP2 r12 rP3 r13 R3 G3 OWN2 KP
      go_wp2_with (first
        | (refine wl_loadE (E := ClaE) ClaOk rfl _ rfl (w.heap.size + 1 + 1) 0 rfl _ _ _ (claV ⟨t.text, (t.pos : Int), [f], false, false⟩ (.slice (some ⟨w1.heap.size, 0, none⟩) 1 1)) rfl K3.out.2.2.1 (own_cells _ _) ?_)
        | (refine wl_storeE (E := ClaE) ClaOk rfl _ _ rfl (w.heap.size + 1) (claV ⟨t.text, (t.pos : Int), [f], false, false⟩ (.slice (some ⟨w1.heap.size, 0, none⟩) 1 1)) (cla_fits _ _ ⟨_, _, _, rfl⟩) rfl rfl _ K3.out.2.2.2 rfl _ rfl ?_))
      refine retE (E := ClaE) ClaOk rfl rfl (w.heap.size + 1) rfl (claV ⟨t.text, (t.pos : Int), [f], false, false⟩ (.slice (some ⟨w1.heap.size, 0, none⟩) 1 1)) rfl (setRow_heap _ _ _ _ _ _ K3.out.2.2.2) ?_
      rw [HA3.out]
      exact ⟨gb_setRow K3.out.2.1 (.inr (by omega)) _, ⟨_, rfl, _, rfl, own_setRow6 OWN3.out K3.out.2.2.2 (by decide) _⟩, rd_setRow K3.out.1 (by omega) (by omega) _⟩

set_option maxHeartbeats 4000000 in
set_option maxRecDepth 10000 in
theorem clause_dport (W0 w : World) (g E : Nat) (t : Tok) (ht : t.text = wDport) (T : List Tok) (h : Rd W0 w g E T) :
    Calls Tryz.prog 115 #[.pointer (some ⟨g, 0, none⟩), .agg (encT t)] w fun e w' => Took W0 w g E (ClaR w.heap.size) (portC6 E t T) e w' := by
  have CF : Hid (∀ W T, Rd W0 W g E T → Calls Tryz.prog 96 #[.pointer (some ⟨g, 0, none⟩)] W fun e w' => Took W0 W g E (fun _ f v => v = .agg (figV f)) (takeF E T) e w') := fun W T h => figure_any W0 W g E T h
  have CA : Hid (∀ W T, Rd W0 W g E T → Calls Tryz.prog 122 #[.pointer (some ⟨g, 0, none⟩)] W fun e w' => Took W0 W g E (FigsOwn W.heap.size) (addrT E T) e w') := fun W T h => address_any W0 W g E T h
  have C4 : Hid (∀ W T, Rd W0 W g E T → Calls Tryz.prog 123 #[.pointer (some ⟨g, 0, none⟩), .int .i64 4] W fun e w' => Took W0 W g E (fun _ b v => v = .bool b) (follT E 4 T) e w') := fun W T h => follows_any W0 W g E 4 (by decide) T h
  have C5 : Hid (∀ W T, Rd W0 W g E T → Calls Tryz.prog 123 #[.pointer (some ⟨g, 0, none⟩), .int .i64 5] W fun e w' => Took W0 W g E (fun _ b v => v = .bool b) (follT E 5 T) e w') := fun W T h => follows_any W0 W g E 5 (by decide) T h
  have hgl := h.size
  have e0 : (t.text == [115, 114, 99]) = false := by rw [ht]; rfl
  have e1 : (t.text == [100, 115, 116]) = false := by rw [ht]; rfl
  have e2 : (t.text == [115, 112, 111, 114, 116]) = false := by rw [ht]; rfl
  have e3 : (t.text == [100, 112, 111, 114, 116]) = true := by rw [ht]; rfl
  have H : Hid (Rd W0 w g E T) := h
  obtain ⟨A, hA⟩ : ∃ A, A = portC6 E t T := ⟨_, rfl⟩
  rw [← hA]
  unfold portC6 at hA
  have q1 := fun x => tok_cells (heap_past _ x _ _ (heap_new w (.cells (encT t) 117) _ rfl))
  have q2 := fun x y => tok_cells (heap_past _ y _ _ (heap_past _ x _ _ (heap_new w (.cells (encT t) 117) _ rfl)))
  have t1 := fun x => (q1 x).2.1
  have t2 := fun x => (q1 x).2.2.1
  have t5 := fun x y => (q2 x y).2.1
  have t6 := fun x y => (q2 x y).2.2.1
  clear q1 q2
  clear h ht
  go_enter Tryz.func115, Tryz.ntmps115
  go_wp2_with (first
    | (refine wl_storeE (E := ClaE) ClaOk rfl _ _ rfl (w.heap.size + 2) (claV ⟨t.text, (t.pos : Int), [], false, false⟩ (.slice none 0 0)) (cla_fits _ _ ⟨_, _, _, rfl⟩) rfl rfl _ (heap_new _ _ _ (by simp)) rfl _ (setRow_new _ _ _ _ _ (by simp)) ?_))
  refine (CF.out _ T (((H.out.alloc _).alloc _).alloc _)).mono ?_
  cases hF : takeF E T with
  | error x =>
    obtain ⟨c, q⟩ := x
    have HA2 : Hid (A = .error (c, q)) := by show _ = _; rw [hA, hF]; rfl
    clear hA hF
    rintro e w1 ⟨hg1, rfl⟩
    go_wp2_with fail
    rw [HA2.out]
    exact ⟨rfl, grown_trans (gb_alloc (gb_alloc (gb_alloc (gb_refl w g) _) _) _) hg1, rfl⟩
  | ok x =>
    obtain ⟨f, T1⟩ := x
    have HA : Hid (A = (takeO E 5 T1).map fun z => ((⟨t.text, (t.pos : Int), f :: z.1.toList, false, z.1.isSome⟩ : Cla), z.2)) := by show _ = _; rw [hA, hF]; rfl
    clear hA
    rintro e w1 ⟨hg1, ⟨v, rfl, rfl⟩, R1⟩
    have G1 : w.grownBy w1 (some g) := grown_trans (gb_alloc (gb_alloc (gb_alloc (gb_refl w g) _) _) _) hg1
    have z1 : w.heap.size + 3 ≤ w1.heap.size := by have := hg1.size; simp at this; omega
    have r1 : w1.heap[w.heap.size + 1]? = some (.cells (claV ⟨[], 0, [], false, false⟩ (.slice none 0 0)) 129 (0, 0)) := (hg1.block _ (by simp) (by simp; omega)).trans (heap_past _ _ _ _ (heap_new _ _ _ (by simp)))
    have rP : w1.heap[(w.heap.size + 1 + 1)]? = some (.cells (claV ⟨t.text, (t.pos : Int), [], false, false⟩ (.slice none 0 0)) 129 (0, 0)) := (hg1.block _ (by simp) (by simp; omega)).trans (heap_new _ _ _ (by simp))
    have OWN1 : Hid ((w1.alloc (.cells (figV f) 89)).ownsRow w.heap.size 89 2 (.slice (some ⟨w1.heap.size, 0, none⟩) 1 1) [f].length (gcells figV [f])) := ⟨rfl, Or.inr ⟨w1.heap.size, 1, figV f, rfl, by omega, heap_new _ _ _ rfl, Nat.le_refl 1, by decide, rfl, rfl⟩⟩
    replace r1 := heap_past _ (.cells (figV f) 89) _ _ r1
    have rP0 := rP
    replace rP := heap_past _ (.cells (figV f) 89) _ _ rP
    replace R1 := R1.alloc (.cells (figV f) 89)
    replace G1 := gb_alloc G1 (.cells (figV f) 89)
    have z1' : (w1.alloc (.cells (figV f) 89)).heap.size = w1.heap.size + 1 := by simp
    have c2 : ∀ x, (w1.alloc x).cell? ⟨(w.heap.size + 1 + 1), 2, none⟩ = some (.slice none 0 0) := fun x => by rw [cell_of_row _ _ _ _ _ _ (heap_past _ x _ _ rP0)]; rfl
    have f2 : ∀ x, (w1.alloc x).frozen? ⟨(w.heap.size + 1 + 1), 2, none⟩ = false := fun x => tc_frozen (heap_past _ x _ _ rP0) rfl
    have R1' : Rd W0 ((w1.alloc (.cells (figV f) 89)).setCell ⟨(w.heap.size + 1 + 1), 2, none⟩ (.slice (some ⟨w1.heap.size, 0, none⟩) 1 1)) g E T1 := rd_setCell R1 (by omega) (by omega) _ _
    have G1' : w.grownBy ((w1.alloc (.cells (figV f) 89)).setCell ⟨(w.heap.size + 1 + 1), 2, none⟩ (.slice (some ⟨w1.heap.size, 0, none⟩) 1 1)) (some g) := gb_setCell G1 (.inr (by omega)) _ _
    have rP' : ((w1.alloc (.cells (figV f) 89)).setCell ⟨(w.heap.size + 1 + 1), 2, none⟩ (.slice (some ⟨w1.heap.size, 0, none⟩) 1 1)).heap[(w.heap.size + 1 + 1)]? = some (.cells (claV ⟨t.text, (t.pos : Int), [], false, false⟩ (.slice (some ⟨w1.heap.size, 0, none⟩) 1 1)) 129 (0, 0)) := tc_row rP _
    have r1' : ((w1.alloc (.cells (figV f) 89)).setCell ⟨(w.heap.size + 1 + 1), 2, none⟩ (.slice (some ⟨w1.heap.size, 0, none⟩) 1 1)).heap[w.heap.size + 1]? = some (.cells (claV ⟨[], 0, [], false, false⟩ (.slice none 0 0)) 129 (0, 0)) := (tc_far (by omega) _).trans r1
    have OWN2 : Hid (((w1.alloc (.cells (figV f) 89)).setCell ⟨(w.heap.size + 1 + 1), 2, none⟩ (.slice (some ⟨w1.heap.size, 0, none⟩) 1 1)).ownsRow w.heap.size 89 2 (.slice (some ⟨w1.heap.size, 0, none⟩) 1 1) [f].length (gcells figV [f])) := own_set OWN1.out rP (by decide) _
    have KP : Hid (_ ∧ _ ∧ _ ∧ _) := ⟨R1', G1', rP', r1'⟩
    clear R1 G1 rP r1 R1' G1' rP' r1' OWN1 hg1 hF z1'
    clear rP0
    go_wp2_with (first
      | (refine wl_buildE (E := FigE) FigOk rfl _ rfl (figV f) rfl rfl ?_))
    refine (C5.out _ T1 KP.out.1).mono ?_
    by_cases hk : (hd E T1).kind = 5
    · obtain ⟨T2, hO, hf4⟩ := rdO_yes (by decide) hk
      rw [hf4]
      rw [hO] at HA
      clear hk hO hf4 c2 f2
      rintro e w2 ⟨hg2, ⟨v, rfl, rfl⟩, R2⟩
      have z2 : w1.heap.size + 1 ≤ w2.heap.size := by have := hg2.size; rw [tc_size] at this; simpa using this
      have rP2 : w2.heap[(w.heap.size + 1 + 1)]? = some (.cells (claV ⟨t.text, (t.pos : Int), [], false, false⟩ (.slice (some ⟨w1.heap.size, 0, none⟩) 1 1)) 129 (0, 0)) := (hg2.block _ (by rw [tc_size]; simp; omega) (by simp; omega)).trans KP.out.2.2.1
      have r12 : w2.heap[w.heap.size + 1]? = some (.cells (claV ⟨[], 0, [], false, false⟩ (.slice none 0 0)) 129 (0, 0)) := (hg2.block _ (by rw [tc_size]; simp; omega) (by simp; omega)).trans KP.out.2.2.2
      have c3 : w2.cell? ⟨(w.heap.size + 1 + 1), 4, none⟩ = some (.bool false) := by rw [cell_of_row _ _ _ _ _ _ rP2]; rfl
      have f3 : w2.frozen? ⟨(w.heap.size + 1 + 1), 4, none⟩ = false := tc_frozen rP2 rfl
      have rP3 : (w2.setCell ⟨(w.heap.size + 1 + 1), 4, none⟩ (.bool true)).heap[(w.heap.size + 1 + 1)]? = some (.cells (claV ⟨t.text, (t.pos : Int), [], false, true⟩ (.slice (some ⟨w1.heap.size, 0, none⟩) 1 1)) 129 (0, 0)) := tc_row rP2 _
      have r13 : (w2.setCell ⟨(w.heap.size + 1 + 1), 4, none⟩ (.bool true)).heap[w.heap.size + 1]? = some (.cells (claV ⟨[], 0, [], false, false⟩ (.slice none 0 0)) 129 (0, 0)) := (tc_far (by omega) _).trans r12
      have R3 : Rd W0 (w2.setCell ⟨(w.heap.size + 1 + 1), 4, none⟩ (.bool true)) g E T2 := rd_setCell R2 (by omega) (by omega) _ _
      have G3 : w.grownBy (w2.setCell ⟨(w.heap.size + 1 + 1), 4, none⟩ (.bool true)) (some g) := gb_setCell (grown_trans KP.out.2.1 hg2) (.inr (by omega)) _ _
      have OWN3 : Hid ((w2.setCell ⟨(w.heap.size + 1 + 1), 4, none⟩ (.bool true)).ownsRow w.heap.size 89 2 (.slice (some ⟨w1.heap.size, 0, none⟩) 1 1) [f].length (gcells figV [f])) := own_set (own_by hg2 hgl.2 OWN2.out) rP2 (by decide) _
      have d3 : (w2.setCell ⟨(w.heap.size + 1 + 1), 4, none⟩ (.bool true)).cell? ⟨(w.heap.size + 1 + 1), 3, none⟩ = some (.bool false) := by rw [cell_of_row _ _ _ _ _ _ rP3]; rfl
      have d4 : (w2.setCell ⟨(w.heap.size + 1 + 1), 4, none⟩ (.bool true)).cell? ⟨(w.heap.size + 1 + 1), 4, none⟩ = some (.bool true) := by rw [cell_of_row _ _ _ _ _ _ rP3]; rfl
      have K3 : Hid (_ ∧ _ ∧ _ ∧ _) := ⟨R3, G3, rP3, r13⟩
      clear hg2 R2 rP2 r12 rP3 r13 R3 G3 OWN2 KP
      go_wp2_with fail
      obtain ⟨w4, hw4⟩ : ∃ w4, w4 = w2.setCell ⟨(w.heap.size + 1 + 1), 4, none⟩ (.bool true) := ⟨_, rfl⟩
      rw [← hw4] at K3 OWN3 ⊢
      have z4 : w4.heap.size = w2.heap.size := by rw [hw4, tc_size]
      clear hw4 d3 d4 c3 f3
      cases hF2 : takeF E T2 with
      | error x =>
        obtain ⟨c, q⟩ := x
        rw [hF2] at HA
        refine own15_panics (Nat.le_of_ble_eq_true rfl) g (w.heap.size + 1 + 1) rfl rfl _ K3.out.2.2.1 (.slice (some ⟨w1.heap.size, 0, none⟩) 1 1) rfl [{ v := faultV c q, recovered := false }] (fun w' => w.grownBy w' (some g)) ?_ ?_
        · refine (CF.out w4.drew T2 (K3.out.1.below ((Below.refl _ _).drew))).mono ?_
          rw [hF2]
          rintro e w' ⟨hg, rfl⟩
          exact ⟨rfl, grown_trans K3.out.2.1 (grown_trans (gb_drew w4 g) hg)⟩
        · intro a' w' hdf hg
          go_wp2_with fail
          rw [HA.out]
          exact ⟨hdf, hg, rfl⟩
      | ok x =>
        obtain ⟨f2, T3⟩ := x
        rw [hF2] at HA
        refine own15_region (Nat.le_of_ble_eq_true rfl) g (w.heap.size + 1 + 1) rfl rfl _ K3.out.2.2.1 (.slice (some ⟨w1.heap.size, 0, none⟩) 1 1) rfl (by omega) [f] w.heap.size OWN3.out (by simp) (by omega) hgl.2 f2 (fun w' => w.grownBy w' (some g) ∧ Rd W0 w' g E T3) ?_ ?_
        · refine (CF.out w4.drew T2 (K3.out.1.below ((Below.refl _ _).drew))).mono ?_
          rw [hF2]
          rintro e w' ⟨hg, ⟨v, rfl, rfl⟩, R⟩
          exact ⟨rfl, hg, grown_trans K3.out.2.1 (grown_trans (gb_drew w4 g) hg), R⟩
        · rintro a' w5 w6 v' ⟨y0, y1, y2, y3, y4, y5, y6, rfl⟩ ⟨G5, R5⟩ hg5 hgr6 hown6 hp6
          simp only [Act.put, List.setIfInBounds_toArray, List.set_cons_succ, List.set_cons_zero]
          obtain ⟨o6, cap6, rfl⟩ := gown_slice hown6
          have z5 := hg5.size
          have z6 := hgr6.size
          have own5 := own_by hg5 hgl.2 OWN3.out
          have hub : ∀ k, ((.slice (some ⟨w1.heap.size, 0, none⟩) 1 1) : Value).ownBlock = some k → w.heap.size ≤ k := fun k hk => (OWN3.out.lt k hk).1
          have r16 : w6.heap[w.heap.size + 1]? = some (.cells (claV ⟨[], 0, [], false, false⟩ (.slice none 0 0)) 129 (0, 0)) := by
            refine (hgr6.block _ (by simp; omega) ?_).trans (heap_past _ _ _ _ ((hg5.block _ (by omega) (by simp; omega)).trans K3.out.2.2.2))
            intro hq
            have hx := hq.symm
            obtain ⟨_, ⟨hv, _⟩ | ⟨g', cap', cur', hv, _, h2, _⟩⟩ := OWN3.out
            · rw [hv] at hx; simp [Value.ownBlock] at hx
            · rw [hv] at hx
              simp only [Value.ownBlock, Option.some.injEq] at hx
              rw [hx, K3.out.2.2.2] at h2
              simp at h2
          have G6 : w.grownBy w6 (some g) := gb_own (gb_alloc G5 _) hgr6 hub
          have R6 : Rd W0 w6 g E T3 := rd_own (R5.alloc _) hgr6 fun k hk => Nat.lt_of_lt_of_le hgl.2 (hub k hk)
          have rP7 : Hid ((w6.setCell ⟨(w.heap.size + 1 + 1), 2, none⟩ (.slice o6 ([f] ++ [f2]).length cap6)).heap[(w.heap.size + 1 + 1)]? = some (.cells (claV ⟨t.text, (t.pos : Int), [f] ++ [f2], false, true⟩ (.slice o6 ([f] ++ [f2]).length cap6)) 129 (0, 0))) := tc_row hp6 _
          have r17 : Hid ((w6.setCell ⟨(w.heap.size + 1 + 1), 2, none⟩ (.slice o6 ([f] ++ [f2]).length cap6)).heap[w.heap.size + 1]? = some (.cells (claV ⟨[], 0, [], false, false⟩ (.slice none 0 0)) 129 (0, 0))) := (tc_far (by omega) _).trans r16
          have OWN7 : Hid ((w6.setCell ⟨(w.heap.size + 1 + 1), 2, none⟩ (.slice o6 ([f] ++ [f2]).length cap6)).ownsRow w.heap.size 89 2 (.slice o6 ([f] ++ [f2]).length cap6) ([f] ++ [f2]).length (gcells figV ([f] ++ [f2]))) := own_set hown6 hp6 (by decide) _
          have G7 : Hid (w.grownBy (w6.setCell ⟨(w.heap.size + 1 + 1), 2, none⟩ (.slice o6 ([f] ++ [f2]).length cap6)) (some g)) := gb_setCell G6 (.inr (by omega)) _ _
          have R7 : Hid (Rd W0 (w6.setCell ⟨(w.heap.size + 1 + 1), 2, none⟩ (.slice o6 ([f] ++ [f2]).length cap6)) g E T3) := rd_setCell R6 (by omega) (by omega) _ _
          clear hown6 hp6 r16 hgr6 own5 G6 R6 G5 R5 hg5
          go_wp2_with (first
            | (refine wl_loadE (E := ClaE) ClaOk rfl _ rfl (w.heap.size + 1 + 1) 0 rfl _ _ _ (claV ⟨t.text, (t.pos : Int), [f] ++ [f2], false, true⟩ (.slice o6 ([f] ++ [f2]).length cap6)) rfl rP7.out (own_cells _ _) ?_)
            | (refine wl_storeE (E := ClaE) ClaOk rfl _ _ rfl (w.heap.size + 1) (claV ⟨t.text, (t.pos : Int), [f] ++ [f2], false, true⟩ (.slice o6 ([f] ++ [f2]).length cap6)) (cla_fits _ _ ⟨_, _, _, rfl⟩) rfl rfl _ r17.out rfl _ rfl ?_))
          refine retE (E := ClaE) ClaOk rfl rfl (w.heap.size + 1) rfl (claV ⟨t.text, (t.pos : Int), [f] ++ [f2], false, true⟩ (.slice o6 ([f] ++ [f2]).length cap6)) rfl (setRow_heap _ _ _ _ _ _ r17.out) ?_
          rw [HA.out]
          exact ⟨gb_setRow G7.out (.inr (by omega)) _, ⟨_, rfl, _, rfl, own_setRow6 OWN7.out r17.out (by decide) _⟩, rd_setRow R7.out (by omega) (by omega) _⟩
    · obtain ⟨hO, hf4⟩ := rdO_no hk
      rw [hf4]
      rw [hO] at HA
      clear hk hO hf4 c2 f2
      rintro e w2 ⟨hg2, ⟨v, rfl, rfl⟩, R2⟩
      have z2 : w1.heap.size + 1 ≤ w2.heap.size := by have := hg2.size; rw [tc_size] at this; simpa using this
      have rP2 : w2.heap[(w.heap.size + 1 + 1)]? = some (.cells (claV ⟨t.text, (t.pos : Int), [], false, false⟩ (.slice (some ⟨w1.heap.size, 0, none⟩) 1 1)) 129 (0, 0)) := (hg2.block _ (by rw [tc_size]; simp; omega) (by simp; omega)).trans KP.out.2.2.1
      have r12 : w2.heap[w.heap.size + 1]? = some (.cells (claV ⟨[], 0, [], false, false⟩ (.slice none 0 0)) 129 (0, 0)) := (hg2.block _ (by rw [tc_size]; simp; omega) (by simp; omega)).trans KP.out.2.2.2
      have c3 : w2.cell? ⟨(w.heap.size + 1 + 1), 4, none⟩ = some (.bool false) := by rw [cell_of_row _ _ _ _ _ _ rP2]; rfl
      have f3 : w2.frozen? ⟨(w.heap.size + 1 + 1), 4, none⟩ = false := tc_frozen rP2 rfl
      have rP3 : (w2.setCell ⟨(w.heap.size + 1 + 1), 4, none⟩ (.bool false)).heap[(w.heap.size + 1 + 1)]? = some (.cells (claV ⟨t.text, (t.pos : Int), [f], false, false⟩ (.slice (some ⟨w1.heap.size, 0, none⟩) 1 1)) 129 (0, 0)) := tc_row rP2 _
      have r13 : (w2.setCell ⟨(w.heap.size + 1 + 1), 4, none⟩ (.bool false)).heap[w.heap.size + 1]? = some (.cells (claV ⟨[], 0, [], false, false⟩ (.slice none 0 0)) 129 (0, 0)) := (tc_far (by omega) _).trans r12
      have R3 : Rd W0 (w2.setCell ⟨(w.heap.size + 1 + 1), 4, none⟩ (.bool false)) g E T1 := rd_setCell R2 (by omega) (by omega) _ _
      have G3 : w.grownBy (w2.setCell ⟨(w.heap.size + 1 + 1), 4, none⟩ (.bool false)) (some g) := gb_setCell (grown_trans KP.out.2.1 hg2) (.inr (by omega)) _ _
      have OWN3 : Hid ((w2.setCell ⟨(w.heap.size + 1 + 1), 4, none⟩ (.bool false)).ownsRow w.heap.size 89 2 (.slice (some ⟨w1.heap.size, 0, none⟩) 1 1) [f].length (gcells figV [f])) := own_set (own_by hg2 hgl.2 OWN2.out) rP2 (by decide) _
      have d3 : (w2.setCell ⟨(w.heap.size + 1 + 1), 4, none⟩ (.bool false)).cell? ⟨(w.heap.size + 1 + 1), 3, none⟩ = some (.bool false) := by rw [cell_of_row _ _ _ _ _ _ rP3]; rfl
      have d4 : (w2.setCell ⟨(w.heap.size + 1 + 1), 4, none⟩ (.bool false)).cell? ⟨(w.heap.size + 1 + 1), 4, none⟩ = some (.bool false) := by rw [cell_of_row _ _ _ _ _ _ rP3]; rfl
      have K3 : Hid (_ ∧ _ ∧ _ ∧ _) := ⟨R3, G3, rP3, r13⟩
      have HA3 : Hid (A = .ok ((⟨t.text, (t.pos : Int), [f], false, false⟩ : Cla), T1)) := by show _ = _; rw [HA.out]; simp [Except.map]
      clear hg2 R2 rP2 r12 rP3 r13 R3 G3 OWN2 KP
      go_wp2_with (first
        | (refine wl_loadE (E := ClaE) ClaOk rfl _ rfl (w.heap.size + 1 + 1) 0 rfl _ _ _ (claV ⟨t.text, (t.pos : Int), [f], false, false⟩ (.slice (some ⟨w1.heap.size, 0, none⟩) 1 1)) rfl K3.out.2.2.1 (own_cells _ _) ?_)
        | (refine wl_storeE (E := ClaE) ClaOk rfl _ _ rfl (w.heap.size + 1) (claV ⟨t.text, (t.pos : Int), [f], false, false⟩ (.slice (some ⟨w1.heap.size, 0, none⟩) 1 1)) (cla_fits _ _ ⟨_, _, _, rfl⟩) rfl rfl _ K3.out.2.2.2 rfl _ rfl ?_))
      refine retE (E := ClaE) ClaOk rfl rfl (w.heap.size + 1) rfl (claV ⟨t.text, (t.pos : Int), [f], false, false⟩ (.slice (some ⟨w1.heap.size, 0, none⟩) 1 1)) rfl (setRow_heap _ _ _ _ _ _ K3.out.2.2.2) ?_
      rw [HA3.out]
      exact ⟨gb_setRow K3.out.2.1 (.inr (by omega)) _, ⟨_, rfl, _, rfl, own_setRow6 OWN3.out K3.out.2.2.2 (by decide) _⟩, rd_setRow K3.out.1 (by omega) (by omega) _⟩

set_option maxHeartbeats 4000000 in
set_option maxRecDepth 10000 in
theorem clause_proto (W0 w : World) (g E : Nat) (t : Tok) (ht : t.text = wProto) (T : List Tok) (h : Rd W0 w g E T) :
    Calls Tryz.prog 115 #[.pointer (some ⟨g, 0, none⟩), .agg (encT t)] w fun e w' => Took W0 w g E (ClaR w.heap.size) (protC E t T) e w' := by
  have CF : Hid (∀ W T, Rd W0 W g E T → Calls Tryz.prog 96 #[.pointer (some ⟨g, 0, none⟩)] W fun e w' => Took W0 W g E (fun _ f v => v = .agg (figV f)) (takeF E T) e w') := fun W T h => figure_any W0 W g E T h
  have CA : Hid (∀ W T, Rd W0 W g E T → Calls Tryz.prog 122 #[.pointer (some ⟨g, 0, none⟩)] W fun e w' => Took W0 W g E (FigsOwn W.heap.size) (addrT E T) e w') := fun W T h => address_any W0 W g E T h
  have C4 : Hid (∀ W T, Rd W0 W g E T → Calls Tryz.prog 123 #[.pointer (some ⟨g, 0, none⟩), .int .i64 4] W fun e w' => Took W0 W g E (fun _ b v => v = .bool b) (follT E 4 T) e w') := fun W T h => follows_any W0 W g E 4 (by decide) T h
  have C5 : Hid (∀ W T, Rd W0 W g E T → Calls Tryz.prog 123 #[.pointer (some ⟨g, 0, none⟩), .int .i64 5] W fun e w' => Took W0 W g E (fun _ b v => v = .bool b) (follT E 5 T) e w') := fun W T h => follows_any W0 W g E 5 (by decide) T h
  have hgl := h.size
  have e0 : (t.text == [115, 114, 99]) = false := by rw [ht]; rfl
  have e1 : (t.text == [100, 115, 116]) = false := by rw [ht]; rfl
  have e2 : (t.text == [115, 112, 111, 114, 116]) = false := by rw [ht]; rfl
  have e3 : (t.text == [100, 112, 111, 114, 116]) = false := by rw [ht]; rfl
  have e4 : (t.text == [112, 114, 111, 116, 111]) = true := by rw [ht]; rfl
  have H : Hid (Rd W0 w g E T) := h
  obtain ⟨A, hA⟩ : ∃ A, A = protC E t T := ⟨_, rfl⟩
  rw [← hA]
  unfold protC at hA
  have q1 := fun x => tok_cells (heap_past _ x _ _ (heap_new w (.cells (encT t) 117) _ rfl))
  have q2 := fun x y => tok_cells (heap_past _ y _ _ (heap_past _ x _ _ (heap_new w (.cells (encT t) 117) _ rfl)))
  have t1 := fun x => (q1 x).2.1
  have t2 := fun x => (q1 x).2.2.1
  have t5 := fun x y => (q2 x y).2.1
  have t6 := fun x y => (q2 x y).2.2.1
  clear q1 q2
  clear h ht
  go_enter Tryz.func115, Tryz.ntmps115
  go_wp2_with (first
    | (refine wl_storeE (E := ClaE) ClaOk rfl _ _ rfl (w.heap.size + 2) (claV ⟨t.text, (t.pos : Int), [], false, false⟩ (.slice none 0 0)) (cla_fits _ _ ⟨_, _, _, rfl⟩) rfl rfl _ (heap_new _ _ _ (by simp)) rfl _ (setRow_new _ _ _ _ _ (by simp)) ?_))
  refine (CF.out _ T (((H.out.alloc _).alloc _).alloc _)).mono ?_
  cases hF : takeF E T with
  | error x =>
    obtain ⟨c, q⟩ := x
    have HA2 : Hid (A = .error (c, q)) := by show _ = _; rw [hA, hF]; rfl
    clear hA hF
    rintro e w1 ⟨hg1, rfl⟩
    go_wp2_with fail
    rw [HA2.out]
    exact ⟨rfl, grown_trans (gb_alloc (gb_alloc (gb_alloc (gb_refl w g) _) _) _) hg1, rfl⟩
  | ok x =>
    obtain ⟨f, T1⟩ := x
    have HA : Hid (A = .ok ((⟨t.text, (t.pos : Int), [f], false, false⟩ : Cla), T1)) := by show _ = _; rw [hA, hF]; rfl
    clear hA
    rintro e w1 ⟨hg1, ⟨v, rfl, rfl⟩, R1⟩
    have G1 : w.grownBy w1 (some g) := grown_trans (gb_alloc (gb_alloc (gb_alloc (gb_refl w g) _) _) _) hg1
    have z1 : w.heap.size + 3 ≤ w1.heap.size := by have := hg1.size; simp at this; omega
    have r1 : w1.heap[w.heap.size + 1]? = some (.cells (claV ⟨[], 0, [], false, false⟩ (.slice none 0 0)) 129 (0, 0)) := (hg1.block _ (by simp) (by simp; omega)).trans (heap_past _ _ _ _ (heap_new _ _ _ (by simp)))
    have rP : w1.heap[(w.heap.size + 1 + 1)]? = some (.cells (claV ⟨t.text, (t.pos : Int), [], false, false⟩ (.slice none 0 0)) 129 (0, 0)) := (hg1.block _ (by simp) (by simp; omega)).trans (heap_new _ _ _ (by simp))
    have OWN1 : Hid ((w1.alloc (.cells (figV f) 89)).ownsRow w.heap.size 89 2 (.slice (some ⟨w1.heap.size, 0, none⟩) 1 1) [f].length (gcells figV [f])) := ⟨rfl, Or.inr ⟨w1.heap.size, 1, figV f, rfl, by omega, heap_new _ _ _ rfl, Nat.le_refl 1, by decide, rfl, rfl⟩⟩
    replace r1 := heap_past _ (.cells (figV f) 89) _ _ r1
    have rP0 := rP
    replace rP := heap_past _ (.cells (figV f) 89) _ _ rP
    replace R1 := R1.alloc (.cells (figV f) 89)
    replace G1 := gb_alloc G1 (.cells (figV f) 89)
    have z1' : (w1.alloc (.cells (figV f) 89)).heap.size = w1.heap.size + 1 := by simp
    have c2 : ∀ x, (w1.alloc x).cell? ⟨(w.heap.size + 1 + 1), 2, none⟩ = some (.slice none 0 0) := fun x => by rw [cell_of_row _ _ _ _ _ _ (heap_past _ x _ _ rP0)]; rfl
    have f2 : ∀ x, (w1.alloc x).frozen? ⟨(w.heap.size + 1 + 1), 2, none⟩ = false := fun x => tc_frozen (heap_past _ x _ _ rP0) rfl
    have R1' : Rd W0 ((w1.alloc (.cells (figV f) 89)).setCell ⟨(w.heap.size + 1 + 1), 2, none⟩ (.slice (some ⟨w1.heap.size, 0, none⟩) 1 1)) g E T1 := rd_setCell R1 (by omega) (by omega) _ _
    have G1' : w.grownBy ((w1.alloc (.cells (figV f) 89)).setCell ⟨(w.heap.size + 1 + 1), 2, none⟩ (.slice (some ⟨w1.heap.size, 0, none⟩) 1 1)) (some g) := gb_setCell G1 (.inr (by omega)) _ _
    have rP' : ((w1.alloc (.cells (figV f) 89)).setCell ⟨(w.heap.size + 1 + 1), 2, none⟩ (.slice (some ⟨w1.heap.size, 0, none⟩) 1 1)).heap[(w.heap.size + 1 + 1)]? = some (.cells (claV ⟨t.text, (t.pos : Int), [], false, false⟩ (.slice (some ⟨w1.heap.size, 0, none⟩) 1 1)) 129 (0, 0)) := tc_row rP _
    have r1' : ((w1.alloc (.cells (figV f) 89)).setCell ⟨(w.heap.size + 1 + 1), 2, none⟩ (.slice (some ⟨w1.heap.size, 0, none⟩) 1 1)).heap[w.heap.size + 1]? = some (.cells (claV ⟨[], 0, [], false, false⟩ (.slice none 0 0)) 129 (0, 0)) := (tc_far (by omega) _).trans r1
    have OWN2 : Hid (((w1.alloc (.cells (figV f) 89)).setCell ⟨(w.heap.size + 1 + 1), 2, none⟩ (.slice (some ⟨w1.heap.size, 0, none⟩) 1 1)).ownsRow w.heap.size 89 2 (.slice (some ⟨w1.heap.size, 0, none⟩) 1 1) [f].length (gcells figV [f])) := own_set OWN1.out rP (by decide) _
    have KP : Hid (_ ∧ _ ∧ _ ∧ _) := ⟨R1', G1', rP', r1'⟩
    clear R1 G1 rP r1 R1' G1' rP' r1' OWN1 hg1 hF z1'
    have c3 : ∀ x y, ((w1.alloc x).setCell ⟨(w.heap.size + 1 + 1), 2, none⟩ y).cell? ⟨(w.heap.size + 1 + 1), 3, none⟩ = some (.bool false) := fun x y => by rw [cell_of_row _ _ _ _ _ _ (tc_row (heap_past _ x _ _ rP0) y)]; rfl
    have c4 : ∀ x y, ((w1.alloc x).setCell ⟨(w.heap.size + 1 + 1), 2, none⟩ y).cell? ⟨(w.heap.size + 1 + 1), 4, none⟩ = some (.bool false) := fun x y => by rw [cell_of_row _ _ _ _ _ _ (tc_row (heap_past _ x _ _ rP0) y)]; rfl
    clear rP0
    go_wp2_with (first
      | (refine wl_buildE (E := FigE) FigOk rfl _ rfl (figV f) rfl rfl ?_)
      | (refine wl_loadE (E := ClaE) ClaOk rfl _ rfl (w.heap.size + 1 + 1) 0 rfl _ _ _ (claV ⟨t.text, (t.pos : Int), [f], false, false⟩ (.slice (some ⟨w1.heap.size, 0, none⟩) 1 1)) rfl KP.out.2.2.1 (own_cells _ _) ?_)
      | (refine wl_storeE (E := ClaE) ClaOk rfl _ _ rfl (w.heap.size + 1) (claV ⟨t.text, (t.pos : Int), [f], false, false⟩ (.slice (some ⟨w1.heap.size, 0, none⟩) 1 1)) (cla_fits _ _ ⟨_, _, _, rfl⟩) rfl rfl _ KP.out.2.2.2 rfl _ rfl ?_))
    refine retE (E := ClaE) ClaOk rfl rfl (w.heap.size + 1) rfl (claV ⟨t.text, (t.pos : Int), [f], false, false⟩ (.slice (some ⟨w1.heap.size, 0, none⟩) 1 1)) rfl (setRow_heap _ _ _ _ _ _ KP.out.2.2.2) ?_
    rw [HA.out]
    exact ⟨gb_setRow KP.out.2.1 (.inr (by omega)) _, ⟨_, rfl, _, rfl, own_setRow6 OWN2.out KP.out.2.2.2 (by decide) _⟩, rd_setRow KP.out.1 (by omega) (by omega) _⟩
end Go.Proofs.YtnbklmmampdbfaaGreatDoor
namespace Go.Proofs.YtnbklmmampdbfaaGreatDoor
open Go Go.RowKit
set_option maxRecDepth 20000

/-! The reference's rows: the best one of those that are left, again and again. -/
def encB (b : Bool) : Array Value := #[.bool b]
def doneL (n : Nat) (R : List Nat) : List Bool := (List.range n).map fun i => decide (i ∈ R)
theorem done_len (n : Nat) (R : List Nat) : (doneL n R).length = n := by simp [doneL]
theorem done_at {n k : Nat} (R : List Nat) (h : k < n) : (doneL n R)[k]? = some (decide (k ∈ R)) := by
  unfold doneL
  rw [List.getElem?_map, List.getElem?_range h]; rfl
theorem done_set {n b : Nat} (R : List Nat) (h : b < n) : doneL n (R ++ [b]) = (doneL n R).set b true := by
  apply List.ext_getElem?
  intro i
  rw [List.getElem?_set, done_len]
  by_cases hi : i < n
  · rw [done_at _ hi]
    by_cases hb : b = i
    · subst hb
      rw [if_pos rfl, if_pos h]; simp
    · rw [if_neg hb, done_at _ hi]
      congr 1
      rw [Bool.eq_iff_iff, decide_eq_true_eq, decide_eq_true_eq, List.mem_append, List.mem_singleton]
      constructor
      · rintro (h1 | h1)
        · exact h1
        · exact absurd h1.symm hb
      · exact .inl
  · rw [List.getElem?_eq_none (by rw [done_len]; omega)]
    by_cases hb : b = i
    · omega
    · rw [if_neg hb, List.getElem?_eq_none (by rw [done_len]; omega)]
theorem gcellsB (C : List Bool) : gcells encB C = C.map Value.bool := by
  induction C with
  | nil => rfl
  | cons b C ih => rw [gcells_cons, ih]; rfl
theorem made_done (n : Nat) : (madeCells (Value.bool false).cells (n * 1)).toList = gcells encB (doneL n []) := by
  rw [gcellsB]
  unfold madeCells doneL
  rw [Nat.mul_one, List.map_map]
  have : ∀ k : Nat, (Value.bool false).cells[k % (Value.bool false).cells.size]! = Value.bool false := fun k => by
    rw [show (Value.bool false).cells.size = 1 from rfl, Nat.mod_one]; rfl
  simp only [this, Array.toList_map, Array.toList_range]
  apply List.map_congr_left
  intro a _
  rfl
theorem infoB : ∃ i, Tryz.prog.info? 4 = some i ∧ i.zero = some (.bool false) ∧ i.size = 1 ∧ i.bytes = 1 := by
  cases h : Tryz.prog.info? 4 with
  | none => exact absurd (show (Tryz.prog.info? 4).isSome = true by kernel_rfl) (by rw [h]; simp)
  | some i =>
    have h1 : (Tryz.prog.info? 4).map (fun i => (i.zero, i.size, i.bytes)) = some (some (.bool false), 1, 1) := by kernel_rfl
    rw [h] at h1
    simp only [Option.map_some, Option.some.injEq, Prod.mk.injEq] at h1
    exact ⟨i, rfl, h1.1, h1.2.1, h1.2.2⟩
/-- What the search has found among the first places. -/
def BestTo (l : List Ent) (R : List Nat) (k : Nat) (b : Int) : Prop := (b = -1 ∧ ∀ j, j < k → j ∈ R) ∨ ∃ c : Nat, b = (c : Int) ∧ IsBest l R k c
set_option maxHeartbeats 16000000 in
set_option maxRecDepth 100000 in
theorem rrows_any (l : List Ent) (vl : Value) (w : World) (hl : EntsAt w vl l) (hn : l.length ≤ 100000) :
    Calls Tryz.prog 17 #[vl] w fun e w' => (∃ v R, e = .returned v ∧ IsRows l R ∧ w'.ownsRow w.heap.size 35 12 v (entsOf l R).length (gcells entV (entsOf l R))) ∧ Below w.heap.size w w' := by
  obtain ⟨o, cap, rfl, hc1, hc2⟩ := GSl.slice hl
  obtain ⟨n, hn0⟩ : ∃ n, n = l.length := ⟨_, rfl⟩
  have HN : Hid (n = l.length) := hn0
  rw [← hn0] at hl hc1 hn ⊢
  have HL : Hid (EntsAt w (.slice o n cap) l) := hl
  unfold maxLen at hc2
  obtain ⟨ib, ib1, ib2, ib3, ib4⟩ := infoB
  clear hl hn0
  go_enter Tryz.func17, Tryz.ntmps17
  go_wp2_with (first
    | (refine wl_build0R (E := EntE) EntOk rfl rfl ?_)
    | (at_make; refine of_stopT ?_))
  unfold StopT
  refine wpList_make_full _ rfl _ _ 67 rfl w.heap.size 4 ib (.bool false) 1 Tryz.underlying67 ib1 ib2 ib3 _ _ _ _ n rfl rfl rfl rfl (by rw [ib4]; omega) (by unfold maxLen; omega) (by simp) ?_
  intro w1 hd1 hg1
  have B1 : Hid (Below w.heap.size w w1) := ((Below.refl _ _).alloc (Nat.le_refl _) _).grown hg1 (by simp) (fun k hk => by cases hk)
  have D1 : Hid (w1.ownsRow w.heap.size 4 1 (.slice (some ⟨w.heap.size + 1, 0, none⟩) n n) (doneL n []).length (gcells encB (doneL n []))) := by
    have := hd1
    rw [made_done] at this
    show w1.ownsRow _ _ _ _ _ _
    rw [done_len]
    simpa using this
  have O1 : Hid (w1.ownsRow w.heap.size 35 12 (.slice (some ⟨w.heap.size, 0, none⟩) 0 0) 0 []) := own_grown hg1 (own0R w _ _) (fun g hg => by cases hg)
  clear hd1 hg1
  simp only [Act.put, List.setIfInBounds_toArray, List.set_cons_succ, List.set_cons_zero, World.size_alloc]
  go_wp2_with fail
  go_loopw [3, 5] (fun v i wr => ∃ (R : List Nat), R.length ≤ n ∧ i = .int .i64 (R.length : Int) ∧ Hid (PartRows l R) ∧ wr.ownsRow w.heap.size 35 12 v (entsOf l R).length (gcells entV (entsOf l R)) ∧ wr.ownsRow w.heap.size 4 1 (.slice (some ⟨w.heap.size + 1, 0, none⟩) n n) (doneL n R).length (gcells encB (doneL n R)) ∧ Below w.heap.size w wr) (fun _ i _ => n - (intOf i).toNat)
  case atStart => exact ⟨[], Nat.zero_le _, rfl, PartRows.nil l, O1.out, D1.out, B1.out⟩
  case round =>
    clear O1 D1 B1
    obtain ⟨R, hR, rfl, HP, ho, hd, hb⟩ := hrel
    have HO : Hid (wr.ownsRow w.heap.size 35 12 u3 (entsOf l R).length (gcells entV (entsOf l R))) := ho
    have HD : Hid (wr.ownsRow w.heap.size 4 1 (.slice (some ⟨w.heap.size + 1, 0, none⟩) n n) (doneL n R).length (gcells encB (doneL n R))) := hd
    have HB : Hid (Below w.heap.size w wr) := hb
    clear ho hd hb
    obtain ⟨m, hm⟩ : ∃ m, m = R.length := ⟨_, rfl⟩
    rw [← hm] at hR ⊢
    have HM : Hid (m = R.length) := hm
    clear hm
    by_cases hlt : m < n
    · have hlt' : (m : Int) < (n : Int) := by omega
      obtain ⟨W0, rfl⟩ : ∃ W0, W0 = wr := ⟨_, rfl⟩
      go_wp2_with fail
      go_loopw [6, 7] (fun b i wq => ∃ (k : Nat) (c : Int), k ≤ n ∧ i = .int .i64 (k : Int) ∧ b = .int .i64 c ∧ Hid (BestTo l R k c) ∧ Below W0.heap.size W0 wq) (fun _ i _ => n - (intOf i).toNat)
      case atStart => exact ⟨0, -1, Nat.zero_le _, rfl, rfl, .inl ⟨rfl, fun j hj => by omega⟩, Below.refl _ _⟩
      case round =>
        obtain ⟨k, c, hk, rfl, rfl, BT, hbq⟩ := hrel
        have BQ : Hid (Below W0.heap.size W0 wr) := hbq
        have BW : Hid (Below w.heap.size w wr) := HB.out.trans (hbq.mono HB.out.size)
        clear hbq
        by_cases hlt2 : k < n
        · have hlt2' : (k : Int) < (n : Int) := by omega
          obtain ⟨g, off, cur, ty, fr, x, rfl, K1, hc, hxk⟩ := (GSl.below HL.out BW.out).at k hlt2
          have l0 : ∀ u : Later wr, u.world.cell? ⟨g, off + k * 12, none⟩ = some (.bool x.dflt) := later_cell7 K1 (hc 0 (by decide))
          have l1 : ∀ u : Later wr, u.world.cell? ⟨g, off + k * 12 + 1, none⟩ = some (.int .i64 x.prio) := later_cell7 K1 (hc 1 (by decide))
          have ld : ∀ u : Later wr, u.world.cell? ⟨w.heap.size + 1, k, none⟩ = some (.bool (decide (k ∈ R))) := fun u => by
            have h1 := gown_below (gown_below HD.out BQ.out) u.below
            rw [done_len, gcellsB] at h1
            rw [h1.cellAt k (by omega), List.getElem?_map, done_at R hlt2]; rfl
          have HXK : Hid (l[k]? = some x) := hxk
          have ne1 := Later.ne wr
          clear hc hxk K1
          by_cases hin : k ∈ R
          · have NB : Hid (BestTo l R (k + 1) c) := by
              rcases BT.out with ⟨h1, h2⟩ | ⟨b, h1, h2⟩
              · exact .inl ⟨h1, fun j hj => by
                  by_cases e : j = k
                  · rw [e]; exact hin
                  · exact h2 j (by omega)⟩
              · exact .inr ⟨b, h1, best_done h2 hin⟩
            rw [decide_eq_true hin] at ld
            clear hin
            go_wp2_with fail
            refine wp_region_later (by kernel_rfl) (by kernel_rfl) ?_
            repeat go_big_quiet_step (fail)
            refine wpQuiet_nil ?_
            rintro w' ⟨v, rfl⟩
            have B3 : Hid (Below W0.heap.size W0 v.world) := BQ.out.trans (v.below.mono BQ.out.size)
            obtain ⟨W3, hW3⟩ : ∃ W3, W3 = v.world := ⟨_, rfl⟩
            rw [← hW3] at B3 ⊢
            clear hW3 ne1 ld l0 l1 
            go_wp2_with fail
            go_roundw
            case rel => exact ⟨k + 1, c, by omega, by go_num, rfl, NB.out, B3.out⟩
            case measure => simp [intOf]; omega
          · rcases BT.out with ⟨rfl, h2⟩ | ⟨b, rfl, h2⟩
            · have NB : Hid (BestTo l R (k + 1) (k : Int)) := .inr ⟨k, rfl, best_new h2 hin⟩
              rw [decide_eq_false hin] at ld
              clear hin h2
              go_wp2_with fail
              refine wp_region_later (by kernel_rfl) (by kernel_rfl) ?_
              repeat go_big_quiet_step (fail)
              refine wpQuiet_nil ?_
              rintro w' ⟨v, rfl⟩
              have B3 : Hid (Below W0.heap.size W0 v.world) := BQ.out.trans (v.below.mono BQ.out.size)
              obtain ⟨W3, hW3⟩ : ∃ W3, W3 = v.world := ⟨_, rfl⟩
              rw [← hW3] at B3 ⊢
              clear hW3 ne1 ld l0 l1 
              go_wp2_with fail
              go_roundw
              case rel => exact ⟨k + 1, (k : Int), by omega, by go_num, rfl, NB.out, B3.out⟩
              case measure => simp [intOf]; omega
            · have hbk : b < k := h2.1
              obtain ⟨g', off', cur', ty', fr', y, e0, hg', hc', hyj⟩ := (GSl.below HL.out BW.out).at b (by omega)
              simp only [Option.some.injEq, Addr.mk.injEq, and_true] at e0
              obtain ⟨rfl, rfl⟩ := e0
              have m0 : ∀ u : Later wr, u.world.cell? ⟨g, off + b * 12, none⟩ = some (.bool y.dflt) := later_cell7 hg' (hc' 0 (by decide))
              have m1 : ∀ u : Later wr, u.world.cell? ⟨g, off + b * 12 + 1, none⟩ = some (.int .i64 y.prio) := later_cell7 hg' (hc' 1 (by decide))
              have hb0 : decide ((b : Int) < 0) = false := by simp
              have hb1 : (b : Int) < (n : Int) := by omega
              have hbn : b < n := by omega
              have YES : Hid (better x y = true → BestTo l R (k + 1) (k : Int)) := fun h => .inr ⟨k, rfl, best_turn h2 HXK.out hyj h hin⟩
              have NO : Hid (better x y = false → BestTo l R (k + 1) (b : Int)) := fun h => .inr ⟨b, rfl, best_stay h2 HXK.out hyj h⟩
              rw [decide_eq_false hin] at ld
              clear hin h2 hyj hc' hg' BT
              cases hdy : y.dflt with
              | true =>
                rw [hdy] at m0
                cases hdx : x.dflt with
                | true =>
                  rw [hdx] at l0
                  have NB : Hid (BestTo l R (k + 1) (b : Int)) := NO.out (by unfold better; rw [hdx, hdy]; rfl)
                  clear hdx hdy
                  go_wp2_with fail
                  refine wp_region_later (by kernel_rfl) (by kernel_rfl) ?_
                  repeat go_big_quiet_step (fail)
                  refine wpQuiet_nil ?_
                  rintro w' ⟨v, rfl⟩
                  have B3 : Hid (Below W0.heap.size W0 v.world) := BQ.out.trans (v.below.mono BQ.out.size)
                  obtain ⟨W3, hW3⟩ : ∃ W3, W3 = v.world := ⟨_, rfl⟩
                  rw [← hW3] at B3 ⊢
                  clear hW3 ne1 ld l0 l1 m0 m1
                  go_wp2_with fail
                  go_roundw
                  case rel => exact ⟨k + 1, (b : Int), by omega, by go_num, rfl, NB.out, B3.out⟩
                  case measure => simp [intOf]; omega
                | false =>
                  rw [hdx] at l0
                  have NB : Hid (BestTo l R (k + 1) (k : Int)) := YES.out (by unfold better; rw [hdx, hdy]; rfl)
                  clear hdx hdy
                  go_wp2_with fail
                  refine wp_region_later (by kernel_rfl) (by kernel_rfl) ?_
                  repeat go_big_quiet_step (fail)
                  refine wpQuiet_nil ?_
                  rintro w' ⟨v, rfl⟩
                  have B3 : Hid (Below W0.heap.size W0 v.world) := BQ.out.trans (v.below.mono BQ.out.size)
                  obtain ⟨W3, hW3⟩ : ∃ W3, W3 = v.world := ⟨_, rfl⟩
                  rw [← hW3] at B3 ⊢
                  clear hW3 ne1 ld l0 l1 m0 m1
                  go_wp2_with fail
                  go_roundw
                  case rel => exact ⟨k + 1, (k : Int), by omega, by go_num, rfl, NB.out, B3.out⟩
                  case measure => simp [intOf]; omega
              | false =>
                rw [hdy] at m0
                cases hdx : x.dflt with
                | true =>
                  rw [hdx] at l0
                  have NB : Hid (BestTo l R (k + 1) (b : Int)) := NO.out (by unfold better; rw [hdx, hdy]; rfl)
                  clear hdx hdy
                  go_wp2_with fail
                  refine wp_region_later (by kernel_rfl) (by kernel_rfl) ?_
                  repeat go_big_quiet_step (fail)
                  refine wpQuiet_nil ?_
                  rintro w' ⟨v, rfl⟩
                  have B3 : Hid (Below W0.heap.size W0 v.world) := BQ.out.trans (v.below.mono BQ.out.size)
                  obtain ⟨W3, hW3⟩ : ∃ W3, W3 = v.world := ⟨_, rfl⟩
                  rw [← hW3] at B3 ⊢
                  clear hW3 ne1 ld l0 l1 m0 m1
                  go_wp2_with fail
                  go_roundw
                  case rel => exact ⟨k + 1, (b : Int), by omega, by go_num, rfl, NB.out, B3.out⟩
                  case measure => simp [intOf]; omega
                | false =>
                  rw [hdx] at l0
                  by_cases hgt : y.prio < x.prio
                  · have NB : Hid (BestTo l R (k + 1) (k : Int)) := YES.out (by unfold better; rw [hdx, hdy, decide_eq_true hgt]; rfl)
                    clear hdx hdy
                    go_wp2_with fail
                    refine wp_region_later (by kernel_rfl) (by kernel_rfl) ?_
                    repeat go_big_quiet_step (fail)
                    refine wpQuiet_nil ?_
                    rintro w' ⟨v, rfl⟩
                    have B3 : Hid (Below W0.heap.size W0 v.world) := BQ.out.trans (v.below.mono BQ.out.size)
                    obtain ⟨W3, hW3⟩ : ∃ W3, W3 = v.world := ⟨_, rfl⟩
                    rw [← hW3] at B3 ⊢
                    clear hW3 ne1 ld l0 l1 m0 m1
                    go_wp2_with fail
                    go_roundw
                    case rel => exact ⟨k + 1, (k : Int), by omega, by go_num, rfl, NB.out, B3.out⟩
                    case measure => simp [intOf]; omega
                  · have NB : Hid (BestTo l R (k + 1) (b : Int)) := NO.out (by unfold better; rw [hdx, hdy, decide_eq_false hgt]; rfl)
                    clear hdx hdy
                    go_wp2_with fail
                    refine wp_region_later (by kernel_rfl) (by kernel_rfl) ?_
                    repeat go_big_quiet_step (fail)
                    refine wpQuiet_nil ?_
                    rintro w' ⟨v, rfl⟩
                    have B3 : Hid (Below W0.heap.size W0 v.world) := BQ.out.trans (v.below.mono BQ.out.size)
                    obtain ⟨W3, hW3⟩ : ∃ W3, W3 = v.world := ⟨_, rfl⟩
                    rw [← hW3] at B3 ⊢
                    clear hW3 ne1 ld l0 l1 m0 m1
                    go_wp2_with fail
                    go_roundw
                    case rel => exact ⟨k + 1, (b : Int), by omega, by go_num, rfl, NB.out, B3.out⟩
                    case measure => simp [intOf]; omega
        · have hkn : ¬ (k : Int) < (n : Int) := by omega
          have hk2 : k = n := by omega
          subst hk2
          have hbest : ∃ b : Nat, c = (b : Int) ∧ IsBest l R k b := by
            rcases BT.out with ⟨_, h2⟩ | h2
            · obtain ⟨i, hi, hni⟩ := rows_left (L := l) (R := R) (by rw [← HM.out, ← HN.out]; exact hlt)
              exact absurd (h2 i (by rw [HN.out]; exact hi)) hni
            · exact h2
          obtain ⟨b, rfl, hbb⟩ := hbest
          have hb : b < k := hbb.1
          have hb1 : (b : Int) < (k : Int) := by omega
          have NP : Hid (PartRows l (R ++ [b])) := HP.out.snoc (by rw [← HN.out]; exact hbb)
          have DR := gown_below HD.out BQ.out
          have hcell : wr.cell? ⟨w.heap.size + 1, b, none⟩ = some (.bool (decide (b ∈ R))) := by
            have h1 := DR
            rw [done_len, gcellsB] at h1
            rw [h1.cellAt b (by omega), List.getElem?_map, done_at R hb]; rfl
          have hfr : wr.frozen? ⟨w.heap.size + 1, b, none⟩ = false := by
            have h1 := DR
            rw [done_len] at h1
            exact h1.frozenAt b
          have hblk : ∃ cs fr, wr.heap[w.heap.size + 1]? = some (.cells cs 4 fr) := by
            obtain ⟨_, ⟨h2, _⟩ | ⟨g, cap', cur, h2, hB, hcur, _⟩⟩ := id DR
            · cases h2
            · simp only [Value.slice.injEq, Option.some.injEq, Addr.mk.injEq] at h2
              obtain ⟨⟨rfl, _⟩, _⟩ := h2
              exact ⟨_, _, hcur⟩
          obtain ⟨bcs, bfr, hblk⟩ := hblk
          obtain ⟨WS, hWS⟩ : ∃ W, W = wr.setCell ⟨w.heap.size + 1, b, none⟩ (.bool true) := ⟨_, rfl⟩
          have DS : Hid (WS.ownsRow w.heap.size 4 1 (.slice (some ⟨w.heap.size + 1, 0, none⟩) k k) (doneL k (R ++ [b])).length (gcells encB (doneL k (R ++ [b])))) := by
            have h1 := own_setField (c' := true) DR (fun _ _ => rfl) (show b < (doneL k R).length by rw [done_len]; exact hb) rfl (.bool true) rfl (fun q q0 q1 => by omega)
            rw [Nat.mul_one, ← hWS] at h1
            show WS.ownsRow _ _ _ _ _ _
            rw [done_set R hb]
            exact h1
          have OS : Hid (WS.ownsRow w.heap.size 35 12 u3 (entsOf l R).length (gcells entV (entsOf l R))) := by rw [hWS]; exact own_set (gown_below HO.out BQ.out) hblk (by decide) _
          have BS : Hid (Below w.heap.size w WS) := by rw [hWS]; exact BW.out.setCell (p := ⟨w.heap.size + 1, b, none⟩) (Nat.le_succ _) _
          obtain ⟨g, off, cur, ty, fr, x, rfl, K1, hc, hxk⟩ := (GSl.below HL.out BS.out).at b hb
          have KG : Hid (WS.heap[g]? = some (.cells cur ty fr)) := K1
          have HC : Hid (∀ j, j < 12 → cur[off + b * 12 + j]? = (entV x)[j]?) := hc
          have HE : Hid (entsOf l (R ++ [b]) = entsOf l R ++ [x]) := by
            show _ = _
            unfold entsOf
            rw [List.map_append, List.map_cons, List.map_nil, List.getD_eq_getElem?_getD, hxk]; rfl
          have PS : Hid ((WS.alloc (.cells (entV x) 35)).ownsRow w.heap.size 35 12 u3 (entsOf l R).length (gcells entV (entsOf l R))) := OS.out.alloc _
          have DA : Hid ((WS.alloc (.cells (entV x) 35)).ownsRow w.heap.size 4 1 (.slice (some ⟨w.heap.size + 1, 0, none⟩) k k) (doneL k (R ++ [b])).length (gcells encB (doneL k (R ++ [b])))) := DS.out.alloc _
          have BA : Hid (Below w.heap.size w (WS.alloc (.cells (entV x) 35))) := BS.out.alloc BS.out.size _
          have HEL : Hid ((entsOf l R).length ≤ 100000) := by
            have := HM.out
            show _ ≤ _
            unfold entsOf
            rw [List.length_map]
            omega
          have hsz : WS.heap.size = wr.heap.size := by rw [hWS]; simp [World.setCell]
          clear hc K1 hxk DR hbb BT hblk
          go_wp2_with (first
            | (refine wl_loadE (E := EntE) EntOk rfl _ rfl g (off + b * 12) rfl cur ty fr (entV x) rfl (by rw [← hWS]; exact KG.out) HC.out ?_)
            | (refine wl_buildE (E := EntE) EntOk rfl _ rfl (entV x) rfl rfl ?_)
            | (at_builtin; refine of_stopT ?_))
          rw [← hWS]
          unfold StopT
          refine wl_appendE (E := EntE) EntOk entV rfl _ _ rfl w.heap.size u3 (entsOf l R) x (ent_fits _) rfl PS.out wr.heap.size 1 rfl (heap_new _ _ _ hsz.symm) (by have := HEL.out; omega) (by have := BS.out.size; simp; omega) ?_
          intro v' w3 hown3 hgr3 hv'
          have B3 : Hid (Below w.heap.size w w3) := BA.out.trans ((Below.refl _ _).grown hgr3 BA.out.size fun k hk => (PS.out.lt k hk).1)
          have O3 : Hid (w3.ownsRow w.heap.size 35 12 v' (entsOf l R ++ [x]).length (gcells entV (entsOf l R ++ [x]))) := hown3
          have D3 : Hid (w3.ownsRow w.heap.size 4 1 (.slice (some ⟨w.heap.size + 1, 0, none⟩) k k) (doneL k (R ++ [b])).length (gcells encB (doneL k (R ++ [b])))) := own_by8 PS.out hgr3 DA.out (by decide)
          clear hown3 hgr3 hv'
          simp only [Act.put, List.setIfInBounds_toArray, List.set_cons_succ, List.set_cons_zero]
          go_wp2_with fail
          go_roundw
          case rel =>
            have hm := HM.out
            exact ⟨R ++ [b], by rw [List.length_append, ← hm]; show m + 1 ≤ k; omega, by rw [List.length_append, ← hm]; go_num, NP.out, by rw [HE.out]; exact O3.out, D3.out, B3.out⟩
          case measure => simp [intOf]; omega
    · have hlt' : ¬ (m : Int) < (n : Int) := by omega
      have hR2 : R.length = l.length := by have := HM.out; have := HN.out; omega
      go_wp2_with fail
      go_ret
      first
        | exact ⟨⟨_, R, rfl, HP.out.rows hR2, HO.out⟩, HB.out⟩
        | exact ⟨⟨_, rfl, R, HP.out.rows hR2, HO.out⟩, HB.out⟩
end Go.Proofs.YtnbklmmampdbfaaGreatDoor
namespace Go.Proofs.YtnbklmmampdbfaaGreatDoor
open Go Go.RowKit
set_option maxRecDepth 20000

/-- Two cubes' common one. -/
def met (c d : CubeT) : CubeT := (meetV c.1 c.2 d.1 d.2, meetM c.2 d.2)
theorem met_all (f : Int) (v k : Nat) : met allC (pxV f v k, pxM f k) = (pxV f v k, pxM f k) := by
  have e1 : meetV Z Z (pxV f v k) (pxM f k) = pxV f v k := bt_ext _ _ (meetV_byt _ _ _ _) (pxV_byt _ _ _) fun i hi => by
    rw [show bt (meetV Z Z (pxV f v k) (pxM f k)) i = ((bt Z i && bt Z i) || (bt (pxV f v k) i && bt (pxM f k) i)) from mk_bt _ i hi, Z_bt i hi, show bt (pxV f v k) i = _ from frV_bt _ _ _ i hi, show bt (pxM f k) i = _ from frM_bt _ _ i hi]
    cases decide (8 * atOf f ≤ i ∧ i < 8 * atOf f + k) <;> simp
  have e2 : meetM Z (pxM f k) = pxM f k := bt_ext _ _ (meetM_byt _ _) (pxM_byt _ _) fun i hi => by
    rw [show bt (meetM Z (pxM f k)) i = (bt Z i || bt (pxM f k) i) from mk_bt _ i hi, Z_bt i hi, Bool.false_or]
  show (meetV Z Z (pxV f v k) (pxM f k), meetM Z (pxM f k)) = _
  rw [e1, e2]
def prefB8 (f v n : Int) : CubeT := (pxV f v.toNat (clip8 n), pxM f (clip8 n))
def protB8 (n : Int) : CubeT := if n = -1 then allC else (pxV 4 n.toNat 8, pxM 4 8)
def base1 (x : Ent) : CubeT := met (prefB8 0 x.src x.srcBits) (prefB8 1 x.dst x.dstBits)
def baseC (x : Ent) : CubeT := met (base1 x) (protB8 x.proto)
theorem sup_one {F : Nat → Bool} {c : CubeT} (h : supB F c) : ∀ d ∈ [c], supB F d := fun d hd => by rw [List.mem_singleton.1 hd]; exact h
theorem cross_one {F G : Nat → Bool} (hd : ∀ i, F i = true → G i = true → False) {c d : CubeT} (hc : supB F c) (hg : supB G d) : crossL [c] [d] = [met c d] := by
  unfold crossL
  rw [List.flatMap_cons, List.flatMap_nil, List.append_nil, crossR_all hd hc (sup_one hg)]; rfl
theorem sup_pc0 (v n : Int) : supB (fun i => decide (i < 32)) (prefB8 0 v n) := sup_pref 0 v n (fun i h1 h2 => decide_eq_true (by rw [show 8 * atOf 0 = 0 from rfl] at h2; omega)) _ (List.mem_singleton.2 rfl)
theorem sup_pc1 (v n : Int) : supB (fun i => decide (32 ≤ i ∧ i < 64)) (prefB8 1 v n) := sup_pref 1 v n (fun i h1 h2 => decide_eq_true (by rw [show 8 * atOf 1 = 32 from rfl] at h1 h2; omega)) _ (List.mem_singleton.2 rfl)
theorem sup_prc (n : Int) : supB (fun i => decide (96 ≤ i)) (protB8 n) := by
  unfold protB8
  split
  · exact sup_all _
  · exact sup_px 4 _ _ fun i h1 h2 => decide_eq_true h1
theorem sup_met {F G : Nat → Bool} {c d : CubeT} (hc : supB F c) (hg : supB G d) : supB (fun i => F i || G i) (met c d) := fun i hi h => by
  have h : bt (meetM c.2 d.2) i = true := h
  rw [show bt (meetM c.2 d.2) i = (bt c.2 i || bt d.2 i) from mk_bt _ i hi, Bool.or_eq_true] at h
  show (F i || G i) = true
  rw [Bool.or_eq_true]
  exact h.imp (hc i hi) (hg i hi)
theorem base_is {x : Ent} (hp : -1 ≤ x.proto ∧ x.proto ≤ 255) : baseL x = [baseC x] := by
  have e1 : crossL [allC] (prefL 0 x.src x.srcBits) = [prefB8 0 x.src x.srcBits] := by
    have := cross_one (c := allC) (d := prefB8 0 x.src x.srcBits) (F := fun _ => false) (fun i a b => by cases a) (sup_all _) (sup_pc0 _ _)
    rw [show met allC (prefB8 0 x.src x.srcBits) = prefB8 0 x.src x.srcBits from met_all _ _ _] at this
    exact this
  have e2 : protL x.proto = [protB8 x.proto] := by
    unfold protL protB8
    by_cases h : x.proto = -1
    · rw [if_pos h, if_pos h]
    · rw [if_neg h, if_neg h, if_pos (by omega)]
  unfold baseL
  rw [e1, e2, show prefL 1 x.dst x.dstBits = [prefB8 1 x.dst x.dstBits] from rfl, cross_one (fun i a b => by simp only [decide_eq_true_eq] at a b; omega) (sup_pc0 _ _) (sup_pc1 _ _)]
  exact cross_one (fun i a b => by simp only [Bool.or_eq_true, decide_eq_true_eq] at a b; omega) (sup_met (sup_pc0 _ _) (sup_pc1 _ _)) (sup_prc _)
/-- The rows of cubes that the two loops make. -/
def rowC (b s : CubeT) (D : List CubeT) : List CubeT := D.map fun d => met (met b s) d
def allRows (b : CubeT) (S D : List CubeT) : List CubeT := S.flatMap fun s => rowC b s D
theorem cubes_rows {x : Ent} (hd : x.dflt = false) (hp : -1 ≤ x.proto ∧ x.proto ≤ 255) : cubesT x = allRows (baseC x) (portP 2 x.slow x.shigh) (portP 3 x.dlow x.dhigh) := by
  unfold cubesT
  rw [if_neg (by rw [hd]; decide), five_base]
  have hb : supB f014 (baseC x) := base_sup x _ (by rw [base_is hp]; exact List.mem_singleton.2 rfl)
  rw [base_is hp]
  have e1 : crossL [baseC x] (portP 2 x.slow x.shigh) = (portP 2 x.slow x.shigh).map fun s => met (baseC x) s := by
    unfold crossL
    rw [List.flatMap_cons, List.flatMap_nil, List.append_nil, crossR_all base_two hb (sup_p2 x)]; rfl
  rw [e1]
  unfold crossL allRows rowC
  rw [List.flatMap_map]
  have e2 : ∀ s ∈ portP 2 x.slow x.shigh, crossR (met (baseC x) s) (portP 3 x.dlow x.dhigh) = (portP 3 x.dlow x.dhigh).map fun d => met (met (baseC x) s) d := fun s hs => crossR_all base_three (sup_met hb (sup_p2 x s hs)) (sup_p3 x)
  rw [List.flatMap_def, List.flatMap_def]
  congr 1
  exact List.map_congr_left e2
theorem rows_take {b : CubeT} {S D : List CubeT} {k : Nat} {s : CubeT} (h : S[k]? = some s) : allRows b (S.take (k + 1)) D = allRows b (S.take k) D ++ rowC b s D := by
  unfold allRows
  rw [List.take_add_one, h, List.flatMap_append]
  simp
theorem row_take {b s : CubeT} {D : List CubeT} {j : Nat} {d : CubeT} (h : D[j]? = some d) : rowC b s (D.take (j + 1)) = rowC b s (D.take j) ++ [met (met b s) d] := by
  unfold rowC
  rw [List.take_add_one, h, List.map_append]; rfl
theorem row_none (b s : CubeT) : rowC b s [] = [] := rfl
theorem met_byt (c d : CubeT) : Byt (met c d).1 ∧ Byt (met c d).2 := ⟨meetV_byt _ _ _ _, meetM_byt _ _⟩
theorem rmet_any {F G : Nat → Bool} (hd : ∀ i, F i = true → G i = true → False) {c d : CubeT} (hc : supB F c) (hg : supB G d) (bc : Byt c.1 ∧ Byt c.2) (bd : Byt d.1 ∧ Byt d.2) (W : World) :
    Calls Tryz.prog 38 #[.agg (cv c.1 c.2), .agg (cv d.1 d.2)] W fun e w' => e = .returned (.tuple #[.agg (cv (met c d).1 (met c d).2), .bool true]) ∧ Below W.heap.size W w' := by
  have := rmeet_any c.1 c.2 d.1 d.2 bc.1 bc.2 bd.1 bd.2 W
  rw [meetR_yes _ _ _ _ (sup_meets hd hc hg)] at this
  exact this
theorem protB8_byt (n : Int) : Byt (protB8 n).1 ∧ Byt (protB8 n).2 := by
  unfold protB8
  split
  · exact ⟨Z_byt, Z_byt⟩
  · exact ⟨pxV_byt _ _ _, pxM_byt _ _⟩
theorem prefB8_byt (f v n : Int) : Byt (prefB8 f v n).1 ∧ Byt (prefB8 f v n).2 := ⟨pxV_byt _ _ _, pxM_byt _ _⟩
end Go.Proofs.YtnbklmmampdbfaaGreatDoor
