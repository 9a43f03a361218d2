import Derived.Test.YthddlchkbnmcaaaGreatDoorJ7
import Derived.Test.YthddlchkbnmcaaaGreatDoorJ38
namespace Go.Proofs.YthddlchkbnmcaaaGreatDoor
open Go Go.RowKit
set_option maxRecDepth 20000

/-! The rows by their places, and the rows as they are sorted: the same. -/
theorem ents_range (l : List Ent) : entsOf l (List.range l.length) = l := by
  apply List.ext_getElem?
  intro i
  unfold entsOf
  rw [List.getElem?_map]
  by_cases hi : i < l.length
  · rw [List.getElem?_range hi, List.getElem?_eq_getElem hi]
    show some (l.getD i entZ8) = _
    rw [List.getD_eq_getElem?_getD, List.getElem?_eq_getElem hi]; rfl
  · rw [List.getElem?_eq_none (by rw [List.length_range]; omega), List.getElem?_eq_none (by omega)]; rfl
theorem filter_same {l : List Ent} {R : List Nat} (h : IsRows l R) (q : Ent → Bool) (hq : ∀ i j x y, l[i]? = some x → l[j]? = some y → q x = true → q y = true → aheadB x i y j = true → i < j) : (entsOf l R).filter q = l.filter q := by
  have e1 : R.filter (fun i => q (l.getD i entZ8)) = (List.range l.length).filter fun i => q (l.getD i entZ8) := by
    refine pairwise_one (r := fun a b : Nat => a < b) (fun a b h1 h2 => by omega) _ _ ?_ (List.pairwise_lt_range.filter _) fun a => ?_
    · refine List.Pairwise.imp_of_mem ?_ (h.sorted.filter _)
      intro a b ha hb hab
      obtain ⟨x, y, hx, hy, hh⟩ := hab
      have ha := (List.mem_filter.1 ha).2
      have hb := (List.mem_filter.1 hb).2
      rw [List.getD_eq_getElem?_getD, hx] at ha
      rw [List.getD_eq_getElem?_getD, hy] at hb
      exact hq a b x y hx hy ha hb hh
    · rw [List.mem_filter, List.mem_filter, h.all, List.mem_range]
  have e2 : ∀ L : List Nat, (entsOf l L).filter q = (L.filter fun i => q (l.getD i entZ8)).map fun i => l.getD i entZ8 := fun L => by
    unfold entsOf
    rw [List.filter_map]; rfl
  rw [e2, e1, ← e2, ents_range]
theorem split_dflt : ∀ {E : List Ent}, E.Pairwise (fun x y => x.dflt = true → y.dflt = true) → E = E.filter (fun x => !x.dflt) ++ E.filter fun x => x.dflt
  | [], _ => rfl
  | x :: E, h => by
    obtain ⟨h1, h2⟩ := List.pairwise_cons.1 h
    have ih := split_dflt h2
    cases hx : x.dflt with
    | false =>
      rw [List.filter_cons, List.filter_cons, if_pos (by rw [hx]; rfl), if_neg (by rw [hx]; decide), List.cons_append, ← ih]
    | true =>
      rw [List.filter_cons, List.filter_cons, if_neg (by rw [hx]; decide), if_pos hx, List.filter_eq_nil_iff.2 fun y hy => by rw [h1 y hy hx]; decide, List.nil_append, List.filter_eq_self.2 fun y hy => h1 y hy hx]
theorem rows_link {l : List Ent} {R : List Nat} (h : IsRows l R) : RowsOf l (entsOf l R) := by
  have hlen : R.length = l.length := by
    have h1 := few_places l.length R (h.sorted.imp_of_mem fun {a b} ha hb hab => by
      rintro rfl
      exact ahead_asymm hab hab) fun i hi => (h.all i).1 hi
    by_cases h2 : R.length < l.length
    · obtain ⟨i, hi, hn⟩ := rows_left h2
      exact absurd ((h.all i).2 hi) hn
    · omega
  have hd := filter_same h (fun x => x.dflt) fun i j x y hx hy qx qy hh => by
    unfold aheadB at hh
    rw [if_pos qx, Bool.and_eq_true, decide_eq_true_eq] at hh
    exact hh.2
  have hp : (entsOf l R).Pairwise fun x y => aheadB x 0 y 1 = true ∨ (x.dflt = y.dflt ∧ (x.dflt = false → x.prio = y.prio)) := by
    unfold entsOf
    rw [List.pairwise_map]
    refine h.sorted.imp fun {a b} hab => ?_
    obtain ⟨x, y, hx, hy, hh⟩ := hab
    rw [List.getD_eq_getElem?_getD, List.getD_eq_getElem?_getD, hx, hy]
    show aheadB x 0 y 1 = true ∨ (x.dflt = y.dflt ∧ (x.dflt = false → x.prio = y.prio))
    unfold aheadB at hh ⊢
    cases hdx : x.dflt <;> cases hdy : y.dflt <;> simp [hdx, hdy] at hh ⊢ <;> omega
  refine ⟨(entsOf l R).filter fun x => !x.dflt, ⟨?_, ?_, fun k => ?_⟩, ?_⟩
  · have e1 : ∀ L : List Ent, (L.filter fun x => !x.dflt).length + (L.filter fun x => x.dflt).length = L.length := fun L => by
      induction L with
      | nil => rfl
      | cons x L ih =>
        rw [List.filter_cons, List.filter_cons, List.length_cons]
        cases x.dflt <;> simp <;> omega
    have e2 := e1 l
    have e3 := e1 (entsOf l R)
    rw [hd] at e3
    have e4 : (entsOf l R).length = R.length := by unfold entsOf; simp
    omega
  · show ((entsOf l R).filter fun x => !x.dflt).Pairwise _
    refine List.Pairwise.imp_of_mem ?_ (hp.filter _)
    intro x y hx hy hxy
    have hx := (List.mem_filter.1 hx).2
    have hy := (List.mem_filter.1 hy).2
    show y.prio ≤ x.prio
    unfold aheadB at hxy
    cases hdx : x.dflt <;> cases hdy : y.dflt <;> simp [hdx, hdy] at hx hy hxy <;> omega
  · rw [List.filter_filter, List.filter_filter]
    refine filter_same h (fun x => (x.prio == k) && !x.dflt) fun i j x y hx hy qx qy hh => ?_
    rw [Bool.and_eq_true, beq_iff_eq, Bool.not_eq_true'] at qx qy
    unfold aheadB at hh
    rw [qx.2, qy.2, qx.1, qy.1] at hh
    simp at hh
    exact hh
  · rw [← hd]
    exact split_dflt (hp.imp fun {x y} h hx => by
      unfold aheadB at h
      cases hdy : y.dflt
      · simp [hx, hdy] at h
      · rfl)
end Go.Proofs.YthddlchkbnmcaaaGreatDoor
