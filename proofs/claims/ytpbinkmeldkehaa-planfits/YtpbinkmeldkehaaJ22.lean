import Derived.Test.YtpbinkmeldkehaaJ20
import Derived.Test.YtpbinkmeldkehaaJ21
import Derived.Test.YtpbinkmeldkehaaJ3
import Derived.Test.YtpbinkmeldkehaaJ17
import Derived.Test.YtpbinkmeldkehaaJ13
namespace Go.Proofs.Ytpbinkmeldkehaa
open Go Go.Lib Go.RowKit Ieee
set_option maxRecDepth 20000

/-! The tree as the reference makes it: one leaf at a time, the first of the greatest that can be cut; the same as by whole goes. -/
def bitO (b : Nat) (G : Int) (x : LeafM) : Option Nat := if G < (x.rules.length : Int) then (bestO x.cube.1 x.cube.2 x.rules b 104).map (·.1) else none
def bitI (b : Nat) (G : Int) (x : LeafM) : Int := match bitO b G x with | none => -1 | some i => (i : Int)
/-- The first of the greatest leaves that can be cut, among the first k. -/
def pickS (q : LeafM → Bool) (l : List LeafM) : Nat → Option Nat
  | 0 => none
  | k + 1 => match l[k]? with
    | none => pickS q l k
    | some x => match pickS q l k with
      | none => if q x then some k else none
      | some i => match l[i]? with
        | none => some i
        | some y => if q x = true ∧ y.rules.length < x.rules.length then some k else some i
theorem pick_is (q : LeafM → Bool) (l : List LeafM) : ∀ k, k ≤ l.length → match pickS q l k with
    | none => ∀ j y, j < k → l[j]? = some y → q y = false
    | some i => i < k ∧ ∃ y, l[i]? = some y ∧ q y = true ∧ (∀ j z, j < k → l[j]? = some z → q z = true → z.rules.length ≤ y.rules.length) ∧ (∀ j z, j < i → l[j]? = some z → q z = true → z.rules.length < y.rules.length)
  | 0, _ => by intro j y h; omega
  | k + 1, hk => by
    have ih := pick_is q l k (by omega)
    obtain ⟨x, hx⟩ : ∃ x, l[k]? = some x := ⟨_, List.getElem?_eq_getElem (by omega)⟩
    unfold pickS
    rw [hx]
    dsimp only
    cases hp : pickS q l k with
    | none =>
      rw [hp] at ih
      dsimp only at ih ⊢
      by_cases hq : q x = true
      · rw [if_pos hq]
        dsimp only
        refine ⟨by omega, x, hx, hq, fun j z hj hz hqz => ?_, fun j z hj hz hqz => ?_⟩
        · by_cases e : j = k
          · subst e; rw [hx] at hz; cases hz; exact Nat.le_refl _
          · rw [ih j z (by omega) hz] at hqz; cases hqz
        · rw [ih j z (by omega) hz] at hqz; cases hqz
      · rw [if_neg hq]
        dsimp only
        intro j y hj hy
        by_cases e : j = k
        · subst e; rw [hx] at hy; cases hy; simpa using hq
        · exact ih j y (by omega) hy
    | some i =>
      rw [hp] at ih
      dsimp only at ih
      obtain ⟨hi, y, hy, hqy, h1, h2⟩ := ih
      dsimp only
      rw [hy]
      dsimp only
      by_cases hc : q x = true ∧ y.rules.length < x.rules.length
      · rw [if_pos hc]
        dsimp only
        refine ⟨by omega, x, hx, hc.1, fun j z hj hz hqz => ?_, fun j z hj hz hqz => ?_⟩
        · by_cases e : j = k
          · subst e; rw [hx] at hz; cases hz; exact Nat.le_refl _
          · have := h1 j z (by omega) hz hqz; omega
        · have := h1 j z (by omega) hz hqz; omega
      · rw [if_neg hc]
        dsimp only
        refine ⟨by omega, y, hy, hqy, fun j z hj hz hqz => ?_, h2⟩
        by_cases e : j = k
        · subst e; rw [hx] at hz; cases hz
          by_cases hq : q x = true
          · have : ¬ y.rules.length < x.rules.length := fun h => hc ⟨hq, h⟩
            omega
          · exact absurd hqz hq
        · exact h1 j z (by omega) hz hqz
theorem pick_none {q : LeafM → Bool} {l : List LeafM} (h : ∀ y ∈ l, q y = false) : pickS q l l.length = none := by
  have := pick_is q l l.length (Nat.le_refl _)
  cases hp : pickS q l l.length with
  | none => rfl
  | some i =>
    rw [hp] at this
    obtain ⟨_, y, hy, hqy, _⟩ := this
    rw [h y (List.mem_of_getElem? hy)] at hqy
    cases hqy
theorem pick_at {q : LeafM → Bool} {A r : List LeafM} {x : LeafM} (hq : q x = true) (hA : ∀ y ∈ A, q y = true → y.rules.length < x.rules.length) (hr : ∀ y ∈ r, q y = true → y.rules.length ≤ x.rules.length) : pickS q (A ++ x :: r) (A ++ x :: r).length = some A.length := by
  have := pick_is q (A ++ x :: r) _ (Nat.le_refl _)
  have hx : (A ++ x :: r)[A.length]? = some x := by simp
  have hlen : A.length < (A ++ x :: r).length := by simp
  cases hp : pickS q (A ++ x :: r) (A ++ x :: r).length with
  | none =>
    rw [hp] at this
    rw [this _ _ hlen hx] at hq
    cases hq
  | some i =>
    rw [hp] at this
    obtain ⟨hi, y, hy, hqy, h1, h2⟩ := this
    have e1 := h1 _ _ hlen hx hq
    rcases Nat.lt_trichotomy i A.length with hlt | heq | hgt
    · rw [List.getElem?_append_left hlt] at hy
      have := hA y (List.mem_of_getElem? hy) hqy
      omega
    · rw [heq]
    · have e2 := h2 _ _ hgt hx hq
      rw [List.getElem?_append_right (by omega), show i - A.length = (i - A.length - 1) + 1 by omega, List.getElem?_cons_succ] at hy
      have := hr y (List.mem_of_getElem? hy) hqy
      omega
def canB (b : Nat) (G : Int) (x : LeafM) : Bool := (bitO b G x).isSome
/-- A leaf that gives way to its halves. -/
def cutsT (b : Nat) (G : Int) (x : LeafM) : List LeafM := match bitO b G x with | none => [x] | some i => [halfL x i false, halfL x i true]
def stepT12 (b : Nat) (G : Int) (out : List LeafM) (i : Nat) : List LeafM := match out[i]? with | none => out | some x => out.take i ++ cutsT b G x ++ out.drop (i + 1)
def refF (b : Nat) (G : Int) : Nat → List LeafM → List LeafM
  | 0, out => out
  | f + 1, out => match pickS (canB b G) out out.length with
    | none => out
    | some i => refF b G f (stepT12 b G out i)
def refR (b : Nat) (L G : Int) (out : List LeafM) : List LeafM := refF b G (L - (out.length : Int)).toNat out
theorem ref_full {b : Nat} {L G : Int} {out : List LeafM} (h : L ≤ (out.length : Int)) : refR b L G out = out := by
  unfold refR
  rw [show (L - (out.length : Int)).toNat = 0 by omega]
  rfl
theorem ref_stop {b : Nat} {L G : Int} {out : List LeafM} (h : pickS (canB b G) out out.length = none) : refR b L G out = out := by
  unfold refR
  cases (L - (out.length : Int)).toNat with
  | zero => rfl
  | succ f => rw [refF, h]
theorem cuts_two {b : Nat} {G : Int} {x : LeafM} (h : canB b G x = true) : (cutsT b G x).length = 2 := by
  unfold canB at h
  unfold cutsT
  cases hb : bitO b G x with
  | none => rw [hb] at h; cases h
  | some i => rfl
theorem step_len {b : Nat} {G : Int} {out : List LeafM} {i : Nat} {x : LeafM} (hx : out[i]? = some x) (h : canB b G x = true) : (stepT12 b G out i).length = out.length + 1 := by
  have hi := (List.getElem?_eq_some_iff.1 hx).1
  unfold stepT12
  rw [hx]
  simp only [List.length_append, List.length_take, List.length_drop, cuts_two h]
  omega
theorem ref_step {b : Nat} {L G : Int} {out : List LeafM} {i : Nat} {x : LeafM} (hL : (out.length : Int) < L) (h : pickS (canB b G) out out.length = some i) (hx : out[i]? = some x) (hc : canB b G x = true) : refR b L G out = refR b L G (stepT12 b G out i) := by
  unfold refR
  obtain ⟨f, hf⟩ : ∃ f, (L - (out.length : Int)).toNat = f + 1 := ⟨(L - (out.length : Int)).toNat - 1, by omega⟩
  rw [hf, refF, h]
  dsimp only
  rw [show (L - ((stepT12 b G out i).length : Int)).toNat = f by rw [step_len hx hc]; omega]
theorem best_none0 {V M : List Int} {b : Nat} : ∀ k, bestO V M [] b k = none
  | 0 => rfl
  | k + 1 => by
    unfold bestO
    rw [best_none0 k]
    have : candO V M [] b k = none := by
      unfold candO
      split
      · rfl
      · rw [if_pos]
        left
        exact Nat.le_zero.1 (need_le _ _ _)
    rw [this]
    rfl
theorem can_pos {b : Nat} {G : Int} {x : LeafM} (h : canB b G x = true) : max G 0 < (x.rules.length : Int) := by
  unfold canB bitO at h
  split at h
  · rename_i hG
    cases hr : x.rules with
    | nil => rw [hr, best_none0] at h; cases h
    | cons y t => rw [hr] at hG; simp only [List.length_cons] at hG ⊢; omega
  · cases h
theorem cuts_fewer {b : Nat} {G : Int} {x y : LeafM} (h : canB b G x = true) (hy : y ∈ cutsT b G x) : y.rules.length < x.rules.length := by
  unfold canB at h
  unfold cutsT at hy
  cases hb : bitO b G x with
  | none => rw [hb] at h; cases h
  | some i =>
    rw [hb] at hy
    unfold bitO at hb
    split at hb
    · cases hs : bestO x.cube.1 x.cube.2 x.rules b 104 with
      | none => rw [hs] at hb; cases hb
      | some p =>
        obtain ⟨j, z⟩ := p
        rw [hs] at hb
        obtain rfl : j = i := by simpa using hb
        have hc := (best_free hs).2
        simp only [List.mem_cons, List.not_mem_nil, or_false] at hy
        rcases hy with rfl | rfl
        · exact half_fewer hc false
        · exact half_fewer hc true
    · cases hb
theorem cuts_parts {b : Nat} {G : Int} {x : LeafM} (hG : G < (x.rules.length : Int)) : cutsT b G x = partsT b x := by
  unfold cutsT partsT bitO
  rw [if_pos hG]
  cases bestO x.cube.1 x.cube.2 x.rules b 104 with
  | none => rfl
  | some p => rfl
theorem pass_ref {b s : Nat} {L G : Int} (hs : max G 0 < (s : Int)) : ∀ (rest nx : List LeafM), (∀ x ∈ nx, canB b G x = true → x.rules.length < s) → (∀ x ∈ rest, canB b G x = true → x.rules.length ≤ s) →
    (∃ r, passT b L s nx rest = (true, r) ∧ refR b L G (nx ++ rest) = r) ∨ (∃ r, passT b L s nx rest = (false, r) ∧ refR b L G (nx ++ rest) = refR b L G r ∧ ∀ x ∈ r, canB b G x = true → x.rules.length < s)
  | [], nx, h1, _ => .inr ⟨nx, rfl, by rw [List.append_nil], h1⟩
  | x :: r, nx, h1, h2 => by
    rw [passT]
    by_cases hL : L ≤ (nx.length : Int) + ((r.length : Int) + 1)
    · rw [if_pos hL]
      exact .inl ⟨_, rfl, ref_full (by simp only [List.length_append, List.length_cons]; omega)⟩
    · rw [if_neg hL]
      have hr : ∀ y ∈ r, canB b G y = true → y.rules.length ≤ s := fun y hy => h2 y (List.mem_cons_of_mem _ hy)
      by_cases he : x.rules.length = s
      · rw [if_pos he, ← cuts_parts (b := b) (G := G) (x := x) (by omega)]
        by_cases hc : canB b G x = true
        · have ih := pass_ref (L := L) hs r (nx ++ cutsT b G x) (fun y hy hq => by
            rcases List.mem_append.1 hy with hy | hy
            · exact h1 y hy hq
            · have := cuts_fewer hc hy; omega) hr
          have hp := pick_at (q := canB b G) (A := nx) (r := r) hc (fun y hy hq => by rw [he]; exact h1 y hy hq) (fun y hy hq => by rw [he]; exact hr y hy hq)
          have hx : (nx ++ x :: r)[nx.length]? = some x := by simp
          have hst : stepT12 b G (nx ++ x :: r) nx.length = nx ++ cutsT b G x ++ r := by
            unfold stepT12
            rw [hx]
            simp
          have e := ref_step (b := b) (L := L) (G := G) (by simp only [List.length_append, List.length_cons]; omega) hp hx hc
          rw [hst] at e
          rw [e]
          exact ih
        · have hc' : cutsT b G x = [x] := by
            unfold canB at hc
            unfold cutsT
            cases hb : bitO b G x with
            | none => rfl
            | some i => rw [hb] at hc; exact absurd rfl hc
          rw [hc']
          have ih := pass_ref (L := L) hs r (nx ++ [x]) (fun y hy hq => by
            rcases List.mem_append.1 hy with hy | hy
            · exact h1 y hy hq
            · obtain rfl : y = x := by simpa using hy
              exact absurd hq hc) hr
          rw [List.append_assoc, List.singleton_append] at ih
          exact ih
      · rw [if_neg he]
        have ih := pass_ref (L := L) hs r (nx ++ [x]) (fun y hy hq => by
          rcases List.mem_append.1 hy with hy | hy
          · exact h1 y hy hq
          · obtain rfl : y = x := by simpa using hy
            have := h2 y (List.mem_cons_self ..) hq
            omega) hr
        rw [List.append_assoc, List.singleton_append] at ih
        exact ih
theorem most_ge {bound : Int} : ∀ {C : List LeafM} {x : LeafM}, x ∈ C → (x.rules.length : Int) < bound → x.rules.length ≤ mostT bound C
  | y :: C, x, hx, hb => by
    rw [show y :: C = [y] ++ C from rfl, most_app]
    rcases List.mem_cons.1 hx with rfl | hx
    · have : mostT bound [x] = x.rules.length := by
        have h := most_take (bound := bound) (C := [x]) (k := 0) (x := x) rfl
        simp only [Nat.zero_add, List.take_succ_cons, List.take_zero] at h
        rw [h, if_pos hb]
        simp [mostT]
      omega
    · have := most_ge hx hb
      omega
theorem tree_ref {b : Nat} {L G : Int} : ∀ (f s : Nat) (out : List LeafM), s < f → (∀ x ∈ out, canB b G x = true → x.rules.length ≤ s) → treeF b L G f s out = refR b L G out
  | 0, s, out, hf, _ => by omega
  | f + 1, s, out, hf, h => by
    by_cases hs : max G 0 < (s : Int)
    · rcases pass_ref (L := L) hs out [] (fun x hx => by simp at hx) h with ⟨r, h1, h2⟩ | ⟨r, h1, h2, h3⟩
      · rw [tree_stop hs h1, ← h2, List.nil_append]
      · rw [tree_step hs h1]
        rw [List.nil_append] at h2
        rw [h2]
        have hlt := most_lt (bound := (s : Int)) (by omega) r
        exact tree_ref f _ r (by omega) fun x hx hq => most_ge hx (by have := h3 x hx hq; omega)
    · rw [tree_done hs, ref_stop]
      refine pick_none fun y hy => ?_
      cases hq : canB b G y with
      | false => rfl
      | true =>
        have := h y hy hq
        have := can_pos hq
        omega
/-- The two trees are one. -/
theorem treeT_ref (b : Nat) (L G : Int) (l : List RuleM) : treeT b L G l = refR b L G [⟨(Z, Z), 0, 0, clipT Z Z l⟩] := by
  unfold treeT
  refine tree_ref _ _ _ (Nat.lt_succ_self _) fun x hx _ => ?_
  obtain rfl : x = _ := by simpa using hx
  exact Nat.le_refl _
end Go.Proofs.Ytpbinkmeldkehaa
namespace Go.Proofs.Ytpbinkmeldkehaa
open Go Go.RowKit
set_option maxRecDepth 20000

theorem has_meet (V M V' M' H : List Int) (h : meets V M V' M' = true) : has (meetV V M V' M') (meetM M M') H = (has V M H && has V' M' H) := by
  rw [Bool.eq_iff_iff, Bool.and_eq_true, has_iff, has_iff, has_iff]
  have hm := (meets_iff V M V' M').1 h
  have e1 : ∀ i, i < 104 → bt (meetV V M V' M') i = ((bt V i && bt M i) || (bt V' i && bt M' i)) := fun i hi => mk_bt _ i hi
  have e2 : ∀ i, i < 104 → bt (meetM M M') i = (bt M i || bt M' i) := fun i hi => mk_bt _ i hi
  constructor
  · intro g
    constructor
    · intro i hi h1
      have h3 := g i hi (by rw [e2 i hi, h1]; rfl)
      rw [e1 i hi, h1] at h3
      have h4 := hm i hi h1
      revert h3 h4
      cases bt V i <;> cases bt V' i <;> cases bt M' i <;> cases bt H i <;> simp
    · intro i hi h1
      have h3 := g i hi (by rw [e2 i hi, h1]; simp)
      rw [e1 i hi, h1] at h3
      have h4 := fun h => hm i hi h h1
      revert h3 h4
      cases bt V i <;> cases bt V' i <;> cases bt M i <;> cases bt H i <;> simp
  · rintro ⟨g1, g2⟩ i hi h1
    have h3 := g1 i hi
    have h4 := g2 i hi
    rw [e2 i hi] at h1
    rw [e1 i hi]
    revert h1 h3 h4
    cases bt V i <;> cases bt V' i <;> cases bt M i <;> cases bt M' i <;> cases bt H i <;> simp
theorem has_meets {V M V' M' H : List Int} (h : has V M H = true) (h' : has V' M' H = true) : meets V M V' M' = true := by
  rw [has_iff] at h h'
  exact (meets_iff _ _ _ _).2 fun i hi h1 h2 => by rw [h i hi h1, h' i hi h2]
end Go.Proofs.Ytpbinkmeldkehaa
namespace Go.Proofs.Ytpbinkmeldkehaa
open Go Go.Lib Go.RowKit Ieee
set_option maxRecDepth 20000

/-! What the tree keeps: each header in one leaf; a leaf's rules say what the list says; few leaves. -/
theorem has_fix12 (V M H : List Int) (i : Nat) (b : Bool) (hi : i < 104) (hf : bt M i = false) : has (fixV V M i b) (fixM M i) H = (has V M H && (bt H i == b)) := by
  have e1 : ∀ k, k < 104 → bt (fixV V M i b) k = if k = i then b else (bt V k && bt M k) := fun k hk => by
    have := setb_bt (can V M) i b k hk; rw [can_bt _ _ k hk] at this; exact this
  have e2 : ∀ k, k < 104 → bt (fixM M i) k = if k = i then true else bt M k := fun k hk => setb_bt M i true k hk
  rw [Bool.eq_iff_iff, Bool.and_eq_true, has_iff, has_iff, beq_iff_eq]
  constructor
  · intro g
    constructor
    · intro k hk hm
      have hki : k ≠ i := by rintro rfl; rw [hf] at hm; cases hm
      have := g k hk (by rw [e2 k hk, if_neg hki]; exact hm)
      rwa [e1 k hk, if_neg hki, hm, Bool.and_true] at this
    · have := g i hi (by rw [e2 i hi, if_pos rfl])
      rw [e1 i hi, if_pos rfl] at this
      exact this.symm
  · rintro ⟨g1, g2⟩ k hk hm
    rw [e1 k hk]
    rw [e2 k hk] at hm
    by_cases h : k = i
    · rw [if_pos h, h, g2]
    · rw [if_neg h] at hm ⊢
      rw [hm, Bool.and_true]; exact g1 k hk hm
theorem has_within12 (V M V' M' H : List Int) (h : within V M V' M' = true) (h2 : has V M H = true) : has V' M' H = true := by
  rw [has_iff] at h2 ⊢
  rw [within_iff] at h
  intro i hi hm
  obtain ⟨h3, h4⟩ := h i hi hm
  rw [← h4]; exact h2 i hi h3
theorem has_Z (H : List Int) : has Z Z H = true := by
  rw [has_iff]
  intro i hi hm
  rw [Z_bt i hi] at hm
  cases hm
/-- What a table says of a header. -/
def saysT (l : List RuleM) (H : List Int) : Option (Int × Int) := (l.find? (hasR H)).map fun r => (r.order, r.action)
theorem find_clip (V M H : List Int) : ∀ l : List RuleM, ((meetL V M l).find? (hasR H)).map (fun r => (r.order, r.action)) = if has V M H then saysT l H else none
  | [] => by simp [meetL, saysT]
  | r :: l => by
    have ih := find_clip V M H l
    unfold saysT at ih ⊢
    unfold meetL at ih ⊢
    cases hm : meets r.cube.1 r.cube.2 V M with
    | false =>
      rw [List.filterMap_cons, cutR_no hm]
      dsimp only
      rw [ih]
      cases hH : has V M H with
      | false => rfl
      | true =>
        rw [if_pos rfl, if_pos rfl, List.find?_cons]
        have : hasR H r = false := by
          cases h2 : hasR H r with
          | false => rfl
          | true => rw [has_meets h2 hH] at hm; cases hm
        rw [this]
    | true =>
      rw [List.filterMap_cons, cutR_yes hm]
      dsimp only
      rw [List.find?_cons]
      have e : hasR H ⟨r.order, (meetV r.cube.1 r.cube.2 V M, meetM r.cube.2 M), r.action⟩ = (hasR H r && has V M H) := has_meet _ _ _ _ _ hm
      rw [e]
      cases hH : has V M H with
      | false =>
        rw [hH] at ih
        rw [Bool.and_false]
        exact ih
      | true =>
        rw [hH] at ih
        rw [Bool.and_true, if_pos rfl, List.find?_cons]
        rw [if_pos rfl] at ih
        cases hasR H r with
        | false => exact ih
        | true => rfl
theorem clip_says (V M H : List Int) (l : List RuleM) : saysT (clipT V M l) H = if has V M H then saysT l H else none := by
  have h := find_clip V M H l
  unfold saysT clipT at *
  rw [trimT_go, trim_look withinR (hasR H) (fun a b h1 h2 => has_within12 _ _ _ _ _ h1 h2) _ [] (fun a ha => by simp at ha)]
  exact h
theorem says_look {l m : List RuleM} {H : List Int} (h : saysT l H = saysT m H) : (lookT l H).2 = (lookT m H).2 ∧ (lookT l H).1.order = (lookT m H).1.order ∧ (lookT l H).1.action = (lookT m H).1.action := by
  unfold saysT at h
  unfold lookT
  cases h1 : l.find? (hasR H) with
  | none =>
    rw [h1] at h
    cases h2 : m.find? (hasR H) with
    | none => exact ⟨rfl, rfl, rfl⟩
    | some y => rw [h2] at h; cases h
  | some x =>
    rw [h1] at h
    cases h2 : m.find? (hasR H) with
    | none => rw [h2] at h; cases h
    | some y =>
      rw [h2] at h
      simp only [Option.map_some, Option.some.injEq, Prod.mk.injEq] at h
      exact ⟨rfl, h.1, h.2⟩
theorem bit_free {b : Nat} {G : Int} {x : LeafM} {i : Nat} (h : bitO b G x = some i) : i < 104 ∧ bt x.cube.2 i = false := by
  unfold bitO at h
  split at h
  · cases hs : bestO x.cube.1 x.cube.2 x.rules b 104 with
    | none => rw [hs] at h; cases h
    | some p =>
      obtain ⟨j, z⟩ := p
      rw [hs] at h
      obtain rfl : j = i := by simpa using h
      have := best_free hs
      exact ⟨this.1, cand_free this.2⟩
  · cases h
def hasL (H : List Int) (x : LeafM) : Bool := has x.cube.1 x.cube.2 H
theorem cuts_has {b : Nat} {G : Int} {x : LeafM} (H : List Int) : (cutsT b G x).countP (hasL H) = if hasL H x then 1 else 0 := by
  unfold cutsT
  cases hb : bitO b G x with
  | none => dsimp only; rw [List.countP_singleton]
  | some i =>
    obtain ⟨h1, h2⟩ := bit_free hb
    dsimp only
    have e : ∀ c, hasL H (halfL x i c) = (hasL H x && (bt H i == c)) := fun c => has_fix12 _ _ _ _ _ h1 h2
    rw [show [halfL x i false, halfL x i true] = [halfL x i false] ++ [halfL x i true] from rfl, List.countP_append, List.countP_singleton, List.countP_singleton, e, e]
    cases hasL H x <;> cases bt H i <;> rfl
/-- What every leaf of a tree keeps. -/
def leafOk (l : List RuleM) (x : LeafM) : Prop := x.one = 0 ∧ x.two = 0 ∧ x.rules.length ≤ l.length ∧ ∀ H, hasL H x = true → saysT x.rules H = saysT l H
theorem cuts_ok {b : Nat} {G : Int} {l : List RuleM} {x y : LeafM} (hx : leafOk l x) (hy : y ∈ cutsT b G x) : leafOk l y := by
  unfold cutsT at hy
  cases hb : bitO b G x with
  | none =>
    rw [hb] at hy
    obtain rfl : y = x := by simpa using hy
    exact hx
  | some i =>
    rw [hb] at hy
    obtain ⟨h1, h2⟩ := bit_free hb
    obtain ⟨c, rfl⟩ : ∃ c, y = halfL x i c := by
      simp only [List.mem_cons, List.not_mem_nil, or_false] at hy
      rcases hy with rfl | rfl
      · exact ⟨_, rfl⟩
      · exact ⟨_, rfl⟩
    refine ⟨rfl, rfl, Nat.le_trans (clip_len _ _ _) hx.2.2.1, fun H hH => ?_⟩
    have e : hasL H (halfL x i c) = (hasL H x && (bt H i == c)) := has_fix12 _ _ _ _ _ h1 h2
    have hx1 : hasL H x = true := by rw [e, Bool.and_eq_true] at hH; exact hH.1
    show saysT (clipT (fixV x.cube.1 x.cube.2 i c) (fixM x.cube.2 i) x.rules) H = _
    rw [clip_says, if_pos (show has (fixV x.cube.1 x.cube.2 i c) (fixM x.cube.2 i) H = true from hH)]
    exact hx.2.2.2 H hx1
structure TreeOk (l : List RuleM) (out : List LeafM) : Prop where
  ok : ∀ x ∈ out, leafOk l x
  one : ∀ H, out.countP (hasL H) = 1
theorem step_ok {b : Nat} {G : Int} {l : List RuleM} {out : List LeafM} {i : Nat} (h : TreeOk l out) : TreeOk l (stepT12 b G out i) := by
  unfold stepT12
  cases hx : out[i]? with
  | none => exact h
  | some x =>
    dsimp only
    have hm : x ∈ out := List.mem_of_getElem? hx
    obtain ⟨hi, hxe⟩ := List.getElem?_eq_some_iff.1 hx
    refine ⟨fun y hy => ?_, fun H => ?_⟩
    · rcases List.mem_append.1 hy with hy | hy
      · rcases List.mem_append.1 hy with hy | hy
        · exact h.ok y (List.mem_of_mem_take hy)
        · exact cuts_ok (h.ok x hm) hy
      · exact h.ok y (List.mem_of_mem_drop hy)
    · have e : out = out.take i ++ [x] ++ out.drop (i + 1) := by
        rw [List.append_assoc, List.singleton_append, ← hxe, ← List.drop_eq_getElem_cons hi, List.take_append_drop]
      have h1 := h.one H
      rw [e, List.countP_append, List.countP_append, List.countP_singleton] at h1
      rw [List.countP_append, List.countP_append, cuts_has]
      exact h1
theorem refF_ok {b : Nat} {G : Int} {l : List RuleM} : ∀ (f : Nat) (out : List LeafM), TreeOk l out → TreeOk l (refF b G f out)
  | 0, _, h => h
  | f + 1, out, h => by
    rw [refF]
    cases pickS (canB b G) out out.length with
    | none => exact h
    | some i => exact refF_ok f _ (step_ok h)
theorem refF_len {b : Nat} {G : Int} : ∀ (f : Nat) (out : List LeafM), out.length ≤ (refF b G f out).length ∧ (refF b G f out).length ≤ out.length + f ∧ ((refF b G f out).length < out.length + f → ∀ x ∈ refF b G f out, canB b G x = false)
  | 0, out => ⟨Nat.le_refl _, Nat.le_refl _, fun h => by rw [refF] at h; omega⟩
  | f + 1, out => by
    rw [refF]
    have hp := pick_is (canB b G) out out.length (Nat.le_refl _)
    cases hs : pickS (canB b G) out out.length with
    | none =>
      rw [hs] at hp
      refine ⟨Nat.le_refl _, by dsimp only; omega, fun _ x hx => ?_⟩
      obtain ⟨j, hj, rfl⟩ := List.mem_iff_getElem.1 hx
      exact hp j _ hj (List.getElem?_eq_getElem hj)
    | some i =>
      rw [hs] at hp
      obtain ⟨_, x, hx, hc, _⟩ := hp
      have ih := refF_len (b := b) (G := G) f (stepT12 b G out i)
      rw [step_len hx hc] at ih
      dsimp only
      refine ⟨by omega, by omega, fun h => ih.2.2 (by omega)⟩
theorem tree_ok (b : Nat) (L G : Int) (l : List RuleM) : TreeOk l (treeT b L G l) := by
  rw [treeT_ref]
  refine refF_ok _ _ ⟨fun x hx => ?_, fun H => ?_⟩
  · obtain rfl : x = _ := by simpa using hx
    refine ⟨rfl, rfl, clip_len _ _ _, fun H _ => ?_⟩
    show saysT (clipT Z Z l) H = _
    rw [clip_says, if_pos (has_Z H)]
  · rw [List.countP_singleton]
    show (if has Z Z H = true then 1 else 0) = 1
    rw [if_pos (has_Z H)]
theorem tree_few (b : Nat) (L G : Int) (l : List RuleM) : 1 ≤ (treeT b L G l).length ∧ ((treeT b L G l).length : Int) ≤ max 1 L ∧ (((treeT b L G l).length : Int) < L → ∀ x ∈ treeT b L G l, canB b G x = false) := by
  rw [treeT_ref]
  have h := refF_len (b := b) (G := G) (L - (([⟨(Z, Z), 0, 0, clipT Z Z l⟩] : List LeafM).length : Int)).toNat [⟨(Z, Z), 0, 0, clipT Z Z l⟩]
  simp only [List.length_singleton] at h
  unfold refR
  simp only [List.length_singleton]
  obtain ⟨h1, h2, h3⟩ := h
  refine ⟨h1, by omega, fun h4 => h3 (by omega)⟩
theorem find_has {H : List Int} : ∀ {out : List LeafM}, out.countP (hasL H) = 1 → ∃ k x, findL (hasL H) out = some k ∧ out[k]? = some x ∧ hasL H x = true
  | [], h => by simp at h
  | y :: out, h => by
    cases hy : hasL H y with
    | true => exact ⟨0, y, findL_some (k := 0) (x := y) rfl hy (fun j z hj => by omega), rfl, hy⟩
    | false =>
      rw [List.countP_cons_of_neg (by rw [hy]; simp)] at h
      obtain ⟨k, x, h1, h2, h3⟩ := find_has h
      refine ⟨k + 1, x, ?_, by simpa using h2, h3⟩
      unfold findL
      simp [hy, h1]
end Go.Proofs.Ytpbinkmeldkehaa
namespace Go.Proofs.Ytpbinkmeldkehaa
open Go Go.Lib Go.RowKit Ieee
set_option maxRecDepth 20000

/-! What the laws of the tree share. -/
end Go.Proofs.Ytpbinkmeldkehaa
namespace Go.Proofs.Ytpbinkmeldkehaa
open Go Go.Lib Go.RowKit Ieee
set_option maxRecDepth 20000

theorem wpOp_allocE {E : El} (H : E.Ok) {ops : Array Oper} {Q : Exit → Act → World → Prop} {i : Nat} {o : Oper} {K : Act → World → Prop} {a : Act} {w : World} (hi : ops[i]? = some o) (hw : Region.wanted o (yielded ops a.tmps) = true) (ho : o.op = .alloc E.elem) (d : Option Tmp) (hd : o.dst = d)
    (hK : K (a.put d (.pointer (some ⟨w.heap.size, 0, none⟩))) (w.alloc (.cells E.zero E.elem))) : wpOp Try.prog ops Q i K a w := by
  obtain ⟨ie, h1, h2, _, _⟩ := H.info
  have hx : (execOp a.eval o).run Try.prog w = .ok (.value (.pointer (some ⟨w.heap.size, 0, none⟩))) (w.alloc (.cells E.zero E.elem)) := by
    unfold execOp
    simp only [ho]
    simp [go_sem, Instr.alloc, zeroValue, typeInfo, h1, h2, Value.cells]
  exact wpOp_val hi hw _ hx d hd hK
theorem later_cell12 {W : World} {g k : Nat} {cs : Array Value} {t : TypeId} {fr : Nat × Nat} {v : Value} (hg : W.heap[g]? = some (.cells cs t fr)) (hk : cs[k]? = some v) : ∀ u : Later W, u.world.cell? ⟨g, k, none⟩ = some v := fun u => by
  rw [cell_of_row _ _ _ _ _ _ (later_block hg _ ⟨u, rfl⟩), hk]

end Go.Proofs.Ytpbinkmeldkehaa
namespace Go.Proofs.Ytpbinkmeldkehaa
open Go Go.Lib Go.RowKit Ieee
set_option maxRecDepth 20000

set_option maxHeartbeats 16000000 in
set_option maxRecDepth 100000 in
/-- Two lists of leaves that are alike. -/
theorem rsame12_any (C : List LeafM) (hn1 : C.length ≤ 100000) (Ba Bb : Nat) (va vb : Value) (w : World) (ha : LeavesAt Ba w va C) (hb : LeavesAt Bb w vb C) :
    Calls Try.prog 14 #[va, vb] w fun e w' => e = .returned (.bool true) ∧ Below w.heap.size w w' := by
  obtain ⟨oa, capa, rfl, hca, hma⟩ := NSl.slice ha
  obtain ⟨ob, capb, rfl, hcb, hmb⟩ := NSl.slice hb
  obtain ⟨n, hn⟩ : ∃ n, n = C.length := ⟨_, rfl⟩
  rw [← hn] at ha hb hca hcb hn1 ⊢
  have HA : Hid (LeavesAt Ba w (.slice oa n capa) C) := ha
  have HBB : Hid (LeavesAt Bb w (.slice ob n capb) C) := hb
  unfold maxLen at hma hmb
  clear ha hb hn
  go_enter Try.func14, Try.ntmps14
  go_wp2_with fail
  go_loopw [5] (fun i wr => ∃ k : Nat, k ≤ n ∧ i = .int .i64 (k : Int) ∧ Hid (Below w.heap.size w wr)) (fun i _ => n - (intOf i).toNat)
  case atStart => exact ⟨0, Nat.zero_le _, rfl, Below.refl _ _⟩
  case round =>
    obtain ⟨k, hk, rfl, HB⟩ := hrel
    by_cases hlt : k < n
    · have hlt' : (k : Int) < (n : Int) := by omega
      obtain ⟨g, off, cur, ty, fr, x, u, rfl, hg, hc, hxk, hxu⟩ := (NSl.below LfR.below HA.out HB.out).at k hlt
      obtain ⟨g2, off2, cur2, ty2, fr2, x2, u2, rfl, hg2, hc2, hxk2, hxu2⟩ := (NSl.below LfR.below HBB.out HB.out).at k hlt
      obtain rfl : x = x2 := by rw [hxk] at hxk2; exact Option.some.inj hxk2
      obtain ⟨o3, m3, rfl⟩ := hxu.slice
      obtain ⟨o4, m4, rfl⟩ := hxu2.slice
      have hok := hxu.1
      have hVl := hok.1.1
      have hMl := hok.2.1.1
      have SM : Hid (∀ W, Below wr.heap.size wr W → Calls Try.prog 32 #[.slice o3 x.rules.length m3, .slice o4 x.rules.length m4] W fun e w' => e = .returned (.bool true) ∧ Below W.heap.size W w') := fun W hb => rsame8_any x.rules hok.2.2 _ _ W (GSl.below hxu.rules hb) (GSl.below hxu2.rules hb)
      have K1 : Hid (wr.heap[g]? = some (.cells cur ty fr)) := hg
      have K2 : Hid (wr.heap[g2]? = some (.cells cur2 ty2 fr2)) := hg2
      have H1 : Hid (∀ j, j < 26 → cur[off + k * 29 + j]? = (cv x.cube.1 x.cube.2)[j]?) := fun j hj => by
        have h3 := hc j (by show j < 29; omega)
        rw [(leaf_at hok _).1 j hj] at h3
        exact h3
      have H2 : Hid (∀ j, j < 26 → cur2[off2 + k * 29 + j]? = (cv x.cube.1 x.cube.2)[j]?) := fun j hj => by
        have h3 := hc2 j (by show j < 29; omega)
        rw [(leaf_at hok _).1 j hj] at h3
        exact h3
      have a26 : ∀ v : Later wr, v.world.cell? ⟨g, off + k * 29 + 26, none⟩ = some (.int .i64 x.one) := later_cell12 K1.out (by have h3 := hc 26 (by show 26 < 29; omega); rw [(leaf_at hok _).2.1] at h3; exact h3)
      have a27 : ∀ v : Later wr, v.world.cell? ⟨g, off + k * 29 + 27, none⟩ = some (.int .i64 x.two) := later_cell12 K1.out (by have h3 := hc 27 (by show 27 < 29; omega); rw [(leaf_at hok _).2.2.1] at h3; exact h3)
      have a28 : ∀ v : Later wr, v.world.cell? ⟨g, off + k * 29 + 28, none⟩ = some (.slice o3 x.rules.length m3) := later_cell12 K1.out (by have h3 := hc 28 (by show 28 < 29; omega); rw [(leaf_at hok _).2.2.2] at h3; exact h3)
      have b26 : ∀ v : Later wr, v.world.cell? ⟨g2, off2 + k * 29 + 26, none⟩ = some (.int .i64 x.one) := later_cell12 K2.out (by have h3 := hc2 26 (by show 26 < 29; omega); rw [(leaf_at hok _).2.1] at h3; exact h3)
      have b27 : ∀ v : Later wr, v.world.cell? ⟨g2, off2 + k * 29 + 27, none⟩ = some (.int .i64 x.two) := later_cell12 K2.out (by have h3 := hc2 27 (by show 27 < 29; omega); rw [(leaf_at hok _).2.2.1] at h3; exact h3)
      have b28 : ∀ v : Later wr, v.world.cell? ⟨g2, off2 + k * 29 + 28, none⟩ = some (.slice o4 x.rules.length m4) := later_cell12 K2.out (by have h3 := hc2 28 (by show 28 < 29; omega); rw [(leaf_at hok _).2.2.2] at h3; exact h3)
      have E : ∀ W, (Op.equalIn 10000 42 (.agg (cv x.cube.1 x.cube.2)) (.agg (cv x.cube.1 x.cube.2))).run Try.prog W = .ok true W := fun W => by rw [eqC _ _ _ _ hVl hMl hVl hMl]; simp
      have EG : ∀ op p q xs ys w, (eqGuard op 42 p q (.agg xs) (.agg ys)).run Try.prog w = .ok () w := egC
      clear hg hc hg2 hc2 hxk hxk2 hxu hxu2 hok
      go_wp2_with fail
      have ne1 := Later.ne wr
      refine wp_region_later (by kernel_rfl) (by kernel_rfl) ?_
      repeat go_big_quiet_step (fail)
      refine qlCw rfl _ rfl g (off + k * 29) rfl cur ty fr x.cube.1 x.cube.2 hVl hMl (later_block K1.out) H1.out ?_
      simp only [Act.put, List.setIfInBounds_toArray, List.set_cons_succ, List.set_cons_zero]
      repeat go_big_quiet_step (fail)
      refine qlCw rfl _ rfl g2 (off2 + k * 29) rfl cur2 ty2 fr2 x.cube.1 x.cube.2 hVl hMl (later_block K2.out) H2.out ?_
      simp only [Act.put, List.setIfInBounds_toArray, List.set_cons_succ, List.set_cons_zero]
      repeat go_big_quiet_step (fail)
      go_big_quiet_want; go_big_quiet_op
      refine ⟨_, fun u => Calls.later_of (SM.out u.world u.below), ?_⟩
      go_big_quiet_on
      repeat go_big_quiet_step (fail)
      refine wpQuiet_nil ?_
      rintro w1 ⟨v5, rfl⟩
      have hb1 := v5.below
      obtain ⟨w1, hw1⟩ : ∃ w1, w1 = v5.world := ⟨_, rfl⟩
      rw [← hw1] at hb1 ⊢
      have B1 : Hid (Below w.heap.size w w1) := below_stepR HB.out HB.out.size hb1
      clear hb1 hw1 v5 ne1 a26 a27 a28 b26 b27 b28 K1 K2 HB
      go_wp2_with fail
      go_roundw
      case rel => exact ⟨k + 1, by omega, by go_num, B1⟩
      case measure => simp [intOf]; omega
    · have hlt' : ¬ (k : Int) < (n : Int) := by omega
      go_wp2_with fail
      go_ret
      exact ⟨rfl, HB.out⟩
end Go.Proofs.Ytpbinkmeldkehaa
