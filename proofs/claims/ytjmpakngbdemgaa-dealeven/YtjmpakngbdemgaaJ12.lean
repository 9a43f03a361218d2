import Derived.Test.YtjmpakngbdemgaaJ11
import Derived.Test.YtjmpakngbdemgaaJ9
import Derived.Test.YtjmpakngbdemgaaJ2
import Derived.Deep.CutRange
namespace Go.Proofs.Ytjmpakngbdemgaa
open Go Go.Lib Go.RowKit
set_option maxRecDepth 20000

/-! What the reference's Deal holds. -/
theorem first_ex {K : Nat → Int} {o : List Nat} : ∀ m : Nat, (∃ i, i < m ∧ i ∉ o) → ∃ b, IsFirst K o m b
  | 0, h => by obtain ⟨i, hi, _⟩ := h; omega
  | m + 1, h => by
    by_cases hex : ∃ i, i < m ∧ i ∉ o
    · obtain ⟨b, hb⟩ := first_ex m hex
      by_cases hm : m ∈ o
      · exact ⟨b, first_skip hb (.inl hm)⟩
      · by_cases hk : K m < K b
        · exact ⟨m, first_take hb hm hk⟩
        · exact ⟨b, first_skip hb (.inr hk)⟩
    · obtain ⟨i, hi, hio⟩ := h
      have him : i = m := by
        by_cases e : i = m
        · exact e
        · exact absurd ⟨i, by omega, hio⟩ hex
      subst him
      refine ⟨i, first_begin hio fun j hj => ?_⟩
      by_cases hjo : j ∈ o
      · exact hjo
      · exact absurd ⟨j, hj, hjo⟩ hex
theorem part_full {K : Nat → Int} {n : Nat} : ∀ (f : Nat) (o : List Nat), PartOrd K n o → o.length + f = n → ∃ t, IsOrd K n (o ++ t)
  | 0, o, h, hl => ⟨[], by rw [List.append_nil]; exact part_all h (by omega)⟩
  | f + 1, o, h, hl => by
    obtain ⟨i, hi, hio⟩ := part_more (n := n) (o := o) (by omega)
    obtain ⟨b, hb⟩ := first_ex (K := K) (o := o) n ⟨i, hi, hio⟩
    obtain ⟨t, ht⟩ := part_full f (o ++ [b]) (part_snoc h hb) (by simp; omega)
    exact ⟨b :: t, by rw [List.append_assoc] at ht; exact ht⟩
theorem part_len {K : Nat → Int} {n : Nat} {o : List Nat} (h : PartOrd K n o) : o.length ≤ n := places_le n o h.1 (part_nodup h)
/-- With just one there nobody is left for a backup. -/
theorem two_none {th : Nat → Bool} {ld : Nat → Int} {wt : Nat → Nat} {room s : Int} {one : Nat} (hc : cntT th ≤ 1) (h1 : 1 ≤ one) (h6 : one ≤ 6) (ht : th one = true) : giveN th ld wt room s one = 0 := by
  unfold giveN
  rw [giveGo_none]
  · rfl
  · intro n n1 n6
    unfold mayG
    by_cases e : n = one
    · simp [e]
    · have : th n = false := by
        cases hn : th n with
        | false => rfl
        | true =>
          exfalso
          unfold cntT at hc
          have hb : ∀ b : Bool, b.toNat = if b then 1 else 0 := fun b => by cases b <;> rfl
          simp only [hb] at hc
          rcases (show one = 1 ∨ one = 2 ∨ one = 3 ∨ one = 4 ∨ one = 5 ∨ one = 6 by omega) with rfl | rfl | rfl | rfl | rfl | rfl <;>
          rcases (show n = 1 ∨ n = 2 ∨ n = 3 ∨ n = 4 ∨ n = 5 ∨ n = 6 by omega) with rfl | rfl | rfl | rfl | rfl | rfl <;>
          first | exact absurd rfl e | (rw [ht, hn] at hc; simp only [if_true] at hc; omega)
      rw [this]
      rfl
def dV (o : List Nat) (n : Nat) : List Value := (List.range n).map fun i => Value.bool (decide (i ∈ o))
theorem dV_len (o : List Nat) (n : Nat) : (dV o n).length = n := by simp [dV]
theorem dV_at (o : List Nat) {n i : Nat} (h : i < n) : (dV o n)[i]? = some (.bool (decide (i ∈ o))) := by unfold dV; rw [List.getElem?_map, List.getElem?_range h]; rfl
theorem dV_nil (n : Nat) : dV [] n = List.replicate n (.bool false) := by
  unfold dV
  rw [List.eq_replicate_iff]
  exact ⟨by simp, fun v hv => by obtain ⟨i, _, rfl⟩ := List.mem_map.1 hv; simp⟩
theorem dV_set (o : List Nat) {n i : Nat} (h : i < n) : (dV o n).set i (.bool true) = dV (o ++ [i]) n := by
  apply List.ext_getElem?
  intro j
  rw [List.getElem?_set]
  by_cases e : i = j
  · subst e
    rw [if_pos rfl, dV_len, if_pos h, dV_at _ h]
    simp
  · rw [if_neg e]
    by_cases hj : j < n
    · rw [dV_at _ hj, dV_at _ hj]
      congr 2
      simp [show ¬ j = i from fun x => e x.symm]
    · rw [List.getElem?_eq_none (by rw [dV_len]; omega), List.getElem?_eq_none (by rw [dV_len]; omega)]
theorem tV_len (th : Nat → Bool) : (tV th).length = 7 := by simp [tV]
theorem tV_none (th : Nat → Bool) (h : ∀ k, 1 ≤ k → k ≤ 6 → th k = false) : tV th = List.replicate 7 (.bool false) := by
  unfold tV
  rw [List.eq_replicate_iff]
  refine ⟨by simp, fun v hv => ?_⟩
  obtain ⟨i, hi, rfl⟩ := List.mem_map.1 hv
  rw [List.mem_range] at hi
  by_cases e : i = 0
  · rw [if_pos e]
  · rw [if_neg e, h i (by omega) (by omega)]
theorem tV_set (th : Nat → Bool) {m : Nat} (h1 : 1 ≤ m) (h6 : m ≤ 6) : (tV th).set m (.bool true) = tV (updB th m) := by
  apply List.ext_getElem?
  intro j
  rw [List.getElem?_set]
  by_cases e : m = j
  · subst e
    rw [if_pos rfl, tV_len, if_pos (by omega), tV_at _ h1 (by omega)]
    simp [updB]
  · rw [if_neg e]
    rcases Nat.lt_or_ge j 7 with hj | hj
    · rcases Nat.eq_zero_or_pos j with rfl | h0
      · unfold tV; simp
      · rw [tV_at _ h0 hj, tV_at _ h0 hj]
        simp [updB, show ¬ j = m from fun x => e x.symm]
    · rw [List.getElem?_eq_none (by rw [tV_len]; omega), List.getElem?_eq_none (by rw [tV_len]; omega)]
theorem tV_congr {th th' : Nat → Bool} (h : ∀ k, 1 ≤ k → k ≤ 6 → th k = th' k) : tV th = tV th' := by
  unfold tV
  refine List.map_congr_left fun i hi => ?_
  rw [List.mem_range] at hi
  by_cases e : i = 0
  · rw [if_pos e, if_pos e]
  · rw [if_neg e, if_neg e, h i (by omega) (by omega)]
theorem cnt_congr {th th' : Nat → Bool} (h : ∀ k, 1 ≤ k → k ≤ 6 → th k = th' k) : cntT th = cntT th' := by
  unfold cntT
  rw [h 1 (by omega) (by omega), h 2 (by omega) (by omega), h 3 (by omega) (by omega), h 4 (by omega) (by omega), h 5 (by omega) (by omega), h 6 (by omega) (by omega)]
theorem lV_zero : lV (fun _ => 0) = List.replicate 7 (.int .i64 0) := by
  unfold lV
  rw [List.eq_replicate_iff]
  exact ⟨by simp, fun v hv => by obtain ⟨i, _, rfl⟩ := List.mem_map.1 hv; rfl⟩
structure RdS (B : Nat) (w : World) (go gd gl gt n : Nat) (out : Nat → Nat × Nat) (o : List Nat) (ld : Nat → Int) (th : Nat → Bool) : Prop where
  p : POwn B w (.slice (some ⟨go, 0, none⟩) n n) (pairsT out n)
  d : VOwn 4 B w (.slice (some ⟨gd, 0, none⟩) n n) (dV o n)
  l : VOwn 3 B w (.slice (some ⟨gl, 0, none⟩) 7 7) (lV ld)
  t : VOwn 4 B w (.slice (some ⟨gt, 0, none⟩) 7 7) (tV th)
  od : go < gd
  dl : gd < gl
  lt : gl < gt
  b : B ≤ go
theorem RdS.below {B : Nat} {w w' : World} {go gd gl gt n : Nat} {out : Nat → Nat × Nat} {o : List Nat} {ld : Nat → Int} {th : Nat → Bool} (h : RdS B w go gd gl gt n out o ld th) (hb : Below w.heap.size w w') : RdS B w' go gd gl gt n out o ld th :=
  ⟨gown_below h.p hb, h.d.below hb, h.l.below hb, h.t.below hb, h.od, h.dl, h.lt, h.b⟩
theorem own_ne {j g : Nat} {n c : Nat} (h : (Value.slice (some ⟨g, 0, none⟩) n c).ownBlock = some j) : j = g := by simpa [Value.ownBlock] using h.symm
theorem RdS.done {B : Nat} {w : World} {go gd gl gt n : Nat} {out : Nat → Nat × Nat} {o : List Nat} {ld : Nat → Int} {th : Nat → Bool} (h : RdS B w go gd gl gt n out o ld th) {i : Nat} (hi : i < n) : RdS B (w.setCell ⟨gd, i, none⟩ (.bool true)) go gd gl gt n out (o ++ [i]) ld th := by
  have hk : Kept (fun k => k = gd) w (w.setCell ⟨gd, i, none⟩ (.bool true)) := Kept.of_grown (h.d.setBelow i _) (fun k hk => by cases hk; rfl)
  have h1 := h.od; have h2 := h.dl; have h3 := h.lt
  refine ⟨hk.own h.p (fun j hj e => ?_), by rw [← dV_set o hi]; exact h.d.set i _, hk.own h.l (fun j hj e => ?_), hk.own h.t (fun j hj e => ?_), h.od, h.dl, h.lt, h.b⟩
  · have := own_ne hj; omega
  · have := own_ne hj; omega
  · have := own_ne hj; omega
theorem RdS.load {B : Nat} {w w' : World} {go gd gl gt n : Nat} {out : Nat → Nat × Nat} {o : List Nat} {ld ld' : Nat → Int} {th : Nat → Bool} (h : RdS B w go gd gl gt n out o ld th) (hk : Kept (fun k => k = gl) w w') (hl : VOwn 3 B w' (.slice (some ⟨gl, 0, none⟩) 7 7) (lV ld')) : RdS B w' go gd gl gt n out o ld' th := by
  have h1 := h.od; have h2 := h.dl; have h3 := h.lt
  refine ⟨hk.own h.p (fun j hj e => ?_), hk.own h.d (fun j hj e => ?_), hl, hk.own h.t (fun j hj e => ?_), h.od, h.dl, h.lt, h.b⟩
  · have := own_ne hj; omega
  · have := own_ne hj; omega
  · have := own_ne hj; omega
theorem RdS.out {B : Nat} {w : World} {go gd gl gt n : Nat} {out : Nat → Nat × Nat} {o : List Nat} {ld : Nat → Int} {th : Nat → Bool} (h : RdS B w go gd gl gt n out o ld th) {i : Nat} (hi : i < n) (a b : Nat) :
    RdS B ((w.setCell ⟨go, i * 2, none⟩ (.int .i64 (a : Int))).setCell ⟨go, i * 2 + 1, none⟩ (.int .i64 (b : Int))) go gd gl gt n (fun j => if j = i then (a, b) else out j) o ld th ∧ Kept (fun k => k = go) w ((w.setCell ⟨go, i * 2, none⟩ (.int .i64 (a : Int))).setCell ⟨go, i * 2 + 1, none⟩ (.int .i64 (b : Int))) := by
  obtain ⟨hP, hgr⟩ := h.p.set (by rw [pairs_len]) i hi (a : Int) (b : Int)
  rw [pairs_set] at hP
  have hk := Kept.of_grown (X := fun k => k = go) hgr (fun k hk => by cases hk; rfl)
  have h1 := h.od; have h2 := h.dl; have h3 := h.lt
  refine ⟨⟨hP, hk.own h.d (fun j hj e => ?_), hk.own h.l (fun j hj e => ?_), hk.own h.t (fun j hj e => ?_), h.od, h.dl, h.lt, h.b⟩, hk⟩
  · have := own_ne hj; omega
  · have := own_ne hj; omega
  · have := own_ne hj; omega
theorem RdS.there {B : Nat} {w : World} {go gd gl gt n : Nat} {out : Nat → Nat × Nat} {o : List Nat} {ld : Nat → Int} {th : Nat → Bool} (h : RdS B w go gd gl gt n out o ld th) {m : Nat} (h1 : 1 ≤ m) (h6 : m ≤ 6) : RdS B (w.setCell ⟨gt, m, none⟩ (.bool true)) go gd gl gt n out o ld (updB th m) ∧ Kept (fun k => k = gt) w (w.setCell ⟨gt, m, none⟩ (.bool true)) := by
  have hk : Kept (fun k => k = gt) w (w.setCell ⟨gt, m, none⟩ (.bool true)) := Kept.of_grown (h.t.setBelow m _) (fun k hk => by cases hk; rfl)
  have h1' := h.od; have h2 := h.dl; have h3 := h.lt
  refine ⟨⟨hk.own h.p (fun j hj e => ?_), hk.own h.d (fun j hj e => ?_), hk.own h.l (fun j hj e => ?_), by rw [← tV_set th h1 h6]; exact h.t.set m _, h.od, h.dl, h.lt, h.b⟩, hk⟩
  · have := own_ne hj; omega
  · have := own_ne hj; omega
  · have := own_ne hj; omega
theorem RdS.congr {B : Nat} {w : World} {go gd gl gt n : Nat} {out : Nat → Nat × Nat} {o : List Nat} {ld : Nat → Int} {th th' : Nat → Bool} (h : RdS B w go gd gl gt n out o ld th) (ht : ∀ k, 1 ≤ k → k ≤ 6 → th k = th' k) : RdS B w go gd gl gt n out o ld th' :=
  ⟨h.p, h.d, h.l, by rw [← tV_congr ht]; exact h.t, h.od, h.dl, h.lt, h.b⟩
theorem RdS.doneK {B : Nat} {w : World} {go gd gl gt n : Nat} {out : Nat → Nat × Nat} {o : List Nat} {ld : Nat → Int} {th : Nat → Bool} (h : RdS B w go gd gl gt n out o ld th) (i : Nat) : Kept (fun k => k = gd) w (w.setCell ⟨gd, i, none⟩ (.bool true)) := Kept.of_grown (h.d.setBelow i _) (fun k hk => by cases hk; rfl)
theorem th_more {live : List Int} {k : Nat} {m : Nat} (hx : live[k]? = some (m : Int)) : ∀ j, 1 ≤ j → j ≤ 6 → updB (thT (live.take k)) m j = thT (live.take (k + 1)) j := fun j _ _ => by
  rw [th_take hx]
  unfold updB
  by_cases e : j = m
  · subst e; simp
  · rw [if_neg e]
    have : (((m : Nat) : Int) == (j : Int)) = false := by simp; omega
    rw [this, Bool.or_false]
theorem th_odd {live : List Int} {k : Nat} {x : Int} (hx : live[k]? = some x) (ho : x < 1 ∨ 6 < x) : ∀ j, 1 ≤ j → j ≤ 6 → thT (live.take k) j = thT (live.take (k + 1)) j := fun j _ _ => by
  rw [th_take hx]
  have : (x == (j : Int)) = false := by simp; omega
  rw [this, Bool.or_false]
theorem th_same {live : List Int} {k : Nat} {m : Nat} (hx : live[k]? = some (m : Int)) (ht : thT (live.take k) m = true) : ∀ j, 1 ≤ j → j ≤ 6 → thT (live.take k) j = thT (live.take (k + 1)) j := fun j _ _ => by
  rw [th_take hx]
  by_cases e : j = m
  · subst e; rw [ht]; rfl
  · have : (((m : Nat) : Int) == (j : Int)) = false := by simp; omega
    rw [this, Bool.or_false]
end Go.Proofs.Ytjmpakngbdemgaa
namespace Go.Proofs.Ytjmpakngbdemgaa

def sumD (f : Nat → Int) : Nat → Int
  | 0 => 0
  | k + 1 => sumD f k + f k
theorem sumD_congr {f g : Nat → Int} : ∀ N, (∀ j, j < N → f j = g j) → sumD f N = sumD g N
  | 0, _ => rfl
  | N + 1, h => by rw [sumD, sumD, sumD_congr N fun j hj => h j (by omega), h N (by omega)]
theorem sumD_upd {f g : Nat → Int} {i : Nat} {c : Int} (hi : g i = f i + c) (hj : ∀ j, j ≠ i → g j = f j) : ∀ N, i < N → sumD g N = sumD f N + c
  | 0, h => by omega
  | N + 1, h => by
    rw [sumD, sumD]
    by_cases he : i = N
    · subst he
      rw [sumD_congr i fun j hlt => hj j (by omega), hi]
      omega
    · rw [sumD_upd hi hj N (by omega), hj N (fun h => he h.symm)]
      omega
/-- What m has of those that are dealt. -/
def hasS (s : Nat → Int) (D : List Nat) (out : Nat → Nat × Nat) (m i : Nat) : Int := if i ∈ D ∧ ((out i).1 = m ∨ (out i).2 = m) then s i else 0
structure Fit (th : Nat → Bool) (room : Int) (s : Nat → Int) (N : Nat) (D : List Nat) (ld : Nat → Int) (out : Nat → Nat × Nat) : Prop where
  one : ∀ i ∈ D, 1 ≤ (out i).1 ∧ (out i).1 ≤ 6 ∧ th (out i).1 = true ∧ (out i).1 ≠ (out i).2
  two : ∀ i ∈ D, (out i).2 ≤ 6
  twoT : ∀ i ∈ D, 1 < cntT th → 1 ≤ (out i).2 ∧ th (out i).2 = true
  twoN : ∀ i ∈ D, cntT th ≤ 1 → (out i).2 = 0
  sum : ∀ m, 1 ≤ m → ld m = sumD (hasS s D out m) N
  fits : ∀ m, 1 ≤ m → m ≤ 6 → 0 ≤ ld m ∧ ld m ≤ max room 0
theorem next_at {th : Nat → Bool} {wt : Nat → Nat} {room : Int} {ld : Nat → Int} {c : Int} (h1 : oneOf th wt room ld c ≠ 0) (m : Nat) (hm : 1 ≤ m) : nextL th wt room ld c m = ld m + if oneOf th wt room ld c = m ∨ twoOf th wt room ld c = m then c else 0 := by
  have hne : oneOf th wt room ld c ≠ twoOf th wt room ld c := fun h => by
    have h2 : twoOf th wt room ld c ≠ 0 := h ▸ h1
    obtain ⟨_, _, _, h3, _⟩ := giveN_in (n := twoOf th wt room ld c) rfl h2
    exact h3 h.symm
  unfold nextL ldUp
  by_cases a1 : oneOf th wt room ld c = m
  · have a2 : ¬ m = twoOf th wt room ld c := fun h => hne (a1.trans h)
    rw [if_neg (fun h => a2 h.1), if_pos ⟨a1.symm, h1⟩, if_pos (.inl a1)]
  · by_cases a2 : twoOf th wt room ld c = m
    · rw [if_pos ⟨a2.symm, by omega⟩, if_neg (fun h => a1 h.1.symm), if_pos (.inr a2)]
    · rw [if_neg (fun h => a2 h.1.symm), if_neg (fun h => a1 h.1.symm), if_neg (fun h => h.elim a1 a2)]
      omega
theorem fit_go {th : Nat → Bool} {wt : Nat → Nat} {room : Int} {s : Nat → Int} {N : Nat} (hs : ∀ i, 0 ≤ s i) : ∀ (o D : List Nat) (ld : Nat → Int) (out : Nat → Nat × Nat), Fit th room s N D ld out → (∀ i ∈ o, i < N ∧ i ∉ D) → o.Nodup → ∀ st, dealF th wt room (cntT th) s o ld out = some st → Fit th room s N (D ++ o) st.1 st.2
  | [], D, ld, out, h, _, _, st, hst => by cases hst; simpa using h
  | i :: o, D, ld, out, h, hm, hnd, st, hst => by
    rw [dealF] at hst
    split at hst
    · cases hst
    · rename_i hbad
      have hbad : badG th wt room (cntT th) ld (s i) = false := by simpa using hbad
      unfold badG at hbad
      rw [Bool.or_eq_false_iff, beq_eq_false_iff_ne] at hbad
      obtain ⟨b1, b2⟩ := hbad
      obtain ⟨p1, p2, p3, _, p5⟩ := giveN_in (n := oneOf th wt room ld (s i)) rfl b1
      have hiN := hm i (by simp)
      rw [List.nodup_cons] at hnd
      have key : Fit th room s N (D ++ [i]) (nextL th wt room ld (s i)) (fun j => if j = i then (oneOf th wt room ld (s i), twoOf th wt room ld (s i)) else out j) := by
        have hs0 := hs i
        refine ⟨?_, ?_, ?_, ?_, ?_, ?_⟩
        · intro j hj
          by_cases hji : j = i
          · subst hji
            simp only [if_pos]
            refine ⟨p1, p2, p3, fun h => ?_⟩
            have h2 : twoOf th wt room ld (s j) ≠ 0 := h ▸ b1
            exact (giveN_in (n := twoOf th wt room ld (s j)) rfl h2).2.2.2.1 h.symm
          · simp only [if_neg hji]
            exact h.one j (by simpa [hji] using hj)
        · intro j hj
          by_cases hji : j = i
          · subst hji
            simp only [if_pos]
            by_cases h2 : twoOf th wt room ld (s j) = 0
            · omega
            · exact (giveN_in (n := twoOf th wt room ld (s j)) rfl h2).2.1
          · simp only [if_neg hji]
            exact h.two j (by simpa [hji] using hj)
        · intro j hj hc
          by_cases hji : j = i
          · subst hji
            simp only [if_pos]
            have h2 : twoOf th wt room ld (s j) ≠ 0 := fun h0 => by
              rw [h0] at b2
              simp [hc] at b2
            have := giveN_in (n := twoOf th wt room ld (s j)) rfl h2
            exact ⟨this.1, this.2.2.1⟩
          · simp only [if_neg hji]
            exact h.twoT j (by simpa [hji] using hj) hc
        · intro j hj hc
          by_cases hji : j = i
          · subst hji
            simp only [if_pos]
            exact two_none hc p1 p2 p3
          · simp only [if_neg hji]
            exact h.twoN j (by simpa [hji] using hj) hc
        · intro m hm1
          rw [next_at b1 m hm1, h.sum m hm1]
          refine (sumD_upd (i := i) ?_ (fun j hji => ?_) N hiN.1).symm
          · have e0 : hasS s D out m i = 0 := if_neg fun hh => hiN.2 hh.1
            rw [e0, Int.zero_add]
            unfold hasS
            simp
          · unfold hasS
            simp [hji]
        · intro m h1 h6
          have hf := h.fits m h1 h6
          rw [next_at b1 m h1]
          split
          · rename_i hor
            rcases hor with hh | hh
            · subst hh; omega
            · have h2 : twoOf th wt room ld (s i) ≠ 0 := by omega
              obtain ⟨_, _, _, q4, q5⟩ := giveN_in (n := twoOf th wt room ld (s i)) rfl h2
              rw [hh] at q4 q5
              unfold ldUp at q5
              rw [if_neg (fun h => q4 h.1)] at q5
              omega
          · omega
      have := fit_go hs o (D ++ [i]) _ _ key (fun j hj => ⟨(hm j (List.mem_cons_of_mem _ hj)).1, fun hh => by
        rw [List.mem_append, List.mem_singleton] at hh
        rcases hh with hh | rfl
        · exact (hm j (List.mem_cons_of_mem _ hj)).2 hh
        · exact hnd.1 hj⟩) hnd.2 st hst
      rw [List.append_assoc] at this
      exact this
theorem sumD_zero : ∀ {f : Nat → Int} (N : Nat), (∀ j, f j = 0) → sumD f N = 0
  | _, 0, _ => rfl
  | f, N + 1, h => by rw [sumD, sumD_zero N h, h N]; rfl
theorem fit_nil (th : Nat → Bool) (room : Int) (s : Nat → Int) (N : Nat) (out : Nat → Nat × Nat) : Fit th room s N [] (fun _ => 0) out :=
  ⟨fun _ h => (List.not_mem_nil h).elim, fun _ h => (List.not_mem_nil h).elim, fun _ h => (List.not_mem_nil h).elim, fun _ h => (List.not_mem_nil h).elim, fun m _ => (sumD_zero N fun j => by unfold hasS; simp).symm, fun m _ _ => by omega⟩
theorem fit_loads {z : List Int} {out : Nat → Nat × Nat} {o : List Nat} (ho : ∀ i, i < z.length → i ∈ o) (m : Nat) : ∀ k, k ≤ z.length → ldS z (pairsT out z.length) (m : Int) k ≤ sumD (hasS (fun i => max (z.getD i 0) 0) o out m) k
  | 0, _ => Int.le_refl _
  | k + 1, hk => by
    have ih := fit_loads (out := out) ho m k (by omega)
    have h1 : z[k]? = some z[k] := List.getElem?_eq_getElem (by omega)
    have h2 : (pairsT out z.length)[k]? = some (((out k).1 : Int), ((out k).2 : Int)) := by unfold pairsT; rw [List.getElem?_map, List.getElem?_range (by omega)]; rfl
    rw [ldS, h1, h2, sumD]
    have hh : hasS (fun i => max (z.getD i 0) 0) o out m k = if (out k).1 = m ∨ (out k).2 = m then max z[k] 0 else 0 := by
      unfold hasS
      dsimp only
      rw [List.getD_eq_getElem?_getD, h1]
      simp [ho k (by omega)]
    rw [hh]
    dsimp only
    unfold clip13
    by_cases hc : (out k).1 = m ∨ (out k).2 = m
    · rw [if_pos hc, if_pos (by omega)]; omega
    · rw [if_neg hc, if_neg (by omega)]; omega
theorem ord_nodup {K : Nat → Int} {n : Nat} {o : List Nat} (h : IsOrd K n o) : o.Nodup :=
  h.2.imp fun {a b} hab he => by subst he; unfold ahead at hab; omega
theorem fit_room {z : List Int} {th : Nat → Bool} {wt : Nat → Nat} {room : Int} {K : Nat → Int} {o : List Nat} {st : (Nat → Int) × (Nat → Nat × Nat)} (ho : IsOrd K z.length o) (hn : z.length ≤ 4096)
    (h : dealF th wt room (cntT th) (fun i => max (z.getD i 0) 0) o (fun _ => 0) (fun _ => (0, 0)) = some st) :
    Fit th room (fun i => max (z.getD i 0) 0) z.length o st.1 st.2 ∧ ∀ m : Nat, 1 ≤ m → m ≤ 6 → loadsT z (pairsT st.2 z.length) (m : Int) ≤ max room 0 := by
  have hF := fit_go (N := z.length) (fun i => by omega) o [] _ _ (fit_nil th room _ z.length _) (fun i hi => ⟨(ho.1 i).1 hi, by simp⟩) (ord_nodup ho) st h
  rw [List.nil_append] at hF
  refine ⟨hF, fun m h1 h6 => ?_⟩
  have := hF.fits m h1 h6
  rw [hF.sum m h1] at this
  have h2 := fit_loads (out := st.2) (fun i hi => (ho.1 i).2 hi) m z.length (Nat.le_refl _)
  unfold loadsT
  rw [pairs_len, show min (min z.length z.length) 4096 = z.length by omega]
  omega
end Go.Proofs.Ytjmpakngbdemgaa
namespace Go.Proofs.Ytjmpakngbdemgaa

/-- Whoever is given costs no more than any other who may be. -/
theorem giveGo_least {th : Nat → Bool} {ld : Nat → Int} {wt : Nat → Nat} {room size : Int} {but : Nat} : ∀ {k n x : Nat}, giveGo th ld wt room size but k = some (n, x) → ∀ m, 1 ≤ m → m ≤ k → mayG th ld room size but m = true → placeT x ≤ placeT (costT (ld m + size) (wt m))
  | 0, n, x, h, _, _, _, _ => by cases h
  | k + 1, n, x, h, m, h1, h2, hm => by
    unfold giveGo at h
    by_cases hk : mayG th ld room size but (k + 1) = true
    · rw [if_pos hk] at h
      cases hg : giveGo th ld wt room size but k with
      | none =>
        rw [hg] at h
        simp only [Option.some.injEq, Prod.mk.injEq] at h
        obtain ⟨rfl, rfl⟩ := h
        by_cases he : m = k + 1
        · subst he; exact Int.le_refl _
        · obtain ⟨p, hp⟩ := giveGo_some (wt := wt) (k := k) h1 (by omega) hm
          rw [hg] at hp; cases hp
      | some p =>
        obtain ⟨q, y⟩ := p
        rw [hg] at h
        dsimp only at h
        split at h
        · rename_i hlt
          simp only [Option.some.injEq, Prod.mk.injEq] at h
          obtain ⟨rfl, rfl⟩ := h
          by_cases he : m = k + 1
          · subst he; exact Int.le_refl _
          · have := giveGo_least hg m h1 (by omega) hm
            omega
        · rename_i hlt
          cases h
          by_cases he : m = k + 1
          · subst he; omega
          · exact giveGo_least hg m h1 (by omega) hm
    · rw [if_neg hk] at h
      by_cases he : m = k + 1
      · subst he; exact absurd hm hk
      · exact giveGo_least h m h1 (by omega) hm
/-- Where costs rise with the load, and all weigh alike: whoever is given has the least of those who may be. -/
theorem giveN_least {th : Nat → Bool} {ld : Nat → Int} {wt : Nat → Nat} {room size : Int} {but n : Nat} (h : giveN th ld wt room size but = n) (hn : n ≠ 0) (c : Int → Int) (hc : ∀ m, 1 ≤ m → m ≤ 6 → th m = true → placeT (costT (ld m + size) (wt m)) = c (ld m)) (hup : ∀ i j, 1 ≤ i → i ≤ 6 → th i = true → 1 ≤ j → j ≤ 6 → th j = true → ld i < ld j → c (ld i) < c (ld j)) :
    ∀ m, 1 ≤ m → m ≤ 6 → mayG th ld room size but m = true → ld n ≤ ld m := fun m h1 h6 hm => by
  unfold giveN at h
  cases hg : giveGo th ld wt room size but 6 with
  | none => rw [hg] at h; exact absurd h.symm hn
  | some p =>
    obtain ⟨q, y⟩ := p
    rw [hg] at h
    obtain rfl : q = n := h
    obtain ⟨g1, g2, g3, rfl⟩ := giveGo_in hg
    have hl := giveGo_least hg m h1 h6 hm
    have tq : th q = true := by unfold mayG at g3; simp only [Bool.and_eq_true] at g3; exact g3.1.1
    have tm : th m = true := by unfold mayG at hm; simp only [Bool.and_eq_true] at hm; exact hm.1.1
    rw [hc q g1 g2 tq, hc m h1 h6 tm] at hl
    rcases Int.lt_or_le (ld m) (ld q) with h | h
    · have := hup m q h1 h6 tm g1 g2 tq h; omega
    · exact h
def Even13 (th : Nat → Bool) (s : Int) (ld : Nat → Int) : Prop := ∀ i j, 1 ≤ i → i ≤ 6 → th i = true → 1 ≤ j → j ≤ 6 → th j = true → ld i ≤ ld j + s
theorem even_up {th : Nat → Bool} {s : Int} {ld : Nat → Int} {n : Nat} (h : Even13 th s ld) (hs : 0 ≤ s) (hn : ∀ j, 1 ≤ j → j ≤ 6 → th j = true → ld n ≤ ld j) : Even13 th s (ldUp ld n s) := fun i j i1 i6 it j1 j6 jt => by
  have h1 := h i j i1 i6 it j1 j6 jt
  have h2 := hn j j1 j6 jt
  unfold ldUp
  by_cases hi : i = n ∧ n ≠ 0
  · rw [if_pos hi]
    obtain ⟨rfl, _⟩ := hi
    split <;> omega
  · rw [if_neg hi]
    split <;> omega
/-- Two at least are there, and the room is great: nothing is refused. -/
theorem some_one {th : Nat → Bool} {wt : Nat → Nat} {room s L : Int} {ld : Nat → Int} {p q : Nat} (hp : 1 ≤ p ∧ p ≤ 6 ∧ th p = true) (hq : 1 ≤ q ∧ q ≤ 6 ∧ th q = true) (hpq : p ≠ q) (hL : ∀ n, 1 ≤ n → n ≤ 6 → ld n ≤ L) (hr : L + s ≤ room) : oneOf th wt room ld s ≠ 0 ∧ twoOf th wt room ld s ≠ 0 := by
  have h1 : oneOf th wt room ld s ≠ 0 := by
    have hl := hL p hp.1 hp.2.1
    obtain ⟨⟨n, c⟩, hg⟩ := giveGo_some (th := th) (ld := ld) (wt := wt) (room := room) (size := s) (but := 0) (k := 6) hp.1 hp.2.1 (by unfold mayG; rw [hp.2.2]; simp; omega)
    have := giveGo_in hg
    unfold oneOf giveN
    rw [hg]
    show n ≠ 0
    omega
  refine ⟨h1, ?_⟩
  obtain ⟨x, hx⟩ : ∃ x, x = oneOf th wt room ld s := ⟨_, rfl⟩
  obtain ⟨c, hc, c1, c6, ct⟩ : ∃ c, c ≠ x ∧ 1 ≤ c ∧ c ≤ 6 ∧ th c = true := by
    by_cases h : p = x
    · exact ⟨q, by omega, hq⟩
    · exact ⟨p, h, hp⟩
  have hl := hL c c1 c6
  obtain ⟨⟨n, y⟩, hg⟩ := giveGo_some (th := th) (ld := ldUp ld x s) (wt := wt) (room := room) (size := s) (but := x) (k := 6) c1 c6 (by unfold mayG ldUp; rw [ct, if_neg (fun h => hc h.1)]; simp; exact ⟨hc, by omega⟩)
  have := giveGo_in hg
  unfold twoOf giveN
  rw [← hx, hg]
  show n ≠ 0
  omega
theorem next_le {th : Nat → Bool} {wt : Nat → Nat} {room s L : Int} {ld : Nat → Int} (h1 : oneOf th wt room ld s ≠ 0) (hs : 0 ≤ s) (hL : ∀ n, 1 ≤ n → n ≤ 6 → 0 ≤ ld n ∧ ld n ≤ L) : ∀ n, 1 ≤ n → n ≤ 6 → 0 ≤ nextL th wt room ld s n ∧ nextL th wt room ld s n ≤ L + s := fun n n1 n6 => by
  have := hL n n1 n6
  rw [next_at h1 n n1]
  split <;> omega
theorem some_go {th : Nat → Bool} {wt : Nat → Nat} {room s : Int} {f : Nat → Int} {cnt p q : Nat} (hs : 0 ≤ s) (hp : 1 ≤ p ∧ p ≤ 6 ∧ th p = true) (hq : 1 ≤ q ∧ q ≤ 6 ∧ th q = true) (hpq : p ≠ q) (P : (Nat → Int) → Prop) (T : Int) (hT : T ≤ room) (hP : ∀ ld, P ld → (∀ n, 1 ≤ n → n ≤ 6 → 0 ≤ ld n ∧ ld n + s ≤ T) → oneOf th wt room ld s ≠ 0 → twoOf th wt room ld s ≠ 0 → P (nextL th wt room ld s)) :
    ∀ (o : List Nat) (ld : Nat → Int) (out : Nat → Nat × Nat) (L : Int), (∀ i ∈ o, f i = s) → (∀ n, 1 ≤ n → n ≤ 6 → 0 ≤ ld n ∧ ld n ≤ L) → L + s * (o.length : Int) ≤ T → P ld → ∃ st, dealF th wt room cnt f o ld out = some st ∧ P st.1
  | [], ld, out, L, _, _, _, h => ⟨_, rfl, h⟩
  | i :: o, ld, out, L, hf, hL, hLT, h => by
    have hm : s * ((i :: o).length : Int) = s * (o.length : Int) + s := by rw [List.length_cons]; push_cast; rw [Int.mul_add, Int.mul_one]
    have hmn : 0 ≤ s * (o.length : Int) := Int.mul_nonneg hs (by omega)
    have hsm := some_one (th := th) (wt := wt) (room := room) (s := s) (L := L) (ld := ld) hp hq hpq (fun n n1 n6 => (hL n n1 n6).2) (by omega)
    have hn := next_le (th := th) (wt := wt) (room := room) hsm.1 hs hL
    rw [dealF, hf i (by simp), if_neg (by unfold badG; simp [hsm.1, hsm.2])]
    exact some_go hs hp hq hpq P T hT hP o _ _ (L + s) (fun j hj => hf j (List.mem_cons_of_mem _ hj)) hn (by omega) (hP ld h (fun n n1 n6 => by have := hL n n1 n6; exact ⟨this.1, by omega⟩) hsm.1 hsm.2)
theorem even_next {th : Nat → Bool} {wt : Nat → Nat} {room s T : Int} {ld : Nat → Int} (hs : 0 ≤ s) (hT : T ≤ room) (c : Int → Int) (hc : ∀ n, 1 ≤ n → n ≤ 6 → th n = true → ∀ a, placeT (costT (a + s) (wt n)) = c a) (hup : ∀ a b, 0 ≤ a → a < b → b ≤ T → c a < c b)
    (he : Even13 th s ld) (hL : ∀ n, 1 ≤ n → n ≤ 6 → 0 ≤ ld n ∧ ld n + s ≤ T) (h1 : oneOf th wt room ld s ≠ 0) (h2 : twoOf th wt room ld s ≠ 0) : Even13 th s (nextL th wt room ld s) := by
  obtain ⟨p1, p6, pt, _, _⟩ := giveN_in (n := oneOf th wt room ld s) rfl h1
  obtain ⟨q1, q6, qt, qp, _⟩ := giveN_in (n := twoOf th wt room ld s) rfl h2
  have l1 := giveN_least (n := oneOf th wt room ld s) rfl h1 c (fun m m1 m6 mt => hc m m1 m6 mt (ld m)) (fun i j i1 i6 _ j1 j6 _ hij => hup _ _ (hL i i1 i6).1 hij (by have := (hL j j1 j6).2; omega))
  have e1 : Even13 th s (ldUp ld (oneOf th wt room ld s) s) := even_up he hs fun j j1 j6 jt => l1 j j1 j6 (by have := (hL j j1 j6).2; unfold mayG; rw [jt]; simp; omega)
  have hb : ∀ n, 1 ≤ n → n ≤ 6 → 0 ≤ ldUp ld (oneOf th wt room ld s) s n ∧ ldUp ld (oneOf th wt room ld s) s n ≤ T := fun n n1 n6 => by
    have := hL n n1 n6
    unfold ldUp
    split <;> omega
  have l2 := giveN_least (n := twoOf th wt room ld s) rfl h2 c (fun m m1 m6 mt => hc m m1 m6 mt _) (fun i j i1 i6 _ j1 j6 _ hij => hup _ _ (hb i i1 i6).1 hij (hb j j1 j6).2)
  refine even_up e1 hs fun j j1 j6 jt => ?_
  by_cases hj : j = oneOf th wt room ld s
  · have h3 := he (twoOf th wt room ld s) j q1 q6 qt j1 j6 jt
    have ea : ldUp ld (oneOf th wt room ld s) s (twoOf th wt room ld s) = ld (twoOf th wt room ld s) := if_neg fun h => qp h.1
    have eb : ldUp ld (oneOf th wt room ld s) s j = ld j + s := if_pos ⟨hj, h1⟩
    rw [ea, eb]
    exact h3
  · refine l2 j j1 j6 ?_
    have hl := (hL j j1 j6).2
    unfold mayG
    rw [jt, show ldUp ld (oneOf th wt room ld s) s j = ld j from if_neg fun h => hj h.1]
    simp
    exact ⟨hj, by omega⟩
end Go.Proofs.Ytjmpakngbdemgaa
namespace Go.Proofs.Ytjmpakngbdemgaa
open Ieee

theorem pow_more13 (n : Nat) : 2 ^ (n + 63) = 2 ^ (n + 62) * 2 := Nat.pow_succ 2 (n + 62)
theorem two_pow13 (n : Nat) : 2 ≤ 2 ^ (n + 1) := by
  rw [Nat.pow_succ]
  have : 0 < 2 ^ n := Nat.pow_pos (by decide)
  omega
/-- A small whole number is a float as it stands. -/
theorem intF_val (n : Nat) (h0 : 1 ≤ n) (h : n < 2 ^ 52) : fval double (intF n) = n * 2 ^ (lph + 1) := by
  have hl : n.log2 < 52 := (Nat.log2_lt (by omega)).2 h
  obtain ⟨j, hj⟩ : ∃ j, j = 52 - n.log2 := ⟨_, rfl⟩
  have h1 : 2 ^ n.log2 ≤ n := Nat.log2_self_le (by omega)
  have h2 : n < 2 ^ (n.log2 + 1) := Nat.lt_log2_self
  have e52 : 2 ^ n.log2 * 2 ^ j = 2 ^ 52 := by rw [← Nat.pow_add]; congr 1; omega
  have a1 : 2 ^ 52 ≤ n * 2 ^ j := by rw [← e52]; exact Nat.mul_le_mul_right _ h1
  have a2 : n * 2 ^ j ≤ 2 * 2 ^ 52 := by
    have := Nat.mul_le_mul_right (2 ^ j) (Nat.le_of_lt h2)
    rw [Nat.pow_succ, Nat.mul_comm (2 ^ n.log2) 2, Nat.mul_assoc, e52] at this
    exact this
  have hB : double.binade = 2 ^ 52 := by rw [d_bin]
  obtain ⟨e, he⟩ : ∃ e, e = lph + 1 - j := ⟨_, rfl⟩
  have hlph : 52 ≤ lph := by unfold lph; decide
  have hf := fval_form double e (n * 2 ^ j) (.inr (by rw [hB]; exact ⟨a1, a2⟩))
  have hv : n * 2 ^ j * 2 ^ e = n * 2 ^ (lph + 1) := by rw [Nat.mul_assoc, ← Nat.pow_add]; congr 2; omega
  rw [hv] at hf
  have hr : e * double.binade + n * 2 ^ j ≤ double.infRung := by
    have : e ≤ lph := by omega
    have h3 : e * double.binade ≤ lph * double.binade := Nat.mul_le_mul_right _ this
    have h4 : lph * double.binade + 2 * 2 ^ 52 ≤ double.infRung := by rw [d_inf, d_bin]; decide
    omega
  unfold intF
  rw [← hf, rn_val double dF _ hr]
/-- The step to the next rung is small beside the rung. -/
theorem gap_small (r : Nat) : ∃ g, fval double (r + 1) = fval double r + g ∧ (∀ q, r = q + 1 → fval double r ≤ fval double q + g) ∧ (g = 1 ∨ 2 ^ 52 * g ≤ fval double r) := by
  obtain ⟨e, k, rfl, h1, h2⟩ := rung_form double r
  have hB : double.binade = 2 ^ 52 := by rw [d_bin]
  have f0 : fval double (e * double.binade + k) = k * 2 ^ e := fval_form double e k (by rcases h2 with h2 | h2 <;> omega)
  have f1 : fval double (e * double.binade + k + 1) = (k + 1) * 2 ^ e := by rw [Nat.add_assoc]; exact fval_form double e (k + 1) (by rcases h2 with h2 | h2 <;> omega)
  refine ⟨2 ^ e, by rw [f1, f0, Nat.add_mul, Nat.one_mul], fun q hq => ?_, ?_⟩
  · by_cases hk : 1 ≤ k ∧ (e = 0 ∨ double.binade ≤ k - 1)
    · have fq : fval double q = (k - 1) * 2 ^ e := by
        rw [show q = e * double.binade + (k - 1) by omega]
        exact fval_form double e (k - 1) (by rcases hk.2 with h | h <;> omega)
      rw [f0, fq, ← Nat.succ_mul, show (k - 1).succ = k by omega]
      exact Nat.le_refl _
    · have hk2 : e ≠ 0 ∧ k = double.binade := by
        rcases h2 with h2 | h2
        · subst h2; omega
        · omega
      obtain ⟨e', rfl⟩ : ∃ e', e = e' + 1 := ⟨e - 1, by omega⟩
      have hq2 : q = e' * double.binade + (2 * double.binade - 1) := by
        rw [hk2.2, Nat.add_mul, Nat.one_mul] at hq
        have := binade_pos double
        omega
      have fq : fval double q = (2 * double.binade - 1) * 2 ^ e' := by
        rw [hq2]
        exact fval_form double e' _ (.inr (by have := binade_pos double; omega))
      rw [f0, fq, hk2.2, Nat.pow_succ]
      have e3 : (2 * double.binade - 1) * 2 ^ e' + 2 ^ e' = 2 * double.binade * 2 ^ e' := by
        rw [← Nat.succ_mul, show (2 * double.binade - 1).succ = 2 * double.binade by rw [d_bin]]
      have e4 : double.binade * (2 ^ e' * 2) = 2 * double.binade * 2 ^ e' := by rw [Nat.mul_comm (2 ^ e') 2, ← Nat.mul_assoc, Nat.mul_comm double.binade 2]
      rw [e4]
      omega
  · rcases h2 with h2 | h2
    · left; rw [h2, Nat.pow_zero]
    · right
      rw [f0, ← hB]
      exact Nat.mul_le_mul_right _ h2
/-- Whole multiples of one number stay apart when rounded. -/
theorem rn_apart (W n m : Nat) (hW : 2 ≤ W) (hn : n < 2 ^ 50) (hnm : n < m) (hi : rn double (n * W) 0 < double.infRung) : rn double (n * W) 0 < rn double (m * W) 0 := by
  obtain ⟨r, hr⟩ : ∃ r, r = rn double (n * W) 0 := ⟨_, rfl⟩
  rw [← hr] at hi ⊢
  have hmW : n * W + W ≤ m * W := by rw [← Nat.succ_mul]; exact Nat.mul_le_mul_right _ hnm
  refine (rn_ge double dF (m * W) 0 r hi).2 (.inl ?_)
  rw [Nat.pow_zero, Nat.mul_one]
  obtain ⟨g, g1, g2, g3⟩ := gap_small r
  rw [g1]
  have hg : ∀ F : Nat, F ≤ 2 * (n * W) → (g = 1 ∨ 2 ^ 52 * g ≤ F) → g < W := fun F hF h => by
    rcases h with h | h
    · omega
    · have h5 : n * W ≤ 2 ^ 50 * W := Nat.mul_le_mul_right _ (Nat.le_of_lt hn)
      omega
  rcases Nat.eq_zero_or_pos r with h0 | h0
  · have hv : fval double r = 0 := by rw [h0]; exact fval_zero _
    have := hg (fval double r) (by omega) g3
    omega
  · obtain ⟨q, hq⟩ : ∃ q, r = q + 1 := ⟨r - 1, by omega⟩
    have h1 := (rn_ge double dF (n * W) 0 q (by omega)).1 (by omega)
    rw [Nat.pow_zero, Nat.mul_one, ← hq] at h1
    have h2 : fval double q + fval double r ≤ 2 * (n * W) := by rcases h1 with h1 | h1 <;> omega
    have h3 := g2 q hq
    have := hg (fval double r) (by omega) g3
    omega
def BIL : Nat := 4741671816366391296
theorem clean_bil (x : Nat) (h : (double.order x BIL == some .gt) = false) : cleanT x ≤ BIL := by
  unfold cleanT
  split
  · exact Nat.zero_le _
  · rename_i hc
    have h1 : x ≤ double.infRung := by omega
    rw [order_rung x BIL h1 (by rw [d_inf]; decide), some_gt] at h
    simp at h
    omega
theorem val_bil : fval double (addR ONE BIL) ≤ 2 ^ (lph + 1 + 63) := by
  rw [← val_pow63]
  apply fval_le
  apply rn_le double dF (by rw [d_inf]; decide)
  have h2 : fval double BIL < 2 ^ (lph + 1 + 62) := by
    have := val_pow (lph + 11)
    rw [show (lph + 11) * double.binade + double.binade = 4886405595696988160 by rw [d_bin]; rfl, show 52 + (lph + 11) = lph + 1 + 62 from rfl] at this
    rw [← this]
    exact fval_lt _ (by decide)
  rw [val_pow63, val_one, Nat.pow_zero, Nat.mul_one]
  have h3 : 2 ^ (lph + 1) ≤ 2 ^ (lph + 1 + 62) := Nat.pow_le_pow_right (by decide) (by omega)
  have h4 := pow_more13 (lph + 1)
  omega
/-- Costs rise with the load. -/
theorem costT_up (a b : Int) (x : Nat) (hx : cleanT x ≤ BIL) (h1 : 1 ≤ a) (hab : a < b) (hb : b ≤ 4194304) : placeT (costT a x) < placeT (costT b x) := by
  obtain ⟨n, rfl⟩ := Int.eq_ofNat_of_zero_le (show 0 ≤ a by omega)
  obtain ⟨m, rfl⟩ := Int.eq_ofNat_of_zero_le (show 0 ≤ b by omega)
  have en : costT (n : Int) x = rn double (n * fval double (addR ONE (cleanT x))) 0 := by
    unfold costT mulR
    rw [if_neg (by omega), Int.toNat_natCast, intF_val n (by omega) (by omega)]
    apply rn_eq double dF
    rw [Nat.pow_zero, Nat.mul_one, Nat.mul_assoc, Nat.mul_assoc, Nat.mul_comm (2 ^ (lph + 1))]
  have em : costT (m : Int) x = rn double (m * fval double (addR ONE (cleanT x))) 0 := by
    unfold costT mulR
    rw [if_neg (by omega), Int.toNat_natCast, intF_val m (by omega) (by omega)]
    apply rn_eq double dF
    rw [Nat.pow_zero, Nat.mul_one, Nat.mul_assoc, Nat.mul_assoc, Nat.mul_comm (2 ^ (lph + 1))]
  have hW : 2 ≤ fval double (addR ONE (cleanT x)) := by
    have h2 := fval_le double (addR_left ONE (cleanT x) (by rw [d_inf]; decide))
    rw [val_one] at h2
    exact Nat.le_trans (two_pow13 lph) h2
  have hW2 : fval double (addR ONE (cleanT x)) ≤ 2 ^ (lph + 1 + 63) := Nat.le_trans (fval_le double (addR_mono (Nat.le_refl _) hx)) val_bil
  have hi : rn double (n * fval double (addR ONE (cleanT x))) 0 < double.infRung := by
    have hp := val_pow (lph + 34)
    have : rn double (n * fval double (addR ONE (cleanT x))) 0 ≤ (lph + 34) * double.binade + double.binade := by
      apply rn_le double dF (by rw [d_inf, d_bin]; decide)
      rw [hp, Nat.pow_zero, Nat.mul_one]
      have h5 : n * fval double (addR ONE (cleanT x)) ≤ 2 ^ 22 * 2 ^ (lph + 1 + 63) := Nat.mul_le_mul (by omega) hW2
      rw [← Nat.pow_add, show 22 + (lph + 1 + 63) = 52 + (lph + 34) by omega] at h5
      exact h5
    have h6 : (lph + 34) * double.binade + double.binade < double.infRung := by rw [d_inf, d_bin]; decide
    omega
  have hlt := rn_apart _ n m hW (by omega) (by omega) hi
  rw [← en, ← em] at hlt
  have l1 := costT_le (n : Int) x
  have l2 := costT_le (m : Int) x
  rw [placeT_num _ (rung_num _ l1).1, placeT_num _ (rung_num _ l2).1, (rung_num _ l1).2, (rung_num _ l2).2]
  omega
end Go.Proofs.Ytjmpakngbdemgaa
namespace Go.Proofs.Ytjmpakngbdemgaa
open Go Go.Lib Go.RowKit
set_option maxRecDepth 20000

set_option maxRecDepth 1000000 in
theorem ex13 : (dealF (thT [1, 2, 3]) (wtT []) 9 (cntT (thT [1, 2, 3])) (fun i => max (([3, 5] : List Int).getD i 0) 0) [1, 0] (fun _ => 0) (fun _ => (0, 0))).map (fun st => (st.2 0, st.2 1)) = some ((3, 1), (1, 2)) := by kernel_rfl
theorem ex13_ord : IsOrd (keyZ [3, 5]) 2 [1, 0] := by
  refine ⟨fun i => by simp; omega, ?_⟩
  rw [List.pairwise_cons]
  refine ⟨fun j hj => ?_, by simp⟩
  obtain rfl : j = 0 := by simpa using hj
  left
  decide
end Go.Proofs.Ytjmpakngbdemgaa
namespace Go.Proofs.Ytjmpakngbdemgaa
open Go Go.Lib Go.RowKit
set_option maxRecDepth 20000

/-- Two pairs held against each other. -/
theorem eqP2 (p q : Int × Int) (w : World) : (Op.equalIn 10000 33 (.agg (pairV p)) (.agg (pairV q))).run Try.prog w = .ok ((p.1 == q.1) && ((p.2 == q.2) && true)) w := by
  have a3 : (isAgg 3).run Try.prog w = .ok false w := by kernel_rfl
  rw [run_equalIn_struct w 9999 33 _ _ Try.underlying33 (by kernel_rfl)]
  simp only [Program.fieldsOf, Try.underlying33]
  refine eqFields_step w (by decide) (part_cell w a3 (show (pairV p)[0]? = some (.int .i64 p.1) from rfl)) (part_cell w a3 (show (pairV q)[0]? = some (.int .i64 q.1) from rfl)) (run_equalIn_int w _ 3 .i64 .i64 _ _ Try.underlying3) ?_
  refine eqFields_step w (by decide) (part_cell w a3 (show (pairV p)[1]? = some (.int .i64 p.2) from rfl)) (part_cell w a3 (show (pairV q)[1]? = some (.int .i64 q.2) from rfl)) (run_equalIn_int w _ 3 .i64 .i64 _ _ Try.underlying3) ?_
  rfl
theorem eqP (p : Int × Int) (w : World) : (Op.equalIn 10000 33 (.agg (pairV p)) (.agg (pairV p))).run Try.prog w = .ok true w := by
  rw [eqP2]
  simp
theorem egP (op : BinOp) (x y : Operand) (xs ys : Array Value) (w : World) : (eqGuard op 33 x y (.agg xs) (.agg ys)).run Try.prog w = .ok () w :=
  run_eqGuard_agg w op 33 x y xs ys (by kernel_rfl)
end Go.Proofs.Ytjmpakngbdemgaa
