import Derived.Test.YtpbinkmeldkehaaJ14
import Derived.Test.YtpbinkmeldkehaaJ12
import Derived.Test.YtpbinkmeldkehaaJ4
namespace Go.Proofs.Ytpbinkmeldkehaa
open Go Go.Lib Go.RowKit
set_option maxRecDepth 20000

/-! What the reference's Deal holds. -/
theorem first_ex {K : Nat → Int} {o : List Nat} : ∀ m : Nat, (∃ i, i < m ∧ i ∉ o) → ∃ b, IsFirst K o m b
  | 0, h => by obtain ⟨i, hi, _⟩ := h; omega
  | m + 1, h => by
    by_cases hex : ∃ i, i < m ∧ i ∉ o
    · obtain ⟨b, hb⟩ := first_ex m hex
      by_cases hm : m ∈ o
      · exact ⟨b, first_skip hb (.inl hm)⟩
      · by_cases hk : K m < K b
        · exact ⟨m, first_take hb hm hk⟩
        · exact ⟨b, first_skip hb (.inr hk)⟩
    · obtain ⟨i, hi, hio⟩ := h
      have him : i = m := by
        by_cases e : i = m
        · exact e
        · exact absurd ⟨i, by omega, hio⟩ hex
      subst him
      refine ⟨i, first_begin hio fun j hj => ?_⟩
      by_cases hjo : j ∈ o
      · exact hjo
      · exact absurd ⟨j, hj, hjo⟩ hex
theorem part_full {K : Nat → Int} {n : Nat} : ∀ (f : Nat) (o : List Nat), PartOrd K n o → o.length + f = n → ∃ t, IsOrd K n (o ++ t)
  | 0, o, h, hl => ⟨[], by rw [List.append_nil]; exact part_all h (by omega)⟩
  | f + 1, o, h, hl => by
    obtain ⟨i, hi, hio⟩ := part_more (n := n) (o := o) (by omega)
    obtain ⟨b, hb⟩ := first_ex (K := K) (o := o) n ⟨i, hi, hio⟩
    obtain ⟨t, ht⟩ := part_full f (o ++ [b]) (part_snoc h hb) (by simp; omega)
    exact ⟨b :: t, by rw [List.append_assoc] at ht; exact ht⟩
theorem part_len {K : Nat → Int} {n : Nat} {o : List Nat} (h : PartOrd K n o) : o.length ≤ n := places_le n o h.1 (part_nodup h)
/-- With just one there nobody is left for a backup. -/
theorem two_none {th : Nat → Bool} {ld : Nat → Int} {wt : Nat → Nat} {room s : Int} {one : Nat} (hc : cntT th ≤ 1) (h1 : 1 ≤ one) (h6 : one ≤ 6) (ht : th one = true) : giveN th ld wt room s one = 0 := by
  unfold giveN
  rw [giveGo_none]
  · rfl
  · intro n n1 n6
    unfold mayG
    by_cases e : n = one
    · simp [e]
    · have : th n = false := by
        cases hn : th n with
        | false => rfl
        | true =>
          exfalso
          unfold cntT at hc
          have hb : ∀ b : Bool, b.toNat = if b then 1 else 0 := fun b => by cases b <;> rfl
          simp only [hb] at hc
          rcases (show one = 1 ∨ one = 2 ∨ one = 3 ∨ one = 4 ∨ one = 5 ∨ one = 6 by omega) with rfl | rfl | rfl | rfl | rfl | rfl <;>
          rcases (show n = 1 ∨ n = 2 ∨ n = 3 ∨ n = 4 ∨ n = 5 ∨ n = 6 by omega) with rfl | rfl | rfl | rfl | rfl | rfl <;>
          first | exact absurd rfl e | (rw [ht, hn] at hc; simp only [if_true] at hc; omega)
      rw [this]
      rfl
def dV (o : List Nat) (n : Nat) : List Value := (List.range n).map fun i => Value.bool (decide (i ∈ o))
theorem dV_len (o : List Nat) (n : Nat) : (dV o n).length = n := by simp [dV]
theorem dV_at (o : List Nat) {n i : Nat} (h : i < n) : (dV o n)[i]? = some (.bool (decide (i ∈ o))) := by unfold dV; rw [List.getElem?_map, List.getElem?_range h]; rfl
theorem dV_nil (n : Nat) : dV [] n = List.replicate n (.bool false) := by
  unfold dV
  rw [List.eq_replicate_iff]
  exact ⟨by simp, fun v hv => by obtain ⟨i, _, rfl⟩ := List.mem_map.1 hv; simp⟩
theorem dV_set (o : List Nat) {n i : Nat} (h : i < n) : (dV o n).set i (.bool true) = dV (o ++ [i]) n := by
  apply List.ext_getElem?
  intro j
  rw [List.getElem?_set]
  by_cases e : i = j
  · subst e
    rw [if_pos rfl, dV_len, if_pos h, dV_at _ h]
    simp
  · rw [if_neg e]
    by_cases hj : j < n
    · rw [dV_at _ hj, dV_at _ hj]
      congr 2
      simp [show ¬ j = i from fun x => e x.symm]
    · rw [List.getElem?_eq_none (by rw [dV_len]; omega), List.getElem?_eq_none (by rw [dV_len]; omega)]
theorem tV_len (th : Nat → Bool) : (tV th).length = 7 := by simp [tV]
theorem tV_none (th : Nat → Bool) (h : ∀ k, 1 ≤ k → k ≤ 6 → th k = false) : tV th = List.replicate 7 (.bool false) := by
  unfold tV
  rw [List.eq_replicate_iff]
  refine ⟨by simp, fun v hv => ?_⟩
  obtain ⟨i, hi, rfl⟩ := List.mem_map.1 hv
  rw [List.mem_range] at hi
  by_cases e : i = 0
  · rw [if_pos e]
  · rw [if_neg e, h i (by omega) (by omega)]
theorem tV_set (th : Nat → Bool) {m : Nat} (h1 : 1 ≤ m) (h6 : m ≤ 6) : (tV th).set m (.bool true) = tV (updB th m) := by
  apply List.ext_getElem?
  intro j
  rw [List.getElem?_set]
  by_cases e : m = j
  · subst e
    rw [if_pos rfl, tV_len, if_pos (by omega), tV_at _ h1 (by omega)]
    simp [updB]
  · rw [if_neg e]
    rcases Nat.lt_or_ge j 7 with hj | hj
    · rcases Nat.eq_zero_or_pos j with rfl | h0
      · unfold tV; simp
      · rw [tV_at _ h0 hj, tV_at _ h0 hj]
        simp [updB, show ¬ j = m from fun x => e x.symm]
    · rw [List.getElem?_eq_none (by rw [tV_len]; omega), List.getElem?_eq_none (by rw [tV_len]; omega)]
theorem tV_congr {th th' : Nat → Bool} (h : ∀ k, 1 ≤ k → k ≤ 6 → th k = th' k) : tV th = tV th' := by
  unfold tV
  refine List.map_congr_left fun i hi => ?_
  rw [List.mem_range] at hi
  by_cases e : i = 0
  · rw [if_pos e, if_pos e]
  · rw [if_neg e, if_neg e, h i (by omega) (by omega)]
theorem cnt_congr {th th' : Nat → Bool} (h : ∀ k, 1 ≤ k → k ≤ 6 → th k = th' k) : cntT th = cntT th' := by
  unfold cntT
  rw [h 1 (by omega) (by omega), h 2 (by omega) (by omega), h 3 (by omega) (by omega), h 4 (by omega) (by omega), h 5 (by omega) (by omega), h 6 (by omega) (by omega)]
theorem lV_zero : lV (fun _ => 0) = List.replicate 7 (.int .i64 0) := by
  unfold lV
  rw [List.eq_replicate_iff]
  exact ⟨by simp, fun v hv => by obtain ⟨i, _, rfl⟩ := List.mem_map.1 hv; rfl⟩
structure RdS (B : Nat) (w : World) (go gd gl gt n : Nat) (out : Nat → Nat × Nat) (o : List Nat) (ld : Nat → Int) (th : Nat → Bool) : Prop where
  p : POwn B w (.slice (some ⟨go, 0, none⟩) n n) (pairsT out n)
  d : VOwn 4 B w (.slice (some ⟨gd, 0, none⟩) n n) (dV o n)
  l : VOwn 3 B w (.slice (some ⟨gl, 0, none⟩) 7 7) (lV ld)
  t : VOwn 4 B w (.slice (some ⟨gt, 0, none⟩) 7 7) (tV th)
  od : go < gd
  dl : gd < gl
  lt : gl < gt
  b : B ≤ go
theorem RdS.below {B : Nat} {w w' : World} {go gd gl gt n : Nat} {out : Nat → Nat × Nat} {o : List Nat} {ld : Nat → Int} {th : Nat → Bool} (h : RdS B w go gd gl gt n out o ld th) (hb : Below w.heap.size w w') : RdS B w' go gd gl gt n out o ld th :=
  ⟨gown_below h.p hb, h.d.below hb, h.l.below hb, h.t.below hb, h.od, h.dl, h.lt, h.b⟩
theorem own_ne {j g : Nat} {n c : Nat} (h : (Value.slice (some ⟨g, 0, none⟩) n c).ownBlock = some j) : j = g := by simpa [Value.ownBlock] using h.symm
theorem RdS.done {B : Nat} {w : World} {go gd gl gt n : Nat} {out : Nat → Nat × Nat} {o : List Nat} {ld : Nat → Int} {th : Nat → Bool} (h : RdS B w go gd gl gt n out o ld th) {i : Nat} (hi : i < n) : RdS B (w.setCell ⟨gd, i, none⟩ (.bool true)) go gd gl gt n out (o ++ [i]) ld th := by
  have hk : Kept (fun k => k = gd) w (w.setCell ⟨gd, i, none⟩ (.bool true)) := Kept.of_grown (h.d.setBelow i _) (fun k hk => by cases hk; rfl)
  have h1 := h.od; have h2 := h.dl; have h3 := h.lt
  refine ⟨hk.own h.p (fun j hj e => ?_), by rw [← dV_set o hi]; exact h.d.set i _, hk.own h.l (fun j hj e => ?_), hk.own h.t (fun j hj e => ?_), h.od, h.dl, h.lt, h.b⟩
  · have := own_ne hj; omega
  · have := own_ne hj; omega
  · have := own_ne hj; omega
theorem RdS.load {B : Nat} {w w' : World} {go gd gl gt n : Nat} {out : Nat → Nat × Nat} {o : List Nat} {ld ld' : Nat → Int} {th : Nat → Bool} (h : RdS B w go gd gl gt n out o ld th) (hk : Kept (fun k => k = gl) w w') (hl : VOwn 3 B w' (.slice (some ⟨gl, 0, none⟩) 7 7) (lV ld')) : RdS B w' go gd gl gt n out o ld' th := by
  have h1 := h.od; have h2 := h.dl; have h3 := h.lt
  refine ⟨hk.own h.p (fun j hj e => ?_), hk.own h.d (fun j hj e => ?_), hl, hk.own h.t (fun j hj e => ?_), h.od, h.dl, h.lt, h.b⟩
  · have := own_ne hj; omega
  · have := own_ne hj; omega
  · have := own_ne hj; omega
theorem RdS.out {B : Nat} {w : World} {go gd gl gt n : Nat} {out : Nat → Nat × Nat} {o : List Nat} {ld : Nat → Int} {th : Nat → Bool} (h : RdS B w go gd gl gt n out o ld th) {i : Nat} (hi : i < n) (a b : Nat) :
    RdS B ((w.setCell ⟨go, i * 2, none⟩ (.int .i64 (a : Int))).setCell ⟨go, i * 2 + 1, none⟩ (.int .i64 (b : Int))) go gd gl gt n (fun j => if j = i then (a, b) else out j) o ld th ∧ Kept (fun k => k = go) w ((w.setCell ⟨go, i * 2, none⟩ (.int .i64 (a : Int))).setCell ⟨go, i * 2 + 1, none⟩ (.int .i64 (b : Int))) := by
  obtain ⟨hP, hgr⟩ := h.p.set (by rw [pairs_len]) i hi (a : Int) (b : Int)
  rw [pairs_set] at hP
  have hk := Kept.of_grown (X := fun k => k = go) hgr (fun k hk => by cases hk; rfl)
  have h1 := h.od; have h2 := h.dl; have h3 := h.lt
  refine ⟨⟨hP, hk.own h.d (fun j hj e => ?_), hk.own h.l (fun j hj e => ?_), hk.own h.t (fun j hj e => ?_), h.od, h.dl, h.lt, h.b⟩, hk⟩
  · have := own_ne hj; omega
  · have := own_ne hj; omega
  · have := own_ne hj; omega
theorem RdS.there {B : Nat} {w : World} {go gd gl gt n : Nat} {out : Nat → Nat × Nat} {o : List Nat} {ld : Nat → Int} {th : Nat → Bool} (h : RdS B w go gd gl gt n out o ld th) {m : Nat} (h1 : 1 ≤ m) (h6 : m ≤ 6) : RdS B (w.setCell ⟨gt, m, none⟩ (.bool true)) go gd gl gt n out o ld (updB th m) ∧ Kept (fun k => k = gt) w (w.setCell ⟨gt, m, none⟩ (.bool true)) := by
  have hk : Kept (fun k => k = gt) w (w.setCell ⟨gt, m, none⟩ (.bool true)) := Kept.of_grown (h.t.setBelow m _) (fun k hk => by cases hk; rfl)
  have h1' := h.od; have h2 := h.dl; have h3 := h.lt
  refine ⟨⟨hk.own h.p (fun j hj e => ?_), hk.own h.d (fun j hj e => ?_), hk.own h.l (fun j hj e => ?_), by rw [← tV_set th h1 h6]; exact h.t.set m _, h.od, h.dl, h.lt, h.b⟩, hk⟩
  · have := own_ne hj; omega
  · have := own_ne hj; omega
  · have := own_ne hj; omega
theorem RdS.congr {B : Nat} {w : World} {go gd gl gt n : Nat} {out : Nat → Nat × Nat} {o : List Nat} {ld : Nat → Int} {th th' : Nat → Bool} (h : RdS B w go gd gl gt n out o ld th) (ht : ∀ k, 1 ≤ k → k ≤ 6 → th k = th' k) : RdS B w go gd gl gt n out o ld th' :=
  ⟨h.p, h.d, h.l, by rw [← tV_congr ht]; exact h.t, h.od, h.dl, h.lt, h.b⟩
theorem RdS.doneK {B : Nat} {w : World} {go gd gl gt n : Nat} {out : Nat → Nat × Nat} {o : List Nat} {ld : Nat → Int} {th : Nat → Bool} (h : RdS B w go gd gl gt n out o ld th) (i : Nat) : Kept (fun k => k = gd) w (w.setCell ⟨gd, i, none⟩ (.bool true)) := Kept.of_grown (h.d.setBelow i _) (fun k hk => by cases hk; rfl)
theorem th_more {live : List Int} {k : Nat} {m : Nat} (hx : live[k]? = some (m : Int)) : ∀ j, 1 ≤ j → j ≤ 6 → updB (thT (live.take k)) m j = thT (live.take (k + 1)) j := fun j _ _ => by
  rw [th_take hx]
  unfold updB
  by_cases e : j = m
  · subst e; simp
  · rw [if_neg e]
    have : (((m : Nat) : Int) == (j : Int)) = false := by simp; omega
    rw [this, Bool.or_false]
theorem th_odd {live : List Int} {k : Nat} {x : Int} (hx : live[k]? = some x) (ho : x < 1 ∨ 6 < x) : ∀ j, 1 ≤ j → j ≤ 6 → thT (live.take k) j = thT (live.take (k + 1)) j := fun j _ _ => by
  rw [th_take hx]
  have : (x == (j : Int)) = false := by simp; omega
  rw [this, Bool.or_false]
theorem th_same {live : List Int} {k : Nat} {m : Nat} (hx : live[k]? = some (m : Int)) (ht : thT (live.take k) m = true) : ∀ j, 1 ≤ j → j ≤ 6 → thT (live.take k) j = thT (live.take (k + 1)) j := fun j _ _ => by
  rw [th_take hx]
  by_cases e : j = m
  · subst e; rw [ht]; rfl
  · have : (((m : Nat) : Int) == (j : Int)) = false := by simp; omega
    rw [this, Bool.or_false]
end Go.Proofs.Ytpbinkmeldkehaa
namespace Go.Proofs.Ytpbinkmeldkehaa

def sumD (f : Nat → Int) : Nat → Int
  | 0 => 0
  | k + 1 => sumD f k + f k
theorem sumD_congr {f g : Nat → Int} : ∀ N, (∀ j, j < N → f j = g j) → sumD f N = sumD g N
  | 0, _ => rfl
  | N + 1, h => by rw [sumD, sumD, sumD_congr N fun j hj => h j (by omega), h N (by omega)]
theorem sumD_upd {f g : Nat → Int} {i : Nat} {c : Int} (hi : g i = f i + c) (hj : ∀ j, j ≠ i → g j = f j) : ∀ N, i < N → sumD g N = sumD f N + c
  | 0, h => by omega
  | N + 1, h => by
    rw [sumD, sumD]
    by_cases he : i = N
    · subst he
      rw [sumD_congr i fun j hlt => hj j (by omega), hi]
      omega
    · rw [sumD_upd hi hj N (by omega), hj N (fun h => he h.symm)]
      omega
/-- What m has of those that are dealt. -/
def hasS (s : Nat → Int) (D : List Nat) (out : Nat → Nat × Nat) (m i : Nat) : Int := if i ∈ D ∧ ((out i).1 = m ∨ (out i).2 = m) then s i else 0
structure Fit (th : Nat → Bool) (room : Int) (s : Nat → Int) (N : Nat) (D : List Nat) (ld : Nat → Int) (out : Nat → Nat × Nat) : Prop where
  one : ∀ i ∈ D, 1 ≤ (out i).1 ∧ (out i).1 ≤ 6 ∧ th (out i).1 = true ∧ (out i).1 ≠ (out i).2
  two : ∀ i ∈ D, (out i).2 ≤ 6
  twoT : ∀ i ∈ D, 1 < cntT th → 1 ≤ (out i).2 ∧ th (out i).2 = true
  twoN : ∀ i ∈ D, cntT th ≤ 1 → (out i).2 = 0
  sum : ∀ m, 1 ≤ m → ld m = sumD (hasS s D out m) N
  fits : ∀ m, 1 ≤ m → m ≤ 6 → 0 ≤ ld m ∧ ld m ≤ max room 0
theorem next_at {th : Nat → Bool} {wt : Nat → Nat} {room : Int} {ld : Nat → Int} {c : Int} (h1 : oneOf th wt room ld c ≠ 0) (m : Nat) (hm : 1 ≤ m) : nextL th wt room ld c m = ld m + if oneOf th wt room ld c = m ∨ twoOf th wt room ld c = m then c else 0 := by
  have hne : oneOf th wt room ld c ≠ twoOf th wt room ld c := fun h => by
    have h2 : twoOf th wt room ld c ≠ 0 := h ▸ h1
    obtain ⟨_, _, _, h3, _⟩ := giveN_in (n := twoOf th wt room ld c) rfl h2
    exact h3 h.symm
  unfold nextL ldUp
  by_cases a1 : oneOf th wt room ld c = m
  · have a2 : ¬ m = twoOf th wt room ld c := fun h => hne (a1.trans h)
    rw [if_neg (fun h => a2 h.1), if_pos ⟨a1.symm, h1⟩, if_pos (.inl a1)]
  · by_cases a2 : twoOf th wt room ld c = m
    · rw [if_pos ⟨a2.symm, by omega⟩, if_neg (fun h => a1 h.1.symm), if_pos (.inr a2)]
    · rw [if_neg (fun h => a2 h.1.symm), if_neg (fun h => a1 h.1.symm), if_neg (fun h => h.elim a1 a2)]
      omega
theorem fit_go {th : Nat → Bool} {wt : Nat → Nat} {room : Int} {s : Nat → Int} {N : Nat} (hs : ∀ i, 0 ≤ s i) : ∀ (o D : List Nat) (ld : Nat → Int) (out : Nat → Nat × Nat), Fit th room s N D ld out → (∀ i ∈ o, i < N ∧ i ∉ D) → o.Nodup → ∀ st, dealF th wt room (cntT th) s o ld out = some st → Fit th room s N (D ++ o) st.1 st.2
  | [], D, ld, out, h, _, _, st, hst => by cases hst; simpa using h
  | i :: o, D, ld, out, h, hm, hnd, st, hst => by
    rw [dealF] at hst
    split at hst
    · cases hst
    · rename_i hbad
      have hbad : badG th wt room (cntT th) ld (s i) = false := by simpa using hbad
      unfold badG at hbad
      rw [Bool.or_eq_false_iff, beq_eq_false_iff_ne] at hbad
      obtain ⟨b1, b2⟩ := hbad
      obtain ⟨p1, p2, p3, _, p5⟩ := giveN_in (n := oneOf th wt room ld (s i)) rfl b1
      have hiN := hm i (by simp)
      rw [List.nodup_cons] at hnd
      have key : Fit th room s N (D ++ [i]) (nextL th wt room ld (s i)) (fun j => if j = i then (oneOf th wt room ld (s i), twoOf th wt room ld (s i)) else out j) := by
        have hs0 := hs i
        refine ⟨?_, ?_, ?_, ?_, ?_, ?_⟩
        · intro j hj
          by_cases hji : j = i
          · subst hji
            simp only [if_pos]
            refine ⟨p1, p2, p3, fun h => ?_⟩
            have h2 : twoOf th wt room ld (s j) ≠ 0 := h ▸ b1
            exact (giveN_in (n := twoOf th wt room ld (s j)) rfl h2).2.2.2.1 h.symm
          · simp only [if_neg hji]
            exact h.one j (by simpa [hji] using hj)
        · intro j hj
          by_cases hji : j = i
          · subst hji
            simp only [if_pos]
            by_cases h2 : twoOf th wt room ld (s j) = 0
            · omega
            · exact (giveN_in (n := twoOf th wt room ld (s j)) rfl h2).2.1
          · simp only [if_neg hji]
            exact h.two j (by simpa [hji] using hj)
        · intro j hj hc
          by_cases hji : j = i
          · subst hji
            simp only [if_pos]
            have h2 : twoOf th wt room ld (s j) ≠ 0 := fun h0 => by
              rw [h0] at b2
              simp [hc] at b2
            have := giveN_in (n := twoOf th wt room ld (s j)) rfl h2
            exact ⟨this.1, this.2.2.1⟩
          · simp only [if_neg hji]
            exact h.twoT j (by simpa [hji] using hj) hc
        · intro j hj hc
          by_cases hji : j = i
          · subst hji
            simp only [if_pos]
            exact two_none hc p1 p2 p3
          · simp only [if_neg hji]
            exact h.twoN j (by simpa [hji] using hj) hc
        · intro m hm1
          rw [next_at b1 m hm1, h.sum m hm1]
          refine (sumD_upd (i := i) ?_ (fun j hji => ?_) N hiN.1).symm
          · have e0 : hasS s D out m i = 0 := if_neg fun hh => hiN.2 hh.1
            rw [e0, Int.zero_add]
            unfold hasS
            simp
          · unfold hasS
            simp [hji]
        · intro m h1 h6
          have hf := h.fits m h1 h6
          rw [next_at b1 m h1]
          split
          · rename_i hor
            rcases hor with hh | hh
            · subst hh; omega
            · have h2 : twoOf th wt room ld (s i) ≠ 0 := by omega
              obtain ⟨_, _, _, q4, q5⟩ := giveN_in (n := twoOf th wt room ld (s i)) rfl h2
              rw [hh] at q4 q5
              unfold ldUp at q5
              rw [if_neg (fun h => q4 h.1)] at q5
              omega
          · omega
      have := fit_go hs o (D ++ [i]) _ _ key (fun j hj => ⟨(hm j (List.mem_cons_of_mem _ hj)).1, fun hh => by
        rw [List.mem_append, List.mem_singleton] at hh
        rcases hh with hh | rfl
        · exact (hm j (List.mem_cons_of_mem _ hj)).2 hh
        · exact hnd.1 hj⟩) hnd.2 st hst
      rw [List.append_assoc] at this
      exact this
theorem sumD_zero : ∀ {f : Nat → Int} (N : Nat), (∀ j, f j = 0) → sumD f N = 0
  | _, 0, _ => rfl
  | f, N + 1, h => by rw [sumD, sumD_zero N h, h N]; rfl
theorem fit_nil (th : Nat → Bool) (room : Int) (s : Nat → Int) (N : Nat) (out : Nat → Nat × Nat) : Fit th room s N [] (fun _ => 0) out :=
  ⟨fun _ h => (List.not_mem_nil h).elim, fun _ h => (List.not_mem_nil h).elim, fun _ h => (List.not_mem_nil h).elim, fun _ h => (List.not_mem_nil h).elim, fun m _ => (sumD_zero N fun j => by unfold hasS; simp).symm, fun m _ _ => by omega⟩
theorem ord_nodup {K : Nat → Int} {n : Nat} {o : List Nat} (h : IsOrd K n o) : o.Nodup :=
  h.2.imp fun {a b} hab he => by subst he; unfold ahead at hab; omega
end Go.Proofs.Ytpbinkmeldkehaa
namespace Go.Proofs.Ytpbinkmeldkehaa
open Go Go.RowKit
set_option maxRecDepth 20000

/-- A bit of a cube: 0, 1, or 2, if it is free. -/
def atI (V M : List Int) (i : Nat) : Int := if bt M i then (if bt V i then 1 else 0) else 2
theorem at_ne2 (V M : List Int) (i : Nat) : (atI V M i != 2) = bt M i := by
  unfold atI; cases bt M i <;> cases bt V i <;> rfl
theorem at_eq1 (V M : List Int) (i : Nat) : (atI V M i == 1) = (bt V i && bt M i) := by
  unfold atI; cases bt M i <;> cases bt V i <;> rfl
theorem at_cases (V M : List Int) (i : Nat) : atI V M i = 0 ∨ atI V M i = 1 ∨ atI V M i = 2 := by
  unfold atI; cases bt M i <;> cases bt V i <;> simp

set_option maxHeartbeats 1000000 in
theorem at_any (V M : List Int) (hV : Byt V) (hM : Byt M) (i : Nat) (hi : i < 104) (w : World) :
    Calls Try.prog 68 #[.agg (cv V M), .int .i64 (i : Int)] w fun e w' => e = .returned (.int .i64 (atI V M i)) ∧ Below w.heap.size w w' := by
  have hVl := hV.1
  have hMl := hM.1
  have CM : Hid (∀ W, Calls Try.prog 87 #[.agg (hv M), .int .i64 (i : Int)] W fun e w' => e = .returned (.bool (bt M i)) ∧ Below W.heap.size W w') := rbit_nat M hM i hi
  have CV : Hid (∀ W, Calls Try.prog 87 #[.agg (hv V), .int .i64 (i : Int)] W fun e w' => e = .returned (.bool (bt V i)) ∧ Below W.heap.size W w') := rbit_nat V hV i hi
  clear hV hM
  unfold atI
  obtain ⟨bm, hbm⟩ : ∃ b, b = bt M i := ⟨_, rfl⟩
  obtain ⟨bv, hbv⟩ : ∃ b, b = bt V i := ⟨_, rfl⟩
  rw [← hbm] at CM ⊢
  rw [← hbv] at CV ⊢
  clear hbm hbv
  go_enter Try.func68, Try.ntmps68
  go_wp2_with (first
    | (refine wl_loadM rfl _ rfl w.heap.size rfl V M (heap_new _ _ _ rfl) hVl hMl ?_))
  refine (CM.out _).mono ?_
  rintro e w1 ⟨rfl, hb1⟩
  have g0 : w1.heap[w.heap.size]? = some (.cells (cv V M) 42 (0, 0)) := by rw [hb1.block _ (by simp)]; exact heap_new _ _ _ rfl
  have B1 : Below w.heap.size w w1 := ((Below.refl _ _).alloc (Nat.le_refl _) _).trans (hb1.mono (by simp))
  clear hb1 CM
  cases bm
  · go_wp2_with fail
    go_ret
    exact ⟨rfl, B1⟩
  · go_wp2_with (first
      | (refine wl_loadV rfl _ rfl w.heap.size rfl V M g0 hVl ?_))
    refine (CV.out _).mono ?_
    rintro e w2 ⟨rfl, hb2⟩
    have B2 := B1.trans (hb2.mono B1.size)
    clear hb2 CV
    cases bv
    · go_wp2_with fail
      go_ret
      exact ⟨rfl, B2⟩
    · go_wp2_with fail
      go_ret
      exact ⟨rfl, B2⟩

set_option maxHeartbeats 1000000 in
theorem rset_any (V M : List Int) (hV : Byt V) (hM : Byt M) (i : Nat) (hi : i < 104) (v : Int) (w : World) :
    Calls Try.prog 72 #[.agg (cv V M), .int .i64 (i : Int), .int .i64 v] w fun e w' => e = .returned (.agg (cv (setb V i (v == 1)) (setb M i (v != 2)))) ∧ Below w.heap.size w w' := by
  have hVl := hV.1
  have hMl := hM.1
  have hFl : (setb M i (v != 2)).length = 13 := (setb_byt M i _).1
  have hGl : (setb V i (v == 1)).length = 13 := (setb_byt V i _).1
  have C1 : Hid (∀ W, Calls Try.prog 92 #[.agg (hv M), .int .i64 (i : Int), .bool (v != 2)] W fun e w' => e = .returned (.agg (hv (setb M i (v != 2)))) ∧ Below W.heap.size W w') := rput_nat M hM i hi _
  have C2 : Hid (∀ W, Calls Try.prog 92 #[.agg (hv V), .int .i64 (i : Int), .bool (v == 1)] W fun e w' => e = .returned (.agg (hv (setb V i (v == 1)))) ∧ Below W.heap.size W w') := rput_nat V hV i hi _
  clear hV hM
  obtain ⟨N, hN⟩ : ∃ N, N = setb M i (v != 2) := ⟨_, rfl⟩
  obtain ⟨U, hU⟩ : ∃ U, U = setb V i (v == 1) := ⟨_, rfl⟩
  rw [← hN] at C1 hFl ⊢
  rw [← hU] at C2 hGl ⊢
  clear hN hU
  go_enter Try.func72, Try.ntmps72
  have g0 : ((w.alloc (.cells (cv V M) 42)).alloc (.cells zeroC 42)).heap[w.heap.size]? = some (.cells (cv V M) 42 (0, 0)) := heap_past _ _ _ _ (heap_new _ _ _ rfl)
  have g1 : ((w.alloc (.cells (cv V M) 42)).alloc (.cells zeroC 42)).heap[w.heap.size + 1]? = some (.cells zeroC 42 (0, 0)) := heap_new _ _ _ (by simp)
  have hb : Below w.heap.size w ((w.alloc (.cells (cv V M) 42)).alloc (.cells zeroC 42)) := ((Below.refl _ _).alloc (Nat.le_refl _) _).alloc (by simp) _
  go_wp2_with (first
    | (refine wl_loadM rfl _ rfl w.heap.size rfl V M g0 hVl hMl ?_))
  refine (C1.out _).mono ?_
  rintro e w2 ⟨rfl, hb2⟩
  have m0 : w2.heap[w.heap.size]? = some (.cells (cv V M) 42 (0, 0)) := by rw [hb2.block _ (by simp; omega)]; exact g0
  have m1 : w2.heap[w.heap.size + 1]? = some (.cells zeroC 42 (0, 0)) := by rw [hb2.block _ (by simp)]; exact g1
  have hz2 : w.heap.size + 2 ≤ w2.heap.size := Nat.le_trans (by simp) hb2.size
  have hB2 := hb.trans (hb2.mono hb.size)
  clear g0 g1 hb hb2 C1
  have n0 : (w2.setRow w.heap.size (cv V N)).heap[w.heap.size]? = some (.cells (cv V N) 42 (0, 0)) := setRow_heap _ _ _ _ _ _ m0
  have n1 : (w2.setRow w.heap.size (cv V N)).heap[w.heap.size + 1]? = some (.cells zeroC 42 (0, 0)) := (setRow_other _ _ _ _ (by omega)).trans m1
  go_wp2_with (first
    | (refine wl_storeM rfl _ _ rfl w.heap.size rfl V M N rfl hVl hMl hFl m0 _ rfl ?_)
    | (refine wl_loadV rfl _ rfl w.heap.size rfl V N n0 hVl ?_))
  refine (C2.out _).mono ?_
  rintro e w3 ⟨rfl, hb3⟩
  have p0 : w3.heap[w.heap.size]? = some (.cells (cv V N) 42 (0, 0)) := by rw [hb3.block _ (by simp; omega)]; exact n0
  have p1 : w3.heap[w.heap.size + 1]? = some (.cells zeroC 42 (0, 0)) := by rw [hb3.block _ (by simp; omega)]; exact n1
  have hB3 := (below_setRow hB2 (Nat.le_refl _) (cv V N)).trans (hb3.mono (by simpa using hB2.size))
  clear m0 m1 n0 n1 hB2 hb3 hz2 C2
  have q0 : (w3.setRow w.heap.size (cv U N)).heap[w.heap.size]? = some (.cells (cv U N) 42 (0, 0)) := setRow_heap _ _ _ _ _ _ p0
  have q1 : (w3.setRow w.heap.size (cv U N)).heap[w.heap.size + 1]? = some (.cells zeroC 42 (0, 0)) := (setRow_other _ _ _ _ (by omega)).trans p1
  go_wp2_with (first
    | (refine wl_storeV rfl _ _ rfl w.heap.size rfl V N U rfl hVl hFl hGl p0 _ rfl ?_)
    | (refine wl_loadC rfl _ rfl w.heap.size rfl U N q0 hGl hFl ?_)
    | (refine wl_storeC rfl _ _ rfl (w.heap.size + 1) U N rfl rfl _ q1 rfl hGl hFl _ rfl ?_))
  refine retC (p := 6) rfl rfl (w.heap.size + 1) rfl _ _ hGl hFl (setRow_heap _ _ _ _ _ _ q1) ⟨rfl, ?_⟩
  exact below_setRow (below_setRow hB3 (Nat.le_refl _) _) (by omega) _

/-- The bits ahead of a place, all others nought. -/
def upto (k : Nat) (f : Nat → Bool) : List Int := mk fun j => decide (j < k) && f j
theorem upto_byt (k : Nat) (f : Nat → Bool) : Byt (upto k f) := mk_byt _
theorem upto_zero (f : Nat → Bool) : upto 0 f = Z := mk_ext _ _ fun i _ => by simp
theorem upto_all (f : Nat → Bool) : upto 104 f = mk f := mk_ext _ _ fun i hi => by simp [hi]
theorem upto_succ (k : Nat) (f : Nat → Bool) : setb (upto k f) k (f k) = upto (k + 1) f :=
  mk_ext _ _ fun i hi => by
    by_cases e : i = k
    · subst e; simp
    · rw [if_neg e]
      unfold upto
      rw [mk_bt _ i hi]
      congr 1
      rw [decide_eq_decide]
      omega
end Go.Proofs.Ytpbinkmeldkehaa
namespace Go.Proofs.Ytpbinkmeldkehaa
open Go Go.RowKit
set_option maxRecDepth 20000

/-- Has the second cube all that the first one has? -/
def within (V M V' M' : List Int) : Bool := (List.range 104).all fun i => !(bt M' i) || (bt M i && (bt V i == bt V' i))
theorem within_iff (V M V' M' : List Int) : within V M V' M' = true ↔ ∀ i, i < 104 → bt M' i = true → bt M i = true ∧ bt V i = bt V' i := by
  unfold within
  simp only [List.all_eq_true, List.mem_range, Bool.or_eq_true, Bool.not_eq_true', Bool.and_eq_true, beq_iff_eq]
  constructor
  · intro h i hi hm
    rcases h i hi with h' | h'
    · rw [h'] at hm; cases hm
    · exact h'
  · intro h i hi
    cases hm : bt M' i
    · exact .inl rfl
    · exact .inr (h i hi hm)

theorem within_eq (V M V' M' : List Int) (hM : Byt M) (h : meets V M V' M' = true) : (meetV V M V' M' == can V M && meetM M M' == M) = within V M V' M' := by
  rw [Bool.eq_iff_iff, Bool.and_eq_true, beq_iff_eq, beq_iff_eq, within_iff]
  have hm := (meets_iff V M V' M').1 h
  constructor
  · rintro ⟨_, g2⟩ i hi h1
    have e2 : bt (meetM M M') i = (bt M i || bt M' i) := mk_bt _ i hi
    rw [g2, h1, Bool.or_true] at e2
    exact ⟨e2, hm i hi e2 h1⟩
  · intro g
    refine ⟨mk_ext _ _ fun i hi => ?_, (mk_eq M hM _ fun i hi => ?_).symm⟩
    · have := g i hi
      revert this
      cases bt V i <;> cases bt V' i <;> cases bt M i <;> cases bt M' i <;> simp
    · have := g i hi
      revert this
      cases bt M i <;> cases bt M' i <;> simp
theorem within_no (V M V' M' : List Int) (h : meets V M V' M' = false) : within V M V' M' = false := by
  cases e : within V M V' M'
  · rfl
  · rw [within_iff] at e
    have : meets V M V' M' = true := (meets_iff _ _ _ _).2 fun i hi _ h2 => (e i hi h2).2
    rw [h] at this; cases this

set_option maxHeartbeats 2000000 in
theorem within_yes_any (V M V' M' : List Int) (hV : Byt V) (hM : Byt M) (hV' : Byt V') (hM' : Byt M') (h : meets V M V' M' = true) (w : World) :
    Calls Try.prog 80 #[.agg (cv V M), .agg (cv V' M')] w fun e w' => e = .returned (.bool (within V M V' M')) ∧ Below w.heap.size w w' := by
  have hVl := hV.1
  have hMl := hM.1
  have hVl' := hV'.1
  have hMl' := hM'.1
  have hAl := (meetV_byt V M V' M').1
  have hBl := (meetM_byt M M').1
  have hCl := (can_byt V M).1
  obtain ⟨r, hr⟩ : ∃ r, r = within V M V' M' := ⟨_, rfl⟩
  have C1 : Hid (∀ W, Calls Try.prog 59 #[.agg (cv V M), .agg (cv V' M')] W fun e w' => e = .returned (.tuple #[.agg (cv (meetV V M V' M') (meetM M M')), .bool true]) ∧ Below W.heap.size W w') := by
    have := meet_any V M V' M' hV hM hV' hM'; rwa [meetR_yes _ _ _ _ h] at this
  have C2 : Hid (∀ W, Calls Try.prog 79 #[.agg (cv V M)] W fun e w' => e = .returned (.agg (cv (can V M) M)) ∧ Below W.heap.size W w') := canon_any V M hV hM
  have e1 : ∀ w, (Op.equalIn 10000 42 (.agg (cv (meetV V M V' M') (meetM M M'))) (.agg (cv (can V M) M))).run Try.prog w = .ok r w := fun w => by rw [eqC _ _ _ _ hAl hBl hCl hMl, within_eq V M V' M' hM h, hr]
  have eg : ∀ op x y (xs ys : Array Value) w, (eqGuard op 42 x y (.agg xs) (.agg ys)).run Try.prog w = .ok () w := egC
  rw [← hr]
  clear hV hM hV' hM' h hr
  go_enter Try.func80, Try.ntmps80
  go_wp2_with (first
    | (refine wl_loadC rfl _ rfl w.heap.size rfl V M (heap_past _ _ _ _ (heap_new _ _ _ rfl)) hVl hMl ?_)
    | (refine wl_loadC rfl _ rfl (w.heap.size + 1) rfl V' M' (heap_new _ _ _ (by simp)) hVl' hMl' ?_))
  refine (C1.out _).mono ?_
  rintro e w1 ⟨rfl, hb1⟩
  have g0 : w1.heap[w.heap.size]? = some (.cells (cv V M) 42 (0, 0)) := by rw [hb1.block _ (by simp; omega)]; exact heap_past _ _ _ _ (heap_new _ _ _ rfl)
  have B1 : Below w.heap.size w w1 := (((Below.refl _ _).alloc (Nat.le_refl _) _).alloc (by simp) _).trans (hb1.mono (by simp; omega))
  clear hb1 C1
  have n0 := heap_past w1 (.cells (cv (meetV V M V' M') (meetM M M')) 42) _ _ g0
  have n1 := heap_new w1 (.cells (cv (meetV V M V' M') (meetM M M')) 42) _ rfl
  have B5 := B1.alloc B1.size (.cells (cv (meetV V M V' M') (meetM M M')) 42)
  obtain ⟨W, hW⟩ : ∃ W, W = w1.alloc (.cells (cv (meetV V M V' M') (meetM M M')) 42) := ⟨_, rfl⟩
  go_wp2_with (first
    | (refine wl_storeC rfl _ _ rfl w1.heap.size _ _ rfl rfl _ (heap_new _ _ _ rfl) rfl hAl hBl _ (setRow_new _ _ _ _ _ rfl) ?_))
  rw [← hW] at n0 n1 B5 ⊢
  clear hW g0 B1
  have ne1 := Later.ne W
  refine wp_region_later (by kernel_rfl) (by kernel_rfl) ?_
  go_big_quiet_step (fail)
  go_big_quiet_step (fail)
  refine qlC rfl _ rfl w1.heap.size rfl (meetV V M V' M') (meetM M M') n1 hAl hBl ?_
  simp only [Act.put, List.setIfInBounds_toArray, List.set_cons_succ, List.set_cons_zero]
  refine qlC rfl _ rfl w.heap.size rfl V M n0 hVl hMl ?_
  simp only [Act.put, List.setIfInBounds_toArray, List.set_cons_succ, List.set_cons_zero]
  go_big_quiet_want; go_big_quiet_op
  refine ⟨_, fun u => Calls.later_of (C2.out u.world), ?_⟩
  go_big_quiet_on
  go_big_quiet_step (fail)
  go_big_quiet_step (fail)
  go_big_quiet_step (fail)
  refine wpQuiet_nil ?_
  rintro w' ⟨u, rfl⟩
  go_wp2
  go_ret
  exact ⟨rfl, B5.trans (u.below.mono B5.size)⟩

set_option maxHeartbeats 2000000 in
theorem within_no_any (V M V' M' : List Int) (hV : Byt V) (hM : Byt M) (hV' : Byt V') (hM' : Byt M') (h : meets V M V' M' = false) (w : World) :
    Calls Try.prog 80 #[.agg (cv V M), .agg (cv V' M')] w fun e w' => e = .returned (.bool false) ∧ Below w.heap.size w w' := by
  have hVl := hV.1
  have hMl := hM.1
  have hVl' := hV'.1
  have hMl' := hM'.1
  have hzl := Z_byt.1
  have C1 : Hid (∀ W, Calls Try.prog 59 #[.agg (cv V M), .agg (cv V' M')] W fun e w' => e = .returned (.tuple #[.agg (cv Z Z), .bool false]) ∧ Below W.heap.size W w') := by
    have := meet_any V M V' M' hV hM hV' hM'; rwa [meetR_no _ _ _ _ h] at this
  clear hV hM hV' hM' h
  go_enter Try.func80, Try.ntmps80
  go_wp2_with (first
    | (refine wl_loadC rfl _ rfl w.heap.size rfl V M (heap_past _ _ _ _ (heap_new _ _ _ rfl)) hVl hMl ?_)
    | (refine wl_loadC rfl _ rfl (w.heap.size + 1) rfl V' M' (heap_new _ _ _ (by simp)) hVl' hMl' ?_))
  refine (C1.out _).mono ?_
  rintro e w1 ⟨rfl, hb1⟩
  have B1 : Below w.heap.size w w1 := (((Below.refl _ _).alloc (Nat.le_refl _) _).alloc (by simp) _).trans (hb1.mono (by simp; omega))
  clear hb1 C1
  have B5 := B1.alloc B1.size (.cells (cv Z Z) 42)
  obtain ⟨W, hW⟩ : ∃ W, W = w1.alloc (.cells (cv Z Z) 42) := ⟨_, rfl⟩
  go_wp2_with (first
    | (refine wl_storeC rfl _ _ rfl w1.heap.size Z Z rfl rfl _ (heap_new _ _ _ rfl) rfl hzl hzl _ (setRow_new _ _ _ _ _ rfl) ?_))
  rw [← hW] at B5 ⊢
  clear hW B1
  have ne1 := Later.ne W
  refine wp_region_later (by kernel_rfl) (by kernel_rfl) ?_
  go_big_quiet_step (fail)
  go_big_quiet_step (fail)
  go_big_quiet_step (fail)
  go_big_quiet_step (fail)
  go_big_quiet_step (fail)
  go_big_quiet_step (fail)
  go_big_quiet_step (fail)
  go_big_quiet_step (fail)
  refine wpQuiet_nil ?_
  rintro w' ⟨u, rfl⟩
  go_wp2
  go_ret
  exact ⟨rfl, B5.trans (u.below.mono B5.size)⟩

theorem within_any (V M V' M' : List Int) (hV : Byt V) (hM : Byt M) (hV' : Byt V') (hM' : Byt M') (w : World) :
    Calls Try.prog 80 #[.agg (cv V M), .agg (cv V' M')] w fun e w' => e = .returned (.bool (within V M V' M')) ∧ Below w.heap.size w w' := by
  cases h : meets V M V' M'
  · rw [within_no V M V' M' h]; exact within_no_any V M V' M' hV hM hV' hM' h w
  · exact within_yes_any V M V' M' hV hM hV' hM' h w

set_option maxHeartbeats 2000000 in
theorem rwithin_any (V M V' M' : List Int) (hV : Byt V) (hM : Byt M) (hV' : Byt V') (hM' : Byt M') (w : World) :
    Calls Try.prog 88 #[.agg (cv V M), .agg (cv V' M')] w fun e w' => e = .returned (.bool (within V M V' M')) ∧ Below w.heap.size w w' := by
  have hVl := hV.1
  have hMl := hM.1
  have hVl' := hV'.1
  have hMl' := hM'.1
  have CA : Hid (∀ k : Nat, k < 104 → ∀ W, Calls Try.prog 68 #[.agg (cv V M), .int .i64 (k : Int)] W fun e w' => e = .returned (.int .i64 (atI V M k)) ∧ Below W.heap.size W w') := fun k hk => at_any V M hV hM k hk
  have CB : Hid (∀ k : Nat, k < 104 → ∀ W, Calls Try.prog 68 #[.agg (cv V' M'), .int .i64 (k : Int)] W fun e w' => e = .returned (.int .i64 (atI V' M' k)) ∧ Below W.heap.size W w') := fun k hk => at_any V' M' hV' hM' k hk
  clear hV hM hV' hM'
  go_enter Try.func88, Try.ntmps88
  go_wp2_with fail
  go_loopw [5] (fun i wr => ∃ k : Nat, k ≤ 104 ∧ i = .int .i64 k ∧ (∀ j, j < k → bt M' j = true → bt M j = true ∧ bt V j = bt V' j) ∧ wr.heap[w.heap.size]? = some (.cells (cv V M) 42 (0, 0)) ∧ wr.heap[w.heap.size + 1]? = some (.cells (cv V' M') 42 (0, 0)) ∧ Below w.heap.size w wr) (fun i _ => 104 - (intOf i).toNat)
  case atStart => exact ⟨0, Nat.zero_le _, rfl, fun j hj => by omega, heap_past _ _ _ _ (heap_new _ _ _ rfl), heap_new _ _ _ (by simp), ((Below.refl _ _).alloc (Nat.le_refl _) _).alloc (by simp) _⟩
  case round =>
    obtain ⟨k, hk, rfl, hj, g0, g1, hb⟩ := hrel
    have HJ : Hid (∀ j, j < k → bt M' j = true → bt M j = true ∧ bt V j = bt V' j) := hj
    have hz := (Array.getElem?_eq_some_iff.1 g1).1
    clear hj
    by_cases hlt : k < 104
    · go_wp2_with (first
        | (refine wl_loadC rfl _ rfl (w.heap.size + 1) rfl V' M' g1 hVl' hMl' ?_))
      refine (CB.out k hlt _).mono ?_
      rintro e w1 ⟨rfl, hb1⟩
      have k0 : w1.heap[w.heap.size]? = some (.cells (cv V M) 42 (0, 0)) := by rw [hb1.block _ (by omega)]; exact g0
      have k1 : w1.heap[w.heap.size + 1]? = some (.cells (cv V' M') 42 (0, 0)) := by rw [hb1.block _ (by omega)]; exact g1
      have B1 := hb.trans (hb1.mono hb.size)
      have hz1 := Nat.lt_of_lt_of_le hz hb1.size
      clear g0 g1 hb hb1 hz
      by_cases hm : bt M' k = true
      · have HM : Hid (bt M' k = true) := hm
        have hy : (atI V' M' k != 2) = true := by rw [at_ne2]; exact hm
        obtain ⟨y, hye⟩ : ∃ y, y = atI V' M' k := ⟨_, rfl⟩
        obtain ⟨x, hxe⟩ : ∃ x, x = atI V M k := ⟨_, rfl⟩
        have hxy : (x != y) = !(bt M k && (bt V k == bt V' k)) := by
          rw [hxe, hye]; unfold atI; rw [hm]
          cases bt M k <;> cases bt V k <;> cases bt V' k <;> rfl
        have C1 : Hid (∀ W, Calls Try.prog 68 #[.agg (cv V M), .int .i64 (k : Int)] W fun e w' => e = .returned (.int .i64 x) ∧ Below W.heap.size W w') := by rw [hxe]; exact CA.out k hlt
        rw [← hye] at hy ⊢
        have HXY : Hid ((x != y) = !(bt M k && (bt V k == bt V' k))) := hxy
        clear hm hye hxe hxy
        by_cases hne : x = y
        · have hn : (x != y) = false := by simp [hne]
          have HN : Hid ((x != y) = false) := hn
          clear hne
          go_wp2_with (first
            | (refine wl_loadCg rfl _ rfl w.heap.size rfl V M k0 hVl hMl ?_))
          refine (C1.out _).mono ?_
          rintro e w2 ⟨rfl, hb2⟩
          have l0 : w2.heap[w.heap.size]? = some (.cells (cv V M) 42 (0, 0)) := by rw [hb2.block _ (by omega)]; exact k0
          have l1 : w2.heap[w.heap.size + 1]? = some (.cells (cv V' M') 42 (0, 0)) := by rw [hb2.block _ (by omega)]; exact k1
          have B2 := B1.trans (hb2.mono B1.size)
          clear k0 k1 hb2 C1 B1 hz1
          go_wp2_with fail
          go_roundw
          case rel =>
            refine ⟨k + 1, by omega, by go_num, fun j hj hm => ?_, l0, l1, B2⟩
            by_cases e : j = k
            · subst e
              have := HXY.out
              rw [HN.out] at this
              simpa using this.symm
            · exact HJ.out j (by omega) hm
          case measure => simp [intOf]; omega
        · have hn : (x != y) = true := by simpa using hne
          have HN : Hid ((x != y) = true) := hn
          clear hne
          go_wp2_with (first
            | (refine wl_loadCg rfl _ rfl w.heap.size rfl V M k0 hVl hMl ?_))
          refine (C1.out _).mono ?_
          rintro e w2 ⟨rfl, hb2⟩
          have B2 := B1.trans (hb2.mono B1.size)
          clear k0 k1 hb2 C1 B1 hz1
          go_wp2_with fail
          go_ret
          refine ⟨ret_bool ?_, B2⟩
          cases e : within V M V' M'
          · rfl
          · have h3 := (within_iff V M V' M').1 e k hlt HM.out
            have := HXY.out
            rw [HN.out, h3.1, h3.2] at this
            simp at this
      · have hm' : bt M' k = false := by simpa using hm
        have HM : Hid (bt M' k = false) := hm'
        have ea : atI V' M' k = 2 := by unfold atI; rw [hm']; rfl
        rw [ea]
        clear hm hm' ea
        go_wp2_with fail
        go_roundw
        case rel =>
          refine ⟨k + 1, by omega, by go_num, fun j hj hm => ?_, k0, k1, B1⟩
          by_cases e : j = k
          · subst e; rw [HM.out] at hm; cases hm
          · exact HJ.out j (by omega) hm
        case measure => simp [intOf]; omega
    · obtain rfl : k = 104 := by omega
      go_wp2_with fail
      go_ret
      exact ⟨ret_bool ((within_iff V M V' M').2 HJ.out).symm, hb⟩
end Go.Proofs.Ytpbinkmeldkehaa
