import Derived.Test.YtdaoeabnjfaoiaaJ12
import Derived.Test.YtdaoeabnjfaoiaaJ9
import Derived.Test.YtdaoeabnjfaoiaaJ14
namespace Go.Proofs.Ytdaoeabnjfaoiaa

def sumR (f : Nat → Int) : Nat → Int
  | 0 => 0
  | k + 1 => sumR f k + f k
theorem sumR_congr {f g : Nat → Int} : ∀ N, (∀ j, j < N → f j = g j) → sumR f N = sumR g N
  | 0, _ => rfl
  | N + 1, h => by rw [sumR, sumR, sumR_congr N fun j hj => h j (by omega), h N (by omega)]
theorem sumR_upd {f g : Nat → Int} {i : Nat} {c : Int} (hi : g i = f i + c) (hj : ∀ j, j ≠ i → g j = f j) : ∀ N, i < N → sumR g N = sumR f N + c
  | 0, h => by omega
  | N + 1, h => by
    rw [sumR, sumR]
    by_cases he : i = N
    · subst he
      rw [sumR_congr i fun j hlt => hj j (by omega), hi]
      omega
    · rw [sumR_upd hi hj N (by omega), hj N (fun h => he h.symm)]
      omega
/-- What m has of those that are dealt. -/
def hasS (s : Nat → Int) (D : List Nat) (out : Nat → Nat × Nat) (m i : Nat) : Int := if i ∈ D ∧ ((out i).1 = m ∨ (out i).2 = m) then s i else 0
structure Fit (th : Nat → Bool) (room : Int) (s : Nat → Int) (N : Nat) (D : List Nat) (ld : Nat → Int) (out : Nat → Nat × Nat) : Prop where
  one : ∀ i ∈ D, 1 ≤ (out i).1 ∧ (out i).1 ≤ 6 ∧ th (out i).1 = true ∧ (out i).1 ≠ (out i).2
  two : ∀ i ∈ D, (out i).2 ≤ 6
  twoT : ∀ i ∈ D, 1 < cntT th → 1 ≤ (out i).2 ∧ th (out i).2 = true
  twoN : ∀ i ∈ D, cntT th ≤ 1 → (out i).2 = 0
  sum : ∀ m, 1 ≤ m → ld m = sumR (hasS s D out m) N
  fits : ∀ m, 1 ≤ m → m ≤ 6 → 0 ≤ ld m ∧ ld m ≤ max room 0
theorem next_at {th : Nat → Bool} {wt : Nat → Nat} {room : Int} {ld : Nat → Int} {c : Int} (h1 : oneOf th wt room ld c ≠ 0) (m : Nat) (hm : 1 ≤ m) : nextL th wt room ld c m = ld m + if oneOf th wt room ld c = m ∨ twoOf th wt room ld c = m then c else 0 := by
  have hne : oneOf th wt room ld c ≠ twoOf th wt room ld c := fun h => by
    have h2 : twoOf th wt room ld c ≠ 0 := h ▸ h1
    obtain ⟨_, _, _, h3, _⟩ := giveN_in (n := twoOf th wt room ld c) rfl h2
    exact h3 h.symm
  unfold nextL ldUp
  by_cases a1 : oneOf th wt room ld c = m
  · have a2 : ¬ m = twoOf th wt room ld c := fun h => hne (a1.trans h)
    rw [if_neg (fun h => a2 h.1), if_pos ⟨a1.symm, h1⟩, if_pos (.inl a1)]
  · by_cases a2 : twoOf th wt room ld c = m
    · rw [if_pos ⟨a2.symm, by omega⟩, if_neg (fun h => a1 h.1.symm), if_pos (.inr a2)]
    · rw [if_neg (fun h => a2 h.1.symm), if_neg (fun h => a1 h.1.symm), if_neg (fun h => h.elim a1 a2)]
      omega
theorem fit_go {th : Nat → Bool} {wt : Nat → Nat} {room : Int} {s : Nat → Int} {N : Nat} (hs : ∀ i, 0 ≤ s i) : ∀ (o D : List Nat) (ld : Nat → Int) (out : Nat → Nat × Nat), Fit th room s N D ld out → (∀ i ∈ o, i < N ∧ i ∉ D) → o.Nodup → ∀ st, dealF th wt room (cntT th) s o ld out = some st → Fit th room s N (D ++ o) st.1 st.2
  | [], D, ld, out, h, _, _, st, hst => by cases hst; simpa using h
  | i :: o, D, ld, out, h, hm, hnd, st, hst => by
    rw [dealF] at hst
    split at hst
    · cases hst
    · rename_i hbad
      have hbad : badG th wt room (cntT th) ld (s i) = false := by simpa using hbad
      unfold badG at hbad
      rw [Bool.or_eq_false_iff, beq_eq_false_iff_ne] at hbad
      obtain ⟨b1, b2⟩ := hbad
      obtain ⟨p1, p2, p3, _, p5⟩ := giveN_in (n := oneOf th wt room ld (s i)) rfl b1
      have hiN := hm i (by simp)
      rw [List.nodup_cons] at hnd
      have key : Fit th room s N (D ++ [i]) (nextL th wt room ld (s i)) (fun j => if j = i then (oneOf th wt room ld (s i), twoOf th wt room ld (s i)) else out j) := by
        have hs0 := hs i
        refine ⟨?_, ?_, ?_, ?_, ?_, ?_⟩
        · intro j hj
          by_cases hji : j = i
          · subst hji
            simp only [if_pos]
            refine ⟨p1, p2, p3, fun h => ?_⟩
            have h2 : twoOf th wt room ld (s j) ≠ 0 := h ▸ b1
            exact (giveN_in (n := twoOf th wt room ld (s j)) rfl h2).2.2.2.1 h.symm
          · simp only [if_neg hji]
            exact h.one j (by simpa [hji] using hj)
        · intro j hj
          by_cases hji : j = i
          · subst hji
            simp only [if_pos]
            by_cases h2 : twoOf th wt room ld (s j) = 0
            · omega
            · exact (giveN_in (n := twoOf th wt room ld (s j)) rfl h2).2.1
          · simp only [if_neg hji]
            exact h.two j (by simpa [hji] using hj)
        · intro j hj hc
          by_cases hji : j = i
          · subst hji
            simp only [if_pos]
            have h2 : twoOf th wt room ld (s j) ≠ 0 := fun h0 => by
              rw [h0] at b2
              simp [hc] at b2
            have := giveN_in (n := twoOf th wt room ld (s j)) rfl h2
            exact ⟨this.1, this.2.2.1⟩
          · simp only [if_neg hji]
            exact h.twoT j (by simpa [hji] using hj) hc
        · intro j hj hc
          by_cases hji : j = i
          · subst hji
            simp only [if_pos]
            exact two_none hc p1 p2 p3
          · simp only [if_neg hji]
            exact h.twoN j (by simpa [hji] using hj) hc
        · intro m hm1
          rw [next_at b1 m hm1, h.sum m hm1]
          refine (sumR_upd (i := i) ?_ (fun j hji => ?_) N hiN.1).symm
          · have e0 : hasS s D out m i = 0 := if_neg fun hh => hiN.2 hh.1
            rw [e0, Int.zero_add]
            unfold hasS
            simp
          · unfold hasS
            simp [hji]
        · intro m h1 h6
          have hf := h.fits m h1 h6
          rw [next_at b1 m h1]
          split
          · rename_i hor
            rcases hor with hh | hh
            · subst hh; omega
            · have h2 : twoOf th wt room ld (s i) ≠ 0 := by omega
              obtain ⟨_, _, _, q4, q5⟩ := giveN_in (n := twoOf th wt room ld (s i)) rfl h2
              rw [hh] at q4 q5
              unfold ldUp at q5
              rw [if_neg (fun h => q4 h.1)] at q5
              omega
          · omega
      have := fit_go hs o (D ++ [i]) _ _ key (fun j hj => ⟨(hm j (List.mem_cons_of_mem _ hj)).1, fun hh => by
        rw [List.mem_append, List.mem_singleton] at hh
        rcases hh with hh | rfl
        · exact (hm j (List.mem_cons_of_mem _ hj)).2 hh
        · exact hnd.1 hj⟩) hnd.2 st hst
      rw [List.append_assoc] at this
      exact this
theorem sumR_zero : ∀ {f : Nat → Int} (N : Nat), (∀ j, f j = 0) → sumR f N = 0
  | _, 0, _ => rfl
  | f, N + 1, h => by rw [sumR, sumR_zero N h, h N]; rfl
theorem fit_nil (th : Nat → Bool) (room : Int) (s : Nat → Int) (N : Nat) (out : Nat → Nat × Nat) : Fit th room s N [] (fun _ => 0) out :=
  ⟨fun _ h => (List.not_mem_nil h).elim, fun _ h => (List.not_mem_nil h).elim, fun _ h => (List.not_mem_nil h).elim, fun _ h => (List.not_mem_nil h).elim, fun m _ => (sumR_zero N fun j => by unfold hasS; simp).symm, fun m _ _ => by omega⟩
theorem fit_loads {z : List Int} {out : Nat → Nat × Nat} {o : List Nat} (ho : ∀ i, i < z.length → i ∈ o) (m : Nat) : ∀ k, k ≤ z.length → ldS z (pairsT out z.length) (m : Int) k ≤ sumR (hasS (fun i => max (z.getD i 0) 0) o out m) k
  | 0, _ => Int.le_refl _
  | k + 1, hk => by
    have ih := fit_loads (out := out) ho m k (by omega)
    have h1 : z[k]? = some z[k] := List.getElem?_eq_getElem (by omega)
    have h2 : (pairsT out z.length)[k]? = some (((out k).1 : Int), ((out k).2 : Int)) := by unfold pairsT; rw [List.getElem?_map, List.getElem?_range (by omega)]; rfl
    rw [ldS, h1, h2, sumR]
    have hh : hasS (fun i => max (z.getD i 0) 0) o out m k = if (out k).1 = m ∨ (out k).2 = m then max z[k] 0 else 0 := by
      unfold hasS
      dsimp only
      rw [List.getD_eq_getElem?_getD, h1]
      simp [ho k (by omega)]
    rw [hh]
    dsimp only
    unfold clip13
    by_cases hc : (out k).1 = m ∨ (out k).2 = m
    · rw [if_pos hc, if_pos (by omega)]; omega
    · rw [if_neg hc, if_neg (by omega)]; omega
theorem ord_nodup {K : Nat → Int} {n : Nat} {o : List Nat} (h : IsOrd K n o) : o.Nodup :=
  h.2.imp fun {a b} hab he => by subst he; unfold ahead at hab; omega
theorem fit_room {z : List Int} {th : Nat → Bool} {wt : Nat → Nat} {room : Int} {K : Nat → Int} {o : List Nat} {st : (Nat → Int) × (Nat → Nat × Nat)} (ho : IsOrd K z.length o) (hn : z.length ≤ 4096)
    (h : dealF th wt room (cntT th) (fun i => max (z.getD i 0) 0) o (fun _ => 0) (fun _ => (0, 0)) = some st) :
    Fit th room (fun i => max (z.getD i 0) 0) z.length o st.1 st.2 ∧ ∀ m : Nat, 1 ≤ m → m ≤ 6 → loadsT z (pairsT st.2 z.length) (m : Int) ≤ max room 0 := by
  have hF := fit_go (N := z.length) (fun i => by omega) o [] _ _ (fit_nil th room _ z.length _) (fun i hi => ⟨(ho.1 i).1 hi, by simp⟩) (ord_nodup ho) st h
  rw [List.nil_append] at hF
  refine ⟨hF, fun m h1 h6 => ?_⟩
  have := hF.fits m h1 h6
  rw [hF.sum m h1] at this
  have h2 := fit_loads (out := st.2) (fun i hi => (ho.1 i).2 hi) m z.length (Nat.le_refl _)
  unfold loadsT
  rw [pairs_len, show min (min z.length z.length) 4096 = z.length by omega]
  omega
end Go.Proofs.Ytdaoeabnjfaoiaa
namespace Go.Proofs.Ytdaoeabnjfaoiaa

theorem whole_deal {s r : Int} {a b : Nat} (hs : 0 ≤ s) (hr : 0 ≤ r) (ha : 1 ≤ a) (ha6 : a ≤ 6) (hb : 1 ≤ b) (hb6 : b ≤ 6) (hne : a ≠ b) (wt : Nat → Nat) :
    ∃ st, dealF (thT [(b : Int), (a : Int)]) wt (s + r) (cntT (thT [(b : Int), (a : Int)])) (fun i => max (([s] : List Int).getD i 0) 0) [0] (fun _ => 0) (fun _ => (0, 0)) = some st ∧ (pairsT st.2 1 = [((a : Int), (b : Int))] ∨ pairsT st.2 1 = [((b : Int), (a : Int))]) := by
  obtain ⟨th, hth⟩ : ∃ th, th = thT [(b : Int), (a : Int)] := ⟨_, rfl⟩
  have ta : th a = true := by rw [hth]; simp [thT]
  have tb : th b = true := by rw [hth]; simp [thT]
  have tO : ∀ k, th k = true → k = a ∨ k = b := fun k hk => by
    rw [hth] at hk
    simp [thT] at hk
    omega
  rw [← hth]
  have e0 : max (([s] : List Int).getD 0 0) 0 = s := by show max s 0 = s; omega
  obtain ⟨x, hx⟩ : ∃ x, x = oneOf th wt (s + r) (fun _ => 0) s := ⟨_, rfl⟩
  obtain ⟨y, hy⟩ : ∃ y, y = twoOf th wt (s + r) (fun _ => 0) s := ⟨_, rfl⟩
  have hx0 : x ≠ 0 := by
    obtain ⟨⟨n, c⟩, hp⟩ := giveGo_some (th := th) (ld := fun _ => 0) (wt := wt) (room := s + r) (size := s) (but := 0) (k := 6) ha ha6 (by unfold mayG; rw [ta]; simp; omega)
    have := giveGo_in hp
    rw [hx]
    unfold oneOf giveN
    rw [hp]
    show n ≠ 0
    omega
  obtain ⟨x1, x6, xt, _, _⟩ := giveN_in (n := x) hx.symm hx0
  have hxx := tO x xt
  obtain ⟨c, hc, hcx, c1, c6, ct⟩ : ∃ c, (c = a ∨ c = b) ∧ c ≠ x ∧ 1 ≤ c ∧ c ≤ 6 ∧ th c = true := by
    rcases hxx with h | h
    · exact ⟨b, .inr rfl, by omega, hb, hb6, tb⟩
    · exact ⟨a, .inl rfl, by omega, ha, ha6, ta⟩
  have hy0 : y ≠ 0 := by
    obtain ⟨⟨n, q⟩, hp⟩ := giveGo_some (th := th) (ld := ldUp (fun _ => 0) x s) (wt := wt) (room := s + r) (size := s) (but := x) (k := 6) c1 c6 (by unfold mayG ldUp; rw [ct, if_neg (fun h => hcx h.1)]; simp; exact ⟨hcx, by omega⟩)
    have := giveGo_in hp
    rw [hy]
    unfold twoOf giveN
    rw [← hx, hp]
    show n ≠ 0
    omega
  have hyin : 1 ≤ y ∧ y ≤ 6 ∧ th y = true ∧ y ≠ x := by
    have h := giveN_in (th := th) (ld := ldUp (fun _ => 0) x s) (wt := wt) (room := s + r) (size := s) (but := x) (n := y) (by rw [hy]; unfold twoOf; rw [← hx]) hy0
    exact ⟨h.1, h.2.1, h.2.2.1, h.2.2.2.1⟩
  have hyy := tO y hyin.2.2.1
  rw [dealF, e0, if_neg (by unfold badG; rw [← hx, ← hy]; simp [hx0, hy0]), dealF]
  refine ⟨_, rfl, ?_⟩
  rw [← hx, ← hy]
  show [((x : Int), (y : Int))] = _ ∨ [((x : Int), (y : Int))] = _
  rcases hxx with rfl | rfl
  · left; have : y = b := by have := hyin.2.2.2; omega
    rw [this]
  · right; have : y = a := by have := hyin.2.2.2; omega
    rw [this]
theorem whole_ord (K : Nat → Int) : IsOrd K 1 [0] := ⟨fun i => by simp, by simp⟩
theorem whole_one {K : Nat → Int} {o : List Nat} (h : IsOrd K 1 o) : o = [0] := ord_one h (whole_ord K)
end Go.Proofs.Ytdaoeabnjfaoiaa
namespace Go.Proofs.Ytdaoeabnjfaoiaa
open Go Go.Lib Go.RowKit
set_option maxRecDepth 20000

theorem and1023_13 (n : Int) : bits .and .i64 n 1023 = n % 1024 := by
  have h : (BitVec.ofInt 64 1023).toNat = 2 ^ 10 - 1 := by decide
  have key : (BitVec.ofInt 64 n &&& BitVec.ofInt 64 1023).toNat = (n % ((2 ^ 64 : Nat) : Int)).toNat % 2 ^ 10 := by
    rw [BitVec.toNat_and, BitVec.toNat_ofInt, h, Nat.and_two_pow_sub_one_eq_mod]
  show IntKind.i64.wrap ((BitVec.ofInt 64 n &&& BitVec.ofInt 64 1023).toNat : Nat) = _
  rw [key, IntKind.wrap_i64]
  omega
theorem and7_13 (n : Int) : bits .and .i64 n 7 = n % 8 := by
  have h : (BitVec.ofInt 64 7).toNat = 2 ^ 3 - 1 := by decide
  have key : (BitVec.ofInt 64 n &&& BitVec.ofInt 64 7).toNat = (n % ((2 ^ 64 : Nat) : Int)).toNat % 2 ^ 3 := by
    rw [BitVec.toNat_and, BitVec.toNat_ofInt, h, Nat.and_two_pow_sub_one_eq_mod]
  show IntKind.i64.wrap ((BitVec.ofInt 64 n &&& BitVec.ofInt 64 7).toNat : Nat) = _
  rw [key, IntKind.wrap_i64]
  omega
theorem and1_13 (n : Int) : bits .and .i64 n 1 = n % 2 := by
  have h : (BitVec.ofInt 64 1).toNat = 2 ^ 1 - 1 := by decide
  have key : (BitVec.ofInt 64 n &&& BitVec.ofInt 64 1).toNat = (n % ((2 ^ 64 : Nat) : Int)).toNat % 2 ^ 1 := by
    rw [BitVec.toNat_and, BitVec.toNat_ofInt, h, Nat.and_two_pow_sub_one_eq_mod]
  show IntKind.i64.wrap ((BitVec.ofInt 64 n &&& BitVec.ofInt 64 1).toNat : Nat) = _
  rw [key, IntKind.wrap_i64]
  omega
set_option maxHeartbeats 8000000 in
set_option maxRecDepth 100000 in
theorem lawDWhole_any (s0 a0 b0 m0 : Int) (l : List Nat) (hW : AllW l) (vw : Value) (w : World) (hw : FSl w vw l) :
    Calls Try.prog 6 #[.int .i64 s0, .int .i64 a0, .int .i64 b0, vw, .int .i64 m0] w fun e w' => e = .returned (.bool true) ∧ Below w.heap.size w w' := by
  obtain ⟨ow, cw, rfl, _, _⟩ := hw.slice
  obtain ⟨s, hs, s1, s2⟩ : ∃ s, bits .and .i64 s0 1023 = s ∧ 0 ≤ s ∧ s ≤ 1023 := ⟨_, and1023_13 s0, by omega, by omega⟩
  obtain ⟨xa, ha, a1, a2⟩ : ∃ x, bits .and .i64 a0 1 = x ∧ 0 ≤ x ∧ x ≤ 1 := ⟨_, and1_13 a0, by omega, by omega⟩
  obtain ⟨xb, hb, b1, b2⟩ : ∃ x, bits .and .i64 b0 1 = x ∧ 0 ≤ x ∧ x ≤ 1 := ⟨_, and1_13 b0, by omega, by omega⟩
  obtain ⟨r, hr, r1, r2⟩ : ∃ x, bits .and .i64 m0 7 = x ∧ 0 ≤ x ∧ x ≤ 7 := ⟨_, and7_13 m0, by omega, by omega⟩
  have AW : Hid (∀ W, Calls Try.prog 8 #[] W fun e w' => e = .returned (.bool true) ∧ Below W.heap.size W w') := fun W => awake13_any W
  have DE : Hid (∀ W W2, W2 = (W.alloc (.cells #[.int .i64 s] 3)).alloc (.cells #[.int .i64 (3 + xb), .int .i64 (1 + xa)] 3) → Below w.heap.size w W → Calls Try.prog 9 #[.slice (some ⟨W.heap.size, 0, none⟩) 1 1, .slice (some ⟨W.heap.size + 1, 0, none⟩) 2 2, .slice ow l.length cw, .int .i64 (s + r)] W2 fun e w' => (∃ v p q, (p = 1 + xa ∧ q = 3 + xb ∨ p = 3 + xb ∧ q = 1 + xa) ∧ e = .returned (.tuple #[v, .int .i64 0]) ∧ PairsAt w' v [(p, q)]) ∧ Below w.heap.size w w') := fun W W2 h2 B => by
    have B2 : Below w.heap.size w W2 := by rw [h2]; exact (B.alloc B.size _).alloc (by have := B.size; simp; omega) _
    have Z2 : ISl W2 (.slice (some ⟨W.heap.size, 0, none⟩) 1 1) [s] := by
      have h : W2.heap[W.heap.size]? = some (.cells (inI [s]).toArray 3 (0, 0)) := by rw [h2]; exact heap_past _ _ _ _ (heap_new _ _ _ rfl)
      exact isl_new h (by unfold maxLen; simp)
    have L2 : ISl W2 (.slice (some ⟨W.heap.size + 1, 0, none⟩) 2 2) [3 + xb, 1 + xa] := by
      have h : W2.heap[W.heap.size + 1]? = some (.cells (inI [3 + xb, 1 + xa]).toArray 3 (0, 0)) := by rw [h2]; exact heap_new _ _ _ (by simp)
      exact isl_new h (by unfold maxLen; simp)
    refine (deal_any [s] [3 + xb, 1 + xa] (by simp) l hW (s + r) (by omega) (by omega) (fun x hx => by simp at hx; omega) _ _ _ W2 Z2 L2 (VSl.below hw B2)).mono ?_
    rintro e w' ⟨⟨o, ho, hd⟩, hbb⟩
    have hoe : o = [0] := whole_one ho
    subst hoe
    obtain ⟨a, hna⟩ : ∃ a : Nat, (a : Int) = 1 + xa := ⟨(1 + xa).toNat, by omega⟩
    obtain ⟨b, hnb⟩ : ∃ b : Nat, (b : Int) = 3 + xb := ⟨(3 + xb).toNat, by omega⟩
    obtain ⟨st, hst, hp⟩ := whole_deal (s := s) (r := r) (a := a) (b := b) s1 r1 (by omega) (by omega) (by omega) (by omega) (by omega) (wtT l)
    rw [hna, hnb] at hst hp
    rw [hst] at hd
    obtain ⟨v, he, hv⟩ := hd
    have hv := POwn.at_ hv
    rw [show ([s] : List Int).length = 1 from rfl] at hv
    refine ⟨?_, B2.trans (hbb.mono B2.size)⟩
    rcases hp with hp | hp
    · rw [hp] at hv; exact ⟨v, _, _, .inl ⟨rfl, rfl⟩, he, hv⟩
    · rw [hp] at hv; exact ⟨v, _, _, .inr ⟨rfl, rfl⟩, he, hv⟩
  have e3 : ∀ op p q xs ys w, (eqGuard op 33 p q (.agg xs) (.agg ys)).run Try.prog w = .ok () w := fun op p q xs ys w => egP op p q xs ys w
  have e1 : ∀ p q W, (Op.equalIn 10000 33 (.agg #[.int .i64 p, .int .i64 q]) (.agg #[.int .i64 p, .int .i64 q])).run Try.prog W = .ok true W := fun p q W => eqP (p, q) W
  have e2 : ∀ W, (Op.equalIn 10000 33 (.agg #[.int .i64 (3 + xb), .int .i64 (1 + xa)]) (.agg #[.int .i64 (1 + xa), .int .i64 (3 + xb)])).run Try.prog W = .ok false W := fun W => by
    refine (eqP2 (3 + xb, 1 + xa) (1 + xa, 3 + xb) W).trans ?_
    rw [show ((3 + xb, 1 + xa) : Int × Int).1 = 3 + xb from rfl, show ((1 + xa, 3 + xb) : Int × Int).1 = 1 + xa from rfl, show (3 + xb == 1 + xa) = false by simp; omega]
    rfl
  clear hw hW
  generalize l.length = lw at *
  go_enter Try.func6, Try.ntmps6
  go_wp2_with fail
  refine (AW.out _).mono ?_
  rintro e w1 ⟨rfl, B1⟩
  have B1 : Hid (Below w.heap.size w w1) := B1
  go_wp2_with (first | (go_at_call 9; refine (DE.out w1 _ rfl B1.out).mono ?_; rintro e w3 ⟨⟨v, p, q, hpq, rfl, hv⟩, hb3⟩; refine of_stopT ?_))
  unfold StopT
  have B3 : Hid (Below w.heap.size w w3) := hb3
  obtain ⟨o, cap, rfl, hc1, hc2⟩ := GSl.slice hv
  obtain ⟨g, off, cur, t, fr, pp, rfl, hg, hc, hp⟩ := hv.at 0 (by simp)
  obtain rfl : ((p, q) : Int × Int) = pp := Option.some.inj hp
  have c0 : w3.cell? ⟨g, off, none⟩ = some (.int .i64 p) := (cell_of_row _ _ _ _ _ _ hg).trans (hc 0 (by show 0 < 2; omega))
  have c1 : w3.cell? ⟨g, off + 1, none⟩ = some (.int .i64 q) := (cell_of_row _ _ _ _ _ _ hg).trans (hc 1 (by show 1 < 2; omega))
  unfold maxLen at hc2
  simp only [List.length_cons, List.length_nil] at hc1 ⊢
  clear hv hb3 hg hc hp
  rcases hpq with ⟨rfl, rfl⟩ | ⟨rfl, rfl⟩
  · go_wp2_with fail
    go_ret
    exact ⟨rfl, B3.out⟩
  · go_wp2_with fail
    go_ret
    exact ⟨rfl, B3.out⟩
end Go.Proofs.Ytdaoeabnjfaoiaa
