import Derived.Test.YtpbinkmeldkehaaJ32
import Derived.Test.YtpbinkmeldkehaaJ25
import Derived.Test.YtpbinkmeldkehaaJ15
import Derived.Test.YtpbinkmeldkehaaJ30
import Derived.Test.YtpbinkmeldkehaaJ24
import Derived.Deep.QuietTactic
import Derived.Carry
import Derived.BigQuiet
namespace Go.Proofs.Ytpbinkmeldkehaa
open Go Go.Lib Go.RowKit
set_option maxRecDepth 20000

/-! What is planned fits, and is refused only where it must be. -/
theorem cnt_other {th : Nat → Bool} (h : 1 < cntT th) (a : Nat) : ∃ b, b ≠ a ∧ 1 ≤ b ∧ b ≤ 6 ∧ th b = true := by
  have key : ¬ ∀ b, b ≠ a → 1 ≤ b → b ≤ 6 → th b = false := fun hn => by
    have hb : ∀ b, 1 ≤ b → b ≤ 6 → b ≠ a → (th b).toNat = 0 := fun b h1 h2 h3 => by rw [hn b h3 h1 h2]; rfl
    have hle : ∀ b : Bool, b.toNat ≤ 1 := fun b => by cases b <;> simp
    unfold cntT at h
    have l1 := hle (th 1); have l2 := hle (th 2); have l3 := hle (th 3); have l4 := hle (th 4); have l5 := hle (th 5); have l6 := hle (th 6)
    by_cases a1 : a = 1
    · have := hb 2 (by omega) (by omega) (by omega); have := hb 3 (by omega) (by omega) (by omega); have := hb 4 (by omega) (by omega) (by omega); have := hb 5 (by omega) (by omega) (by omega); have := hb 6 (by omega) (by omega) (by omega); omega
    by_cases a2 : a = 2
    · have := hb 1 (by omega) (by omega) (by omega); have := hb 3 (by omega) (by omega) (by omega); have := hb 4 (by omega) (by omega) (by omega); have := hb 5 (by omega) (by omega) (by omega); have := hb 6 (by omega) (by omega) (by omega); omega
    by_cases a3 : a = 3
    · have := hb 1 (by omega) (by omega) (by omega); have := hb 2 (by omega) (by omega) (by omega); have := hb 4 (by omega) (by omega) (by omega); have := hb 5 (by omega) (by omega) (by omega); have := hb 6 (by omega) (by omega) (by omega); omega
    by_cases a4 : a = 4
    · have := hb 1 (by omega) (by omega) (by omega); have := hb 2 (by omega) (by omega) (by omega); have := hb 3 (by omega) (by omega) (by omega); have := hb 5 (by omega) (by omega) (by omega); have := hb 6 (by omega) (by omega) (by omega); omega
    by_cases a5 : a = 5
    · have := hb 1 (by omega) (by omega) (by omega); have := hb 2 (by omega) (by omega) (by omega); have := hb 3 (by omega) (by omega) (by omega); have := hb 4 (by omega) (by omega) (by omega); have := hb 6 (by omega) (by omega) (by omega); omega
    · have := hb 1 (by omega) (by omega) (by omega); have := hb 2 (by omega) (by omega) (by omega); have := hb 3 (by omega) (by omega) (by omega); have := hb 4 (by omega) (by omega) (by omega); have := hb 5 (by omega) (by omega) (by omega); omega
  have := Classical.not_forall.1 key
  obtain ⟨b, hb⟩ := this
  simp only [Classical.not_imp] at hb
  exact ⟨b, hb.1, hb.2.1, hb.2.2.1, by simpa using hb.2.2.2⟩
theorem th_mem {lv : List Int} {m : Nat} (h : thT lv m = true) : (m : Int) ∈ lv := by
  unfold thT at h
  rw [List.any_eq_true] at h
  obtain ⟨x, hx, he⟩ := h
  rw [beq_iff_eq] at he
  rw [← he]
  exact hx
theorem mem_th {lv : List Int} {m : Nat} (h : (m : Int) ∈ lv) : thT lv m = true := by
  unfold thT
  rw [List.any_eq_true]
  exact ⟨_, h, by simp⟩
theorem cntL_mem {a x : Int} {live : List Int} (h : x ∈ cntL a live) : 1 ≤ x ∧ x ≤ a := by
  unfold cntL inT at h
  have := (List.mem_filter.1 h).2
  simp at this
  omega
/-- One leaf is never refused where it has room. -/
theorem one_deal {T : List RuleM} {lv : List Int} {wl : List Nat} {room : Int} {o : List Nat} (ho : IsOrd (keyZ (szL [⟨(Z, Z), 0, 0, T⟩])) 1 o) (hT : (T.length : Int) ≤ room) {m : Nat} (hm : thT lv m = true) (h1 : 1 ≤ m) (h6 : m ≤ 6) : dealO [⟨(Z, Z), 0, 0, T⟩] lv wl room o ≠ none := by
  obtain rfl := ord_one14 ho
  unfold dealO
  rw [dealF]
  have e0 : max ((szL [⟨(Z, Z), 0, 0, T⟩]).getD 0 0) 0 = (T.length : Int) := by
    show max ((T.length : Int)) 0 = _
    omega
  rw [e0]
  have hone : oneOf (thT lv) (wtT wl) room (fun _ => 0) (T.length : Int) ≠ 0 := by
    obtain ⟨⟨n, c⟩, hg⟩ := giveGo_some (th := thT lv) (ld := fun _ => 0) (wt := wtT wl) (room := room) (size := (T.length : Int)) (but := 0) (k := 6) h1 h6 (by unfold mayG; rw [hm]; simp; omega)
    have := giveGo_in hg
    unfold oneOf giveN
    rw [hg]
    show n ≠ 0
    omega
  have hbad : badG (thT lv) (wtT wl) room (cntT (thT lv)) (fun _ => 0) (T.length : Int) = false := by
    unfold badG
    rw [Bool.or_eq_false_iff, beq_eq_false_iff_ne]
    refine ⟨hone, ?_⟩
    by_cases hc : 1 < cntT (thT lv)
    · obtain ⟨b, hb, b1, b6, bt⟩ := cnt_other hc (oneOf (thT lv) (wtT wl) room (fun _ => 0) (T.length : Int))
      have htwo : twoOf (thT lv) (wtT wl) room (fun _ => 0) (T.length : Int) ≠ 0 := by
        obtain ⟨⟨n, c⟩, hg⟩ := giveGo_some (th := thT lv) (ld := ldUp (fun _ => 0) (oneOf (thT lv) (wtT wl) room (fun _ => 0) (T.length : Int)) (T.length : Int)) (wt := wtT wl) (room := room) (size := (T.length : Int)) (but := oneOf (thT lv) (wtT wl) room (fun _ => 0) (T.length : Int)) (k := 6) b1 b6 (by unfold mayG ldUp; rw [bt, if_neg (fun h => hb h.1)]; simp; exact ⟨hb, by omega⟩)
        have := giveGo_in hg
        unfold twoOf giveN
        rw [hg]
        show n ≠ 0
        omega
      simp [htwo]
    · simp [hc]
  rw [if_neg (by rw [hbad]; simp), dealF]
  simp
theorem load_sum {T : List LeafM} {out : Nat → Nat × Nat} {o : List Nat} (ho : ∀ i, i < T.length → i ∈ o) (m : Nat) : ∀ k, k ≤ T.length → (loadT ((givL T out T.length).take k) (m : Int) : Int) = sumD (hasS (fun i => max ((szL T).getD i 0) 0) o out m) k
  | 0, _ => rfl
  | k + 1, hk => by
    have ih := load_sum (out := out) ho m k (by omega)
    have h1 : T[k]? = some T[k] := List.getElem?_eq_getElem (by omega)
    have h2 : (givL T out T.length)[k]? = some ⟨T[k].cube, ((out k).1 : Int), ((out k).2 : Int), T[k].rules⟩ := by
      unfold givL
      rw [List.getElem?_mapIdx, h1]
      simp only [Option.map_some]
      rw [if_pos (by omega)]
    rw [loadT_take (m : Int) h2, sumD, ← ih]
    have hh : hasS (fun i => max ((szL T).getD i 0) 0) o out m k = if (out k).1 = m ∨ (out k).2 = m then (T[k].rules.length : Int) else 0 := by
      unfold hasS
      dsimp only
      have hz : (szL T).getD k 0 = (T[k].rules.length : Int) := by
        rw [List.getD_eq_getElem?_getD]
        unfold szL
        rw [List.getElem?_map, h1]
        rfl
      rw [hz]
      have hmax : max (T[k].rules.length : Int) 0 = (T[k].rules.length : Int) := by omega
      rw [hmax]
      simp [ho k (by omega)]
    rw [hh]
    unfold hasN
    by_cases hc : (out k).1 = m ∨ (out k).2 = m
    · rw [if_pos hc, if_pos (by simp; omega)]
      push_cast
      rfl
    · rw [if_neg hc, if_neg (by simp; omega)]
      simp
/-- What is dealt fits. -/
theorem dealt_fits {s : Stp} (hs : rightT s = true) {T : List LeafM} (hT1 : 1 ≤ T.length) (hT2 : (T.length : Int) ≤ s.pa.tdiv 2) {live : List Int} {wl : List Nat} {o : List Nat} {st : (Nat → Int) × (Nat → Nat × Nat)} (ho : IsOrd (keyZ (szL T)) T.length o) (h : dealO T (cntL s.au live) wl (s.ro.tdiv 2) o = some st) :
    fitsT s (givL T st.2 T.length) = true ∧ cntL s.au live ≠ [] ∧ (1 < cntT (thT (cntL s.au live)) → ∀ x ∈ givL T st.2 T.length, x.two ≠ 0) ∧ (cntT (thT (cntL s.au live)) ≤ 1 → ∀ x ∈ givL T st.2 T.length, x.two = 0) := by
  obtain ⟨b1, b2, b3, b4, b5, b6, b7, b8⟩ := right_rooms hs
  have hro : 0 ≤ s.ro.tdiv 2 := by rw [Int.tdiv_eq_ediv_of_nonneg (by omega)]; omega
  unfold dealO at h
  have hF := fit_go (th := thT (cntL s.au live)) (wt := wtT wl) (room := s.ro.tdiv 2) (s := fun i => max ((szL T).getD i 0) 0) (N := T.length) (fun i => by omega) o [] _ _ (fit_nil (thT (cntL s.au live)) (s.ro.tdiv 2) _ T.length _) (fun i hi => ⟨(ho.1 i).1 hi, by simp⟩) (ord_nodup ho) st h
  rw [List.nil_append] at hF
  have hin : ∀ i, i < T.length → i ∈ o := fun i hi => (ho.1 i).2 hi
  have hload : ∀ m : Nat, 1 ≤ m → m ≤ 6 → (loadT (givL T st.2 T.length) (m : Int) : Int) ≤ s.ro.tdiv 2 := fun m h1 h6 => by
    have e := load_sum (out := st.2) hin m T.length (Nat.le_refl _)
    have hl : (givL T st.2 T.length).take T.length = givL T st.2 T.length := List.take_of_length_le (by rw [givL_len]; exact Nat.le_refl _)
    rw [hl] at e
    have := hF.fits m h1 h6
    rw [hF.sum m h1] at this
    omega
  have hat : ∀ x ∈ givL T st.2 T.length, ∃ i, i < T.length ∧ x.one = ((st.2 i).1 : Int) ∧ x.two = ((st.2 i).2 : Int) := fun x hx => by
    obtain ⟨i, hi⟩ := List.mem_iff_getElem?.1 hx
    obtain ⟨y, hy, he⟩ := givL_at hi
    have hil := (List.getElem?_eq_some_iff.1 hy).1
    rw [if_pos hil] at he
    exact ⟨i, hil, by rw [he], by rw [he]⟩
  refine ⟨?_, ?_, ?_, ?_⟩
  · unfold fitsT
    rw [Bool.and_eq_true]
    constructor
    · unfold lenF inT
      rw [givL_len]
      simp
      omega
    · rw [List.all_eq_true]
      intro x hx
      obtain ⟨i, hil, e1, e2⟩ := hat x hx
      obtain ⟨o1, o6, ot, one⟩ := hF.one i (hin i hil)
      have o26 := hF.two i (hin i hil)
      have m1 := cntL_mem (th_mem ot)
      have m2 : (st.2 i).2 = 0 ∨ (1 ≤ (st.2 i).2 ∧ ((st.2 i).2 : Int) ≤ s.au) := by
        by_cases hc : 1 < cntT (thT (cntL s.au live))
        · obtain ⟨t1, t2⟩ := hF.twoT i (hin i hil) hc
          exact .inr ⟨t1, (cntL_mem (th_mem t2)).2⟩
        · exact .inl (hF.twoN i (hin i hil) (by omega))
      rw [Bool.and_eq_true]
      constructor
      · unfold okH inT
        rw [e1, e2]
        simp
        omega
      · unfold stepF
        rw [e1, e2]
        simp only [Bool.and_eq_true, Bool.or_eq_true, Bool.not_eq_true', decide_eq_false_iff_not, beq_iff_eq]
        have l1 := hload _ o1 o6
        refine ⟨by omega, ?_⟩
        rcases m2 with m2 | m2
        · left; rw [m2]; rfl
        · right
          have l2 := hload _ m2.1 o26
          omega
  · intro hnil
    obtain ⟨_, _, ot, _⟩ := hF.one 0 (hin 0 (by omega))
    have := th_mem ot
    rw [hnil] at this
    simp at this
  · intro hc x hx
    obtain ⟨i, hil, e1, e2⟩ := hat x hx
    have := (hF.twoT i (hin i hil) hc).1
    rw [e2]
    omega
  · intro hc x hx
    obtain ⟨i, hil, e1, e2⟩ := hat x hx
    rw [e2, hF.twoN i (hin i hil) hc]
    rfl
theorem mk_cases {l : List RuleM} {s : Stp} (hs : rightT s = true) {live : List Int} {wl : List Nat} {R : Option (List LeafM)} (h : MkP l s (cntL s.au live) wl R) :
    (∃ T o st, (T = tr1 s l ∨ T = tr2 s l) ∧ 1 ≤ T.length ∧ (T.length : Int) ≤ s.pa.tdiv 2 ∧ IsOrd (keyZ (szL T)) T.length o ∧ dealO T (cntL s.au live) wl (s.ro.tdiv 2) o = some st ∧ R = some (givL T st.2 T.length)) ∨ (R = none ∧ ((l.length : Int) > s.ro.tdiv 2 ∨ cntL s.au live = [])) := by
  obtain ⟨b1, b2, b3, b4, b5, b6, b7, b8⟩ := right_rooms hs
  have hpa : 1 ≤ s.pa.tdiv 2 := by rw [Int.tdiv_eq_ediv_of_nonneg (by omega)]; omega
  have f1 := tree_few s.bi (s.pa.tdiv 2) s.gr l
  obtain ⟨o, h1, h2⟩ := h
  cases hd : dealO (tr1 s l) (cntL s.au live) wl (s.ro.tdiv 2) o with
  | some st =>
    rw [hd] at h2
    exact .inl ⟨tr1 s l, o, st, .inl rfl, f1.1, by have := f1.2.1; unfold tr1; omega, h1, hd, h2⟩
  | none =>
    rw [hd] at h2
    obtain ⟨p, h3, h4⟩ := h2
    have ht : tr2 s l = [⟨(Z, Z), 0, 0, clipT Z Z l⟩] := tree_one _ _ _ (by omega) _
    cases hd2 : dealO (tr2 s l) (cntL s.au live) wl (s.ro.tdiv 2) p with
    | some st =>
      rw [hd2] at h4
      exact .inl ⟨tr2 s l, p, st, .inr rfl, by rw [ht]; simp, by rw [ht]; simpa using hpa, h3, hd2, h4⟩
    | none =>
      rw [hd2] at h4
      refine .inr ⟨h4, ?_⟩
      by_cases hl : (l.length : Int) > s.ro.tdiv 2
      · exact .inl hl
      · right
        rw [ht] at h3 hd2
        cases hv : cntL s.au live with
        | nil => rfl
        | cons x r =>
          exfalso
          have hx := cntL_mem (show x ∈ cntL s.au live by rw [hv]; simp)
          obtain ⟨m, rfl⟩ := Int.eq_ofNat_of_zero_le (show 0 ≤ x by omega)
          have hc := clip_len Z Z l
          exact one_deal h3 (by omega) (mem_th (show (m : Int) ∈ cntL s.au live by rw [hv]; simp)) (by omega) (by omega) hd2
theorem tree_rules {s : Stp} {l : List RuleM} {T : List LeafM} (hT : T = tr1 s l ∨ T = tr2 s l) (out : Nat → Nat × Nat) (k : Nat) : ∀ x ∈ givL T out k, x.rules.length ≤ l.length := fun x hx => by
  obtain ⟨i, hi⟩ := List.mem_iff_getElem?.1 hx
  obtain ⟨y, hy, he⟩ := givL_at hi
  have hm := List.mem_of_getElem? hy
  have : y.rules.length ≤ l.length := by
    rcases hT with rfl | rfl
    · exact ((tree_ok s.bi (s.pa.tdiv 2) s.gr l).ok y hm).2.2.1
    · exact ((tree_ok s.bi 1 s.gr l).ok y hm).2.2.1
  rw [he]
  split <;> exact this
end Go.Proofs.Ytpbinkmeldkehaa
namespace Go.Proofs.Ytpbinkmeldkehaa
open Go Go.Lib Go.RowKit
set_option maxRecDepth 20000

set_option maxHeartbeats 2000000 in
theorem between_same (n a b : Int) (w : World) : Calls Try.prog 25 #[.int .i64 n, .int .i64 a, .int .i64 b] w fun e w' => e = .returned (.bool (inT n a b)) ∧ w' = w := by
  by_cases h1 : n ≥ a
  · have h1' : decide (n ≥ a) = true := by simpa using h1
    have hi : Hid (inT n a b = decide (n ≤ b)) := by show _ = _; unfold inT; rw [h1']; rfl
    go_enter Try.func25, Try.ntmps25
    go_wp2_with fail
    go_ret
    exact ⟨by rw [hi.out]; rfl, rfl⟩
  · have h1' : decide (n ≥ a) = false := by simpa using h1
    have hi : Hid (inT n a b = false) := by show _ = _; unfold inT; rw [h1']; rfl
    go_enter Try.func25, Try.ntmps25
    go_wp2_with fail
    go_ret
    exact ⟨by rw [hi.out]; rfl, rfl⟩
set_option maxHeartbeats 2000000 in
theorem half_same (n : Int) (h0 : -9223372036854775808 ≤ n) (h1 : n ≤ 9223372036854775807) (w : World) : Calls Try.prog 30 #[.int .i64 n] w fun e w' => e = .returned (.int .i64 (n.tdiv 2)) ∧ w' = w := by
  go_enter Try.func30, Try.ntmps30
  go_wp2_with fail
  go_ret
  exact ⟨rfl, rfl⟩
theorem ld_next {C : List LeafM} {k : Nat} {x : LeafM} (hx : C[k]? = some x) (m : Int) : (if m = x.two then (loadT (C.take k) x.two : Int) + (x.rules.length : Int) else if m = x.one then (loadT (C.take k) x.one : Int) + (x.rules.length : Int) else (loadT (C.take k) m : Int)) = (loadT (C.take (k + 1)) m : Int) := by
  rw [loadT_take m hx]
  unfold hasN
  by_cases h2 : m = x.two
  · subst h2; simp
  · rw [if_neg h2]
    by_cases h1 : m = x.one
    · subst h1; simp
    · rw [if_neg h1]
      have e1 : (x.one == m) = false := by simp; omega
      have e2 : (x.two == m) = false := by simp; omega
      rw [e1, e2]
      simp
set_option maxHeartbeats 32000000 in
set_option maxRecDepth 100000 in
theorem fits_any (C : List LeafM) (hn1 : C.length ≤ 1000) (hr1 : ∀ x ∈ C, x.rules.length ≤ 500) (s : Stp) (hs : okS s) (vc : Value) (w : World) (hc : LeavesIn w vc C) :
    Calls Try.prog 15 #[vc, .agg (stA s)] w fun e w' => e = .returned (.bool (fitsT s C)) ∧ Below w.heap.size w w' := by
  have BS : Hid (∀ n a b W, Calls Try.prog 25 #[.int .i64 n, .int .i64 a, .int .i64 b] W fun e w' => e = .returned (.bool (inT n a b)) ∧ w' = W) := fun n a b W => between_same n a b W
  have HP : Hid (∀ W, Calls Try.prog 30 #[.int .i64 s.pa] W fun e w' => e = .returned (.int .i64 (s.pa.tdiv 2)) ∧ w' = W) := fun W => half_same s.pa hs.2.2.1.1 hs.2.2.1.2 W
  have HR : Hid (∀ W, Calls Try.prog 30 #[.int .i64 s.ro] W fun e w' => e = .returned (.int .i64 (s.ro.tdiv 2)) ∧ w' = W) := fun W => half_same s.ro hs.2.1.1 hs.2.1.2 W
  have hau := hs.1.2
  obtain ⟨oc, capc, rfl, hc1, hc2⟩ := NSl.slice hc
  obtain ⟨n, hn0⟩ : ∃ n, n = C.length := ⟨_, rfl⟩
  have HN : Hid (n = C.length) := hn0
  have HC0 := hc
  rw [← hn0] at hc HC0 hc1 hn1 ⊢
  have HC : Hid (LeavesIn w (.slice oc n capc) C) := hc
  have HR1 : Hid (∀ x ∈ C, x.rules.length ≤ 500) := hr1
  have HRN : Hid (∀ k m, loadT (C.take k) m ≤ 500000) := fun k m => by
    have h1 := rulesN_len (C.take k) m 500 (fun x hx => hr1 x (List.mem_of_mem_take hx))
    have h2 : (C.take k).length ≤ 1000 := by rw [List.length_take]; omega
    have h3 := Nat.mul_le_mul_right 500 h2
    unfold loadT
    omega
  unfold maxLen at hc2
  obtain ⟨RES, hRES⟩ : ∃ R, R = fitsT s C := ⟨_, rfl⟩
  have HRES : Hid (RES = fitsT s C) := hRES
  rw [← hRES]
  have LEN : Hid (lenF s C = inT (n : Int) 1 (s.pa.tdiv 2)) := by show _ = _; unfold lenF; rw [HN.out]
  clear hc HC0 hr1 hn0 hRES
  have SA : Hid ((w.alloc (.cells (stA s) 24)).heap[w.heap.size]? = some (.cells (stA s) 24 (0, 0))) := heap_new _ _ _ rfl
  have BA : Hid (Below w.heap.size w (w.alloc (.cells (stA s) 24))) := (Below.refl _ _).alloc (Nat.le_refl _) _
  have c4 := (st_cells SA.out).2.2.2.2.1
  cases hlen : inT (n : Int) 1 (s.pa.tdiv 2) with
  | false =>
    have HF : Hid (RES = false) := by show _ = _; rw [HRES.out]; exact fits_nolen (by rw [LEN.out, hlen])
    go_enter Try.func15, Try.ntmps15
    go_wp2_with (first | (go_at_call 30; refine (HP.out _).mono ?_; rintro e w' ⟨rfl, rfl⟩) | (go_at_call 25; refine (BS.out _ _ _ _).mono ?_; rintro e w' ⟨rfl, rfl⟩))
    go_ret
    exact ⟨by rw [HF.out]; rfl, BA.out⟩
  | true =>
    have HLEN : Hid (lenF s C = true) := by show _ = _; rw [LEN.out, hlen]
    obtain ⟨gs, hgs⟩ : ∃ gs, gs = w.heap.size := ⟨_, rfl⟩
    obtain ⟨wm, hwm⟩ : ∃ wm, wm = (w.alloc (.cells (stA s) 24)).alloc (.map #[] 0) := ⟨_, rfl⟩
    have MA : Hid (MapG wm (gs + 1) 0 (fun m => (loadT (C.take 0) m : Int))) := by
      have h := MapG.new (w.alloc (.cells (stA s) 24))
      rw [← hwm, show (w.alloc (.cells (stA s) 24)).heap.size = gs + 1 by rw [hgs]; simp] at h
      exact h
    have SM : Hid (wm.heap[gs]? = some (.cells (stA s) 24 (0, 0))) := by show _ = _; rw [hwm, hgs]; exact heap_past _ _ _ _ SA.out
    have hmm := @run_makeMap Try.prog
    have BM : Hid (Below w.heap.size w wm) := by show Below _ _ _; rw [hwm]; exact BA.out.alloc BA.out.size _
    go_enter Try.func15, Try.ntmps15
    go_wp2_with (first | (go_at_call 30; refine (HP.out _).mono ?_; rintro e w' ⟨rfl, rfl⟩) | (go_at_call 25; refine (BS.out _ _ _ _).mono ?_; rintro e w' ⟨rfl, rfl⟩))
    rw [← hwm, ← hgs]
    have HGS : Hid (w.heap.size ≤ gs) := by show _ ≤ _; omega
    clear hwm SA BA c4 hlen LEN hgs
    go_loopw [18] (fun i wr => ∃ k : Nat, k ≤ n ∧ i = .int .i64 (k : Int) ∧ Hid (okK s C k) ∧ Hid (MapG wr (gs + 1) (2 * k) (fun m => (loadT (C.take k) m : Int))) ∧ Hid (wr.heap[gs]? = some (.cells (stA s) 24 (0, 0))) ∧ Hid (Below w.heap.size w wr)) (fun i _ => n - (intOf i).toNat)
    case atStart => exact ⟨0, Nat.zero_le _, rfl, (fun i x hi => by omega), MA, SM, BM⟩
    case round =>
      clear MA SM BM
      obtain ⟨k, hk, rfl, HK, HM, HS, HB⟩ := hrel
      by_cases hlt : k < n
      · have hlt' : (k : Int) < (n : Int) := by omega
        obtain ⟨g, off, cur, ty, fr, x, u, rfl, hg0, hc, hxk, hxu⟩ := NSl.at HC.out k hlt
        have hg := (HB.out.block g (Array.getElem?_eq_some_iff.1 hg0).1).trans hg0
        obtain ⟨o2, cap2, rfl⟩ := hxu.slice
        have hfit := leaf_fits hxu.1 (u := .slice o2 x.rules.length cap2) ⟨_, _, _, rfl⟩
        have hsz := leafV_size hxu.1 (.slice o2 x.rules.length cap2)
        have hrl : x.rules.length ≤ 500 := HR1.out x (List.mem_of_getElem? hxk)
        have K1 : Hid (wr.heap[g]? = some (.cells cur ty fr)) := hg
        have H1 : Hid (∀ j, j < 29 → cur[off + k * 29 + j]? = (leafV x (.slice o2 x.rules.length cap2))[j]?) := hc
        have HXK : Hid (C[k]? = some x) := hxk
        have HLA := leaf_at hxu.1 (.slice o2 x.rules.length cap2)
        obtain ⟨w1, hw1⟩ : ∃ w1, w1 = wr.alloc (.cells (leafV x (.slice o2 x.rules.length cap2)) 48) := ⟨_, rfl⟩
        obtain ⟨q, hq⟩ : ∃ q, q = wr.heap.size := ⟨_, rfl⟩
        have g1 : Hid (w1.heap[q]? = some (.cells (leafV x (.slice o2 x.rules.length cap2)) 48 (0, 0))) := by show _ = _; rw [hw1, hq]; exact heap_new _ _ _ rfl
        have b1 : Below wr.heap.size wr w1 := by rw [hw1]; exact (Below.refl _ _).alloc (Nat.le_refl _) _
        have B1 : Hid (Below w.heap.size w w1) := HB.out.trans (b1.mono HB.out.size)
        have M1 : Hid (MapG w1 (gs + 1) (2 * k) (fun m => (loadT (C.take k) m : Int))) := HM.out.below b1
        have S1 : Hid (w1.heap[gs]? = some (.cells (stA s) 24 (0, 0))) := (b1.block _ (Array.getElem?_eq_some_iff.1 HS.out).1).trans HS.out
        have hqm : q ≠ gs + 1 := by have := HM.out.lt; omega
        have c26 := (cell_of_row _ _ 26 _ _ _ g1.out).trans HLA.2.1
        have c27 := (cell_of_row _ _ 27 _ _ _ g1.out).trans HLA.2.2.1
        have c28 := (cell_of_row _ _ 28 _ _ _ g1.out).trans HLA.2.2.2
        have c1 := (st_cells S1.out).2.1
        clear hg hg0 hc hxk hxu b1 HM HS HB
        go_wp2_with (first | ((with_reducible refine wl_gL14 _ rfl ?_); refine wl_loadE (E := LeafE) LeafOk rfl _ rfl g (off + k * 29) rfl cur ty fr (leafV x (.slice o2 x.rules.length cap2)) hsz K1.out H1.out ?_) | ((with_reducible refine wl_gSL14 _ _ rfl ?_); refine wl_storeE (E := LeafE) LeafOk rfl _ _ rfl wr.heap.size (leafV x (.slice o2 x.rules.length cap2)) hfit rfl rfl _ (heap_new _ _ _ rfl) rfl _ (setRow_new _ _ _ _ _ rfl) ?_; refine of_stopT ?_))
        unfold StopT
        rw [← hw1, ← hq]
        clear hw1 hq K1 H1 hfit hsz HLA
        have NO : Hid (okH s x = false → RES = false) := fun h => by rw [HRES.out]; exact fits_no HXK.out (by rw [h]; rfl)
        have HOH : Hid (okH s x = (inT x.one 1 s.au && inT x.two 0 s.au && !(x.one == x.two))) := rfl
        cases hA : inT x.one 1 s.au with
        | false =>
          have HF : Hid (RES = false) := NO.out (by rw [HOH.out, hA]; rfl)
          go_wp2_with (go_at_call 25; refine (BS.out _ _ _ _).mono ?_; rintro e w' ⟨rfl, rfl⟩)
          go_ret
          exact ⟨by rw [HF.out]; rfl, B1.out⟩
        | true =>
          cases hBo : inT x.two 0 s.au with
          | false =>
            have HF : Hid (RES = false) := NO.out (by rw [HOH.out, hA, hBo]; rfl)
            go_wp2_with (go_at_call 25; refine (BS.out _ _ _ _).mono ?_; rintro e w' ⟨rfl, rfl⟩)
            go_ret
            exact ⟨by rw [HF.out]; rfl, B1.out⟩
          | true =>
            cases hE : (x.one == x.two) with
            | true =>
              have HF : Hid (RES = false) := NO.out (by rw [HOH.out, hA, hBo, hE]; rfl)
              go_wp2_with (go_at_call 25; refine (BS.out _ _ _ _).mono ?_; rintro e w' ⟨rfl, rfl⟩)
              go_ret
              exact ⟨by rw [HF.out]; rfl, B1.out⟩
            | false =>
              have HOK : Hid (okH s x = true) := by show _ = _; rw [HOH.out, hA, hBo, hE]; rfl
              obtain ⟨o1, o2', o3, o4, o5⟩ := okH_one HOK.out
              have l1 := HRN.out k x.one
              have l2 := HRN.out k x.two
              have G1 := M1.out.get x.one (by omega) (by omega)
              obtain ⟨w2, P1, M2, gr2⟩ := M1.out.put (by omega) x.one (by omega) (by omega) ((loadT (C.take k) x.one : Int) + (x.rules.length : Int)) (by omega) (by omega)
              have G2 := M2.get x.two (by omega) (by omega)
              simp only [if_neg (show ¬ x.two = x.one from fun h => o5 h.symm)] at G2
              obtain ⟨w3, P2, M3, gr3⟩ := M2.put (by omega) x.two (by omega) (by omega) ((loadT (C.take k) x.two : Int) + (x.rules.length : Int)) (by omega) (by omega)
              have hgq : q < w1.heap.size := (Array.getElem?_eq_some_iff.1 g1.out).1
              have hgg : gs < w1.heap.size := (Array.getElem?_eq_some_iff.1 S1.out).1
              have d2 : w2.heap[q]? = some (.cells (leafV x (.slice o2 x.rules.length cap2)) 48 (0, 0)) := (gr2.block q hgq (by simpa using hqm)).trans g1.out
              have e2 : w2.heap[gs]? = some (.cells (stA s) 24 (0, 0)) := (gr2.block gs hgg (by simp)).trans S1.out
              have d3 : w3.heap[q]? = some (.cells (leafV x (.slice o2 x.rules.length cap2)) 48 (0, 0)) := (gr3.block q (Array.getElem?_eq_some_iff.1 d2).1 (by simpa using hqm)).trans d2
              have e3 : w3.heap[gs]? = some (.cells (stA s) 24 (0, 0)) := (gr3.block gs (Array.getElem?_eq_some_iff.1 e2).1 (by simp)).trans e2
              have B2 : Below w.heap.size w w2 := B1.out.grown gr2 B1.out.size (fun j hj => by cases hj; have := HGS.out; omega)
              have B3 : Hid (Below w.heap.size w w3) := B2.grown gr3 B2.size (fun j hj => by cases hj; have := HGS.out; omega)
              have S3 : Hid (w3.heap[gs]? = some (.cells (stA s) 24 (0, 0))) := e3
              have c26a := (cell_of_row _ _ 26 _ _ _ g1.out).symm.trans c26
              have c27b : w2.cell? ⟨q, 27, none⟩ = some (.int .i64 x.two) := by rw [cell_of_row _ _ 27 _ _ _ d2, ← c27, cell_of_row _ _ 27 _ _ _ g1.out]
              have c28b : w2.cell? ⟨q, 28, none⟩ = some (.slice o2 x.rules.length cap2) := by rw [cell_of_row _ _ 28 _ _ _ d2, ← c28, cell_of_row _ _ 28 _ _ _ g1.out]
              have c26c : w3.cell? ⟨q, 26, none⟩ = some (.int .i64 x.one) := by rw [cell_of_row _ _ 26 _ _ _ d3, ← c26, cell_of_row _ _ 26 _ _ _ g1.out]
              have c27c : w3.cell? ⟨q, 27, none⟩ = some (.int .i64 x.two) := by rw [cell_of_row _ _ 27 _ _ _ d3, ← c27, cell_of_row _ _ 27 _ _ _ g1.out]
              have c3c := (st_cells e3).2.2.2.1
              have LN : Hid (∀ m, (if m = x.two then (loadT (C.take k) x.two : Int) + (x.rules.length : Int) else if m = x.one then (loadT (C.take k) x.one : Int) + (x.rules.length : Int) else (loadT (C.take k) m : Int)) = (loadT (C.take (k + 1)) m : Int)) := fun m => ld_next HXK.out m
              have M3' : Hid (MapG w3 (gs + 1) (2 * (k + 1)) (fun m => (loadT (C.take (k + 1)) m : Int))) := by
                have h := M3
                simp only [LN.out] at h
                exact h
              have SF : Hid (stepF (s.ro.tdiv 2) (C.take (k + 1)) x = (!decide ((loadT (C.take (k + 1)) x.one : Int) > s.ro.tdiv 2) && (x.two == 0 || !decide ((loadT (C.take (k + 1)) x.two : Int) > s.ro.tdiv 2)))) := rfl
              have GG1 := fun nq => (M3'.out.below (below_dn14 w3 nq)).get x.one (by omega) (by omega)
              have GG2 := fun nq => (M3'.out.below (below_dn14 w3 nq)).get x.two (by omega) (by omega)
              have NO2 : Hid (stepF (s.ro.tdiv 2) (C.take (k + 1)) x = false → RES = false) := fun h => by rw [HRES.out]; exact fits_no HXK.out (by rw [h, Bool.and_false])
              have YES2 : Hid (stepF (s.ro.tdiv 2) (C.take (k + 1)) x = true → okK s C (k + 1)) := fun h i y hi hy => by
                by_cases hik : i = k
                · subst hik
                  rw [HXK.out] at hy
                  cases hy
                  rw [HOK.out, h]
                  rfl
                · exact HK.out i y (by omega) hy
              clear M1 M2 M3 gr2 gr3 d2 e2 d3 e3 B2 B1 S1 c26a LN g1 hgq hgg
              go_upto_region 11 with (go_at_call 25; refine (BS.out _ _ _ _).mono ?_; rintro e w' ⟨rfl, rfl⟩)
              clear P1 P2 G1 G2 c26 c27 c28 c27b c28b c1
              generalize (loadT (C.take (k + 1)) x.one : Int) = v1 at SF GG1
              generalize (loadT (C.take (k + 1)) x.two : Int) = v2 at SF GG2
              generalize s.ro.tdiv 2 = hh at HR SF NO2 YES2
              by_cases ha : v1 > hh
              · have ha' : decide (v1 > hh) = true := by simpa using ha
                have ha'' : decide (hh < v1) = true := by simpa using ha
                have HF : Hid (RES = false) := NO2.out (by rw [SF.out, ha']; rfl)
                go_quiet (first | (go_at_call 30; exact Calls.quiet_of_same (HR.out _)))
                have bq : Below w3.heap.size w3 (w3.drewN nq) := below_dn14 _ _
                have BQ : Hid (Below w.heap.size w (w3.drewN nq)) := B3.out.trans (bq.mono B3.out.size)
                go_wp2_with fail
                go_ret
                exact ⟨by rw [HF.out]; rfl, BQ.out⟩
              · have ha' : decide (v1 > hh) = false := by simpa using ha
                have ha'' : decide (hh < v1) = false := by simpa using ha
                by_cases hz : x.two = 0
                · have hz' : (x.two == 0) = true := by simpa using hz
                  have hz'' : (x.two != 0) = false := by simp [hz]
                  have HK2 : Hid (okK s C (k + 1)) := YES2.out (by rw [SF.out, ha', hz']; rfl)
                  go_quiet (first | (go_at_call 30; exact Calls.quiet_of_same (HR.out _)))
                  have bq : Below w3.heap.size w3 (w3.drewN nq) := below_dn14 _ _
                  have MQ : Hid (MapG (w3.drewN nq) (gs + 1) (2 * (k + 1)) (fun m => (loadT (C.take (k + 1)) m : Int))) := M3'.out.below bq
                  have SQ : Hid ((w3.drewN nq).heap[gs]? = some (.cells (stA s) 24 (0, 0))) := (bq.block _ (Array.getElem?_eq_some_iff.1 S3.out).1).trans S3.out
                  have BQ : Hid (Below w.heap.size w (w3.drewN nq)) := B3.out.trans (bq.mono B3.out.size)
                  clear bq M3' S3 B3 SF GG1 GG2 NO2 YES2
                  go_wp2_with fail
                  go_roundw
                  case rel => exact ⟨k + 1, by omega, by go_num, HK2, MQ, SQ, BQ⟩
                  case measure => simp [intOf]; omega
                · have hz' : (x.two == 0) = false := by simpa using hz
                  have hz'' : (x.two != 0) = true := by simpa using hz
                  by_cases hb : v2 > hh
                  · have hb' : decide (v2 > hh) = true := by simpa using hb
                    have hb'' : decide (hh < v2) = true := by simpa using hb
                    have HF : Hid (RES = false) := NO2.out (by rw [SF.out, ha', hz', hb']; rfl)
                    go_quiet (first | (go_at_call 30; exact Calls.quiet_of_same (HR.out _)))
                    have bq : Below w3.heap.size w3 (w3.drewN nq) := below_dn14 _ _
                    have BQ : Hid (Below w.heap.size w (w3.drewN nq)) := B3.out.trans (bq.mono B3.out.size)
                    go_wp2_with fail
                    go_ret
                    exact ⟨by rw [HF.out]; rfl, BQ.out⟩
                  · have hb' : decide (v2 > hh) = false := by simpa using hb
                    have hb'' : decide (hh < v2) = false := by simpa using hb
                    have HK2 : Hid (okK s C (k + 1)) := YES2.out (by rw [SF.out, ha', hz', hb']; rfl)
                    go_quiet (first | (go_at_call 30; exact Calls.quiet_of_same (HR.out _)))
                    have bq : Below w3.heap.size w3 (w3.drewN nq) := below_dn14 _ _
                    have MQ : Hid (MapG (w3.drewN nq) (gs + 1) (2 * (k + 1)) (fun m => (loadT (C.take (k + 1)) m : Int))) := M3'.out.below bq
                    have SQ : Hid ((w3.drewN nq).heap[gs]? = some (.cells (stA s) 24 (0, 0))) := (bq.block _ (Array.getElem?_eq_some_iff.1 S3.out).1).trans S3.out
                    have BQ : Hid (Below w.heap.size w (w3.drewN nq)) := B3.out.trans (bq.mono B3.out.size)
                    clear bq M3' S3 B3 SF GG1 GG2 NO2 YES2
                    go_wp2_with fail
                    go_roundw
                    case rel => exact ⟨k + 1, by omega, by go_num, HK2, MQ, SQ, BQ⟩
                    case measure => simp [intOf]; omega
      · have hlt' : ¬ (k : Int) < (n : Int) := by omega
        obtain rfl : n = k := by omega
        have HF : Hid (RES = true) := by show _ = _; rw [HRES.out]; exact fits_yes HLEN.out (by rw [← HN.out]; exact HK.out)
        go_wp2_with fail
        go_ret
        exact ⟨by rw [HF.out]; rfl, HB.out⟩
end Go.Proofs.Ytpbinkmeldkehaa
