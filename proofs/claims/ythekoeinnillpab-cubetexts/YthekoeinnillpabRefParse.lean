import Derived.Test.YthekoeinnillpabParse
namespace Go.Proofs.Ythekoeinnillpab
open Go Go.RowKit

theorem ext104 (A B : List UInt8) (hA : A.length = 104) (hB : B.length = 104) (h : ∀ i, i < 104 → A.getD i 0 = B.getD i 0) : A = B := by
  apply List.ext_getElem (by omega)
  intro k h1 h2
  have := h k (by omega)
  simpa [List.getD, h1, h2] using this
theorem txt_parse (S : List UInt8) (hS : S.length = 104) : (txt (mk (pV S)) (mk (pM S)) == S) = goodB S := by
  rw [Bool.eq_iff_iff, beq_iff_eq, good_iff]
  have hl : ∀ i, i < 104 → letter (mk (pV S)) (mk (pM S)) i = if pM S i then (if pV S i then 49 else 48) else 42 := fun i hi => by
    unfold letter; rw [mk_bt _ i hi, mk_bt _ i hi]
  have hg : ∀ i, i < 104 → (txt (mk (pV S)) (mk (pM S))).getD i 0 = letter (mk (pV S)) (mk (pM S)) i := fun i hi => by
    unfold txt
    simp [List.getD, hi]
  constructor
  · intro h
    refine ⟨hS, fun i hi => ?_⟩
    have e := hg i hi
    rw [h, hl i hi] at e
    rw [e]
    unfold okB
    cases pM S i <;> cases pV S i <;> simp
  · rintro ⟨_, h⟩
    refine ext104 _ _ (txt_length _ _) hS fun i hi => ?_
    have e := hg i hi
    rw [hl i hi] at e
    have h3 := h i hi
    rw [e]
    unfold okB at h3
    unfold pM pV
    cases a : (S.getD i 0 == 48)
    · cases b : (S.getD i 0 == 49)
      · rw [a, b] at h3
        have : S.getD i 0 = 42 := by simpa using h3
        rw [this]; simp
      · have : S.getD i 0 = 49 := by simpa using b
        rw [this]; simp
    · have : S.getD i 0 = 48 := by simpa using a
      rw [this]; decide

set_option maxHeartbeats 1000000 in
theorem rparse_short (s : ByteArray) (hs : s.size ≠ 104) (hm : s.size ≤ maxLen) (w : World) :
    Calls Try.prog 12 #[.string s] w fun e w' => e = .returned (.tuple #[.agg (cv Z Z), .int .i64 12]) ∧ Below w.heap.size w w' := by
  have hzl := Z_byt.1
  have hn : ((s.size : Int) != 104) = true := by simp; omega
  have HM : Hid (s.size ≤ maxLen) := hm
  clear hs hm
  go_enter Try.func12, Try.ntmps12
  have g0 := heap_past (w.alloc (.cells zeroC 25)) (.cells (cv Z Z) 25) _ _ (heap_new w (.cells zeroC 25) _ rfl)
  have g1 := heap_new (w.alloc (.cells zeroC 25)) (.cells (cv Z Z) 25) (w.heap.size + 1) (by simp)
  go_wp2_with (first
    | (refine wl_zeroC rfl rfl ?_)
    | (refine wl_storeC rfl _ _ rfl (w.heap.size + 1) Z Z rfl rfl _ (heap_new _ _ _ (by simp)) rfl hzl hzl _ (setRow_new _ _ _ _ _ (by simp)) ?_)
    | (refine wl_loadC rfl _ rfl (w.heap.size + 1) rfl Z Z g1 hzl hzl ?_)
    | (refine wl_storeC rfl _ _ rfl w.heap.size Z Z rfl rfl _ g0 rfl hzl hzl _ rfl ?_))
  refine retCe (p := 2) (u := 3) rfl rfl w.heap.size rfl Z Z hzl hzl (setRow_heap _ _ _ _ _ _ g0) _ rfl ⟨rfl, ?_⟩
  exact below_setRow (((Below.refl _ _).alloc (Nat.le_refl _) _).alloc (by simp) _) (Nat.le_refl _) _

set_option maxHeartbeats 4000000 in
theorem rparse_long (s : ByteArray) (hs : s.size = 104) (w : World) :
    Calls Try.prog 12 #[.string s] w fun e w' => e = .returned (parseR s.data.toList) ∧ Below w.heap.size w w' := by
  have hzl := Z_byt.1
  obtain ⟨S, hS⟩ : ∃ S, S = s.data.toList := ⟨_, rfl⟩
  have hSl : S.length = 104 := by rw [hS]; simpa using hs
  have hSg : ∀ k (hk : k < s.size), S.getD k 0 = s[k] := fun k hk => by rw [hS]; exact byte_get s k hk
  have CS0 : Hid (∀ k : Nat, k < 104 → pV S k = false → pM S k = true → ∀ W, Calls Try.prog 24 #[.agg (cv (upto k (pV S)) (upto k (pM S))), .int .i64 (k : Int), .int .i64 0] W fun e w' => e = .returned (.agg (cv (upto (k + 1) (pV S)) (upto (k + 1) (pM S)))) ∧ Below W.heap.size W w') := fun k hk h1 h2 => by
    have := rset_any _ _ (upto_byt k (pV S)) (upto_byt k (pM S)) k hk 0
    rwa [show ((0 : Int) == 1) = pV S k by rw [h1]; rfl, show ((0 : Int) != 2) = pM S k by rw [h2]; rfl, upto_succ, upto_succ] at this
  have CS1 : Hid (∀ k : Nat, k < 104 → pV S k = true → pM S k = true → ∀ W, Calls Try.prog 24 #[.agg (cv (upto k (pV S)) (upto k (pM S))), .int .i64 (k : Int), .int .i64 1] W fun e w' => e = .returned (.agg (cv (upto (k + 1) (pV S)) (upto (k + 1) (pM S)))) ∧ Below W.heap.size W w') := fun k hk h1 h2 => by
    have := rset_any _ _ (upto_byt k (pV S)) (upto_byt k (pM S)) k hk 1
    rwa [show ((1 : Int) == 1) = pV S k by rw [h1]; rfl, show ((1 : Int) != 2) = pM S k by rw [h2]; rfl, upto_succ, upto_succ] at this
  obtain ⟨tb, htb⟩ : ∃ tb : ByteArray, tb = ⟨(txt (mk (pV S)) (mk (pM S))).toArray⟩ := ⟨_, rfl⟩
  have CT : Hid (∀ W, Calls Try.prog 13 #[.agg (cv (mk (pV S)) (mk (pM S)))] W fun e w' => e = .returned (.string tb) ∧ Below W.heap.size W w') := by rw [htb]; exact rtext_any _ _ (mk_byt _) (mk_byt _)
  have HTB : Hid ((tb.toList == s.toList) = goodB S) := by
    show _ = _
    rw [ByteArray.toList_eq, ByteArray.toList_eq, htb, ← hS]
    exact txt_parse S hSl
  have HSG : Hid (∀ k (hk : k < s.size), S.getD k 0 = s[k]) := hSg
  have hn : ((s.size : Int) != 104) = false := by simp [hs]
  have HSL : Hid (S.length = 104) := hSl
  rw [← hS]
  clear hS hSl hSg htb
  go_enter Try.func12, Try.ntmps12
  go_wp2_with (first
    | (refine wl_zeroC rfl rfl ?_)
    | (refine wl_storeC rfl _ _ rfl (w.heap.size + 1) Z Z rfl rfl _ (heap_new _ _ _ (by simp)) rfl hzl hzl _ (setRow_new _ _ _ _ _ (by simp)) ?_))
  go_loopw [5] (fun i wr => ∃ k : Nat, k ≤ 104 ∧ i = .int .i64 k ∧ wr.heap[w.heap.size]? = some (.cells zeroC 25 (0, 0)) ∧ wr.heap[w.heap.size + 1]? = some (.cells (cv (upto k (pV S)) (upto k (pM S))) 25 (0, 0)) ∧ Below w.heap.size w wr) (fun i _ => 104 - (intOf i).toNat)
  case atStart => exact ⟨0, Nat.zero_le _, rfl, heap_past _ _ _ _ (heap_new _ _ _ rfl), by rw [upto_zero, upto_zero]; exact heap_new _ _ _ (by simp), ((Below.refl _ _).alloc (Nat.le_refl _) _).alloc (by simp) _⟩
  case round =>
    obtain ⟨k, hk, rfl, g0, g1, hb⟩ := hrel
    have l1 := (upto_byt k (pV S)).1
    have l2 := (upto_byt k (pM S)).1
    have l3 := (upto_byt (k + 1) (pV S)).1
    have l4 := (upto_byt (k + 1) (pM S)).1
    have z1 := (Array.getElem?_eq_some_iff.1 g1).1
    by_cases hlt : k < 104
    · have hks : k < s.size := by omega
      have hks2 : (k : Int) < (s.size : Int) := by omega
      have e48 : ((s[k].toNat : Int) == 48) = (S.getD k 0 == 48) := by rw [HSG.out k hks]; exact nat_beq s[k] 48
      have e49 : ((s[k].toNat : Int) == 49) = (S.getD k 0 == 49) := by rw [HSG.out k hks]; exact nat_beq s[k] 49
      by_cases h48 : (S.getD k 0 == 48) = true
      · have h49' : (S.getD k 0 == 49) = false := by
          have : S.getD k 0 = 48 := by simpa using h48
          rw [this]; rfl
        have C1 : Hid (∀ W, Calls Try.prog 24 #[.agg (cv (upto k (pV S)) (upto k (pM S))), .int .i64 (k : Int), .int .i64 0] W fun e w' => e = .returned (.agg (cv (upto (k + 1) (pV S)) (upto (k + 1) (pM S)))) ∧ Below W.heap.size W w') := CS0.out k hlt h49' (by unfold pM; rw [h48]; rfl)
        rw [h48] at e48
        rw [h49'] at e49
        clear h48 h49'
        go_wp2_with (first
          | (refine wl_loadC rfl _ rfl (w.heap.size + 1) rfl _ _ g1 l1 l2 ?_))
        refine (C1.out _).mono ?_
        rintro e w1 ⟨rfl, hb1⟩
        have k0 : w1.heap[w.heap.size]? = some (.cells zeroC 25 (0, 0)) := by rw [hb1.block _ (by omega)]; exact g0
        have k1 : w1.heap[w.heap.size + 1]? = some (.cells (cv (upto k (pV S)) (upto k (pM S))) 25 (0, 0)) := by rw [hb1.block _ (by omega)]; exact g1
        have B1 := hb.trans (hb1.mono hb.size)
        clear g0 g1 hb hb1 C1 z1
        go_wp2_with (first
          | (refine wl_storeC rfl _ _ rfl (w.heap.size + 1) _ _ rfl rfl _ k1 (cv_size _ _ l1 l2) l3 l4 _ rfl ?_))
        go_roundw
        case rel => exact ⟨k + 1, by omega, by go_num, (setRow_other _ _ _ _ (by omega)).trans k0, setRow_heap _ _ _ _ _ _ k1, below_setRow B1 (by omega) _⟩
        case measure => simp [intOf]; omega
      · have h48' : (S.getD k 0 == 48) = false := by simpa using h48
        rw [h48'] at e48
        by_cases h49 : (S.getD k 0 == 49) = true
        · have C1 : Hid (∀ W, Calls Try.prog 24 #[.agg (cv (upto k (pV S)) (upto k (pM S))), .int .i64 (k : Int), .int .i64 1] W fun e w' => e = .returned (.agg (cv (upto (k + 1) (pV S)) (upto (k + 1) (pM S)))) ∧ Below W.heap.size W w') := CS1.out k hlt h49 (by unfold pM; rw [h49]; simp)
          rw [h49] at e49
          clear h48 h48' h49
          go_wp2_with (first
            | (refine wl_loadC rfl _ rfl (w.heap.size + 1) rfl _ _ g1 l1 l2 ?_))
          refine (C1.out _).mono ?_
          rintro e w1 ⟨rfl, hb1⟩
          have k0 : w1.heap[w.heap.size]? = some (.cells zeroC 25 (0, 0)) := by rw [hb1.block _ (by omega)]; exact g0
          have k1 : w1.heap[w.heap.size + 1]? = some (.cells (cv (upto k (pV S)) (upto k (pM S))) 25 (0, 0)) := by rw [hb1.block _ (by omega)]; exact g1
          have B1 := hb.trans (hb1.mono hb.size)
          clear g0 g1 hb hb1 C1 z1
          go_wp2_with (first
            | (refine wl_storeC rfl _ _ rfl (w.heap.size + 1) _ _ rfl rfl _ k1 (cv_size _ _ l1 l2) l3 l4 _ rfl ?_))
          go_roundw
          case rel => exact ⟨k + 1, by omega, by go_num, (setRow_other _ _ _ _ (by omega)).trans k0, setRow_heap _ _ _ _ _ _ k1, below_setRow B1 (by omega) _⟩
          case measure => simp [intOf]; omega
        · have h49' : (S.getD k 0 == 49) = false := by simpa using h49
          have HV : Hid (upto (k + 1) (pV S) = upto k (pV S) ∧ upto (k + 1) (pM S) = upto k (pM S)) := ⟨upto_same k _ h49', upto_same k _ (by unfold pM; rw [h48', h49']; rfl)⟩
          rw [h49'] at e49
          clear h48 h48' h49 h49'
          go_wp2_with fail
          go_roundw
          case rel => exact ⟨k + 1, by omega, by go_num, g0, by rw [HV.out.1, HV.out.2]; exact g1, hb⟩
          case measure => simp [intOf]; omega
    · obtain rfl : k = 104 := by omega
      rw [upto_all, upto_all] at g1
      have l1 := (mk_byt (pV S)).1
      have l2 := (mk_byt (pM S)).1
      go_wp2_with (first
        | (refine wl_loadC rfl _ rfl (w.heap.size + 1) rfl _ _ g1 l1 l2 ?_))
      refine (CT.out _).mono ?_
      rintro e w1 ⟨rfl, hb1⟩
      have k0 : w1.heap[w.heap.size]? = some (.cells zeroC 25 (0, 0)) := by rw [hb1.block _ (by omega)]; exact g0
      have k1 : w1.heap[w.heap.size + 1]? = some (.cells (cv (mk (pV S)) (mk (pM S))) 25 (0, 0)) := by rw [hb1.block _ (by omega)]; exact g1
      have B1 := hb.trans (hb1.mono hb.size)
      clear g0 g1 hb hb1 z1 CT
      have htb := HTB.out
      cases hg : goodB S
      · rw [hg] at htb
        have HP : Hid (parseR S = .tuple #[.agg (cv Z Z), .int .i64 12]) := by show _ = _; unfold parseR; rw [hg]; rfl
        have htb2 : ¬ tb.toList = s.toList := by simpa using htb
        clear hg HTB
        go_wp2_with (first
          | (refine wl_zeroC rfl rfl ?_)
          | (refine wl_storeC rfl _ _ rfl w.heap.size Z Z rfl rfl _ k0 rfl hzl hzl _ rfl ?_))
        refine retCe (p := 2) (u := 3) rfl rfl w.heap.size rfl Z Z hzl hzl (setRow_heap _ _ _ _ _ _ k0) _ rfl ⟨?_, ?_⟩
        · rw [HP.out]; rfl
        · exact below_setRow B1 (Nat.le_refl _) _
      · rw [hg] at htb
        have HP : Hid (parseR S = .tuple #[.agg (cv (mk (pV S)) (mk (pM S))), .int .i64 0]) := by show _ = _; unfold parseR; rw [hg]; rfl
        have htb2 : tb.toList = s.toList := by simpa using htb
        clear hg HTB
        go_wp2_with (first
          | (refine wl_loadC rfl _ rfl (w.heap.size + 1) rfl _ _ k1 l1 l2 ?_)
          | (refine wl_storeC rfl _ _ rfl w.heap.size _ _ rfl rfl _ k0 rfl l1 l2 _ rfl ?_))
        refine retCe (p := 2) (u := 3) rfl rfl w.heap.size rfl _ _ l1 l2 (setRow_heap _ _ _ _ _ _ k0) _ rfl ⟨?_, ?_⟩
        · rw [HP.out]; rfl
        · exact below_setRow B1 (Nat.le_refl _) _
end Go.Proofs.Ythekoeinnillpab
