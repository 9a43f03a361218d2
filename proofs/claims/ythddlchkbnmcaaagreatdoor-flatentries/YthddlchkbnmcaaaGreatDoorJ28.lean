import Derived.Test.YthddlchkbnmcaaaGreatDoorJ24
import Derived.Test.YthddlchkbnmcaaaGreatDoorJ12
namespace Go.Proofs.YthddlchkbnmcaaaGreatDoor
open Go Go.RowKit
set_option maxRecDepth 20000

set_option maxHeartbeats 400000 in
theorem many_any (b : Nat) (hb : b ≤ 16) (w : World) :
    Calls Tryz.prog 57 #[.int .i64 (b : Int)] w fun e w' => e = .returned (.int .i64 ((sz b : Nat) : Int)) ∧ w' = w := by
  have H0 : Hid (∀ k, k ≤ 16 → b ≤ k → 2 ^ (k - b) ≤ 65536) := fun k h1 h2 => Nat.le_trans (Nat.pow_le_pow_right (by decide) (show k - b ≤ 16 by omega)) (by decide)
  go_enter Tryz.func57, Tryz.ntmps57
  go_wp2_with fail
  go_loop [3, 4] (fun n k => ∃ i : Nat, b ≤ i ∧ i ≤ 16 ∧ k = .int .i64 (i : Int) ∧ n = .int .i64 ((2 ^ (i - b) : Nat) : Int)) (fun _ k => 16 - (intOf k).toNat)
  case atStart => exact ⟨b, Nat.le_refl _, hb, rfl, by rw [Nat.sub_self]; rfl⟩
  case round =>
    obtain ⟨i, h1, h2, rfl, rfl⟩ := hrel
    have hp := H0.out i h2 h1
    have HS : Hid (2 ^ (i + 1 - b) = 2 ^ (i - b) * 2) := by
      show 2 ^ (i + 1 - b) = 2 ^ (i - b) * 2
      rw [show i + 1 - b = (i - b) + 1 by omega, Nat.pow_succ]
    have HE : Hid (i = 16 → 2 ^ (i - b) = sz b) := fun e => by subst e; rfl
    obtain ⟨x, hx⟩ : ∃ x, x = 2 ^ (i - b) := ⟨_, rfl⟩
    rw [← hx] at hp HS HE ⊢
    clear hx
    by_cases hlt : i < 16
    · go_wp2_with fail
      go_round
      case rel => exact ⟨i + 1, by omega, by omega, by go_num, by rw [HS.out]; go_num⟩
      case measure => simp [intOf]; omega
    · go_wp2_with fail
      go_ret
      exact ⟨ret_int (by rw [HE.out (by omega)]), rfl⟩

set_option maxHeartbeats 1000000 in
theorem rrange_ok (l h : Nat) (hl : l ≤ h) (hh : h ≤ 65535) (w : World) :
    Calls Tryz.prog 33 #[.int .i64 (l : Int), .int .i64 (h : Int)] w fun e w' => ∃ u, e = .returned (.tuple #[u, .int .i64 0]) ∧ w'.ownsRow w.heap.size 102 2 u (rng h l).length (pcells (rng h l)) ∧ Below w.heap.size w w' := by
  have MY : Hid (∀ b : Nat, b ≤ 16 → ∀ W, Calls Tryz.prog 57 #[.int .i64 (b : Int)] W fun e w' => e = .returned (.int .i64 ((sz b : Nat) : Int)) ∧ w' = W) := fun b hb W => many_any b hb W
  have HL : Hid ((rng h l).length ≤ 65536) := Nat.le_trans (rng_le h l) (by omega)
  have q0 : ¬ h < l := by omega
  have q1 : ¬ (65535 : Int) < (h : Int) := by omega
  have q2 : ¬ (l : Int) < 0 := by omega
  have n0 := heap_new w (.cells #[] 102) _ rfl
  go_enter Tryz.func33, Tryz.ntmps33
  go_wp2_with fail
  clear q0 q1 q2
  go_loopw [6, 7] (fun out i wr => ∃ n : Nat, n ≤ h + 1 ∧ i = .int .i64 (n : Int) ∧ ∃ P : List (Nat × Nat), P ++ rng h n = rng h l ∧ wr.ownsRow w.heap.size 102 2 out P.length (pcells P) ∧ Below w.heap.size w wr) (fun _ i _ => h + 1 - (intOf i).toNat)
  case atStart => exact ⟨l, by omega, rfl, [], rfl, ⟨rfl, Or.inr ⟨w.heap.size, 0, #[], rfl, Nat.le_refl _, n0, Nat.le_refl _, by decide, rfl, rfl⟩⟩, (Below.refl _ _).alloc (Nat.le_refl _) _⟩
  case round =>
    obtain ⟨n, hn, rfl, P, hP, hown, hb⟩ := hrel
    have HP : Hid (P ++ rng h n = rng h l) := hP
    have hPl : P.length ≤ 65536 := by
      have := HL.out
      rw [← hP, List.length_append] at this
      omega
    have OWN : Hid (wr.ownsRow w.heap.size 102 2 u6 P.length (pcells P)) := hown
    clear hP hown n0
    obtain ⟨wo, hwo⟩ : ∃ wo : World, wo = wr := ⟨_, rfl⟩
    rw [← hwo] at hb OWN ⊢
    clear hwo
    by_cases hlt : n ≤ h
    · go_wp2_with fail
      go_loop [8] (fun x => ∃ b : Nat, b ≤ 16 ∧ x = .int .i64 (b : Int) ∧ ∀ c, c < b → okP n h c = false) (fun x => 16 - (intOf x).toNat)
      case atStart => exact ⟨0, Nat.zero_le _, rfl, fun c hc => by omega⟩
      case round =>
        obtain ⟨b, hb16, rfl, hno⟩ := hrel
        have D : Hid (∀ W, Calls Tryz.prog 57 #[.int .i64 (b : Int)] W fun e w' => e = .returned (.int .i64 ((sz b : Nat) : Int)) ∧ w' = W) := MY.out b hb16
        have HNO : Hid (∀ c, c < b → okP n h c = false) := hno
        have hs0 := sz_pos b
        have hs1 := sz_le b
        obtain ⟨s, hs⟩ : ∃ s, s = sz b := ⟨_, rfl⟩
        rw [← hs] at D hs0 hs1
        have HS : Hid (s = sz b) := hs
        have HB : Hid (b = 16 → s = 1) := fun e => by subst e; rw [HS.out, sz_16]
        clear hno hs
        by_cases hm : (n : Int) % (s : Int) = 0
        · by_cases hf : (n : Int) + (s : Int) > (h : Int) + 1
          · have hb15 : b < 16 := by
              rcases Nat.lt_or_ge b 16 with h16 | h16
              · exact h16
              · have := HB.out (by omega)
                omega
            go_wp2_with (first
              | (go_at_call 57; refine (D.out _).mono ?_; rintro e w' ⟨rfl, rfl⟩))
            go_round
            case rel => exact ⟨b + 1, by omega, by go_num, next_no HNO.out (by rw [← HS.out]; exact .inr (by omega))⟩
            case measure => simp [intOf]; omega
          · have HG : Hid (gr n h = b) := gr_eq hlt ⟨hb16, (okP_iff _ _ _).2 (by rw [← HS.out]; exact ⟨by omega, by omega⟩), HNO.out⟩
            have HC : Hid (rng h n = (n, b) :: rng h (n + s)) := by
              have := rng_cons hlt
              rw [HG.out, ← HS.out] at this
              exact this
            go_wp2_with (first
              | (go_at_call 57; refine (D.out _).mono ?_; rintro e w' ⟨rfl, hw'⟩; rw [hw']; clear hw' w')
              | (refine wl_buildP rfl _ rfl (n : Int) (b : Int) rfl ?_)
              | (at_builtin; refine of_stopped ?_))
            unfold Stopped
            have hws := hb.size
            have a1 := heap_new wo (.cells (pv (n : Int) (b : Int)) 102) _ rfl
            have OWN3 : Hid ((wo.alloc (.cells (pv (n : Int) (b : Int)) 102)).ownsRow w.heap.size 102 2 u6 P.length (pcells P)) := OWN.out.alloc _
            have B3 := hb.alloc hb.size (.cells (pv (n : Int) (b : Int)) 102)
            refine wl_appendP rfl _ _ rfl w.heap.size _ P (n, b) rfl OWN3.out _ 1 rfl a1 (by omega) (by simp; omega) ?_
            intro v' w2 hown2 hgr
            have B4 : Below w.heap.size w w2 := B3.grown hgr (by simp; omega) (fun q hq => (OWN3.out.lt q hq).1)
            have OWN4 : Hid (w2.ownsRow w.heap.size 102 2 v' (P ++ [(n, b)]).length (pcells (P ++ [(n, b)]))) := hown2
            simp only [Act.put, List.setIfInBounds_toArray, List.set_cons_succ, List.set_cons_zero]
            clear hown2 hgr a1 OWN3 B3 OWN
            go_wp2_with (first
              | (go_at_call 57; refine (D.out _).mono ?_; rintro e w' ⟨rfl, rfl⟩))
            go_roundw
            case rel => exact ⟨n + s, by omega, by go_num, P ++ [(n, b)], by rw [List.append_assoc, List.singleton_append, ← HC.out]; exact HP.out, OWN4.out, B4⟩
            case measure => simp [intOf]; omega
        · have hb15 : b < 16 := by
            rcases Nat.lt_or_ge b 16 with h16 | h16
            · exact h16
            · have := HB.out (by omega)
              subst this
              omega
          go_wp2_with (first
            | (go_at_call 57; refine (D.out _).mono ?_; rintro e w' ⟨rfl, rfl⟩))
          go_round
          case rel => exact ⟨b + 1, by omega, by go_num, next_no HNO.out (by rw [← HS.out]; exact .inl (by omega))⟩
          case measure => simp [intOf]; omega
    · have HE : Hid (rng h n = []) := rng_nil (by omega)
      go_wp2_with fail
      go_ret2
      refine ⟨u6, rfl, ?_, hb⟩
      have := HP.out
      rw [HE.out, List.append_nil] at this
      rw [← this]; exact OWN.out

set_option maxHeartbeats 400000 in
theorem rrange_no (l h : Int) (hl : ¬ (0 ≤ l ∧ l ≤ h ∧ h ≤ 65535)) (w : World) :
    Calls Tryz.prog 33 #[.int .i64 l, .int .i64 h] w fun e w' => e = .returned (.tuple #[.slice none 0 0, .int .i64 10]) ∧ w' = w := by
  by_cases h0 : l < 0
  · go_enter Tryz.func33, Tryz.ntmps33
    go_wp2_with fail
    go_ret2
    exact ⟨rfl, rfl⟩
  · by_cases h1 : h > 65535
    · go_enter Tryz.func33, Tryz.ntmps33
      go_wp2_with fail
      go_ret2
      exact ⟨rfl, rfl⟩
    · have h2 : l > h := by omega
      clear hl
      go_enter Tryz.func33, Tryz.ntmps33
      go_wp2_with fail
      go_ret2
      exact ⟨rfl, rfl⟩

theorem rrange_any (l h : Int) (w : World) :
    Calls Tryz.prog 33 #[.int .i64 l, .int .i64 h] w fun e w' => ∃ u, e = .returned (.tuple #[u, .int .i64 (ranE l h)]) ∧ w'.ownsRow w.heap.size 102 2 u (ran l h).length (pcells (ran l h)) ∧ Below w.heap.size w w' := by
  unfold ran ranE
  by_cases c : isR l h = true
  · simp only [c, if_true]
    have := (isR_iff l h).1 c
    obtain ⟨l', rfl⟩ := Int.eq_ofNat_of_zero_le this.1
    obtain ⟨h', rfl⟩ := Int.eq_ofNat_of_zero_le (Int.le_trans this.1 this.2.1)
    exact rrange_ok l' h' (by omega) (by omega) w
  · have c' : isR l h = false := by simpa using c
    simp only [c', Bool.false_eq_true, if_false]
    refine (rrange_no l h (fun hc => c ((isR_iff l h).2 hc)) w).mono ?_
    rintro e w' ⟨rfl, rfl⟩
    exact ⟨_, rfl, World.ownsRow_nil _ _ _ _, Below.refl _ _⟩
end Go.Proofs.YthddlchkbnmcaaaGreatDoor
namespace Go.Proofs.YthddlchkbnmcaaaGreatDoor
open Go Go.RowKit
set_option maxRecDepth 20000

theorem load_num (w : World) (g k : Nat) (cs : Array Value) (t : TypeId) (fr : Nat × Nat) (n : Int) (hg : w.heap[g]? = some (.cells cs t fr)) (hc : cs[k]? = some (.int .i64 n)) :
    (loadVar 3 ⟨g, k, none⟩).run Tryz.prog w = .ok (.int .i64 n) w := by
  have hagg : (isAgg 3).run Tryz.prog w = .ok false w := by kernel_rfl
  have h1 : w.cell? ⟨g, k, none⟩ = some (.int .i64 n) := by rw [cell_of_row w g k cs t fr hg, hc]
  simp [loadVar, Sem.run_bind, hagg, h1]
theorem Calls.later_same {P : Program} {f : FuncId} {args : Array Value} {W : World} {u : Later W} {v : Value}
    (h : Calls P f args u.world fun e w' => e = .returned v ∧ w' = u.world) : Calls P f args u.world fun e w'' => e = .returned v ∧ ∃ u' : Later W, w'' = u'.world :=
  h.mono fun _ _ ⟨he, hb⟩ => ⟨he, u, hb⟩

end Go.Proofs.YthddlchkbnmcaaaGreatDoor
namespace Go.Proofs.YthddlchkbnmcaaaGreatDoor
open Go Go.RowKit
set_option maxRecDepth 20000

theorem hbit_in (A : List Int) (k j : Nat) (hk : k < 13) (hj : j < 8) : bitB A ((8 * k + j : Nat) : Int) = (A.getD k 0 / 2 ^ (7 - j) % 2 == 1) := by
  unfold bitB byteAt
  rw [decide_eq_true (by omega), Bool.true_and, show (((8 * k + j : Nat) : Int) / 8).toNat = k by omega, show (7 - ((8 * k + j : Nat) : Int) % 8).toNat = 7 - j by omega]

/-- The byte of a number that lies in the header's bytes, and so its bits. -/
theorem getN_byte (L : List Int) (hL : Byt L) (at0 : Nat) : ∀ (s m : Nat), m < s → getN L at0 s / 2 ^ (8 * (s - 1 - m)) % 256 = L.getD (at0 + m) 0
  | 0, _, h => by omega
  | s + 1, m, h => by
    have hb := hL.2 (at0 + s)
    by_cases e : m = s
    · subst e
      simp only [getN, Nat.add_sub_cancel, Nat.sub_self, Nat.mul_zero, Int.pow_zero, Int.ediv_one]
      omega
    · have ih := getN_byte L hL at0 s m (by omega)
      have e1 : 8 * (s + 1 - 1 - m) = 8 + 8 * (s - 1 - m) := by omega
      rw [e1, Int.pow_add, ← Int.ediv_ediv_of_nonneg (by decide)]
      have e2 : getN L at0 (s + 1) / 2 ^ 8 = getN L at0 s := by
        simp only [getN]
        omega
      rw [e2]; exact ih

theorem bit_of_byte (g : Int) (t j : Nat) (hj : j < 8) : g / 2 ^ (8 * t) % 256 / 2 ^ (7 - j) % 2 = g / 2 ^ (8 * t + (7 - j)) % 2 := by
  rw [Int.pow_add, ← Int.ediv_ediv_of_nonneg (Int.pow_nonneg (by decide))]
  generalize g / 2 ^ (8 * t) = y
  rcases (show j = 0 ∨ j = 1 ∨ j = 2 ∨ j = 3 ∨ j = 4 ∨ j = 5 ∨ j = 6 ∨ j = 7 by omega) with e | e | e | e | e | e | e | e <;> subst e <;> simp only [Nat.sub_zero, Nat.sub_self, Nat.reduceSub, Int.reducePow, Int.pow_zero, Int.ediv_one] <;> omega

theorem getN_bit (L : List Int) (hL : Byt L) (at0 size i : Nat) (hs : at0 + size ≤ 13) (hi : i < 8 * size) :
    bitB L ((8 * at0 + i : Nat) : Int) = (getN L at0 size / 2 ^ (8 * size - 1 - i) % 2 == 1) := by
  have e : 8 * at0 + i = 8 * (at0 + i / 8) + i % 8 := by omega
  rw [e, hbit_in L (at0 + i / 8) (i % 8) (by omega) (by omega), ← getN_byte L hL at0 size (i / 8) (by omega), bit_of_byte _ _ _ (by omega), show 8 * (size - 1 - i / 8) + (7 - i % 8) = 8 * size - 1 - i by omega]

end Go.Proofs.YthddlchkbnmcaaaGreatDoor
namespace Go.Proofs.YthddlchkbnmcaaaGreatDoor
open Go Go.RowKit
set_option maxRecDepth 20000

set_option maxHeartbeats 1000000 in
theorem field_core (L : List Int) (hL : Byt L) (f : Int) (at0 size : Nat) (w : World) (hs : at0 + size ≤ 13) (hs4 : size ≤ 4) (hP : Places w)
    (hpl : ∀ W, Places W → Calls Tryz.prog 82 #[.int .i64 f] W fun e w' => e = .returned (.tuple #[.int .i64 (8 * (at0 : Int)), .int .i64 (8 * (size : Int)), .int .i64 0]) ∧ Below W.heap.size W w') :
    Calls Tryz.prog 90 #[.agg (hv L), .int .i64 f] w fun e w' => e = .returned (.tuple #[.int .u32 (getN L at0 size), .int .i64 0]) ∧ Below w.heap.size w w' := by
  have hl := hL.1
  have hp := hP.pos
  have HP : Hid (∀ W, Places W → Calls Tryz.prog 82 #[.int .i64 f] W fun e w' => e = .returned (.tuple #[.int .i64 (8 * (at0 : Int)), .int .i64 (8 * (size : Int)), .int .i64 0]) ∧ Below W.heap.size W w') := hpl
  clear hpl
  go_enter Tryz.func90, Tryz.ntmps90
  go_wp2_with fail
  refine (HP.out _ (hP.later hp ((Below.refl _ _).alloc (Nat.le_refl _) _))).mono ?_
  clear HP
  rintro e w1 ⟨rfl, hb1⟩
  have g1 : w1.heap[w.heap.size]? = some (.cells (hv L) 31 (0, 0)) := by rw [hb1.block _ (by simp)]; exact heap_new _ _ _ rfl
  have hB1 : Below w.heap.size w w1 := ((Below.refl _ _).alloc (Nat.le_refl _) _).trans (hb1.mono (by simp))
  clear hP hb1
  go_wp2_with (refine wl_load26 rfl _ rfl w.heap.size rfl L g1 hl ?_)
  refine (get_any L hL at0 size w1 hs hs4).mono ?_
  rintro e w2 ⟨rfl, rfl⟩
  go_wp2_with fail
  go_ret2
  exact ⟨rfl, hB1.alloc hB1.size _⟩

theorem field_ok (L : List Int) (hL : Byt L) (f : Int) (w : World) (h0 : 0 ≤ f) (h1 : f < 5) (hP : Places w) :
    Calls Tryz.prog 90 #[.agg (hv L), .int .i64 f] w fun e w' => e = .returned (.tuple #[.int .u32 (getN L (atOf f) (sizeOfF f)), .int .i64 0]) ∧ Below w.heap.size w w' := by
  obtain ⟨_, _, a1, a2, _⟩ := place_facts f h0 h1
  exact field_core L hL f (atOf f) (sizeOfF f) w a1 a2 hP (place_at f h0 h1)

theorem first_at (f : Int) (h0 : 0 ≤ f) (h1 : f < 5) (W : World) : Calls Tryz.prog 86 #[.int .i64 f] W fun e w' => e = .returned (.int .i64 ((8 * atOf f : Nat) : Int)) ∧ w' = W := by
  have h := first_in f W h0 h1
  rw [(place_facts f h0 h1).1] at h
  rw [Int.natCast_mul]; exact h
theorem width_at (f : Int) (h0 : 0 ≤ f) (h1 : f < 5) (W : World) : Calls Tryz.prog 87 #[.int .i64 f] W fun e w' => e = .returned (.int .i64 ((8 * sizeOfF f : Nat) : Int)) ∧ w' = W := by
  have h := width_in f W h0 h1
  rw [(place_facts f h0 h1).2.1] at h
  rw [Int.natCast_mul]; exact h

theorem putN_at (L : List Int) (at0 size : Nat) (v : Int) : ∀ n, at0 + n ≤ L.length → ∀ k, (putN L at0 size v n).getD k 0 = if at0 ≤ k ∧ k < at0 + n then v / 2 ^ (8 * (size - 1 - (k - at0))) % 256 else L.getD k 0
  | 0, _, k => by rw [if_neg (by omega)]; rfl
  | n + 1, h, k => by
    show ((putN L at0 size v n).set (at0 + n) _).getD k 0 = _
    rw [getD_set _ _ _ _ (by rw [putN_length]; omega)]
    by_cases e : at0 + n = k
    · rw [if_pos e, if_pos (by omega), show k - at0 = n by omega]
    · rw [if_neg e, putN_at L at0 size v n (by omega) k]
      by_cases e2 : at0 ≤ k ∧ k < at0 + n
      · rw [if_pos e2, if_pos (by omega)]
      · rw [if_neg e2, if_neg (by omega)]
theorem putN_byt (L : List Int) (hL : Byt L) (at0 size : Nat) (v : Int) (hs : at0 + size ≤ 13) : Byt (putN L at0 size v size) := by
  refine ⟨by rw [putN_length]; exact hL.1, fun k => ?_⟩
  rw [putN_at L at0 size v size (by rw [hL.1]; exact hs) k]
  split
  · exact ⟨Int.emod_nonneg _ (by decide), Int.emod_lt_of_pos _ (by decide)⟩
  · exact hL.2 k

theorem head_ext (A B : List Int) (hA : Byt A) (hB : Byt B) (h : ∀ k : Nat, k < 104 → bitB A (k : Int) = bitB B (k : Int)) : A = B :=
  bt_ext A B hA hB fun i hi => by rw [← bitB_bt A i hi, ← bitB_bt B i hi]; exact h i hi

theorem withB_put (L : List Int) (hL : Byt L) (at0 size v : Nat) (hs : at0 + size ≤ 13) : withB L (8 * at0) (8 * size) v (8 * size) = putN L at0 size (v : Int) size := by
  obtain ⟨h1, h2⟩ := withB_bit L hL (8 * at0) (8 * size) v (by omega) (8 * size) (by omega)
  refine head_ext _ _ h1 (putN_byt L hL at0 size v hs) fun k hk => ?_
  rw [h2 k hk]
  have e : k = 8 * (k / 8) + k % 8 := by omega
  have hb := hbit_in (putN L at0 size (v : Int) size) (k / 8) (k % 8) (by omega) (by omega)
  rw [← e, putN_at L at0 size v size (by rw [hL.1]; exact hs)] at hb
  rw [hb]
  by_cases c : 8 * at0 + 8 * size - 8 * size ≤ k ∧ k < 8 * at0 + 8 * size
  · rw [if_pos c, if_pos (by omega), bit_of_byte _ _ _ (by omega), show 8 * (size - 1 - (k / 8 - at0)) + (7 - k % 8) = 8 * at0 + 8 * size - 1 - k by omega, Bool.eq_iff_iff, beq_iff_eq, beq_iff_eq]
    have hc : (v : Int) / 2 ^ (8 * at0 + 8 * size - 1 - k) = ((v / 2 ^ (8 * at0 + 8 * size - 1 - k) : Nat) : Int) := by simp
    rw [hc]; omega
  · rw [if_neg c, if_neg (by omega)]
    have hb2 := hbit_in L (k / 8) (k % 8) (by omega) (by omega)
    rw [← e] at hb2
    exact hb2

theorem refWith_ok (L : List Int) (hL : Byt L) (f v : Int) (w : World) (h0 : 0 ≤ f) (h1 : f < 5) (hv0 : 0 ≤ v) (hv1 : v < 4294967296) (hvw : v < 2 ^ (8 * sizeOfF f)) :
    Calls Tryz.prog 58 #[.agg (hv L), .int .i64 f, .int .u32 v] w fun e w' => e = .returned (.tuple #[.agg (hv (putN L (atOf f) (sizeOfF f) v (sizeOfF f))), .int .i64 0]) ∧ Below w.heap.size w w' := by
  obtain ⟨n, rfl⟩ := Int.eq_ofNat_of_zero_le hv0
  obtain ⟨_, _, a1, a2, a3⟩ := place_facts f h0 h1
  refine (refWith_core L hL f (8 * atOf f) (8 * sizeOfF f) n w (by omega) (by omega) (by omega) (first_at f h0 h1) (width_at f h0 h1)).mono fun e w' h => ⟨?_, h.2.2⟩
  rw [h.1 (by exact_mod_cast hvw), withB_put L hL _ _ _ a1]
end Go.Proofs.YthddlchkbnmcaaaGreatDoor
namespace Go.Proofs.YthddlchkbnmcaaaGreatDoor
open Go Go.RowKit
set_option maxRecDepth 20000

end Go.Proofs.YthddlchkbnmcaaaGreatDoor
namespace Go.Proofs.YthddlchkbnmcaaaGreatDoor
open Go Go.RowKit
set_option maxRecDepth 20000

theorem ran_mem {l h : Int} {p : Nat × Nat} {k : Nat} (hp : (ran l h)[k]? = some p) : p.2 ≤ 16 ∧ p.1 ≤ 65535 := by
  unfold ran at hp
  by_cases c : isR l h = true
  · rw [if_pos c] at hp
    have hc := (isR_iff l h).1 c
    have := List.mem_of_getElem? hp
    exact ⟨rng_bits this, by have := (rng_mem _ _ _ this).2.1; omega⟩
  · rw [if_neg c] at hp; simp at hp
theorem ran_few (l h : Int) : (ran l h).length ≤ 30 := by
  unfold ran
  by_cases c : isR l h = true
  · rw [if_pos c]
    have hc := (isR_iff l h).1 c
    exact rng_few _ _ (by omega) (by omega)
  · rw [if_neg c]; exact Nat.zero_le _
end Go.Proofs.YthddlchkbnmcaaaGreatDoor
