import Derived.Test.YthekoeinnillpabRefText
import Derived.Test.YthekoeinnillpabHeadAny
namespace Go.Proofs.Ythekoeinnillpab
open Go Go.RowKit

/-- The bits that a text says. -/
def pV (S : List UInt8) (i : Nat) : Bool := S.getD i 0 == 49
def pM (S : List UInt8) (i : Nat) : Bool := S.getD i 0 == 48 || S.getD i 0 == 49
/-- A letter that may be. -/
def okB (b : UInt8) : Bool := b == 48 || b == 49 || b == 42
def goodB (S : List UInt8) : Bool := S.length == 104 && (List.range 104).all fun i => okB (S.getD i 0)
theorem good_iff (S : List UInt8) : goodB S = true ↔ S.length = 104 ∧ ∀ i, i < 104 → okB (S.getD i 0) = true := by
  unfold goodB
  rw [Bool.and_eq_true, beq_iff_eq, List.all_eq_true]
  simp only [List.mem_range]
/-- What Parse answers. -/
def parseR (S : List UInt8) : Value :=
  if goodB S = true then .tuple #[.agg (cv (mk (pV S)) (mk (pM S))), .int .i64 0] else .tuple #[.agg (cv Z Z), .int .i64 12]
theorem parseR_no (S : List UInt8) (h : ¬ (S.length = 104 ∧ (∀ i, i < 104 → okB (S.getD i 0) = true))) : parseR S = .tuple #[.agg (cv Z Z), .int .i64 12] := by unfold parseR; rw [if_neg (fun g => h ((good_iff S).1 g))]
theorem parseR_yes (S : List UInt8) (h : S.length = 104) (h2 : ∀ i, i < 104 → okB (S.getD i 0) = true) : parseR S = .tuple #[.agg (cv (mk (pV S)) (mk (pM S))), .int .i64 0] := by unfold parseR; rw [if_pos ((good_iff S).2 ⟨h, h2⟩)]

theorem upto_same (k : Nat) (f : Nat → Bool) (h : f k = false) : upto (k + 1) f = upto k f := by
  rw [← upto_succ, h]
  refine mk_eq _ (mk_byt _) _ fun i hi => ?_
  have := setb_bt (upto k f) k false i hi
  unfold setb at this
  rw [this]
  unfold upto
  rw [mk_bt _ i hi]
  by_cases e : i = k
  · subst e; simp
  · rw [if_neg e]
theorem can_upto (S : List UInt8) (k : Nat) : can (upto k (pV S)) (upto k (pM S)) = upto k (pV S) :=
  mk_ext _ _ fun i hi => by
    have e1 : bt (upto k (pV S)) i = (decide (i < k) && pV S i) := mk_bt _ i hi
    have e2 : bt (upto k (pM S)) i = (decide (i < k) && pM S i) := mk_bt _ i hi
    rw [e1, e2]
    unfold pV pM
    cases decide (i < k) <;> cases (S.getD i 0 == 48) <;> cases (S.getD i 0 == 49) <;> rfl
theorem fix_upto (S : List UInt8) (k : Nat) (h : pM S k = true) : fixV (upto k (pV S)) (upto k (pM S)) k (pV S k) = upto (k + 1) (pV S) ∧ fixM (upto k (pM S)) k = upto (k + 1) (pM S) := by
  unfold fixV fixM
  rw [can_upto, upto_succ]
  refine ⟨rfl, ?_⟩
  rw [← upto_succ, h]

theorem byte_get (s : ByteArray) (k : Nat) (hk : k < s.size) : s.data.toList.getD k 0 = s[k] := by
  have h : k < s.data.toList.length := by simpa using hk
  rw [List.getD, List.getElem?_eq_getElem h]
  simp only [Option.getD_some, Array.getElem_toList]
  rfl
theorem nat_beq (b : UInt8) (c : UInt8) : (((b.toNat : Int)) == (c.toNat : Int)) = (b == c) := by
  rw [Bool.eq_iff_iff, beq_iff_eq, beq_iff_eq]
  constructor
  · intro h; exact UInt8.toNat_inj.1 (by exact_mod_cast h)
  · rintro rfl; rfl

set_option maxHeartbeats 1000000 in
theorem parse_short (s : ByteArray) (hs : s.size ≠ 104) (hm : s.size ≤ maxLen) (w : World) :
    Calls Try.prog 11 #[.string s] w fun e w' => e = .returned (.tuple #[.agg (cv Z Z), .int .i64 12]) ∧ Below w.heap.size w w' := by
  have hzl := Z_byt.1
  have hn : ((s.size : Int) != 104) = true := by simp; omega
  have HM : Hid (s.size ≤ maxLen) := hm
  clear hs hm
  go_enter Try.func11, Try.ntmps11
  go_wp2_with (first
    | (refine wl_zeroC rfl rfl ?_)
    | (refine wl_storeC rfl _ _ rfl w.heap.size Z Z rfl rfl _ (heap_new _ _ _ rfl) rfl hzl hzl _ (setRow_new _ _ _ _ _ rfl) ?_))
  refine retCe (p := 2) (u := 3) rfl rfl w.heap.size rfl Z Z hzl hzl (heap_new _ _ _ rfl) _ rfl ⟨rfl, ?_⟩
  exact (Below.refl _ _).alloc (Nat.le_refl _) _

set_option maxHeartbeats 4000000 in
theorem parse_long (s : ByteArray) (hs : s.size = 104) (w : World) :
    Calls Try.prog 11 #[.string s] w fun e w' => e = .returned (parseR s.data.toList) ∧ Below w.heap.size w w' := by
  have hzl := Z_byt.1
  obtain ⟨S, hS⟩ : ∃ S, S = s.data.toList := ⟨_, rfl⟩
  have hSl : S.length = 104 := by rw [hS]; simpa using hs
  have hSg : ∀ k (hk : k < s.size), S.getD k 0 = s[k] := fun k hk => by rw [hS]; exact byte_get s k hk
  have CF : Hid (∀ k : Nat, k < 104 → pM S k = true → ∀ W, Calls Try.prog 15 #[.agg (cv (upto k (pV S)) (upto k (pM S))), .int .i64 (k : Int), .bool (pV S k)] W fun e w' => e = .returned (.tuple #[.agg (cv (upto (k + 1) (pV S)) (upto (k + 1) (pM S))), .int .i64 0]) ∧ Below W.heap.size W w') := fun k hk h => by
    have := fix_in _ _ (upto_byt k (pV S)) (upto_byt k (pM S)) k (pV S k) hk
    rwa [(fix_upto S k h).1, (fix_upto S k h).2] at this
  have HSG : Hid (∀ k (hk : k < s.size), S.getD k 0 = s[k]) := hSg
  have hn : ((s.size : Int) != 104) = false := by simp [hs]
  have HSL : Hid (S.length = 104) := hSl
  rw [← hS]
  clear hS hSl hSg
  go_enter Try.func11, Try.ntmps11
  go_wp2_with fail
  refine (all_any _).mono ?_
  rintro e w1 ⟨rfl, hb1⟩
  have g0 : w1.heap[w.heap.size]? = some (.cells zeroC 25 (0, 0)) := by rw [hb1.block _ (by simp)]; exact heap_new _ _ _ rfl
  have B1 : Below w.heap.size w w1 := ((Below.refl _ _).alloc (Nat.le_refl _) _).trans (hb1.mono (by simp))
  have z1 : w.heap.size + 1 ≤ w1.heap.size := Nat.le_trans (by simp) hb1.size
  clear hb1
  have k0 := heap_past w1 (.cells (cv Z Z) 25) _ _ g0
  have k1 := heap_new w1 (.cells (cv Z Z) 25) _ rfl
  have B2 := B1.alloc B1.size (.cells (cv Z Z) 25)
  go_wp2_with (first
    | (refine wl_storeC rfl _ _ rfl w1.heap.size Z Z rfl rfl _ (heap_new _ _ _ rfl) rfl hzl hzl _ (setRow_new _ _ _ _ _ rfl) ?_))
  go_loopw [11] (fun i wr => ∃ k : Nat, k ≤ 104 ∧ i = .int .i64 k ∧ (∀ j, j < k → okB (S.getD j 0) = true) ∧ wr.heap[w.heap.size]? = some (.cells zeroC 25 (0, 0)) ∧ wr.heap[w1.heap.size]? = some (.cells (cv (upto k (pV S)) (upto k (pM S))) 25 (0, 0)) ∧ Below w.heap.size w wr) (fun i _ => 104 - (intOf i).toNat)
  case atStart => exact ⟨0, Nat.zero_le _, rfl, fun j hj => by omega, k0, by rw [upto_zero, upto_zero]; exact k1, B2⟩
  case round =>
    clear g0 B1 k0 k1 B2
    obtain ⟨k, hk, rfl, hj, g0, g1, hb⟩ := hrel
    have HJ : Hid (∀ j, j < k → okB (S.getD j 0) = true) := hj
    have l1 := (upto_byt k (pV S)).1
    have l2 := (upto_byt k (pM S)).1
    have l3 := (upto_byt (k + 1) (pV S)).1
    have l4 := (upto_byt (k + 1) (pM S)).1
    clear hj
    by_cases hlt : k < 104
    · have hks : k < s.size := by omega
      have hks2 : (k : Int) < (s.size : Int) := by omega
      have e48 : ((s[k].toNat : Int) == 48) = (S.getD k 0 == 48) := by rw [HSG.out k hks]; exact nat_beq s[k] 48
      have e49 : ((s[k].toNat : Int) == 49) = (S.getD k 0 == 49) := by rw [HSG.out k hks]; exact nat_beq s[k] 49
      have e42 : ((s[k].toNat : Int) == 42) = (S.getD k 0 == 42) := by rw [HSG.out k hks]; exact nat_beq s[k] 42
      by_cases h48 : (S.getD k 0 == 48) = true
      · have hM : pM S k = true := by unfold pM; rw [h48]; rfl
        have C1 : Hid (∀ W, Calls Try.prog 15 #[.agg (cv (upto k (pV S)) (upto k (pM S))), .int .i64 (k : Int), .bool ((s[k].toNat : Int) == 49)] W fun e w' => e = .returned (.tuple #[.agg (cv (upto (k + 1) (pV S)) (upto (k + 1) (pM S))), .int .i64 0]) ∧ Below W.heap.size W w') := by
          rw [e49]; exact CF.out k hlt hM
        have HO : Hid (okB (S.getD k 0) = true) := by show _ = _; unfold okB; rw [h48]; rfl
        rw [h48] at e48
        clear h48 hM e49 e42
        go_wp2_with fail
        have ne1 := Later.ne wr
        refine wp_region_head 7 4 #[true, true, true, true, true, true, true, false, false, false, false] (by kernel_rfl) (by kernel_rfl) (by kernel_rfl) (by kernel_rfl) (by kernel_rfl) (by kernel_rfl) rfl ?_
        simp only [List.take_succ_cons, List.take_zero]
        refine qlC rfl _ rfl w1.heap.size rfl (upto k (pV S)) (upto k (pM S)) g1 l1 l2 ?_
        simp only [Act.put, List.setIfInBounds_toArray, List.set_cons_succ, List.set_cons_zero]
        go_big_quiet_step (fail)
        go_big_quiet_step (fail)
        go_big_quiet_step (fail)
        go_big_quiet_step (fail)
        go_big_quiet_step (fail)
        go_big_quiet_want; go_big_quiet_op
        refine ⟨_, fun u => Calls.later_of (C1.out u.world), ?_⟩
        go_big_quiet_on
        refine wpQuiet_nil ?_
        rintro w' ⟨u, rfl⟩
        have k0 := later_block g0 _ ⟨u, rfl⟩
        have k1 := later_block g1 _ ⟨u, rfl⟩
        have hb2 := hb.trans (u.below.mono hb.size)
        clear g0 g1 hb ne1 C1
        refine any_fix (v := .tuple #[.agg (cv (upto (k + 1) (pV S)) (upto (k + 1) (pM S))), .int .i64 0]) (v0 := .agg (cv (upto (k + 1) (pV S)) (upto (k + 1) (pM S)))) (v1 := .int .i64 0) (w' := u.world.setRow w1.heap.size (cv (upto (k + 1) (pV S)) (upto (k + 1) (pM S)))) (by kernel_rfl) (by kernel_rfl) (by kernel_rfl) (by kernel_rfl) (by kernel_rfl) (by kernel_rfl) (by kernel_rfl) rfl rfl rfl rfl rfl (run_move _ _ _ _ _ _ rfl rfl)
          (run_extract _ _ _ _ _ _ _ _ rfl rfl rfl) (run_extract _ _ _ _ _ _ _ _ rfl rfl rfl) (run_extract _ _ _ _ _ _ _ _ rfl rfl rfl) (run_extract _ _ _ _ _ _ _ _ rfl rfl rfl) (run_extract _ _ _ _ _ _ _ _ rfl rfl rfl)
          (run_storeC _ _ _ _ _ rfl w1.heap.size _ _ rfl rfl _ k1 (cv_size _ _ l1 l2) l3 l4) (run_storeC _ _ _ _ _ rfl w1.heap.size _ _ rfl rfl _ k1 (cv_size _ _ l1 l2) l3 l4) rfl ?_
        simp only [Act.put, List.setIfInBounds_toArray, List.set_cons_succ, List.set_cons_zero]
        go_wp2_with fail
        go_roundw
        case rel =>
          refine ⟨k + 1, by omega, by go_num, fun j hj => ?_, (setRow_other _ _ _ _ (by omega)).trans k0, setRow_heap _ _ _ _ _ _ k1, below_setRow hb2 (by omega) _⟩
          by_cases e : j = k
          · subst e; exact HO.out
          · exact HJ.out j (by omega)
        case measure => simp [intOf]; omega
      · have h48' : (S.getD k 0 == 48) = false := by simpa using h48
        rw [h48'] at e48
        by_cases h49 : (S.getD k 0 == 49) = true
        · have hM : pM S k = true := by unfold pM; rw [h49]; simp
          have C1 : Hid (∀ W, Calls Try.prog 15 #[.agg (cv (upto k (pV S)) (upto k (pM S))), .int .i64 (k : Int), .bool true] W fun e w' => e = .returned (.tuple #[.agg (cv (upto (k + 1) (pV S)) (upto (k + 1) (pM S))), .int .i64 0]) ∧ Below W.heap.size W w') := by
            have := CF.out k hlt hM
            rwa [show pV S k = true from h49] at this
          have HO : Hid (okB (S.getD k 0) = true) := by show _ = _; unfold okB; rw [h49]; simp
          rw [h49] at e49
          clear h48 h48' h49 hM e42
          go_wp2_with fail
          have ne1 := Later.ne wr
          refine wp_region_head 7 4 #[true, true, true, true, true, true, true, false, false, false, false] (by kernel_rfl) (by kernel_rfl) (by kernel_rfl) (by kernel_rfl) (by kernel_rfl) (by kernel_rfl) rfl ?_
          simp only [List.take_succ_cons, List.take_zero]
          refine qlC rfl _ rfl w1.heap.size rfl (upto k (pV S)) (upto k (pM S)) g1 l1 l2 ?_
          simp only [Act.put, List.setIfInBounds_toArray, List.set_cons_succ, List.set_cons_zero]
          go_big_quiet_step (fail)
          go_big_quiet_step (fail)
          go_big_quiet_step (fail)
          go_big_quiet_step (fail)
          go_big_quiet_step (fail)
          go_big_quiet_want; go_big_quiet_op
          refine ⟨_, fun u => Calls.later_of (C1.out u.world), ?_⟩
          go_big_quiet_on
          refine wpQuiet_nil ?_
          rintro w' ⟨u, rfl⟩
          have k0 := later_block g0 _ ⟨u, rfl⟩
          have k1 := later_block g1 _ ⟨u, rfl⟩
          have hb2 := hb.trans (u.below.mono hb.size)
          clear g0 g1 hb ne1 C1
          refine any_fix (v := .tuple #[.agg (cv (upto (k + 1) (pV S)) (upto (k + 1) (pM S))), .int .i64 0]) (v0 := .agg (cv (upto (k + 1) (pV S)) (upto (k + 1) (pM S)))) (v1 := .int .i64 0) (w' := u.world.setRow w1.heap.size (cv (upto (k + 1) (pV S)) (upto (k + 1) (pM S)))) (by kernel_rfl) (by kernel_rfl) (by kernel_rfl) (by kernel_rfl) (by kernel_rfl) (by kernel_rfl) (by kernel_rfl) rfl rfl rfl rfl rfl (run_move _ _ _ _ _ _ rfl rfl)
            (run_extract _ _ _ _ _ _ _ _ rfl rfl rfl) (run_extract _ _ _ _ _ _ _ _ rfl rfl rfl) (run_extract _ _ _ _ _ _ _ _ rfl rfl rfl) (run_extract _ _ _ _ _ _ _ _ rfl rfl rfl) (run_extract _ _ _ _ _ _ _ _ rfl rfl rfl)
            (run_storeC _ _ _ _ _ rfl w1.heap.size _ _ rfl rfl _ k1 (cv_size _ _ l1 l2) l3 l4) (run_storeC _ _ _ _ _ rfl w1.heap.size _ _ rfl rfl _ k1 (cv_size _ _ l1 l2) l3 l4) rfl ?_
          simp only [Act.put, List.setIfInBounds_toArray, List.set_cons_succ, List.set_cons_zero]
          go_wp2_with fail
          go_roundw
          case rel =>
            refine ⟨k + 1, by omega, by go_num, fun j hj => ?_, (setRow_other _ _ _ _ (by omega)).trans k0, setRow_heap _ _ _ _ _ _ k1, below_setRow hb2 (by omega) _⟩
            by_cases e : j = k
            · subst e; exact HO.out
            · exact HJ.out j (by omega)
          case measure => simp [intOf]; omega
        · have h49' : (S.getD k 0 == 49) = false := by simpa using h49
          rw [h49'] at e49
          have hM : pM S k = false := by unfold pM; rw [h48', h49']; rfl
          by_cases h42 : (S.getD k 0 == 42) = true
          · have HO : Hid (okB (S.getD k 0) = true) := by show _ = _; unfold okB; rw [h42]; simp
            have HV : Hid (upto (k + 1) (pV S) = upto k (pV S) ∧ upto (k + 1) (pM S) = upto k (pM S)) := ⟨upto_same k _ h49', upto_same k _ hM⟩
            rw [h42] at e42
            clear h48 h48' h49 h49' h42 hM
            go_wp2_with fail
            go_roundw
            case rel =>
              refine ⟨k + 1, by omega, by go_num, fun j hj => ?_, g0, by rw [HV.out.1, HV.out.2]; exact g1, hb⟩
              by_cases e : j = k
              · subst e; exact HO.out
              · exact HJ.out j (by omega)
            case measure => simp [intOf]; omega
          · have h42' : (S.getD k 0 == 42) = false := by simpa using h42
            have HP : Hid (parseR S = .tuple #[.agg (cv Z Z), .int .i64 12]) := parseR_no S fun h => by
              have := h.2 k hlt
              unfold okB at this
              rw [h48', h49', h42'] at this
              cases this
            rw [h42'] at e42
            clear h48 h48' h49 h49' h42 h42' hM
            go_wp2_with (first
              | (refine wl_zeroC rfl rfl ?_)
              | (refine wl_storeC rfl _ _ rfl w.heap.size Z Z rfl rfl _ g0 rfl hzl hzl _ rfl ?_))
            refine retCe (p := 2) (u := 3) rfl rfl w.heap.size rfl Z Z hzl hzl (setRow_heap _ _ _ _ _ _ g0) _ rfl ⟨?_, ?_⟩
            · rw [HP.out]; rfl
            · exact below_setRow hb (Nat.le_refl _) _
    · obtain rfl : k = 104 := by omega
      rw [upto_all, upto_all] at g1
      have l1 := (mk_byt (pV S)).1
      have l2 := (mk_byt (pM S)).1
      have HP : Hid (parseR S = .tuple #[.agg (cv (mk (pV S)) (mk (pM S))), .int .i64 0]) := parseR_yes S HSL.out HJ.out
      go_wp2_with (first
        | (refine wl_loadC rfl _ rfl w1.heap.size rfl _ _ g1 l1 l2 ?_)
        | (refine wl_storeC rfl _ _ rfl w.heap.size _ _ rfl rfl _ g0 rfl l1 l2 _ rfl ?_))
      refine retCe (p := 2) (u := 3) rfl rfl w.heap.size rfl _ _ l1 l2 (setRow_heap _ _ _ _ _ _ g0) _ rfl ⟨?_, ?_⟩
      · rw [HP.out]; rfl
      · exact below_setRow hb (Nat.le_refl _) _
end Go.Proofs.Ythekoeinnillpab
