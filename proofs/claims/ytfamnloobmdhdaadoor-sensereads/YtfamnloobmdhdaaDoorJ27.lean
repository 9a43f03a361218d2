import Derived.Test.YtfamnloobmdhdaaDoorJ15
import Derived.Deep.CutRange
import Derived.Deep.CutBlock
import Derived.Test.YtfamnloobmdhdaaDoorJ26
import Derived.Test.YtfamnloobmdhdaaDoorJ16
namespace Go.Proofs.YtfamnloobmdhdaaDoor
open Go Go.RowKit
set_option maxRecDepth 20000

/-- What a byte belongs to. -/
def kindN (x : Nat) : Int :=
  if x = 9 ∨ x = 13 ∨ x = 32 then 0 else if 97 ≤ x ∧ x ≤ 122 then 1 else if 48 ≤ x ∧ x ≤ 57 then 2 else if x = 46 then 3 else if x = 47 then 4 else if x = 45 then 5 else if x = 10 then 7 else if x = 35 then 9 else -1
def kindR (c : UInt8) : Int := kindN c.toNat

set_option maxHeartbeats 1000000 in
theorem kind_any (c : UInt8) (w : World) : Calls Tryd.prog 69 #[.int .u8 (c.toNat : Int)] w fun e w' => e = .returned (.int .i64 (kindR c)) ∧ w' = w := by
  unfold kindR
  obtain ⟨x, hx⟩ : ∃ x, x = c.toNat := ⟨_, rfl⟩
  have hlt : x < 256 := by rw [hx]; exact c.toNat_lt
  rw [← hx]
  clear hx
  by_cases hs : x = 9 ∨ x = 13 ∨ x = 32 ∨ x = 46 ∨ x = 47 ∨ x = 45 ∨ x = 10 ∨ x = 35
  · rcases hs with rfl | rfl | rfl | rfl | rfl | rfl | rfl | rfl
    all_goals
      go_enter Tryd.func69, Tryd.ntmps69
      go_wp2_with fail
      go_ret
      exact ⟨rfl, rfl⟩
  · have d9 : ((x : Int) == 9) = false := by simp; omega
    have d13 : ((x : Int) == 13) = false := by simp; omega
    have d32 : ((x : Int) == 32) = false := by simp; omega
    have d46 : ((x : Int) == 46) = false := by simp; omega
    have d47 : ((x : Int) == 47) = false := by simp; omega
    have d45 : ((x : Int) == 45) = false := by simp; omega
    have d10 : ((x : Int) == 10) = false := by simp; omega
    have d35 : ((x : Int) == 35) = false := by simp; omega
    have HK : Hid (kindN x = if 97 ≤ x ∧ x ≤ 122 then 1 else if 48 ≤ x ∧ x ≤ 57 then 2 else -1) := by
      show _ = _
      unfold kindN
      rw [if_neg (by omega)]
      split
      · rfl
      · split
        · rfl
        · rw [if_neg (by omega), if_neg (by omega), if_neg (by omega), if_neg (by omega), if_neg (by omega)]
    clear hs
    by_cases h1 : x < 48
    · have h2 : ¬ 97 ≤ x := by omega
      have h3 : ¬ 48 ≤ x := by omega
      have HK2 : Hid (kindN x = -1) := by show _ = _; rw [HK.out, if_neg (by omega), if_neg (by omega)]
      clear HK
      go_enter Tryd.func69, Tryd.ntmps69
      go_wp2_with fail
      go_ret
      exact ⟨by rw [HK2.out]; rfl, rfl⟩
    by_cases h2 : x ≤ 57
    · have h3 : ¬ 97 ≤ x := by omega
      have h4 : 48 ≤ x := by omega
      have HK2 : Hid (kindN x = 2) := by show _ = _; rw [HK.out, if_neg (by omega), if_pos (by omega)]
      clear HK
      go_enter Tryd.func69, Tryd.ntmps69
      go_wp2_with fail
      go_ret
      exact ⟨by rw [HK2.out]; rfl, rfl⟩
    by_cases h3 : x < 97
    · have h4 : ¬ 97 ≤ x := by omega
      have h5 : 48 ≤ x := by omega
      have HK2 : Hid (kindN x = -1) := by show _ = _; rw [HK.out, if_neg (by omega), if_neg (by omega)]
      clear HK
      go_enter Tryd.func69, Tryd.ntmps69
      go_wp2_with fail
      go_ret
      exact ⟨by rw [HK2.out]; rfl, rfl⟩
    by_cases h4 : x ≤ 122
    · have h5 : 97 ≤ x := by omega
      have HK2 : Hid (kindN x = 1) := by show _ = _; rw [HK.out, if_pos (by omega)]
      clear HK
      go_enter Tryd.func69, Tryd.ntmps69
      go_wp2_with fail
      go_ret
      exact ⟨by rw [HK2.out]; rfl, rfl⟩
    · have h5 : 97 ≤ x := by omega
      have h6 : 48 ≤ x := by omega
      have HK2 : Hid (kindN x = -1) := by show _ = _; rw [HK.out, if_neg (by omega), if_neg (by omega)]
      clear HK
      go_enter Tryd.func69, Tryd.ntmps69
      go_wp2_with fail
      go_ret
      exact ⟨by rw [HK2.out]; rfl, rfl⟩

theorem kind_let (c : UInt8) : (kindR c == 1) = isLet c := by
  have := all256 (fun c => (kindR c == 1) == isLet c) (by kernel_rfl) c
  simpa using this
theorem kind_dig (c : UInt8) : (kindR c == 2) = isDig c := by
  have := all256 (fun c => (kindR c == 2) == isDig c) (by kernel_rfl) c
  simpa using this

/-- Digits as a number, or none. -/
def numV (D : List UInt8) : Int := match numOf D with | some n => (n : Nat) | none => -1

set_option maxHeartbeats 1000000 in
theorem value_any (s : ByteArray) (hs : s.size ≤ maxLen) (h0 : 0 < s.size) (hD : ∀ c ∈ s.data.toList, isDig c = true) (w : World) :
    Calls Tryd.prog 70 #[.string s] w fun e w' => e = .returned (.int .i64 (numV s.data.toList)) ∧ w' = w := by
  unfold maxLen at hs
  have hlen : s.data.toList.length = s.size := (Lib.size_eq s).symm
  obtain ⟨S, hS⟩ : ∃ S, S = s.data.toList := ⟨_, rfl⟩
  have hby : ∀ k (hk : k < s.size), ∃ b : Nat, 48 ≤ b ∧ b ≤ 57 ∧ s[k].toNat = b ∧ val (S.take (k + 1)) = val (S.take k) * 10 + (b - 48) := fun k hk => by
    have hm : s[k] ∈ s.data.toList := List.mem_of_getElem? (byte_q s k hk)
    have := hD _ hm
    unfold isDig at this
    simp only [Bool.and_eq_true, decide_eq_true_eq] at this
    refine ⟨_, this.1, this.2, rfl, ?_⟩
    have hk' : k < S.length := by rw [hS, hlen]; exact hk
    rw [val_take S k hk']
    have e : S[k] = s[k] := by
      have := byte_q s k hk
      rw [← hS, List.getElem?_eq_getElem hk'] at this
      simpa using this
    rw [e]
  have HBY : Hid (∀ k (hk : k < s.size), ∃ b : Nat, 48 ≤ b ∧ b ≤ 57 ∧ s[k].toNat = b ∧ val (S.take (k + 1)) = val (S.take k) * 10 + (b - 48)) := hby
  have hh : S.head? = some s[0] := by
    have := byte_q s 0 h0
    rw [← hS] at this
    rw [List.head?_eq_getElem?]; exact this
  have hz : ((s[0].toNat : Int) == 48) = (S.head? == some 48) := by
    rw [hh]; exact byte_beq s[0] 48
  have hix0 : ∀ W, (Instr.index 9 (.string s) (.int .i64 0)).run Tryd.prog W = .ok (.int .u8 (s[0].toNat : Int)) W := fun W => by
    simp [go_sem, Tryd.underlying9, h0]
  have HL : Hid (S.length = s.size) := by rw [hS]; exact hlen
  rw [← hS]
  obtain ⟨R, hR⟩ : ∃ R, R = numV S := ⟨_, rfl⟩
  have HR : Hid (R = if decide (4294967295 < val S) || (decide (1 < s.size) && S.head? == some 48) then (-1 : Int) else ((val S : Nat) : Int)) := by
    show R = _
    rw [hR, ← HL.out]
    unfold numV numOf
    split <;> rename_i h1
    · split at h1
      · cases h1
      · obtain rfl := Option.some.inj h1; rw [if_neg (by assumption)]
    · split at h1
      · rw [if_pos (by assumption)]
      · cases h1
  rw [← hR]
  obtain ⟨z0, hz0⟩ : ∃ z0 : Int, z0 = (s[0].toNat : Int) := ⟨_, rfl⟩
  rw [← hz0] at hz hix0
  clear hR hS hD hlen hby hh hz0
  go_enter Tryd.func70, Tryd.ntmps70
  go_wp2_with fail
  go_loop [3, 4] (fun v i => ∃ k : Nat, k ≤ s.size ∧ i = .int .i64 (k : Int) ∧ v = .int .i64 ((val (S.take k) : Nat) : Int) ∧ val (S.take k) ≤ 4294967295) (fun _ i => s.size - (intOf i).toNat)
  case atStart => exact ⟨0, Nat.zero_le _, rfl, rfl, Nat.zero_le _⟩
  case round =>
    obtain ⟨k, hk, rfl, rfl, hv⟩ := hrel
    by_cases hlt : k < s.size
    · obtain ⟨b, hb1, hb2, hb3, hb4⟩ := HBY.out k hlt
      have hix : ∀ W, (Instr.index 9 (.string s) (.int .i64 (k : Int))).run Tryd.prog W = .ok (.int .u8 (b : Int)) W := fun W => by
        rw [← hb3]
        simp [go_sem, Tryd.underlying9, hlt]
      obtain ⟨x, hx⟩ : ∃ x, x = val (S.take k) := ⟨_, rfl⟩
      rw [← hx] at hv hb4 ⊢
      obtain ⟨y, hy⟩ : ∃ y, y = x * 10 + (b - 48) := ⟨_, rfl⟩
      have hyz : (x : Int) * 10 + (b : Int) - 48 = (y : Int) := by omega
      have HB4 : Hid (val (S.take (k + 1)) = y) := by show _ = _; rw [hb4, hy]
      have hlt' : (k : Int) < (s.size : Int) := by omega
      have hy2 : y ≤ 100000000000 := by omega
      clear hb4 hb3 hx hy hz
      by_cases hbig : 4294967295 < y
      · have HRZ : Hid (R = -1) := by
          show _ = _
          rw [HR.out, if_pos]
          have := val_take_le S (k + 1)
          rw [HB4.out] at this
          rw [decide_eq_true (by omega : 4294967295 < val S)]; rfl
        go_wp2_with fail
        go_ret
        exact ⟨by rw [HRZ.out]; rfl, rfl⟩
      · go_wp2_with fail
        go_round
        case rel => exact ⟨k + 1, by omega, by go_num, by rw [HB4.out], by rw [HB4.out]; omega⟩
        case measure => simp [intOf]; omega
    · have hk' : k = s.size := by omega
      have hlt' : (s.size : Int) ≤ (k : Int) := by omega
      have e : S.take k = S := by rw [List.take_of_length_le]; rw [HL.out]; omega
      rw [e] at hv ⊢
      have HRZ : Hid (R = if (decide (1 < s.size) && S.head? == some 48) then (-1 : Int) else ((val S : Nat) : Int)) := by
        show _ = _
        rw [HR.out, decide_eq_false (by omega : ¬ 4294967295 < val S), Bool.false_or]
      clear hk' hlt e HR
      by_cases h1 : 1 < (s.size : Int)
      · by_cases hzz : (S.head? == some 48) = true
        · have HR2 : Hid (R = -1) := by
            show _ = _
            rw [HRZ.out, hzz, decide_eq_true (by omega : 1 < s.size)]; simp
          rw [hzz] at hz
          clear HRZ hzz
          go_wp2_with fail
          go_ret
          exact ⟨by rw [HR2.out]; rfl, rfl⟩
        · have hzz' : (S.head? == some 48) = false := by simpa using hzz
          have HR2 : Hid (R = ((val S : Nat) : Int)) := by
            show _ = _
            rw [HRZ.out, hzz']; simp
          rw [hzz'] at hz
          clear HRZ hzz hzz'
          go_wp2_with fail
          go_ret
          exact ⟨by rw [HR2.out]; rfl, rfl⟩
      · have HR2 : Hid (R = ((val S : Nat) : Int)) := by
          show _ = _
          rw [HRZ.out, decide_eq_false (by omega : ¬ 1 < s.size)]; simp
        clear HRZ hz
        go_wp2_with fail
        go_ret
        exact ⟨by rw [HR2.out]; rfl, rfl⟩
end Go.Proofs.YtfamnloobmdhdaaDoor
namespace Go.Proofs.YtfamnloobmdhdaaDoor
open Go Go.RowKit
set_option maxRecDepth 20000

theorem ix_at (s : ByteArray) (q : Nat) (hq : q < s.size) (W : World) : (Instr.index 9 (.string s) (.int .i64 (q : Int))).run Tryd.prog W = .ok (.int .u8 (s[q].toNat : Int)) W := by
  simp [go_sem, Tryd.underlying9, hq]
theorem lexeme_arrow {r : List UInt8} (h : (r.head? == some 62) = true) : lexeme 45 r = (Lx.tok 6 [] 0, 1) := by
  unfold lexeme
  rw [if_neg (by decide), if_neg (by decide), if_neg (by decide), if_neg (by decide), if_neg (by decide), if_pos (by decide), if_pos h]
theorem lexeme_dash {r : List UInt8} (h : ¬ (r.head? == some 62) = true) : lexeme 45 r = (Lx.tok 5 [] 0, 0) := by
  unfold lexeme
  rw [if_neg (by decide), if_neg (by decide), if_neg (by decide), if_neg (by decide), if_neg (by decide), if_pos (by decide), if_neg h]
theorem kind_cases (c : UInt8) : (isBlank c = true ∧ kindR c = 0) ∨ (isBlank c = false ∧ isLet c = true ∧ kindR c = 1) ∨ (isBlank c = false ∧ isLet c = false ∧ isDig c = true ∧ kindR c = 2) ∨
    (isBlank c = false ∧ isLet c = false ∧ isDig c = false ∧ ((c == 46 && kindR c == 3) || (c == 47 && kindR c == 4) || (c == 45 && kindR c == 5) || (c == 10 && kindR c == 7) || (c == 35 && kindR c == 9) || (c != 46 && c != 47 && c != 45 && c != 10 && c != 35 && kindR c == -1)) = true) := by
  have := all256 (fun c => (isBlank c && kindR c == 0) || (!isBlank c && isLet c && kindR c == 1) || (!isBlank c && !isLet c && isDig c && kindR c == 2) || (!isBlank c && !isLet c && !isDig c && ((c == 46 && kindR c == 3) || (c == 47 && kindR c == 4) || (c == 45 && kindR c == 5) || (c == 10 && kindR c == 7) || (c == 35 && kindR c == 9) || (c != 46 && c != 47 && c != 45 && c != 10 && c != 35 && kindR c == -1)))) (by kernel_rfl) c
  simp only [Bool.or_eq_true, Bool.and_eq_true, beq_iff_eq, bne_iff_ne, Bool.not_eq_true'] at this ⊢
  rcases this with ((h | h) | h) | h
  · exact .inl h
  · exact .inr (.inl ⟨h.1.1, h.1.2, h.2⟩)
  · exact .inr (.inr (.inl ⟨h.1.1.1, h.1.1.2, h.1.2, h.2⟩))
  · exact .inr (.inr (.inr ⟨h.1.1.1, h.1.1.2, h.1.2, h.2⟩))

set_option maxHeartbeats 8000000 in
set_option maxRecDepth 10000 in
theorem rtokens_any (s : ByteArray) (hs : s.size ≤ maxLen) (w : World) :
    Calls Tryd.prog 44 #[.string s] w fun e w' => ∃ u, e = .returned (.tuple #[u, .int .i64 ((lexT s.data.toList).2.1 : Nat), .int .i64 ((lexT s.data.toList).2.2 : Nat)]) ∧
      w'.ownsRow w.heap.size 90 4 u (lexT s.data.toList).1.length (gcells encT (lexT s.data.toList).1) ∧ Below w.heap.size w w' := by
  unfold maxLen at hs
  by_cases h4 : 4096 < s.size
  · have hR : lexT s.data.toList = ([], 5, 4096) := by unfold lexT; rw [if_pos (by rw [← Lib.size_eq]; exact h4)]
    rw [hR]
    have h4' : (s.size : Int) > 4096 := by omega
    clear hR h4
    go_enter Tryd.func44, Tryd.ntmps44
    go_wp2_with fail
    go_ret3
    exact ⟨_, rfl, World.ownsRow_nil _ _ _ _, Below.refl _ _⟩
  · obtain ⟨S, hS⟩ : ∃ S, S = s.data.toList := ⟨_, rfl⟩
    have hlen : S.length = s.size := by rw [hS]; exact (Lib.size_eq s).symm
    have HR : Hid (lexT S = match lexW 0 S with | .ok l => (l, 0, 0) | .error x => ([], x.1, x.2)) := by
      show _ = _
      unfold lexT
      rw [if_neg (by omega)]
      rfl
    have HS : Hid (S = s.data.toList) := hS
    rw [← hS]
    obtain ⟨R, hRR⟩ : ∃ R, R = lexT S := ⟨_, rfl⟩
    rw [← hRR] at HR ⊢
    have h4' : ¬ (s.size : Int) > 4096 := by omega
    clear hS hRR
    have n0 := heap_new w (.cells #[] 90) _ rfl
    have KC : Hid (∀ (c : UInt8) W, Calls Tryd.prog 69 #[.int .u8 (c.toNat : Int)] W fun e w' => e = .returned (.int .i64 (kindR c)) ∧ w' = W) := fun c W => kind_any c W
    go_enter Tryd.func44, Tryd.ntmps44
    go_wp2_with fail
    go_loopw [5, 6] (fun out i wr => ∃ p : Nat, p ≤ s.size ∧ i = .int .i64 (p : Int) ∧ ∃ P : List Tok, P.length ≤ p ∧ Hid (lexW 0 S = glue P (lexW p (S.drop p))) ∧ wr.ownsRow w.heap.size 90 4 out P.length (gcells encT P) ∧ Below w.heap.size w wr) (fun _ i _ => s.size - (intOf i).toNat)
    case atStart => exact ⟨0, Nat.zero_le _, rfl, [], Nat.zero_le _, (glue_nil _).symm, ⟨rfl, Or.inr ⟨w.heap.size, 0, #[], rfl, Nat.le_refl _, n0, Nat.le_refl _, by decide, rfl, rfl⟩⟩, (Below.refl _ _).alloc (Nat.le_refl _) _⟩
    case round =>
      clear n0
      obtain ⟨p, hp, rfl, P, hPl, HW, hown, hb⟩ := hrel
      obtain ⟨wo, hwo⟩ : ∃ wo : World, wo = wr := ⟨_, rfl⟩
      rw [← hwo] at hown hb ⊢
      clear hwo wr
      have OWN : Hid (wo.ownsRow w.heap.size 90 4 u5 P.length (gcells encT P)) := hown
      clear hown
      by_cases hlt : p < s.size
      · have hlt' : (p : Int) < (s.size : Int) := by omega
        obtain ⟨c, r, hcr⟩ : ∃ c r, S.drop p = c :: r := by
          cases h : S.drop p with
          | nil =>
            have := congrArg List.length h
            rw [List.length_drop] at this
            simp at this
            omega
          | cons c r => exact ⟨c, r, rfl⟩
        have hrl : r.length + 1 + p = s.size := by
          have := congrArg List.length hcr
          rw [List.length_drop] at this
          simp at this
          omega
        have hix : ∀ W, (Instr.index 9 (.string s) (.int .i64 (p : Int))).run Tryd.prog W = .ok (.int .u8 (c.toNat : Int)) W := fun W => by
          have hc : s[p] = c := by
            have h1 := byte_q s p hlt
            rw [← HS.out] at h1
            have h2 : S[p]? = some c := by rw [← List.head?_drop, hcr]; rfl
            rw [h1] at h2
            simpa using h2
          rw [← hc]
          simp [go_sem, Tryd.underlying9, hlt]
        have HIX : Hid (∀ j, j < r.length → ∃ b, r[j]? = some b ∧ ∀ q, q = p + 1 + j → ∀ W, (Instr.index 9 (.string s) (.int .i64 (q : Int))).run Tryd.prog W = .ok (.int .u8 (b.toNat : Int)) W) := fun j hj => by
          have hq : p + 1 + j < s.size := by omega
          refine ⟨s[p + 1 + j], ?_, fun q hqq W => by subst hqq; exact ix_at s _ hq W⟩
          have h1 := byte_q s (p + 1 + j) hq
          rw [← HS.out] at h1
          have h2 : (S.drop p)[j + 1]? = r[j]? := by rw [hcr]; rfl
          rw [List.getElem?_drop, show p + (j + 1) = p + 1 + j by omega, h1] at h2
          exact h2.symm
        have HD : Hid (∀ n, r.drop n = S.drop (p + 1 + n)) := fun n => by
          have := congrArg (List.drop 1) hcr
          rw [List.drop_drop] at this
          simp only [List.drop_succ_cons, List.drop_zero] at this
          rw [← this, List.drop_drop]
        have HX : Hid (∀ n, n ≤ r.length → (s.extract p (p + 1 + n)).data.toList = c :: r.take n) := fun n hn => by
          rw [Lib.extract_data, ← HS.out, hcr, show p + 1 + n - p = n + 1 by omega, List.take_succ_cons]
        rw [hcr] at HW
        have HP : Hid (P.length ≤ 4096) := by show _ ≤ _; omega
        have K1 : Hid (∀ W, Calls Tryd.prog 69 #[.int .u8 (c.toNat : Int)] W fun e w' => e = .returned (.int .i64 (kindR c)) ∧ w' = W) := KC.out c
        clear hcr hlt
        rcases kind_cases c with ⟨hbl, hk⟩ | ⟨hbl, c1, hk⟩ | ⟨hbl, c1, c2, hk⟩ | ⟨hbl, c1, c2, hk⟩
        · rw [hk] at K1
          have HW2 : Hid (lexW 0 S = glue P (lexW (p + 1) (S.drop (p + 1)))) := by
            show _ = _
            rw [HW.out, lexW_none (lexeme_blank hbl r), HD.out 0]
          clear HW HX HD HIX KC hk hbl
          go_wp2_with fail
          refine (K1.out _).mono ?_
          rintro e w1 ⟨rfl, rfl⟩
          go_wp2_with fail
          go_loop [8] (fun x => x = .int .i64 ((p : Int) + 1)) (fun _ => 0)
          case atStart => rfl
          case round =>
            subst hrel
            go_wp2_with fail
            go_loop [8] (fun x => x = .int .i64 ((p : Int) + 1)) (fun _ => 0)
            case atStart => rfl
            case round =>
              subst hrel
              go_wp2_with fail
              exact ⟨⟨p + 1, by omega, by go_num, P, by omega, HW2, OWN.out.alloc _, hb.alloc hb.size _⟩, by simp [intOf]; omega⟩
        · rw [hk] at K1
          have hx : lexeme c r = (Lx.tok 1 (c :: r.takeWhile isLet) 0, (r.takeWhile isLet).length) := by
            unfold lexeme
            simp only [hbl, c1, Bool.false_eq_true, if_false, if_true]
          obtain ⟨n, hn⟩ : ∃ n, n = (r.takeWhile isLet).length := ⟨_, rfl⟩
          have HN : Hid (n = (r.takeWhile isLet).length ∧ n ≤ r.length) := ⟨hn, by rw [hn]; exact takeWhile_le isLet r⟩
          have hnle : p + 1 + n ≤ s.size := by have := HN.out.2; omega
          have hE := mk_of_data (HX.out n HN.out.2)
          have ht : c :: r.take n = c :: r.takeWhile isLet := by rw [hn, takeWhile_take]
          rw [ht] at hE
          obtain ⟨t, ht2⟩ : ∃ t, t = c :: r.takeWhile isLet := ⟨_, rfl⟩
          rw [← ht2] at hE hx
          rw [← hn] at hx
          have HE : Hid (s.extract p (p + 1 + n) = ⟨t.toArray⟩) := hE
          have HW2 : Hid (lexW 0 S = glue (P ++ [⟨1, p, t, 0⟩]) (lexW (p + 1 + n) (S.drop (p + 1 + n)))) := by
            show _ = _
            rw [HW.out, lexW_tok hx, HD.out, glue_glue]
          clear HW HX HD hk hbl hE ht ht2 hn hx c1
          go_wp2_with fail
          refine (K1.out _).mono ?_
          rintro e w1 ⟨rfl, rfl⟩
          go_upto_block 2 with fail
          go_cut [8] from 24 to 45 (fun x wx => x = .int .i64 ((p + 1 + n : Nat) : Int) ∧ wx = w1)
          case first =>
            go_wp2_with fail
            go_loop [8] (fun x => ∃ j : Nat, j ≤ n ∧ x = .int .i64 ((p + 1 + j : Nat) : Int)) (fun x => n - ((intOf x).toNat - (p + 1)))
            case atStart => exact ⟨0, Nat.zero_le _, by go_num⟩
            case round =>
              obtain ⟨j, hj, rfl⟩ := hrel
              obtain ⟨q, hq⟩ : ∃ q, q = p + 1 + j := ⟨_, rfl⟩
              rw [← hq]
              have HQ : Hid (q = p + 1 + j) := hq
              by_cases hin : q < s.size
              · have hin' : (q : Int) < (s.size : Int) := by omega
                obtain ⟨b, hb1, hb2⟩ := HIX.out j (by omega)
                have hix2 := hb2 q hq
                have hkb := kind_let b
                have K2 : Hid (∀ W, Calls Tryd.prog 69 #[.int .u8 (b.toNat : Int)] W fun e w' => e = .returned (.int .i64 (kindR b)) ∧ w' = W) := KC.out b
                obtain ⟨kb, hkbe⟩ : ∃ kb, kb = kindR b := ⟨_, rfl⟩
                rw [← hkbe] at K2 hkb
                by_cases hjn : j < n
                · have hbb : isLet b = true := by
                    obtain ⟨b', h1, h2⟩ := tw_in isLet r j (by have := HN.out; omega)
                    rw [hb1] at h1
                    obtain rfl := Option.some.inj h1
                    exact h2
                  rw [hbb] at hkb
                  clear hb1 hb2 hkbe hbb hq hin
                  go_wp2_with fail
                  refine (K2.out _).mono ?_
                  rintro e w2 ⟨rfl, hw2⟩
                  subst w2
                  go_wp2_with fail
                  go_round
                  case rel => exact ⟨j + 1, by omega, by rw [HQ.out]; go_num⟩
                  case measure => have := HQ.out; simp [intOf]; omega
                · have hbb : isLet b = false := by
                    have e : j = (r.takeWhile isLet).length := by have := HN.out; omega
                    exact tw_out isLet r b (by rw [← e]; exact hb1)
                  rw [hbb] at hkb
                  have HJN : Hid (q = p + 1 + n) := by show _ = _; omega
                  clear hb1 hb2 hkbe hbb hj hq hjn HQ hin
                  go_wp2_with fail
                  refine (K2.out _).mono ?_
                  rintro e w2 ⟨rfl, hw2⟩
                  subst w2
                  go_wp2_with fail
                  go_meet
                  case rel => exact ⟨by rw [HJN.out], rfl⟩
              · have hin' : (s.size : Int) ≤ (q : Int) := by omega
                have HJN : Hid (q = p + 1 + n) := by show _ = _; have := HN.out; omega
                clear hj hq hin HQ
                go_wp2_with fail
                go_meet
                case rel => exact ⟨by rw [HJN.out], rfl⟩
          case rest =>
            obtain ⟨rfl, hwc⟩ := hcut
            subst wc
            clear HIX KC K1 HN
            go_wp2_with fail
            go_loop [8] (fun x => x = .int .i64 (((p + 1 + n : Nat) : Int))) (fun _ => 0)
            case atStart => rfl
            case round =>
              subst hrel
              have z1 := hb.size
              go_upto_region 25 with fail
              go_wp2_with (first
                | (refine wl_loadE (E := TokE) TokOk rfl _ rfl w1.heap.size 0 rfl _ _ _ (tv 1 (p : Nat) (s.extract p (p + 1 + n)) 0) rfl (heap_new _ _ _ rfl) (own_cells _ _) ?_)
                | (refine wl_buildE (E := TokE) TokOk rfl _ rfl (tv 1 (p : Nat) (s.extract p (p + 1 + n)) 0) rfl rfl ?_)
                | (at_builtin; refine of_stopT ?_))
              unfold StopT
              rw [HE.out]
              refine wl_appendE (E := TokE) TokOk encT rfl _ _ rfl w.heap.size _ P (⟨1, p, t, 0⟩ : Tok) (tv_fits _ _ _ _) rfl ((OWN.out.alloc _).alloc _) (w1.heap.size + 1) 1 rfl (heap_new _ _ _ (by simp)) (by have := HP.out; omega) (by simp; omega) ?_
              intro v' w2 hown2 hgr _
              have B4 : Below w.heap.size w w2 := ((hb.alloc hb.size _).alloc (by simp; omega) _).grown hgr (by simp; omega) (fun q hq => (OWN.out.lt q hq).1)
              have OWN4 : Hid (w2.ownsRow w.heap.size 90 4 v' (P ++ [(⟨1, p, t, 0⟩ : Tok)]).length (gcells encT (P ++ [(⟨1, p, t, 0⟩ : Tok)]))) := hown2
              simp only [Act.put, List.setIfInBounds_toArray, List.set_cons_succ, List.set_cons_zero]
              clear hown2 hgr OWN
              go_wp2_with fail
              exact ⟨⟨p + 1 + n, by omega, by go_num, P ++ [⟨1, p, t, 0⟩], by simp; omega, HW2, OWN4.out, B4⟩, by simp [intOf]; omega⟩
        · rw [hk] at K1
          have hx : lexeme c r = (match numOf (c :: r.takeWhile isDig) with | some n => Lx.tok 2 [] n | Option.none => Lx.err 7, (r.takeWhile isDig).length) := by
            unfold lexeme
            simp only [hbl, c1, c2, Bool.false_eq_true, if_false, if_true]
            rfl
          obtain ⟨n, hn⟩ : ∃ n, n = (r.takeWhile isDig).length := ⟨_, rfl⟩
          have HN : Hid (n = (r.takeWhile isDig).length ∧ n ≤ r.length) := ⟨hn, by rw [hn]; exact takeWhile_le isDig r⟩
          have hnle : p + 1 + n ≤ s.size := by have := HN.out.2; omega
          have hE := HX.out n HN.out.2
          have ht : c :: r.take n = c :: r.takeWhile isDig := by rw [hn, takeWhile_take]
          rw [ht] at hE
          have V1 : Hid (∀ W, Calls Tryd.prog 70 #[.string (s.extract p (p + 1 + n))] W fun e w' => e = .returned (.int .i64 (numV (c :: r.takeWhile isDig))) ∧ w' = W) := fun W => by
            have := value_any (s.extract p (p + 1 + n)) (by rw [ByteArray.size_extract]; unfold maxLen; omega) (by rw [ByteArray.size_extract]; omega) (by rw [hE]; exact dig_all c2) W
            rwa [hE] at this
          rw [← hn] at hx
          have HX2 : Hid ((numV (c :: r.takeWhile isDig) = -1 ∧ R = ([], 7, p)) ∨ ∃ v : Nat, numV (c :: r.takeWhile isDig) = (v : Int) ∧ lexW 0 S = glue (P ++ [⟨2, p, [], v⟩]) (lexW (p + 1 + n) (S.drop (p + 1 + n)))) := by
            cases hq : numOf (c :: r.takeWhile isDig) with
            | none =>
              rw [hq] at hx
              refine .inl ⟨by unfold numV; rw [hq], ?_⟩
              rw [HR.out, HW.out, lexW_err hx]
              rfl
            | some v =>
              rw [hq] at hx
              refine .inr ⟨v, by unfold numV; rw [hq], ?_⟩
              rw [HW.out, lexW_tok hx, HD.out, glue_glue]
          obtain ⟨v0, hv0⟩ : ∃ v0, v0 = numV (c :: r.takeWhile isDig) := ⟨_, rfl⟩
          rw [← hv0] at V1 HX2
          clear HW HX HD hk hbl hE ht hn hx c1 c2 hv0
          go_wp2_with fail
          refine (K1.out _).mono ?_
          rintro e w1 ⟨rfl, rfl⟩
          go_upto_block 2 with fail
          go_cut [8] from 24 to 45 (fun x wx => x = .int .i64 ((p + 1 + n : Nat) : Int) ∧ wx = w1)
          case first =>
            go_wp2_with fail
            go_loop [8] (fun x => ∃ j : Nat, j ≤ n ∧ x = .int .i64 ((p + 1 + j : Nat) : Int)) (fun x => n - ((intOf x).toNat - (p + 1)))
            case atStart => exact ⟨0, Nat.zero_le _, by go_num⟩
            case round =>
              obtain ⟨j, hj, rfl⟩ := hrel
              obtain ⟨q, hq⟩ : ∃ q, q = p + 1 + j := ⟨_, rfl⟩
              rw [← hq]
              have HQ : Hid (q = p + 1 + j) := hq
              by_cases hin : q < s.size
              · have hin' : (q : Int) < (s.size : Int) := by omega
                obtain ⟨b, hb1, hb2⟩ := HIX.out j (by omega)
                have hix2 := hb2 q hq
                have hkb := kind_dig b
                have K2 : Hid (∀ W, Calls Tryd.prog 69 #[.int .u8 (b.toNat : Int)] W fun e w' => e = .returned (.int .i64 (kindR b)) ∧ w' = W) := KC.out b
                obtain ⟨kb, hkbe⟩ : ∃ kb, kb = kindR b := ⟨_, rfl⟩
                rw [← hkbe] at K2 hkb
                by_cases hjn : j < n
                · have hbb : isDig b = true := by
                    obtain ⟨b', h1, h2⟩ := tw_in isDig r j (by have := HN.out; omega)
                    rw [hb1] at h1
                    obtain rfl := Option.some.inj h1
                    exact h2
                  rw [hbb] at hkb
                  clear hb1 hb2 hkbe hbb hq hin
                  go_wp2_with fail
                  refine (K2.out _).mono ?_
                  rintro e w2 ⟨rfl, hw2⟩
                  subst w2
                  go_wp2_with fail
                  go_round
                  case rel => exact ⟨j + 1, by omega, by rw [HQ.out]; go_num⟩
                  case measure => have := HQ.out; simp [intOf]; omega
                · have hbb : isDig b = false := by
                    have e : j = (r.takeWhile isDig).length := by have := HN.out; omega
                    exact tw_out isDig r b (by rw [← e]; exact hb1)
                  rw [hbb] at hkb
                  have HJN : Hid (q = p + 1 + n) := by show _ = _; omega
                  clear hb1 hb2 hkbe hbb hj hq hjn HQ hin
                  go_wp2_with fail
                  refine (K2.out _).mono ?_
                  rintro e w2 ⟨rfl, hw2⟩
                  subst w2
                  go_wp2_with fail
                  go_meet
                  case rel => exact ⟨by rw [HJN.out], rfl⟩
              · have hin' : (s.size : Int) ≤ (q : Int) := by omega
                have HJN : Hid (q = p + 1 + n) := by show _ = _; have := HN.out; omega
                clear hj hq hin HQ
                go_wp2_with fail
                go_meet
                case rel => exact ⟨by rw [HJN.out], rfl⟩
          case rest =>
            obtain ⟨rfl, hwc⟩ := hcut
            subst wc
            clear HIX KC K1 HN
            go_wp2_with fail
            go_loop [8] (fun x => x = .int .i64 (((p + 1 + n : Nat) : Int))) (fun _ => 0)
            case atStart => rfl
            case round =>
              subst hrel
              go_wp2_with fail
              refine (V1.out _).mono ?_
              rintro e w2 ⟨rfl, hw2⟩
              subst w2
              rcases HX2.out with ⟨rfl, hR⟩ | ⟨v, rfl, hW2⟩
              · have HRR : Hid (R = ([], 7, p)) := hR
                clear hR HX2
                go_wp2_with fail
                go_ret3
                rw [HRR.out]
                exact ⟨_, rfl, World.ownsRow_nil _ _ _ _, hb.alloc hb.size _⟩
              · have HW2 : Hid (lexW 0 S = glue (P ++ [⟨2, p, [], v⟩]) (lexW (p + 1 + n) (S.drop (p + 1 + n)))) := hW2
                have hv0 : ¬ (v : Int) < 0 := by omega
                clear hW2 HX2 V1
                have z1 := hb.size
                go_upto_region 25 with fail
                go_wp2_with (first
                  | (refine wl_loadE (E := TokE) TokOk rfl _ rfl w1.heap.size 0 rfl _ _ _ (tv 2 (p : Nat) ⟨#[]⟩ (v : Int)) rfl (heap_new _ _ _ rfl) (own_cells _ _) ?_)
                  | (refine wl_buildE (E := TokE) TokOk rfl _ rfl (tv 2 (p : Nat) ⟨#[]⟩ (v : Int)) rfl rfl ?_)
                  | (at_builtin; refine of_stopT ?_))
                unfold StopT
                refine wl_appendE (E := TokE) TokOk encT rfl _ _ rfl w.heap.size _ P (⟨2, p, [], v⟩ : Tok) (tv_fits _ _ _ _) rfl ((OWN.out.alloc _).alloc _) (w1.heap.size + 1) 1 rfl (heap_new _ _ _ (by simp)) (by have := HP.out; omega) (by simp; omega) ?_
                intro v' w2 hown2 hgr _
                have B4 : Below w.heap.size w w2 := ((hb.alloc hb.size _).alloc (by simp; omega) _).grown hgr (by simp; omega) (fun q hq => (OWN.out.lt q hq).1)
                have OWN4 : Hid (w2.ownsRow w.heap.size 90 4 v' (P ++ [(⟨2, p, [], v⟩ : Tok)]).length (gcells encT (P ++ [(⟨2, p, [], v⟩ : Tok)]))) := hown2
                simp only [Act.put, List.setIfInBounds_toArray, List.set_cons_succ, List.set_cons_zero]
                clear hown2 hgr OWN
                go_wp2_with fail
                exact ⟨⟨p + 1 + n, by omega, by go_num, P ++ [⟨2, p, [], v⟩], by simp; omega, HW2, OWN4.out, B4⟩, by simp [intOf]; omega⟩
        · have hall : (∃ kk : Nat, (kk = 3 ∨ kk = 4 ∨ kk = 7) ∧ kindR c = kk ∧ lexeme c r = (Lx.tok kk [] 0, 0)) ∨ (c = 45 ∧ kindR c = 5) ∨ (c = 35 ∧ kindR c = 9) ∨ ((c ≠ 46 ∧ c ≠ 47 ∧ c ≠ 45 ∧ c ≠ 10 ∧ c ≠ 35) ∧ kindR c = -1) := by
            simp only [Bool.or_eq_true, Bool.and_eq_true, beq_iff_eq, bne_iff_ne] at hk
            rcases hk with ((((h | h) | h) | h) | h) | h
            · refine .inl ⟨3, .inl rfl, h.2, ?_⟩
              rw [h.1]; rfl
            · refine .inl ⟨4, .inr (.inl rfl), h.2, ?_⟩
              rw [h.1]; rfl
            · exact .inr (.inl h)
            · refine .inl ⟨7, .inr (.inr rfl), h.2, ?_⟩
              rw [h.1]; rfl
            · exact .inr (.inr (.inl h))
            · exact .inr (.inr (.inr ⟨⟨h.1.1.1.1.1, h.1.1.1.1.2, h.1.1.1.2, h.1.1.2, h.1.2⟩, h.2⟩))
          clear hk
          rcases hall with ⟨kk, hkk, hk, hx⟩ | ⟨hc, hk⟩ | ⟨hc, hk⟩ | ⟨hc, hk⟩
          · rw [hk] at K1
            have HW2 : Hid (lexW 0 S = glue (P ++ [⟨kk, p, [], 0⟩]) (lexW (p + 1) (S.drop (p + 1)))) := by
              show _ = _
              rw [HW.out, lexW_tok hx, HD.out 0, glue_glue]
            have d1 : ((kk : Int) == 1) = false := by simp; omega
            have d2 : ((kk : Int) == 2) = false := by simp; omega
            have d5 : ((kk : Int) == 5) = false := by simp; omega
            have d9 : ((kk : Int) == 9) = false := by simp; omega
            have d0 : 0 < (kk : Int) := by omega
            have d8 : (kk : Int) < 9 := by omega
            clear HW HX HD HIX KC hk hkk hx hbl c1 c2
            go_wp2_with fail
            refine (K1.out _).mono ?_
            rintro e w1 ⟨rfl, rfl⟩
            go_wp2_with fail
            go_loop [8] (fun x => x = .int .i64 ((p : Int) + 1)) (fun _ => 0)
            case atStart => rfl
            case round =>
              subst hrel
              go_wp2_with fail
              go_loop [8] (fun x => x = .int .i64 ((p : Int) + 1)) (fun _ => 0)
              case atStart => rfl
              case round =>
                subst hrel
                have z1 := hb.size
                go_upto_region 25 with fail
                go_wp2_with (first
                  | (refine wl_loadE (E := TokE) TokOk rfl _ rfl w1.heap.size 0 rfl _ _ _ (tv (kk : Int) (p : Nat) ⟨#[]⟩ 0) rfl (heap_new _ _ _ rfl) (own_cells _ _) ?_)
                  | (refine wl_buildE (E := TokE) TokOk rfl _ rfl (tv (kk : Int) (p : Nat) ⟨#[]⟩ 0) rfl rfl ?_)
                  | (at_builtin; refine of_stopT ?_))
                unfold StopT
                refine wl_appendE (E := TokE) TokOk encT rfl _ _ rfl w.heap.size _ P (⟨kk, p, [], 0⟩ : Tok) (tv_fits _ _ _ _) rfl ((OWN.out.alloc _).alloc _) (w1.heap.size + 1) 1 rfl (heap_new _ _ _ (by simp)) (by have := HP.out; omega) (by simp; omega) ?_
                intro v' w2 hown2 hgr _
                have B4 : Below w.heap.size w w2 := ((hb.alloc hb.size _).alloc (by simp; omega) _).grown hgr (by simp; omega) (fun q hq => (OWN.out.lt q hq).1)
                have OWN4 : Hid (w2.ownsRow w.heap.size 90 4 v' (P ++ [(⟨kk, p, [], 0⟩ : Tok)]).length (gcells encT (P ++ [(⟨kk, p, [], 0⟩ : Tok)]))) := hown2
                simp only [Act.put, List.setIfInBounds_toArray, List.set_cons_succ, List.set_cons_zero]
                clear hown2 hgr OWN
                go_wp2_with fail
                exact ⟨⟨p + 1, by omega, by go_num, P ++ [⟨kk, p, [], 0⟩], by simp; omega, HW2, OWN4.out, B4⟩, by simp [intOf]; omega⟩
          · rw [hk] at K1
            by_cases hhd : (r.head? == some 62) = true
            · have hx : lexeme c r = (Lx.tok 6 [] 0, 1) := by rw [hc]; exact lexeme_arrow hhd
              obtain ⟨r1, hr1⟩ : ∃ r1, r = 62 :: r1 := by
                cases r with
                | nil => simp at hhd
                | cons b r1 => exact ⟨r1, by rw [show b = 62 by simpa using hhd]⟩
              obtain ⟨b, hb1, hb2⟩ := HIX.out 0 (by rw [hr1]; simp)
              have hbe : b = 62 := by rw [hr1] at hb1; simpa using hb1.symm
              subst hbe
              have hix2 := hb2 (p + 1) rfl
              have hin' : (p : Int) + 1 < (s.size : Int) := by rw [hr1] at hrl; simp at hrl; omega
              have HW2 : Hid (lexW 0 S = glue (P ++ [⟨6, p, [], 0⟩]) (lexW (p + 1 + 1) (S.drop (p + 1 + 1)))) := by
                show _ = _
                rw [HW.out, lexW_tok hx, HD.out 1, glue_glue]
              rw [show (((p + 1 : Nat)) : Int) = (p : Int) + 1 by omega, show (((62 : UInt8).toNat : Nat) : Int) = 62 from rfl] at hix2
              clear HW HX HD HIX KC hk hx hbl c1 c2 hc hb1 hb2 hr1 hhd
              go_wp2_with fail
              refine (K1.out _).mono ?_
              rintro e w1 ⟨rfl, rfl⟩
              go_wp2_with fail
              go_loop [8] (fun x => x = .int .i64 ((p : Int) + 1)) (fun _ => 0)
              case atStart => rfl
              case round =>
                subst hrel
                go_wp2_with fail
                go_loop [8] (fun x => x = .int .i64 ((p : Int) + 1)) (fun _ => 0)
                case atStart => rfl
                case round =>
                  subst hrel
                  have z1 := hb.size
                  go_upto_region 25 with fail
                  go_wp2_with (first
                    | (refine wl_loadE (E := TokE) TokOk rfl _ rfl w1.heap.size 0 rfl _ _ _ (tv 6 (p : Nat) ⟨#[]⟩ 0) rfl (heap_new _ _ _ rfl) (own_cells _ _) ?_)
                    | (refine wl_buildE (E := TokE) TokOk rfl _ rfl (tv 6 (p : Nat) ⟨#[]⟩ 0) rfl rfl ?_)
                    | (at_builtin; refine of_stopT ?_))
                  unfold StopT
                  refine wl_appendE (E := TokE) TokOk encT rfl _ _ rfl w.heap.size _ P (⟨6, p, [], 0⟩ : Tok) (tv_fits _ _ _ _) rfl ((OWN.out.alloc _).alloc _) (w1.heap.size + 1) 1 rfl (heap_new _ _ _ (by simp)) (by have := HP.out; omega) (by simp; omega) ?_
                  intro v' w2 hown2 hgr _
                  have B4 : Below w.heap.size w w2 := ((hb.alloc hb.size _).alloc (by simp; omega) _).grown hgr (by simp; omega) (fun q hq => (OWN.out.lt q hq).1)
                  have OWN4 : Hid (w2.ownsRow w.heap.size 90 4 v' (P ++ [(⟨6, p, [], 0⟩ : Tok)]).length (gcells encT (P ++ [(⟨6, p, [], 0⟩ : Tok)]))) := hown2
                  simp only [Act.put, List.setIfInBounds_toArray, List.set_cons_succ, List.set_cons_zero]
                  clear hown2 hgr OWN
                  go_wp2_with fail
                  exact ⟨⟨p + 1 + 1, by omega, by go_num, P ++ [⟨6, p, [], 0⟩], by simp; omega, HW2, OWN4.out, B4⟩, by simp [intOf]; omega⟩
            · have hhd' : (r.head? == some 62) = false := by simpa using hhd
              have hx : lexeme c r = (Lx.tok 5 [] 0, 0) := by rw [hc]; exact lexeme_dash hhd
              have HW2 : Hid (lexW 0 S = glue (P ++ [⟨5, p, [], 0⟩]) (lexW (p + 1) (S.drop (p + 1)))) := by
                show _ = _
                rw [HW.out, lexW_tok hx, HD.out 0, glue_glue]
              by_cases hin : p + 1 < s.size
              · obtain ⟨b, hb1, hb2⟩ := HIX.out 0 (by omega)
                have hix2 := hb2 (p + 1) rfl
                have hbe : ((b.toNat : Int) == 62) = false := by
                  rw [List.head?_eq_getElem?, hb1] at hhd'
                  have := byte_beq b 62
                  rw [show (some b == some 62) = (b == 62) from rfl] at hhd'
                  rw [hhd'] at this
                  exact this
                have hin' : (p : Int) + 1 < (s.size : Int) := by omega
                rw [show (((p + 1 : Nat)) : Int) = (p : Int) + 1 by omega] at hix2
                clear HW HX HD HIX KC hk hx hbl c1 c2 hc hb1 hb2 hhd hhd' hin
                go_wp2_with fail
                refine (K1.out _).mono ?_
                rintro e w1 ⟨rfl, rfl⟩
                go_wp2_with fail
                go_loop [8] (fun x => x = .int .i64 ((p : Int) + 1)) (fun _ => 0)
                case atStart => rfl
                case round =>
                  subst hrel
                  go_wp2_with fail
                  go_loop [8] (fun x => x = .int .i64 ((p : Int) + 1)) (fun _ => 0)
                  case atStart => rfl
                  case round =>
                    subst hrel
                    have z1 := hb.size
                    go_upto_region 25 with fail
                    go_wp2_with (first
                      | (refine wl_loadE (E := TokE) TokOk rfl _ rfl w1.heap.size 0 rfl _ _ _ (tv 5 (p : Nat) ⟨#[]⟩ 0) rfl (heap_new _ _ _ rfl) (own_cells _ _) ?_)
                      | (refine wl_buildE (E := TokE) TokOk rfl _ rfl (tv 5 (p : Nat) ⟨#[]⟩ 0) rfl rfl ?_)
                      | (at_builtin; refine of_stopT ?_))
                    unfold StopT
                    refine wl_appendE (E := TokE) TokOk encT rfl _ _ rfl w.heap.size _ P (⟨5, p, [], 0⟩ : Tok) (tv_fits _ _ _ _) rfl ((OWN.out.alloc _).alloc _) (w1.heap.size + 1) 1 rfl (heap_new _ _ _ (by simp)) (by have := HP.out; omega) (by simp; omega) ?_
                    intro v' w2 hown2 hgr _
                    have B4 : Below w.heap.size w w2 := ((hb.alloc hb.size _).alloc (by simp; omega) _).grown hgr (by simp; omega) (fun q hq => (OWN.out.lt q hq).1)
                    have OWN4 : Hid (w2.ownsRow w.heap.size 90 4 v' (P ++ [(⟨5, p, [], 0⟩ : Tok)]).length (gcells encT (P ++ [(⟨5, p, [], 0⟩ : Tok)]))) := hown2
                    simp only [Act.put, List.setIfInBounds_toArray, List.set_cons_succ, List.set_cons_zero]
                    clear hown2 hgr OWN
                    go_wp2_with fail
                    exact ⟨⟨p + 1, by omega, by go_num, P ++ [⟨5, p, [], 0⟩], by simp; omega, HW2, OWN4.out, B4⟩, by simp [intOf]; omega⟩
              · have hin' : (s.size : Int) ≤ (p : Int) + 1 := by omega
                clear HW HX HD HIX KC hk hx hbl c1 c2 hc hhd hhd' hin
                go_wp2_with fail
                refine (K1.out _).mono ?_
                rintro e w1 ⟨rfl, rfl⟩
                go_wp2_with fail
                go_loop [8] (fun x => x = .int .i64 ((p : Int) + 1)) (fun _ => 0)
                case atStart => rfl
                case round =>
                  subst hrel
                  go_wp2_with fail
                  go_loop [8] (fun x => x = .int .i64 ((p : Int) + 1)) (fun _ => 0)
                  case atStart => rfl
                  case round =>
                    subst hrel
                    have z1 := hb.size
                    go_upto_region 25 with fail
                    go_wp2_with (first
                      | (refine wl_loadE (E := TokE) TokOk rfl _ rfl w1.heap.size 0 rfl _ _ _ (tv 5 (p : Nat) ⟨#[]⟩ 0) rfl (heap_new _ _ _ rfl) (own_cells _ _) ?_)
                      | (refine wl_buildE (E := TokE) TokOk rfl _ rfl (tv 5 (p : Nat) ⟨#[]⟩ 0) rfl rfl ?_)
                      | (at_builtin; refine of_stopT ?_))
                    unfold StopT
                    refine wl_appendE (E := TokE) TokOk encT rfl _ _ rfl w.heap.size _ P (⟨5, p, [], 0⟩ : Tok) (tv_fits _ _ _ _) rfl ((OWN.out.alloc _).alloc _) (w1.heap.size + 1) 1 rfl (heap_new _ _ _ (by simp)) (by have := HP.out; omega) (by simp; omega) ?_
                    intro v' w2 hown2 hgr _
                    have B4 : Below w.heap.size w w2 := ((hb.alloc hb.size _).alloc (by simp; omega) _).grown hgr (by simp; omega) (fun q hq => (OWN.out.lt q hq).1)
                    have OWN4 : Hid (w2.ownsRow w.heap.size 90 4 v' (P ++ [(⟨5, p, [], 0⟩ : Tok)]).length (gcells encT (P ++ [(⟨5, p, [], 0⟩ : Tok)]))) := hown2
                    simp only [Act.put, List.setIfInBounds_toArray, List.set_cons_succ, List.set_cons_zero]
                    clear hown2 hgr OWN
                    go_wp2_with fail
                    exact ⟨⟨p + 1, by omega, by go_num, P ++ [⟨5, p, [], 0⟩], by simp; omega, HW2, OWN4.out, B4⟩, by simp [intOf]; omega⟩
          · rw [hk] at K1
            have hx := lexeme_hash r
            rw [← hc] at hx
            obtain ⟨n, hn⟩ : ∃ n, n = (r.takeWhile notEnd).length := ⟨_, rfl⟩
            have HN : Hid (n = (r.takeWhile notEnd).length ∧ n ≤ r.length) := ⟨hn, by rw [hn]; exact takeWhile_le notEnd r⟩
            have hnle : p + 1 + n ≤ s.size := by have := HN.out.2; omega
            rw [← hn] at hx
            have HW2 : Hid (lexW 0 S = glue P (lexW (p + 1 + n) (S.drop (p + 1 + n)))) := by
              show _ = _
              rw [HW.out, lexW_none hx, HD.out]
            clear HW HX HD hk hbl hn hx c1 c2 hc
            go_wp2_with fail
            refine (K1.out _).mono ?_
            rintro e w1 ⟨rfl, rfl⟩
            go_wp2_with fail
            go_loop [8] (fun x => x = .int .i64 ((p : Int) + 1)) (fun _ => 0)
            case atStart => rfl
            case round =>
              subst hrel
              go_upto_block 4 with fail
              go_cut [8] from 46 to 61 (fun x wx => x = .int .i64 ((p + 1 + n : Nat) : Int) ∧ wx = w1)
              case first =>
                go_wp2_with fail
                go_loop [8] (fun x => ∃ j : Nat, j ≤ n ∧ x = .int .i64 ((p + 1 + j : Nat) : Int)) (fun x => n - ((intOf x).toNat - (p + 1)))
                case atStart => exact ⟨0, Nat.zero_le _, by go_num⟩
                case round =>
                  obtain ⟨j, hj, rfl⟩ := hrel
                  obtain ⟨q, hq⟩ : ∃ q, q = p + 1 + j := ⟨_, rfl⟩
                  rw [← hq]
                  have HQ : Hid (q = p + 1 + j) := hq
                  by_cases hin : q < s.size
                  · have hin' : (q : Int) < (s.size : Int) := by omega
                    obtain ⟨b, hb1, hb2⟩ := HIX.out j (by omega)
                    have hix2 := hb2 q hq
                    have hkb : ((b.toNat : Int) != 10) = notEnd b := by
                      have := byte_beq b 10
                      unfold notEnd
                      simp only [bne]
                      exact congrArg _ this
                    by_cases hjn : j < n
                    · have hbb : notEnd b = true := by
                        obtain ⟨b', h1, h2⟩ := tw_in notEnd r j (by have := HN.out; omega)
                        rw [hb1] at h1
                        obtain rfl := Option.some.inj h1
                        exact h2
                      rw [hbb] at hkb
                      clear hb1 hb2 hbb hq hin
                      go_wp2_with fail
                      go_round
                      case rel => exact ⟨j + 1, by omega, by rw [HQ.out]; go_num⟩
                      case measure => have := HQ.out; simp [intOf]; omega
                    · have hbb : notEnd b = false := by
                        have e : j = (r.takeWhile notEnd).length := by have := HN.out; omega
                        exact tw_out notEnd r b (by rw [← e]; exact hb1)
                      rw [hbb] at hkb
                      have HJN : Hid (q = p + 1 + n) := by show _ = _; omega
                      clear hb1 hb2 hbb hj hq hjn HQ hin
                      go_wp2_with fail
                      go_meet
                      case rel => exact ⟨by rw [HJN.out], rfl⟩
                  · have hin' : (s.size : Int) ≤ (q : Int) := by omega
                    have HJN : Hid (q = p + 1 + n) := by show _ = _; have := HN.out; omega
                    clear hj hq hin HQ
                    go_wp2_with fail
                    go_meet
                    case rel => exact ⟨by rw [HJN.out], rfl⟩
              case rest =>
                obtain ⟨rfl, hwc⟩ := hcut
                subst wc
                clear HIX KC K1 HN
                go_wp2_with fail
                exact ⟨⟨p + 1 + n, by omega, by go_num, P, by omega, HW2, OWN.out.alloc _, hb.alloc hb.size _⟩, by simp [intOf]; omega⟩
          · rw [hk] at K1
            have HRR : Hid (R = ([], 6, p)) := by
              show _ = _
              rw [HR.out, HW.out, lexW_err (e := 6) (n := 0)]
              · rfl
              · unfold lexeme
                simp only [hbl, c1, c2, Bool.false_eq_true, if_false]
                rw [if_neg (by simpa using hc.1), if_neg (by simpa using hc.2.1), if_neg (by simpa using hc.2.2.1), if_neg (by simpa using hc.2.2.2.1), if_neg (by simpa using hc.2.2.2.2)]
            clear HW HX HD HIX KC hk hbl c1 c2 hc
            go_wp2_with fail
            refine (K1.out _).mono ?_
            rintro e w1 ⟨rfl, rfl⟩
            go_wp2_with fail
            go_loop [8] (fun x => x = .int .i64 ((p : Int) + 1)) (fun _ => 0)
            case atStart => rfl
            case round =>
              subst hrel
              go_wp2_with fail
              go_loop [8] (fun x => x = .int .i64 ((p : Int) + 1)) (fun _ => 0)
              case atStart => rfl
              case round =>
                subst hrel
                go_wp2_with fail
                go_ret3
                rw [HRR.out]
                exact ⟨_, rfl, World.ownsRow_nil _ _ _ _, hb⟩
      · have hlt' : (s.size : Int) ≤ (p : Int) := by omega
        have HRR : Hid (R = (P, 0, 0)) := by
          show _ = _
          rw [HR.out, HW.out, List.drop_of_length_le (by omega), lexW_nil]
          simp [glue]
        clear hlt HW KC
        go_wp2_with fail
        go_ret3
        rw [HRR.out]
        exact ⟨_, rfl, OWN.out, hb⟩
end Go.Proofs.YtfamnloobmdhdaaDoor
namespace Go.Proofs.YtfamnloobmdhdaaDoor
open Go Go.RowKit
set_option maxRecDepth 20000

theorem raws_clas {w : World} {B : Nat} {L : List Raw} {P : List (Raw × Value)} {x : Raw} {u v v' : Value} {w' : World} (hP : P.map (·.1) = L) (hPf : ∀ q ∈ P, ClasOwn B w q.1.clauses q.2) (hx : ClasOwn B w x.clauses u) (hPo : w.ownsRow B 51 8 v P.length (gcells (fun q : Raw × Value => rawV q.1 q.2) P)) (hgr : w.grownBy w' v.ownBlock)
    (hown : w'.ownsRow B 51 8 v' (P ++ [(x, u)]).length (gcells (fun q : Raw × Value => rawV q.1 q.2) (P ++ [(x, u)]))) : RawsOwn B w' (L ++ [x]) v' :=
  NOwn.snoc (E := RawE) (row := rawV) (R := fun w' x u => ClasOwn B w' x.clauses u) hP hown (fun q hq => clas_grown hPo hgr (hPf q hq)) (clas_grown hPo hgr hx)

set_option maxHeartbeats 8000000 in
set_option maxRecDepth 10000 in
theorem rparse_any (s : ByteArray) (hs : s.size ≤ maxLen) (w : World) :
    Calls Tryd.prog 24 #[.string s] w fun e w' => ∃ v, e = .returned (.tuple #[v, .int .i64 ((parseP s.data.toList).2.1 : Nat), .int .i64 ((parseP s.data.toList).2.2 : Nat)]) ∧ RawsOwn w.heap.size w' (parseP s.data.toList).1 v ∧ Below w.heap.size w w' := by
  have C1 : Hid (∀ W, Calls Tryd.prog 44 #[.string s] W fun e w' => ∃ u, e = .returned (.tuple #[u, .int .i64 ((lexT s.data.toList).2.1 : Nat), .int .i64 ((lexT s.data.toList).2.2 : Nat)]) ∧ w'.ownsRow W.heap.size 90 4 u (lexT s.data.toList).1.length (gcells encT (lexT s.data.toList).1) ∧ Below W.heap.size W w') := rtokens_any s hs
  obtain ⟨S, hS⟩ : ∃ S, S = s.data.toList := ⟨_, rfl⟩
  have hlen : S.length = s.size := by rw [hS]; exact (Lib.size_eq s).symm
  rw [← hS] at C1 ⊢
  have HLEN : Hid (S.length = s.size) := hlen
  clear hS hlen hs
  by_cases hE : (lexT S).2.1 = 0
  · obtain ⟨T, hT, hL, h4, hP⟩ := parseP_ok hE
    rw [hL] at C1
    have C2 : Hid (∀ W, Calls Tryd.prog 44 #[.string s] W fun e w' => ∃ u, e = .returned (.tuple #[u, .int .i64 0, .int .i64 0]) ∧ w'.ownsRow W.heap.size 90 4 u T.length (gcells encT T) ∧ Below W.heap.size W w') := C1.out
    have hTl : T.length ≤ 4096 := by have := lexW_len hT; omega
    have HP : Hid (parseP S = match takeL S.length (T.length + 1) [] T with | .ok l => (l, 0, 0) | .error x => ([], x.1, x.2)) := hP
    have HDR : Hid (match takeL S.length (T.length + 1) [] T with | .ok l => (rowsW S.length T (T.length + 1) [] ⟨0, 0, 0⟩).2.bad = 0 ∧ (rowsW S.length T (T.length + 1) [] ⟨0, 0, 0⟩).1 = l | .error x => (rowsW S.length T (T.length + 1) [] ⟨0, 0, 0⟩).2.bad = x.1 ∧ (rowsW S.length T (T.length + 1) [] ⟨0, 0, 0⟩).2.pos = x.2 ∧ x.1 ≠ 0) := does_rows S.length T (T.length + 1) [] ⟨0, 0, 0⟩ rfl
    have HRES : Hid (((rowsW S.length T (T.length + 1) [] ⟨0, 0, 0⟩).2.bad = 0 → parseP S = ((rowsW S.length T (T.length + 1) [] ⟨0, 0, 0⟩).1, 0, 0)) ∧ ((rowsW S.length T (T.length + 1) [] ⟨0, 0, 0⟩).2.bad ≠ 0 → parseP S = ([], (rowsW S.length T (T.length + 1) [] ⟨0, 0, 0⟩).2.bad, (rowsW S.length T (T.length + 1) [] ⟨0, 0, 0⟩).2.pos))) := by
      show _ ∧ _
      have h1 := HP.out
      have h2 := HDR.out
      cases hx : takeL S.length (T.length + 1) [] T with
      | ok l =>
        rw [hx] at h1 h2
        exact ⟨fun _ => by rw [h1, h2.2], fun hn => absurd h2.1 hn⟩
      | error x =>
        rw [hx] at h1 h2
        exact ⟨fun hz => absurd (h2.1.symm.trans hz) h2.2.2, fun _ => by rw [h1, h2.1, h2.2.1]⟩
    obtain ⟨R, hR⟩ : ∃ R, R = parseP S := ⟨_, rfl⟩
    rw [← hR] at HRES ⊢
    obtain ⟨E, hEE⟩ : ∃ E, E = S.length := ⟨_, rfl⟩
    rw [← hEE] at HRES HLEN
    clear hE hT hL hP hR C1 h4 HP HDR hEE
    go_enter Tryd.func24, Tryd.ntmps24
    go_wp2_with fail
    refine (C2.out _).mono ?_
    rintro e w1 ⟨u, rfl, hown1, hb1⟩
    have G1 : GSl TokE encT w1 u T := gsl_of (E := TokE) hown1 fun c _ => rfl
    obtain ⟨oL, capL, rfl, hcL, hmL⟩ := G1.slice
    have HL : Hid (GSl TokE encT w1 (.slice oL T.length capL) T) := G1
    have HB1 : Hid (Below w.heap.size w w1) := hb1
    unfold maxLen at hmL
    clear hown1 G1 hb1
    obtain ⟨g, hg⟩ : ∃ g, g = w1.heap.size := ⟨_, rfl⟩
    obtain ⟨wA, hwA⟩ : ∃ wA, wA = (w1.alloc (.cells (wkV (.slice oL T.length capL) E ⟨0, 0, 0⟩) 88)).alloc (.cells #[] 51) := ⟨_, rfl⟩
    have HWA : Hid (wA = (w1.alloc (.cells #[.slice oL T.length capL, .int .i64 0, .int .i64 (s.size : Int), .int .i64 0, .int .i64 0] 88)).alloc (.cells #[] 51) ∧ g = w1.heap.size) := ⟨by rw [hwA]; show _ = (w1.alloc (.cells #[.slice oL T.length capL, .int .i64 0, .int .i64 (s.size : Int), .int .i64 0, .int .i64 0] 88)).alloc (.cells #[] 51); rw [← HLEN.out]; rfl, hg⟩
    have HBA : Hid (Below w1.heap.size w1 wA) := by rw [hwA]; exact ((Below.refl _ _).alloc (Nat.le_refl _) _).alloc (by simp) _
    have HWK : Hid (Wk w1 wA g E (.slice oL T.length capL) ⟨0, 0, 0⟩) := ⟨HBA.out, by omega, by rw [hwA]; exact heap_past _ _ _ _ (heap_new _ _ _ hg)⟩
    have HRO : Hid (RawsOwn (g + 1) wA [] (.slice (some ⟨g + 1, 0, none⟩) 0 0)) := ⟨[], rfl, ⟨rfl, Or.inr ⟨g + 1, 0, #[], rfl, Nat.le_refl _, by rw [hwA]; exact heap_new _ _ _ (by simp [hg]), Nat.le_refl _, by decide, rfl, rfl⟩⟩, fun q hq => by simp at hq⟩
    clear hwA hg
    go_wp2_with fail
    rw [← HWA.out.1, ← HWA.out.2]
    have CR : Hid (∀ W s, s.i < T.length → Wk w1 W g E (.slice oL T.length capL) s → Calls Tryd.prog 46 #[.pointer (some ⟨g, 0, none⟩)] W fun e w' => ∃ u, e = .returned (.agg (rawV (rowW E T s).1 u)) ∧ ClasOwn W.heap.size w' (rowW E T s).1.clauses u ∧ W.grownBy w' (some g) ∧ Wk w1 w' g E (.slice oL T.length capL) (rowW E T s).2) := fun W s hi h => rrow_any w1 W g E _ T HL.out (by omega) s hi h
    have CW : Hid (∀ W s, Wk w1 W g E (.slice oL T.length capL) s → Calls Tryd.prog 45 #[.pointer (some ⟨g, 0, none⟩), .int .i64 4] W fun e' w' => e' = .returned (.tuple #[]) ∧ W.grownBy w' (some g) ∧ Wk w1 w' g E (.slice oL T.length capL) (wrong E T 4 s)) := fun W s h => wrong_any w1 W g E _ T HL.out 4 s h
    have hgw : w.heap.size ≤ g := by have := HB1.out.size; have := HWA.out.2; omega
    go_loopw [9] (fun out wr => ∃ (f : Nat) (had : List Raw) (st : Ws), T.length + 1 ≤ st.i + f ∧ st.i ≤ T.length + 15 ∧ had.length ≤ 65 ∧ (st.bad = 0 → had.length ≤ 64) ∧ Hid (rowsW E T (T.length + 1) [] ⟨0, 0, 0⟩ = rowsW E T f had st) ∧ Wk w1 wr g E (.slice oL T.length capL) st ∧ RawsOwn (g + 1) wr had out) (fun _ wr => T.length + 20 - atN wr g)
    case atStart => exact ⟨T.length + 1, [], ⟨0, 0, 0⟩, by simp, by simp, by simp, by simp, rfl, HWK.out, HRO.out⟩
    case round =>
      obtain ⟨f, had, st, hf, hsi, h65, h64, HRW, hwk, hro⟩ := hrel
      obtain ⟨oo, co, rfl⟩ : ∃ o c, u9 = .slice o had.length c := by
        obtain ⟨P, hP, hP2, _⟩ := hro
        obtain ⟨o, cap, e⟩ := gown_slice hP2
        exact ⟨o, cap, by rw [e, ← hP, List.length_map]⟩
      obtain ⟨no, hno⟩ : ∃ no, no = had.length := ⟨_, rfl⟩
      rw [← hno] at hro ⊢
      have HNO : Hid (no = had.length) := hno
      clear hno
      have WKR : Hid (Wk w1 wr g E (.slice oL T.length capL) st) := hwk
      have ROWN : Hid (RawsOwn (g + 1) wr had (.slice oo no co)) := hro
      have BELOW : Hid (Below w.heap.size w wr) := HB1.out.trans (hwk.1.mono HB1.out.size)
      have HAT : Hid (atN wr g = st.i) := at_is hwk
      obtain ⟨c0, c1, c2, c3, c4, fz⟩ := wk_cells hwk
      have fz1 := fz 1
      clear hwk hro HWK HRO fz
      by_cases hlt : st.i < T.length
      · have hlt' : (st.i : Int) < (T.length : Int) := by omega
        by_cases hbd : st.bad = 0
        · have hb0 : ((st.bad : Int) == 0) = true := by simp; omega
          obtain ⟨f', rfl⟩ : ∃ f', f = f' + 1 := ⟨f - 1, by omega⟩
          obtain ⟨bL, offL, cur, ty, fr, c, hoL, hb, hc, hck⟩ := (HL.out.below WKR.out.1).at st.i hlt
          subst hoL
          have hnx : nx E T st = c := by unfold nx; rw [List.getD, hck]; rfl
          have ck : wr.cell? ⟨bL, offL + st.i * 4, none⟩ = some (.int .i64 (c.kind : Int)) := by rw [cell_of_row _ _ _ _ _ _ hb]; exact hc 0 (by decide)
          have h64' := h64 hbd
          clear hb hc hck h64
          by_cases hk7 : c.kind = 7
          · have e7 : ((c.kind : Int) == 7) = true := by simp; omega
            have ROW : Hid (rowsW E T (T.length + 1) [] ⟨0, 0, 0⟩ = rowsW E T f' had (stepW st)) := by show _ = _; rw [HRW.out, rowsW, if_pos ⟨hlt, hbd⟩, if_pos (by rw [hnx]; exact hk7)]
            have HW2 : Hid (Wk w1 (wr.setCell ⟨g, 1, none⟩ (.int .i64 ((st.i : Int) + 1))) g E (.slice (some ⟨bL, offL, none⟩) T.length capL) (stepW st)) := wk_set WKR.out 1 _ _ rfl
            have RO2 : Hid (RawsOwn (g + 1) (wr.setCell ⟨g, 1, none⟩ (.int .i64 ((st.i : Int) + 1))) had (.slice oo no co)) := ROWN.out.by (gb_setCell (gb_refl _ _) (.inl rfl) _ _) (Nat.lt_succ_self g)
            clear hnx hk7 hbd HRW
            go_wp2_with fail
            go_roundw
            case rel => exact ⟨f', had, stepW st, by show _ ≤ st.i + 1 + f'; omega, by show st.i + 1 ≤ _; omega, h65, fun _ => h64', ROW, HW2.out, RO2.out⟩
            case measure => rw [HAT.out, at_is HW2.out]; show _ - (st.i + 1) < _; omega
          · have e7 : ((c.kind : Int) == 7) = false := by simp; omega
            by_cases hm : had.length = 64
            · have em : ((no : Int) == 64) = true := by have := HNO.out; simp; omega
              obtain ⟨sw, hsw⟩ : ∃ sw, sw = wrong E T 4 st := ⟨_, rfl⟩
              have hswi : sw.i = st.i := by rw [hsw, wrong_i]
              have HSWB : Hid (sw.bad = 4) := by show _ = _; rw [hsw, wrong_is hbd]
              have ROW : Hid (rowsW E T (T.length + 1) [] ⟨0, 0, 0⟩ = rowsW E T f' (had ++ [(rowW E T sw).1]) (rowW E T sw).2) := by show _ = _; rw [HRW.out, rowsW, if_pos ⟨hlt, hbd⟩, if_neg (by rw [hnx]; exact hk7)]; simp only [if_pos hm, ← hsw]
              have HSW : Hid (sw = wrong E T 4 st ∧ sw.i = st.i) := ⟨hsw, hswi⟩
              clear hnx hk7 hbd HRW hsw hswi hm
              go_wp2_with fail
              refine (CW.out _ st WKR.out).mono ?_
              rw [← HSW.out.1]
              rintro e W2 ⟨rfl, hg2, hw2⟩
              replace WKR : Hid (Wk w1 W2 g E (.slice (some ⟨bL, offL, none⟩) T.length capL) sw) := hw2
              replace ROWN : Hid (RawsOwn (g + 1) W2 had (.slice oo no co)) := ROWN.out.by hg2 (Nat.lt_succ_self g)
              have hswlt : sw.i < T.length := by have := HSW.out.2; omega
              clear hg2 hw2 ck c0 c1 c2 c3 c4 fz1
              go_wp2_with fail
              refine (CR.out _ sw hswlt WKR.out).mono ?_
              rintro e W3 ⟨u, rfl, hcl3, hg3, hw3⟩
              obtain ⟨x, sx, hrx⟩ : ∃ x sx, rowW E T sw = (x, sx) := ⟨_, _, rfl⟩
              have HRX : Hid (rowW E T sw = (x, sx)) := hrx
              have hsx := row_i E T sw hswlt
              rw [hrx] at hcl3 hw3 hsx ROW ⊢
              have HSX : Hid (sw.i < sx.i ∧ sx.i ≤ T.length + 15) := hsx
              have ROW3 : Hid (RawsOwn (g + 1) W3 had (.slice oo no co)) := ROWN.out.by hg3 (by omega)
              have zg := WKR.out.size
              have HC3 : Hid (ClasOwn (g + 1) W3 x.clauses u) := clas_base hcl3 (by omega)
              obtain ⟨o5, n5, m5, rfl⟩ := clas_slice hcl3
              have HW3 : Hid (Wk w1 W3 g E (.slice (some ⟨bL, offL, none⟩) T.length capL) sx) := hw3
              have ROWF : Hid (rowsW E T (T.length + 1) [] ⟨0, 0, 0⟩ = rowsW E T f' (had ++ [x]) sx) := ROW.out
              clear hcl3 hg3 hw3 hrx hsx
              go_wp2_with (first
                | (refine wl_buildE (E := RawE) RawOk rfl _ rfl (rawV x (.slice o5 n5 m5)) rfl rfl ?_)
                | (at_builtin; refine of_stopT ?_))
              unfold StopT
              obtain ⟨P, hP1, hP2, hP3⟩ := ROW3.out
              have alc : Below W3.heap.size W3 (W3.alloc (.cells (rawV x (.slice o5 n5 m5)) 51)) := (Below.refl _ _).alloc (Nat.le_refl _) _
              have hPl : P.length = had.length := by rw [← hP1, List.length_map]
              have z3 := HW3.out.size
              have HO6 : Hid ((W3.alloc (.cells (rawV x (.slice o5 n5 m5)) 51)).ownsRow (g + 1) 51 8 (.slice oo no co) P.length (gcells (fun p : Raw × Value => rawV p.1 p.2) P)) := hP2.alloc _
              refine wl_appendE (E := RawE) RawOk (fun p : Raw × Value => rawV p.1 p.2) rfl _ _ rfl (g + 1) _ P (x, .slice o5 n5 m5) (raw_fits _ _ ⟨_, _, _, rfl⟩) rfl HO6.out _ 1 rfl (heap_new _ _ _ rfl) (by omega) (by simp; omega) ?_
              intro v' w6 hown6 hgr6 _
              have HOWN6 : Hid (RawsOwn (g + 1) w6 (had ++ [x]) v') := raws_clas hP1 (fun q hq => (hP3 q hq).below alc) (HC3.out.below alc) HO6.out hgr6 hown6
              have HW6 : Hid (Wk w1 w6 g E (.slice (some ⟨bL, offL, none⟩) T.length capL) sx) := wk_own (HW3.out.alloc _) hgr6 fun k hk => (HO6.out.lt k hk).1
              obtain ⟨o6, cap6, rfl⟩ := gown_slice hown6
              clear hown6 hgr6 hP1 hP2 hP3 HO6 alc hPl
              simp only [Act.put, List.setIfInBounds_toArray, List.set_cons_succ, List.set_cons_zero]
              go_wp2_with fail
              go_roundw
              case rel => exact ⟨f', had ++ [x], sx, by have := HSX.out; have := HSW.out.2; omega, by have := HSX.out; omega, by simp; omega, fun hz => absurd hz (by obtain ⟨q1, _⟩ := keeps_row E T sw (by rw [HSWB.out]; decide); rw [HRX.out] at q1; have q2 : sx.bad = sw.bad := q1; rw [q2, HSWB.out]; decide), ROWF, HW6.out, by have := HOWN6.out; simpa using this⟩
              case measure => rw [HAT.out, at_is HW6.out]; have := HSX.out; have := HSW.out.2; omega
            · have em : ((no : Int) == 64) = false := by have := HNO.out; simp; omega
              have ROW : Hid (rowsW E T (T.length + 1) [] ⟨0, 0, 0⟩ = rowsW E T f' (had ++ [(rowW E T st).1]) (rowW E T st).2) := by show _ = _; rw [HRW.out, rowsW, if_pos ⟨hlt, hbd⟩, if_neg (by rw [hnx]; exact hk7)]; simp only [if_neg hm]
              have hm64 : had.length + 1 ≤ 64 := by omega
              clear hnx hk7 hbd HRW hm
              go_wp2_with fail
              clear ck c0 c1 c2 c3 c4 fz1
              refine (CR.out _ st hlt WKR.out).mono ?_
              rintro e W3 ⟨u, rfl, hcl3, hg3, hw3⟩
              obtain ⟨x, sx, hrx⟩ : ∃ x sx, rowW E T st = (x, sx) := ⟨_, _, rfl⟩
              have hsx := row_i E T st hlt
              rw [hrx] at hcl3 hw3 hsx ROW ⊢
              have HSX : Hid (st.i < sx.i ∧ sx.i ≤ T.length + 15) := hsx
              have ROW3 : Hid (RawsOwn (g + 1) W3 had (.slice oo no co)) := ROWN.out.by hg3 (by omega)
              have zg := WKR.out.size
              have HC3 : Hid (ClasOwn (g + 1) W3 x.clauses u) := clas_base hcl3 (by omega)
              obtain ⟨o5, n5, m5, rfl⟩ := clas_slice hcl3
              have HW3 : Hid (Wk w1 W3 g E (.slice (some ⟨bL, offL, none⟩) T.length capL) sx) := hw3
              have ROWF : Hid (rowsW E T (T.length + 1) [] ⟨0, 0, 0⟩ = rowsW E T f' (had ++ [x]) sx) := ROW.out
              clear hcl3 hg3 hw3 hrx hsx
              go_wp2_with (first
                | (refine wl_buildE (E := RawE) RawOk rfl _ rfl (rawV x (.slice o5 n5 m5)) rfl rfl ?_)
                | (at_builtin; refine of_stopT ?_))
              unfold StopT
              obtain ⟨P, hP1, hP2, hP3⟩ := ROW3.out
              have alc : Below W3.heap.size W3 (W3.alloc (.cells (rawV x (.slice o5 n5 m5)) 51)) := (Below.refl _ _).alloc (Nat.le_refl _) _
              have hPl : P.length = had.length := by rw [← hP1, List.length_map]
              have z3 := HW3.out.size
              have HO6 : Hid ((W3.alloc (.cells (rawV x (.slice o5 n5 m5)) 51)).ownsRow (g + 1) 51 8 (.slice oo no co) P.length (gcells (fun p : Raw × Value => rawV p.1 p.2) P)) := hP2.alloc _
              refine wl_appendE (E := RawE) RawOk (fun p : Raw × Value => rawV p.1 p.2) rfl _ _ rfl (g + 1) _ P (x, .slice o5 n5 m5) (raw_fits _ _ ⟨_, _, _, rfl⟩) rfl HO6.out _ 1 rfl (heap_new _ _ _ rfl) (by omega) (by simp; omega) ?_
              intro v' w6 hown6 hgr6 _
              have HOWN6 : Hid (RawsOwn (g + 1) w6 (had ++ [x]) v') := raws_clas hP1 (fun q hq => (hP3 q hq).below alc) (HC3.out.below alc) HO6.out hgr6 hown6
              have HW6 : Hid (Wk w1 w6 g E (.slice (some ⟨bL, offL, none⟩) T.length capL) sx) := wk_own (HW3.out.alloc _) hgr6 fun k hk => (HO6.out.lt k hk).1
              obtain ⟨o6, cap6, rfl⟩ := gown_slice hown6
              clear hown6 hgr6 hP1 hP2 hP3 HO6 alc hPl
              simp only [Act.put, List.setIfInBounds_toArray, List.set_cons_succ, List.set_cons_zero]
              go_wp2_with fail
              go_roundw
              case rel => exact ⟨f', had ++ [x], sx, by have := HSX.out; omega, by have := HSX.out; omega, by simp; omega, fun hz => by simp; omega, ROWF, HW6.out, by have := HOWN6.out; simpa using this⟩
              case measure => rw [HAT.out, at_is HW6.out]; have := HSX.out; omega
        · have hbdn : ¬ st.bad = 0 := hbd
          replace HRW : Hid (rowsW E T (T.length + 1) [] ⟨0, 0, 0⟩ = (had, st)) := by
            show _ = _
            rw [HRW.out]
            cases f with
            | zero => rfl
            | succ f => rw [rowsW, if_neg fun q => hbd q.2]
          clear hbd
          by_cases hbd : st.bad = 0
          · exact absurd hbd hbdn
          · have hb0 : ((st.bad : Int) == 0) = false := by simp; omega
            have hb1 : ((st.bad : Int) != 0) = true := by simp; omega
            have HRR : Hid (R = ([], st.bad, st.pos)) := by show _ = _; rw [HRES.out.2 (by rw [HRW.out]; exact hbd), HRW.out]
            clear hbd
            have l3 : ∀ u : Later wr, u.world.cell? ⟨g, 3, none⟩ = some (.int .i64 (st.bad : Int)) := later_cell6 WKR.out.2.2 rfl
            have l4 : ∀ u : Later wr, u.world.cell? ⟨g, 4, none⟩ = some (.int .i64 (st.pos : Int)) := later_cell6 WKR.out.2.2 rfl
            go_wp2_with fail
            have ne1 := Later.ne wr
            refine wp_region_later (by kernel_rfl) (by kernel_rfl) ?_
            repeat first | (go_big_quiet_step (rfl)) | (refine q_nil rfl _ rfl _ rfl ?_; simp only [Act.put, List.setIfInBounds_toArray, List.set_cons_succ, List.set_cons_zero])
            refine wpQuiet_nil ?_
            rintro w' ⟨u, rfl⟩
            go_wp2_with fail
            go_ret3
            rw [HRR.out]
            exact ⟨_, rfl, NOwn.nil _ _ _ _ _, BELOW.out.trans (u.below.mono BELOW.out.size)⟩
      · have hlt' : ¬ (st.i : Int) < (T.length : Int) := by omega
        replace HRW : Hid (rowsW E T (T.length + 1) [] ⟨0, 0, 0⟩ = (had, st)) := by
          show _ = _
          rw [HRW.out]
          cases f with
          | zero => rfl
          | succ f => rw [rowsW, if_neg fun q => hlt q.1]
        by_cases hbd : st.bad = 0
        · have hb0 : ((st.bad : Int) == 0) = true := by simp; omega
          have hb1 : ((st.bad : Int) != 0) = false := by simp; omega
          have HRR : Hid (R = (had, 0, 0)) := by show _ = _; rw [HRES.out.1 (by rw [HRW.out]; exact hbd), HRW.out]
          clear hbd
          go_wp2_with fail
          go_ret3
          rw [HRR.out]
          exact ⟨_, rfl, raws_base ROWN.out (by omega), BELOW.out⟩
        · have hb0 : ((st.bad : Int) == 0) = false := by simp; omega
          have hb1 : ((st.bad : Int) != 0) = true := by simp; omega
          have HRR : Hid (R = ([], st.bad, st.pos)) := by show _ = _; rw [HRES.out.2 (by rw [HRW.out]; exact hbd), HRW.out]
          clear hbd
          have l3 : ∀ u : Later wr, u.world.cell? ⟨g, 3, none⟩ = some (.int .i64 (st.bad : Int)) := later_cell6 WKR.out.2.2 rfl
          have l4 : ∀ u : Later wr, u.world.cell? ⟨g, 4, none⟩ = some (.int .i64 (st.pos : Int)) := later_cell6 WKR.out.2.2 rfl
          go_wp2_with fail
          have ne1 := Later.ne wr
          refine wp_region_later (by kernel_rfl) (by kernel_rfl) ?_
          repeat first | (go_big_quiet_step (rfl)) | (refine q_nil rfl _ rfl _ rfl ?_; simp only [Act.put, List.setIfInBounds_toArray, List.set_cons_succ, List.set_cons_zero])
          refine wpQuiet_nil ?_
          rintro w' ⟨u, rfl⟩
          go_wp2_with fail
          go_ret3
          rw [HRR.out]
          exact ⟨_, rfl, NOwn.nil _ _ _ _ _, BELOW.out.trans (u.below.mono BELOW.out.size)⟩
  · have HP : Hid (parseP S = ([], (lexT S).2.1, (lexT S).2.2)) := parseP_lex hE
    obtain ⟨R, hR⟩ : ∃ R, R = parseP S := ⟨_, rfl⟩
    rw [← hR] at HP ⊢
    obtain ⟨⟨L, E, A⟩, hL⟩ : ∃ x, x = lexT S := ⟨_, rfl⟩
    rw [← hL] at C1 HP hE
    simp only at C1 HP hE
    have hne : ((E : Int) != 0) = true := by simp; omega
    clear hE hL hR
    go_enter Tryd.func24, Tryd.ntmps24
    go_wp2_with fail
    refine (C1.out _).mono ?_
    rintro e w1 ⟨u, rfl, -, hb1⟩
    go_wp2_with fail
    go_ret3
    rw [HP.out]
    exact ⟨_, rfl, NOwn.nil _ _ _ _ _, hb1⟩
end Go.Proofs.YtfamnloobmdhdaaDoor
