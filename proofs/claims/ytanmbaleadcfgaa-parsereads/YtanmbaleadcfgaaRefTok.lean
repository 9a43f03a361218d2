import Derived.Test.YtanmbaleadcfgaaRefLex
import Derived.Deep.CutRange
import Derived.Deep.CutBlock
namespace Go.Proofs.Ytanmbaleadcfgaa
open Go Go.RowKit

theorem ix_at (s : ByteArray) (q : Nat) (hq : q < s.size) (W : World) : (Instr.index 9 (.string s) (.int .i64 (q : Int))).run Try.prog W = .ok (.int .u8 (s[q].toNat : Int)) W := by
  simp [go_sem, Try.underlying9, hq]
theorem lexeme_arrow {r : List UInt8} (h : (r.head? == some 62) = true) : lexeme 45 r = (Lx.tok 6 [] 0, 1) := by
  unfold lexeme
  rw [if_neg (by decide), if_neg (by decide), if_neg (by decide), if_neg (by decide), if_neg (by decide), if_pos (by decide), if_pos h]
theorem lexeme_dash {r : List UInt8} (h : ¬ (r.head? == some 62) = true) : lexeme 45 r = (Lx.tok 5 [] 0, 0) := by
  unfold lexeme
  rw [if_neg (by decide), if_neg (by decide), if_neg (by decide), if_neg (by decide), if_neg (by decide), if_pos (by decide), if_neg h]
theorem kind_cases (c : UInt8) : (isBlank c = true ∧ kindR c = 0) ∨ (isBlank c = false ∧ isLet c = true ∧ kindR c = 1) ∨ (isBlank c = false ∧ isLet c = false ∧ isDig c = true ∧ kindR c = 2) ∨
    (isBlank c = false ∧ isLet c = false ∧ isDig c = false ∧ ((c == 46 && kindR c == 3) || (c == 47 && kindR c == 4) || (c == 45 && kindR c == 5) || (c == 10 && kindR c == 7) || (c == 35 && kindR c == 9) || (c != 46 && c != 47 && c != 45 && c != 10 && c != 35 && kindR c == -1)) = true) := by
  have := all256 (fun c => (isBlank c && kindR c == 0) || (!isBlank c && isLet c && kindR c == 1) || (!isBlank c && !isLet c && isDig c && kindR c == 2) || (!isBlank c && !isLet c && !isDig c && ((c == 46 && kindR c == 3) || (c == 47 && kindR c == 4) || (c == 45 && kindR c == 5) || (c == 10 && kindR c == 7) || (c == 35 && kindR c == 9) || (c != 46 && c != 47 && c != 45 && c != 10 && c != 35 && kindR c == -1)))) (by kernel_rfl) c
  simp only [Bool.or_eq_true, Bool.and_eq_true, beq_iff_eq, bne_iff_ne, Bool.not_eq_true'] at this ⊢
  rcases this with ((h | h) | h) | h
  · exact .inl h
  · exact .inr (.inl ⟨h.1.1, h.1.2, h.2⟩)
  · exact .inr (.inr (.inl ⟨h.1.1.1, h.1.1.2, h.1.2, h.2⟩))
  · exact .inr (.inr (.inr ⟨h.1.1.1, h.1.1.2, h.1.2, h.2⟩))

set_option maxHeartbeats 8000000 in
set_option maxRecDepth 10000 in
theorem rtokens_any (s : ByteArray) (hs : s.size ≤ maxLen) (w : World) :
    Calls Try.prog 13 #[.string s] w fun e w' => ∃ u, e = .returned (.tuple #[u, .int .i64 ((lexT s.data.toList).2.1 : Nat), .int .i64 ((lexT s.data.toList).2.2 : Nat)]) ∧
      w'.ownsRow w.heap.size 33 4 u (lexT s.data.toList).1.length (gcells encT (lexT s.data.toList).1) ∧ Below w.heap.size w w' := by
  unfold maxLen at hs
  by_cases h4 : 4096 < s.size
  · have hR : lexT s.data.toList = ([], 5, 4096) := by unfold lexT; rw [if_pos (by rw [← Lib.size_eq]; exact h4)]
    rw [hR]
    have h4' : (s.size : Int) > 4096 := by omega
    clear hR h4
    go_enter Try.func13, Try.ntmps13
    go_wp2_with fail
    go_ret3
    exact ⟨_, rfl, World.ownsRow_nil _ _ _ _, Below.refl _ _⟩
  · obtain ⟨S, hS⟩ : ∃ S, S = s.data.toList := ⟨_, rfl⟩
    have hlen : S.length = s.size := by rw [hS]; exact (Lib.size_eq s).symm
    have HR : Hid (lexT S = match lexW 0 S with | .ok l => (l, 0, 0) | .error x => ([], x.1, x.2)) := by
      show _ = _
      unfold lexT
      rw [if_neg (by omega)]
      rfl
    have HS : Hid (S = s.data.toList) := hS
    rw [← hS]
    obtain ⟨R, hRR⟩ : ∃ R, R = lexT S := ⟨_, rfl⟩
    rw [← hRR] at HR ⊢
    have h4' : ¬ (s.size : Int) > 4096 := by omega
    clear hS hRR
    have n0 := heap_new w (.cells #[] 33) _ rfl
    have KC : Hid (∀ (c : UInt8) W, Calls Try.prog 22 #[.int .u8 (c.toNat : Int)] W fun e w' => e = .returned (.int .i64 (kindR c)) ∧ w' = W) := fun c W => kind_any c W
    go_enter Try.func13, Try.ntmps13
    go_wp2_with fail
    go_loopw [5, 6] (fun out i wr => ∃ p : Nat, p ≤ s.size ∧ i = .int .i64 (p : Int) ∧ ∃ P : List Tok, P.length ≤ p ∧ Hid (lexW 0 S = glue P (lexW p (S.drop p))) ∧ wr.ownsRow w.heap.size 33 4 out P.length (gcells encT P) ∧ Below w.heap.size w wr) (fun _ i _ => s.size - (intOf i).toNat)
    case atStart => exact ⟨0, Nat.zero_le _, rfl, [], Nat.zero_le _, (glue_nil _).symm, ⟨rfl, Or.inr ⟨w.heap.size, 0, #[], rfl, Nat.le_refl _, n0, Nat.le_refl _, by decide, rfl, rfl⟩⟩, (Below.refl _ _).alloc (Nat.le_refl _) _⟩
    case round =>
      clear n0
      obtain ⟨p, hp, rfl, P, hPl, HW, hown, hb⟩ := hrel
      obtain ⟨wo, hwo⟩ : ∃ wo : World, wo = wr := ⟨_, rfl⟩
      rw [← hwo] at hown hb ⊢
      clear hwo wr
      have OWN : Hid (wo.ownsRow w.heap.size 33 4 u5 P.length (gcells encT P)) := hown
      clear hown
      by_cases hlt : p < s.size
      · have hlt' : (p : Int) < (s.size : Int) := by omega
        obtain ⟨c, r, hcr⟩ : ∃ c r, S.drop p = c :: r := by
          cases h : S.drop p with
          | nil =>
            have := congrArg List.length h
            rw [List.length_drop] at this
            simp at this
            omega
          | cons c r => exact ⟨c, r, rfl⟩
        have hrl : r.length + 1 + p = s.size := by
          have := congrArg List.length hcr
          rw [List.length_drop] at this
          simp at this
          omega
        have hix : ∀ W, (Instr.index 9 (.string s) (.int .i64 (p : Int))).run Try.prog W = .ok (.int .u8 (c.toNat : Int)) W := fun W => by
          have hc : s[p] = c := by
            have h1 := byte_q s p hlt
            rw [← HS.out] at h1
            have h2 : S[p]? = some c := by rw [← List.head?_drop, hcr]; rfl
            rw [h1] at h2
            simpa using h2
          rw [← hc]
          simp [go_sem, Try.underlying9, hlt]
        have HIX : Hid (∀ j, j < r.length → ∃ b, r[j]? = some b ∧ ∀ q, q = p + 1 + j → ∀ W, (Instr.index 9 (.string s) (.int .i64 (q : Int))).run Try.prog W = .ok (.int .u8 (b.toNat : Int)) W) := fun j hj => by
          have hq : p + 1 + j < s.size := by omega
          refine ⟨s[p + 1 + j], ?_, fun q hqq W => by subst hqq; exact ix_at s _ hq W⟩
          have h1 := byte_q s (p + 1 + j) hq
          rw [← HS.out] at h1
          have h2 : (S.drop p)[j + 1]? = r[j]? := by rw [hcr]; rfl
          rw [List.getElem?_drop, show p + (j + 1) = p + 1 + j by omega, h1] at h2
          exact h2.symm
        have HD : Hid (∀ n, r.drop n = S.drop (p + 1 + n)) := fun n => by
          have := congrArg (List.drop 1) hcr
          rw [List.drop_drop] at this
          simp only [List.drop_succ_cons, List.drop_zero] at this
          rw [← this, List.drop_drop]
        have HX : Hid (∀ n, n ≤ r.length → (s.extract p (p + 1 + n)).data.toList = c :: r.take n) := fun n hn => by
          rw [Lib.extract_data, ← HS.out, hcr, show p + 1 + n - p = n + 1 by omega, List.take_succ_cons]
        rw [hcr] at HW
        have HP : Hid (P.length ≤ 4096) := by show _ ≤ _; omega
        have K1 : Hid (∀ W, Calls Try.prog 22 #[.int .u8 (c.toNat : Int)] W fun e w' => e = .returned (.int .i64 (kindR c)) ∧ w' = W) := KC.out c
        clear hcr hlt
        rcases kind_cases c with ⟨hbl, hk⟩ | ⟨hbl, c1, hk⟩ | ⟨hbl, c1, c2, hk⟩ | ⟨hbl, c1, c2, hk⟩
        · rw [hk] at K1
          have HW2 : Hid (lexW 0 S = glue P (lexW (p + 1) (S.drop (p + 1)))) := by
            show _ = _
            rw [HW.out, lexW_none (lexeme_blank hbl r), HD.out 0]
          clear HW HX HD HIX KC hk hbl
          go_wp2_with fail
          refine (K1.out _).mono ?_
          rintro e w1 ⟨rfl, rfl⟩
          go_wp2_with fail
          go_loop [8] (fun x => x = .int .i64 ((p : Int) + 1)) (fun _ => 0)
          case atStart => rfl
          case round =>
            subst hrel
            go_wp2_with fail
            go_loop [8] (fun x => x = .int .i64 ((p : Int) + 1)) (fun _ => 0)
            case atStart => rfl
            case round =>
              subst hrel
              go_wp2_with fail
              exact ⟨⟨p + 1, by omega, by go_num, P, by omega, HW2, OWN.out.alloc _, hb.alloc hb.size _⟩, by simp [intOf]; omega⟩
        · rw [hk] at K1
          have hx : lexeme c r = (Lx.tok 1 (c :: r.takeWhile isLet) 0, (r.takeWhile isLet).length) := by
            unfold lexeme
            simp only [hbl, c1, Bool.false_eq_true, if_false, if_true]
          obtain ⟨n, hn⟩ : ∃ n, n = (r.takeWhile isLet).length := ⟨_, rfl⟩
          have HN : Hid (n = (r.takeWhile isLet).length ∧ n ≤ r.length) := ⟨hn, by rw [hn]; exact takeWhile_le isLet r⟩
          have hnle : p + 1 + n ≤ s.size := by have := HN.out.2; omega
          have hE := mk_of_data (HX.out n HN.out.2)
          have ht : c :: r.take n = c :: r.takeWhile isLet := by rw [hn, takeWhile_take]
          rw [ht] at hE
          obtain ⟨t, ht2⟩ : ∃ t, t = c :: r.takeWhile isLet := ⟨_, rfl⟩
          rw [← ht2] at hE hx
          rw [← hn] at hx
          have HE : Hid (s.extract p (p + 1 + n) = ⟨t.toArray⟩) := hE
          have HW2 : Hid (lexW 0 S = glue (P ++ [⟨1, p, t, 0⟩]) (lexW (p + 1 + n) (S.drop (p + 1 + n)))) := by
            show _ = _
            rw [HW.out, lexW_tok hx, HD.out, glue_glue]
          clear HW HX HD hk hbl hE ht ht2 hn hx c1
          go_wp2_with fail
          refine (K1.out _).mono ?_
          rintro e w1 ⟨rfl, rfl⟩
          go_upto_block 2 with fail
          go_cut [8] from 24 to 45 (fun x wx => x = .int .i64 ((p + 1 + n : Nat) : Int) ∧ wx = w1)
          case first =>
            go_wp2_with fail
            go_loop [8] (fun x => ∃ j : Nat, j ≤ n ∧ x = .int .i64 ((p + 1 + j : Nat) : Int)) (fun x => n - ((intOf x).toNat - (p + 1)))
            case atStart => exact ⟨0, Nat.zero_le _, by go_num⟩
            case round =>
              obtain ⟨j, hj, rfl⟩ := hrel
              obtain ⟨q, hq⟩ : ∃ q, q = p + 1 + j := ⟨_, rfl⟩
              rw [← hq]
              have HQ : Hid (q = p + 1 + j) := hq
              by_cases hin : q < s.size
              · have hin' : (q : Int) < (s.size : Int) := by omega
                obtain ⟨b, hb1, hb2⟩ := HIX.out j (by omega)
                have hix2 := hb2 q hq
                have hkb := kind_let b
                have K2 : Hid (∀ W, Calls Try.prog 22 #[.int .u8 (b.toNat : Int)] W fun e w' => e = .returned (.int .i64 (kindR b)) ∧ w' = W) := KC.out b
                obtain ⟨kb, hkbe⟩ : ∃ kb, kb = kindR b := ⟨_, rfl⟩
                rw [← hkbe] at K2 hkb
                by_cases hjn : j < n
                · have hbb : isLet b = true := by
                    obtain ⟨b', h1, h2⟩ := tw_in isLet r j (by have := HN.out; omega)
                    rw [hb1] at h1
                    obtain rfl := Option.some.inj h1
                    exact h2
                  rw [hbb] at hkb
                  clear hb1 hb2 hkbe hbb hq hin
                  go_wp2_with fail
                  refine (K2.out _).mono ?_
                  rintro e w2 ⟨rfl, hw2⟩
                  subst w2
                  go_wp2_with fail
                  go_round
                  case rel => exact ⟨j + 1, by omega, by rw [HQ.out]; go_num⟩
                  case measure => have := HQ.out; simp [intOf]; omega
                · have hbb : isLet b = false := by
                    have e : j = (r.takeWhile isLet).length := by have := HN.out; omega
                    exact tw_out isLet r b (by rw [← e]; exact hb1)
                  rw [hbb] at hkb
                  have HJN : Hid (q = p + 1 + n) := by show _ = _; omega
                  clear hb1 hb2 hkbe hbb hj hq hjn HQ hin
                  go_wp2_with fail
                  refine (K2.out _).mono ?_
                  rintro e w2 ⟨rfl, hw2⟩
                  subst w2
                  go_wp2_with fail
                  go_meet
                  case rel => exact ⟨by rw [HJN.out], rfl⟩
              · have hin' : (s.size : Int) ≤ (q : Int) := by omega
                have HJN : Hid (q = p + 1 + n) := by show _ = _; have := HN.out; omega
                clear hj hq hin HQ
                go_wp2_with fail
                go_meet
                case rel => exact ⟨by rw [HJN.out], rfl⟩
          case rest =>
            obtain ⟨rfl, hwc⟩ := hcut
            subst wc
            clear HIX KC K1 HN
            go_wp2_with fail
            go_loop [8] (fun x => x = .int .i64 (((p + 1 + n : Nat) : Int))) (fun _ => 0)
            case atStart => rfl
            case round =>
              subst hrel
              have z1 := hb.size
              go_upto_region 25 with fail
              go_wp2_with (first
                | (refine wl_loadE (E := TokE) TokOk rfl _ rfl w1.heap.size 0 rfl _ _ _ (tv 1 (p : Nat) (s.extract p (p + 1 + n)) 0) rfl (heap_new _ _ _ rfl) (own_cells _ _) ?_)
                | (refine wl_buildE (E := TokE) TokOk rfl _ rfl (tv 1 (p : Nat) (s.extract p (p + 1 + n)) 0) rfl rfl ?_)
                | (at_builtin; refine of_stopT ?_))
              unfold StopT
              rw [HE.out]
              refine wl_appendE (E := TokE) TokOk encT rfl _ _ rfl w.heap.size _ P (⟨1, p, t, 0⟩ : Tok) (tv_fits _ _ _ _) rfl ((OWN.out.alloc _).alloc _) (w1.heap.size + 1) 1 rfl (heap_new _ _ _ (by simp)) (by have := HP.out; omega) (by simp; omega) ?_
              intro v' w2 hown2 hgr _
              have B4 : Below w.heap.size w w2 := ((hb.alloc hb.size _).alloc (by simp; omega) _).grown hgr (by simp; omega) (fun q hq => (OWN.out.lt q hq).1)
              have OWN4 : Hid (w2.ownsRow w.heap.size 33 4 v' (P ++ [(⟨1, p, t, 0⟩ : Tok)]).length (gcells encT (P ++ [(⟨1, p, t, 0⟩ : Tok)]))) := hown2
              simp only [Act.put, List.setIfInBounds_toArray, List.set_cons_succ, List.set_cons_zero]
              clear hown2 hgr OWN
              go_wp2_with fail
              exact ⟨⟨p + 1 + n, by omega, by go_num, P ++ [⟨1, p, t, 0⟩], by simp; omega, HW2, OWN4.out, B4⟩, by simp [intOf]; omega⟩
        · rw [hk] at K1
          have hx : lexeme c r = (match numOf (c :: r.takeWhile isDig) with | some n => Lx.tok 2 [] n | Option.none => Lx.err 7, (r.takeWhile isDig).length) := by
            unfold lexeme
            simp only [hbl, c1, c2, Bool.false_eq_true, if_false, if_true]
            rfl
          obtain ⟨n, hn⟩ : ∃ n, n = (r.takeWhile isDig).length := ⟨_, rfl⟩
          have HN : Hid (n = (r.takeWhile isDig).length ∧ n ≤ r.length) := ⟨hn, by rw [hn]; exact takeWhile_le isDig r⟩
          have hnle : p + 1 + n ≤ s.size := by have := HN.out.2; omega
          have hE := HX.out n HN.out.2
          have ht : c :: r.take n = c :: r.takeWhile isDig := by rw [hn, takeWhile_take]
          rw [ht] at hE
          have V1 : Hid (∀ W, Calls Try.prog 23 #[.string (s.extract p (p + 1 + n))] W fun e w' => e = .returned (.int .i64 (numV (c :: r.takeWhile isDig))) ∧ w' = W) := fun W => by
            have := value_any (s.extract p (p + 1 + n)) (by rw [ByteArray.size_extract]; unfold maxLen; omega) (by rw [ByteArray.size_extract]; omega) (by rw [hE]; exact dig_all c2) W
            rwa [hE] at this
          rw [← hn] at hx
          have HX2 : Hid ((numV (c :: r.takeWhile isDig) = -1 ∧ R = ([], 7, p)) ∨ ∃ v : Nat, numV (c :: r.takeWhile isDig) = (v : Int) ∧ lexW 0 S = glue (P ++ [⟨2, p, [], v⟩]) (lexW (p + 1 + n) (S.drop (p + 1 + n)))) := by
            cases hq : numOf (c :: r.takeWhile isDig) with
            | none =>
              rw [hq] at hx
              refine .inl ⟨by unfold numV; rw [hq], ?_⟩
              rw [HR.out, HW.out, lexW_err hx]
              rfl
            | some v =>
              rw [hq] at hx
              refine .inr ⟨v, by unfold numV; rw [hq], ?_⟩
              rw [HW.out, lexW_tok hx, HD.out, glue_glue]
          obtain ⟨v0, hv0⟩ : ∃ v0, v0 = numV (c :: r.takeWhile isDig) := ⟨_, rfl⟩
          rw [← hv0] at V1 HX2
          clear HW HX HD hk hbl hE ht hn hx c1 c2 hv0
          go_wp2_with fail
          refine (K1.out _).mono ?_
          rintro e w1 ⟨rfl, rfl⟩
          go_upto_block 2 with fail
          go_cut [8] from 24 to 45 (fun x wx => x = .int .i64 ((p + 1 + n : Nat) : Int) ∧ wx = w1)
          case first =>
            go_wp2_with fail
            go_loop [8] (fun x => ∃ j : Nat, j ≤ n ∧ x = .int .i64 ((p + 1 + j : Nat) : Int)) (fun x => n - ((intOf x).toNat - (p + 1)))
            case atStart => exact ⟨0, Nat.zero_le _, by go_num⟩
            case round =>
              obtain ⟨j, hj, rfl⟩ := hrel
              obtain ⟨q, hq⟩ : ∃ q, q = p + 1 + j := ⟨_, rfl⟩
              rw [← hq]
              have HQ : Hid (q = p + 1 + j) := hq
              by_cases hin : q < s.size
              · have hin' : (q : Int) < (s.size : Int) := by omega
                obtain ⟨b, hb1, hb2⟩ := HIX.out j (by omega)
                have hix2 := hb2 q hq
                have hkb := kind_dig b
                have K2 : Hid (∀ W, Calls Try.prog 22 #[.int .u8 (b.toNat : Int)] W fun e w' => e = .returned (.int .i64 (kindR b)) ∧ w' = W) := KC.out b
                obtain ⟨kb, hkbe⟩ : ∃ kb, kb = kindR b := ⟨_, rfl⟩
                rw [← hkbe] at K2 hkb
                by_cases hjn : j < n
                · have hbb : isDig b = true := by
                    obtain ⟨b', h1, h2⟩ := tw_in isDig r j (by have := HN.out; omega)
                    rw [hb1] at h1
                    obtain rfl := Option.some.inj h1
                    exact h2
                  rw [hbb] at hkb
                  clear hb1 hb2 hkbe hbb hq hin
                  go_wp2_with fail
                  refine (K2.out _).mono ?_
                  rintro e w2 ⟨rfl, hw2⟩
                  subst w2
                  go_wp2_with fail
                  go_round
                  case rel => exact ⟨j + 1, by omega, by rw [HQ.out]; go_num⟩
                  case measure => have := HQ.out; simp [intOf]; omega
                · have hbb : isDig b = false := by
                    have e : j = (r.takeWhile isDig).length := by have := HN.out; omega
                    exact tw_out isDig r b (by rw [← e]; exact hb1)
                  rw [hbb] at hkb
                  have HJN : Hid (q = p + 1 + n) := by show _ = _; omega
                  clear hb1 hb2 hkbe hbb hj hq hjn HQ hin
                  go_wp2_with fail
                  refine (K2.out _).mono ?_
                  rintro e w2 ⟨rfl, hw2⟩
                  subst w2
                  go_wp2_with fail
                  go_meet
                  case rel => exact ⟨by rw [HJN.out], rfl⟩
              · have hin' : (s.size : Int) ≤ (q : Int) := by omega
                have HJN : Hid (q = p + 1 + n) := by show _ = _; have := HN.out; omega
                clear hj hq hin HQ
                go_wp2_with fail
                go_meet
                case rel => exact ⟨by rw [HJN.out], rfl⟩
          case rest =>
            obtain ⟨rfl, hwc⟩ := hcut
            subst wc
            clear HIX KC K1 HN
            go_wp2_with fail
            go_loop [8] (fun x => x = .int .i64 (((p + 1 + n : Nat) : Int))) (fun _ => 0)
            case atStart => rfl
            case round =>
              subst hrel
              go_wp2_with fail
              refine (V1.out _).mono ?_
              rintro e w2 ⟨rfl, hw2⟩
              subst w2
              rcases HX2.out with ⟨rfl, hR⟩ | ⟨v, rfl, hW2⟩
              · have HRR : Hid (R = ([], 7, p)) := hR
                clear hR HX2
                go_wp2_with fail
                go_ret3
                rw [HRR.out]
                exact ⟨_, rfl, World.ownsRow_nil _ _ _ _, hb.alloc hb.size _⟩
              · have HW2 : Hid (lexW 0 S = glue (P ++ [⟨2, p, [], v⟩]) (lexW (p + 1 + n) (S.drop (p + 1 + n)))) := hW2
                have hv0 : ¬ (v : Int) < 0 := by omega
                clear hW2 HX2 V1
                have z1 := hb.size
                go_upto_region 25 with fail
                go_wp2_with (first
                  | (refine wl_loadE (E := TokE) TokOk rfl _ rfl w1.heap.size 0 rfl _ _ _ (tv 2 (p : Nat) ⟨#[]⟩ (v : Int)) rfl (heap_new _ _ _ rfl) (own_cells _ _) ?_)
                  | (refine wl_buildE (E := TokE) TokOk rfl _ rfl (tv 2 (p : Nat) ⟨#[]⟩ (v : Int)) rfl rfl ?_)
                  | (at_builtin; refine of_stopT ?_))
                unfold StopT
                refine wl_appendE (E := TokE) TokOk encT rfl _ _ rfl w.heap.size _ P (⟨2, p, [], v⟩ : Tok) (tv_fits _ _ _ _) rfl ((OWN.out.alloc _).alloc _) (w1.heap.size + 1) 1 rfl (heap_new _ _ _ (by simp)) (by have := HP.out; omega) (by simp; omega) ?_
                intro v' w2 hown2 hgr _
                have B4 : Below w.heap.size w w2 := ((hb.alloc hb.size _).alloc (by simp; omega) _).grown hgr (by simp; omega) (fun q hq => (OWN.out.lt q hq).1)
                have OWN4 : Hid (w2.ownsRow w.heap.size 33 4 v' (P ++ [(⟨2, p, [], v⟩ : Tok)]).length (gcells encT (P ++ [(⟨2, p, [], v⟩ : Tok)]))) := hown2
                simp only [Act.put, List.setIfInBounds_toArray, List.set_cons_succ, List.set_cons_zero]
                clear hown2 hgr OWN
                go_wp2_with fail
                exact ⟨⟨p + 1 + n, by omega, by go_num, P ++ [⟨2, p, [], v⟩], by simp; omega, HW2, OWN4.out, B4⟩, by simp [intOf]; omega⟩
        · have hall : (∃ kk : Nat, (kk = 3 ∨ kk = 4 ∨ kk = 7) ∧ kindR c = kk ∧ lexeme c r = (Lx.tok kk [] 0, 0)) ∨ (c = 45 ∧ kindR c = 5) ∨ (c = 35 ∧ kindR c = 9) ∨ ((c ≠ 46 ∧ c ≠ 47 ∧ c ≠ 45 ∧ c ≠ 10 ∧ c ≠ 35) ∧ kindR c = -1) := by
            simp only [Bool.or_eq_true, Bool.and_eq_true, beq_iff_eq, bne_iff_ne] at hk
            rcases hk with ((((h | h) | h) | h) | h) | h
            · refine .inl ⟨3, .inl rfl, h.2, ?_⟩
              rw [h.1]; rfl
            · refine .inl ⟨4, .inr (.inl rfl), h.2, ?_⟩
              rw [h.1]; rfl
            · exact .inr (.inl h)
            · refine .inl ⟨7, .inr (.inr rfl), h.2, ?_⟩
              rw [h.1]; rfl
            · exact .inr (.inr (.inl h))
            · exact .inr (.inr (.inr ⟨⟨h.1.1.1.1.1, h.1.1.1.1.2, h.1.1.1.2, h.1.1.2, h.1.2⟩, h.2⟩))
          clear hk
          rcases hall with ⟨kk, hkk, hk, hx⟩ | ⟨hc, hk⟩ | ⟨hc, hk⟩ | ⟨hc, hk⟩
          · rw [hk] at K1
            have HW2 : Hid (lexW 0 S = glue (P ++ [⟨kk, p, [], 0⟩]) (lexW (p + 1) (S.drop (p + 1)))) := by
              show _ = _
              rw [HW.out, lexW_tok hx, HD.out 0, glue_glue]
            have d1 : ((kk : Int) == 1) = false := by simp; omega
            have d2 : ((kk : Int) == 2) = false := by simp; omega
            have d5 : ((kk : Int) == 5) = false := by simp; omega
            have d9 : ((kk : Int) == 9) = false := by simp; omega
            have d0 : 0 < (kk : Int) := by omega
            have d8 : (kk : Int) < 9 := by omega
            clear HW HX HD HIX KC hk hkk hx hbl c1 c2
            go_wp2_with fail
            refine (K1.out _).mono ?_
            rintro e w1 ⟨rfl, rfl⟩
            go_wp2_with fail
            go_loop [8] (fun x => x = .int .i64 ((p : Int) + 1)) (fun _ => 0)
            case atStart => rfl
            case round =>
              subst hrel
              go_wp2_with fail
              go_loop [8] (fun x => x = .int .i64 ((p : Int) + 1)) (fun _ => 0)
              case atStart => rfl
              case round =>
                subst hrel
                have z1 := hb.size
                go_upto_region 25 with fail
                go_wp2_with (first
                  | (refine wl_loadE (E := TokE) TokOk rfl _ rfl w1.heap.size 0 rfl _ _ _ (tv (kk : Int) (p : Nat) ⟨#[]⟩ 0) rfl (heap_new _ _ _ rfl) (own_cells _ _) ?_)
                  | (refine wl_buildE (E := TokE) TokOk rfl _ rfl (tv (kk : Int) (p : Nat) ⟨#[]⟩ 0) rfl rfl ?_)
                  | (at_builtin; refine of_stopT ?_))
                unfold StopT
                refine wl_appendE (E := TokE) TokOk encT rfl _ _ rfl w.heap.size _ P (⟨kk, p, [], 0⟩ : Tok) (tv_fits _ _ _ _) rfl ((OWN.out.alloc _).alloc _) (w1.heap.size + 1) 1 rfl (heap_new _ _ _ (by simp)) (by have := HP.out; omega) (by simp; omega) ?_
                intro v' w2 hown2 hgr _
                have B4 : Below w.heap.size w w2 := ((hb.alloc hb.size _).alloc (by simp; omega) _).grown hgr (by simp; omega) (fun q hq => (OWN.out.lt q hq).1)
                have OWN4 : Hid (w2.ownsRow w.heap.size 33 4 v' (P ++ [(⟨kk, p, [], 0⟩ : Tok)]).length (gcells encT (P ++ [(⟨kk, p, [], 0⟩ : Tok)]))) := hown2
                simp only [Act.put, List.setIfInBounds_toArray, List.set_cons_succ, List.set_cons_zero]
                clear hown2 hgr OWN
                go_wp2_with fail
                exact ⟨⟨p + 1, by omega, by go_num, P ++ [⟨kk, p, [], 0⟩], by simp; omega, HW2, OWN4.out, B4⟩, by simp [intOf]; omega⟩
          · rw [hk] at K1
            by_cases hhd : (r.head? == some 62) = true
            · have hx : lexeme c r = (Lx.tok 6 [] 0, 1) := by rw [hc]; exact lexeme_arrow hhd
              obtain ⟨r1, hr1⟩ : ∃ r1, r = 62 :: r1 := by
                cases r with
                | nil => simp at hhd
                | cons b r1 => exact ⟨r1, by rw [show b = 62 by simpa using hhd]⟩
              obtain ⟨b, hb1, hb2⟩ := HIX.out 0 (by rw [hr1]; simp)
              have hbe : b = 62 := by rw [hr1] at hb1; simpa using hb1.symm
              subst hbe
              have hix2 := hb2 (p + 1) rfl
              have hin' : (p : Int) + 1 < (s.size : Int) := by rw [hr1] at hrl; simp at hrl; omega
              have HW2 : Hid (lexW 0 S = glue (P ++ [⟨6, p, [], 0⟩]) (lexW (p + 1 + 1) (S.drop (p + 1 + 1)))) := by
                show _ = _
                rw [HW.out, lexW_tok hx, HD.out 1, glue_glue]
              rw [show (((p + 1 : Nat)) : Int) = (p : Int) + 1 by omega, show (((62 : UInt8).toNat : Nat) : Int) = 62 from rfl] at hix2
              clear HW HX HD HIX KC hk hx hbl c1 c2 hc hb1 hb2 hr1 hhd
              go_wp2_with fail
              refine (K1.out _).mono ?_
              rintro e w1 ⟨rfl, rfl⟩
              go_wp2_with fail
              go_loop [8] (fun x => x = .int .i64 ((p : Int) + 1)) (fun _ => 0)
              case atStart => rfl
              case round =>
                subst hrel
                go_wp2_with fail
                go_loop [8] (fun x => x = .int .i64 ((p : Int) + 1)) (fun _ => 0)
                case atStart => rfl
                case round =>
                  subst hrel
                  have z1 := hb.size
                  go_upto_region 25 with fail
                  go_wp2_with (first
                    | (refine wl_loadE (E := TokE) TokOk rfl _ rfl w1.heap.size 0 rfl _ _ _ (tv 6 (p : Nat) ⟨#[]⟩ 0) rfl (heap_new _ _ _ rfl) (own_cells _ _) ?_)
                    | (refine wl_buildE (E := TokE) TokOk rfl _ rfl (tv 6 (p : Nat) ⟨#[]⟩ 0) rfl rfl ?_)
                    | (at_builtin; refine of_stopT ?_))
                  unfold StopT
                  refine wl_appendE (E := TokE) TokOk encT rfl _ _ rfl w.heap.size _ P (⟨6, p, [], 0⟩ : Tok) (tv_fits _ _ _ _) rfl ((OWN.out.alloc _).alloc _) (w1.heap.size + 1) 1 rfl (heap_new _ _ _ (by simp)) (by have := HP.out; omega) (by simp; omega) ?_
                  intro v' w2 hown2 hgr _
                  have B4 : Below w.heap.size w w2 := ((hb.alloc hb.size _).alloc (by simp; omega) _).grown hgr (by simp; omega) (fun q hq => (OWN.out.lt q hq).1)
                  have OWN4 : Hid (w2.ownsRow w.heap.size 33 4 v' (P ++ [(⟨6, p, [], 0⟩ : Tok)]).length (gcells encT (P ++ [(⟨6, p, [], 0⟩ : Tok)]))) := hown2
                  simp only [Act.put, List.setIfInBounds_toArray, List.set_cons_succ, List.set_cons_zero]
                  clear hown2 hgr OWN
                  go_wp2_with fail
                  exact ⟨⟨p + 1 + 1, by omega, by go_num, P ++ [⟨6, p, [], 0⟩], by simp; omega, HW2, OWN4.out, B4⟩, by simp [intOf]; omega⟩
            · have hhd' : (r.head? == some 62) = false := by simpa using hhd
              have hx : lexeme c r = (Lx.tok 5 [] 0, 0) := by rw [hc]; exact lexeme_dash hhd
              have HW2 : Hid (lexW 0 S = glue (P ++ [⟨5, p, [], 0⟩]) (lexW (p + 1) (S.drop (p + 1)))) := by
                show _ = _
                rw [HW.out, lexW_tok hx, HD.out 0, glue_glue]
              by_cases hin : p + 1 < s.size
              · obtain ⟨b, hb1, hb2⟩ := HIX.out 0 (by omega)
                have hix2 := hb2 (p + 1) rfl
                have hbe : ((b.toNat : Int) == 62) = false := by
                  rw [List.head?_eq_getElem?, hb1] at hhd'
                  have := byte_beq b 62
                  rw [show (some b == some 62) = (b == 62) from rfl] at hhd'
                  rw [hhd'] at this
                  exact this
                have hin' : (p : Int) + 1 < (s.size : Int) := by omega
                rw [show (((p + 1 : Nat)) : Int) = (p : Int) + 1 by omega] at hix2
                clear HW HX HD HIX KC hk hx hbl c1 c2 hc hb1 hb2 hhd hhd' hin
                go_wp2_with fail
                refine (K1.out _).mono ?_
                rintro e w1 ⟨rfl, rfl⟩
                go_wp2_with fail
                go_loop [8] (fun x => x = .int .i64 ((p : Int) + 1)) (fun _ => 0)
                case atStart => rfl
                case round =>
                  subst hrel
                  go_wp2_with fail
                  go_loop [8] (fun x => x = .int .i64 ((p : Int) + 1)) (fun _ => 0)
                  case atStart => rfl
                  case round =>
                    subst hrel
                    have z1 := hb.size
                    go_upto_region 25 with fail
                    go_wp2_with (first
                      | (refine wl_loadE (E := TokE) TokOk rfl _ rfl w1.heap.size 0 rfl _ _ _ (tv 5 (p : Nat) ⟨#[]⟩ 0) rfl (heap_new _ _ _ rfl) (own_cells _ _) ?_)
                      | (refine wl_buildE (E := TokE) TokOk rfl _ rfl (tv 5 (p : Nat) ⟨#[]⟩ 0) rfl rfl ?_)
                      | (at_builtin; refine of_stopT ?_))
                    unfold StopT
                    refine wl_appendE (E := TokE) TokOk encT rfl _ _ rfl w.heap.size _ P (⟨5, p, [], 0⟩ : Tok) (tv_fits _ _ _ _) rfl ((OWN.out.alloc _).alloc _) (w1.heap.size + 1) 1 rfl (heap_new _ _ _ (by simp)) (by have := HP.out; omega) (by simp; omega) ?_
                    intro v' w2 hown2 hgr _
                    have B4 : Below w.heap.size w w2 := ((hb.alloc hb.size _).alloc (by simp; omega) _).grown hgr (by simp; omega) (fun q hq => (OWN.out.lt q hq).1)
                    have OWN4 : Hid (w2.ownsRow w.heap.size 33 4 v' (P ++ [(⟨5, p, [], 0⟩ : Tok)]).length (gcells encT (P ++ [(⟨5, p, [], 0⟩ : Tok)]))) := hown2
                    simp only [Act.put, List.setIfInBounds_toArray, List.set_cons_succ, List.set_cons_zero]
                    clear hown2 hgr OWN
                    go_wp2_with fail
                    exact ⟨⟨p + 1, by omega, by go_num, P ++ [⟨5, p, [], 0⟩], by simp; omega, HW2, OWN4.out, B4⟩, by simp [intOf]; omega⟩
              · have hin' : (s.size : Int) ≤ (p : Int) + 1 := by omega
                clear HW HX HD HIX KC hk hx hbl c1 c2 hc hhd hhd' hin
                go_wp2_with fail
                refine (K1.out _).mono ?_
                rintro e w1 ⟨rfl, rfl⟩
                go_wp2_with fail
                go_loop [8] (fun x => x = .int .i64 ((p : Int) + 1)) (fun _ => 0)
                case atStart => rfl
                case round =>
                  subst hrel
                  go_wp2_with fail
                  go_loop [8] (fun x => x = .int .i64 ((p : Int) + 1)) (fun _ => 0)
                  case atStart => rfl
                  case round =>
                    subst hrel
                    have z1 := hb.size
                    go_upto_region 25 with fail
                    go_wp2_with (first
                      | (refine wl_loadE (E := TokE) TokOk rfl _ rfl w1.heap.size 0 rfl _ _ _ (tv 5 (p : Nat) ⟨#[]⟩ 0) rfl (heap_new _ _ _ rfl) (own_cells _ _) ?_)
                      | (refine wl_buildE (E := TokE) TokOk rfl _ rfl (tv 5 (p : Nat) ⟨#[]⟩ 0) rfl rfl ?_)
                      | (at_builtin; refine of_stopT ?_))
                    unfold StopT
                    refine wl_appendE (E := TokE) TokOk encT rfl _ _ rfl w.heap.size _ P (⟨5, p, [], 0⟩ : Tok) (tv_fits _ _ _ _) rfl ((OWN.out.alloc _).alloc _) (w1.heap.size + 1) 1 rfl (heap_new _ _ _ (by simp)) (by have := HP.out; omega) (by simp; omega) ?_
                    intro v' w2 hown2 hgr _
                    have B4 : Below w.heap.size w w2 := ((hb.alloc hb.size _).alloc (by simp; omega) _).grown hgr (by simp; omega) (fun q hq => (OWN.out.lt q hq).1)
                    have OWN4 : Hid (w2.ownsRow w.heap.size 33 4 v' (P ++ [(⟨5, p, [], 0⟩ : Tok)]).length (gcells encT (P ++ [(⟨5, p, [], 0⟩ : Tok)]))) := hown2
                    simp only [Act.put, List.setIfInBounds_toArray, List.set_cons_succ, List.set_cons_zero]
                    clear hown2 hgr OWN
                    go_wp2_with fail
                    exact ⟨⟨p + 1, by omega, by go_num, P ++ [⟨5, p, [], 0⟩], by simp; omega, HW2, OWN4.out, B4⟩, by simp [intOf]; omega⟩
          · rw [hk] at K1
            have hx := lexeme_hash r
            rw [← hc] at hx
            obtain ⟨n, hn⟩ : ∃ n, n = (r.takeWhile notEnd).length := ⟨_, rfl⟩
            have HN : Hid (n = (r.takeWhile notEnd).length ∧ n ≤ r.length) := ⟨hn, by rw [hn]; exact takeWhile_le notEnd r⟩
            have hnle : p + 1 + n ≤ s.size := by have := HN.out.2; omega
            rw [← hn] at hx
            have HW2 : Hid (lexW 0 S = glue P (lexW (p + 1 + n) (S.drop (p + 1 + n)))) := by
              show _ = _
              rw [HW.out, lexW_none hx, HD.out]
            clear HW HX HD hk hbl hn hx c1 c2 hc
            go_wp2_with fail
            refine (K1.out _).mono ?_
            rintro e w1 ⟨rfl, rfl⟩
            go_wp2_with fail
            go_loop [8] (fun x => x = .int .i64 ((p : Int) + 1)) (fun _ => 0)
            case atStart => rfl
            case round =>
              subst hrel
              go_upto_block 4 with fail
              go_cut [8] from 46 to 61 (fun x wx => x = .int .i64 ((p + 1 + n : Nat) : Int) ∧ wx = w1)
              case first =>
                go_wp2_with fail
                go_loop [8] (fun x => ∃ j : Nat, j ≤ n ∧ x = .int .i64 ((p + 1 + j : Nat) : Int)) (fun x => n - ((intOf x).toNat - (p + 1)))
                case atStart => exact ⟨0, Nat.zero_le _, by go_num⟩
                case round =>
                  obtain ⟨j, hj, rfl⟩ := hrel
                  obtain ⟨q, hq⟩ : ∃ q, q = p + 1 + j := ⟨_, rfl⟩
                  rw [← hq]
                  have HQ : Hid (q = p + 1 + j) := hq
                  by_cases hin : q < s.size
                  · have hin' : (q : Int) < (s.size : Int) := by omega
                    obtain ⟨b, hb1, hb2⟩ := HIX.out j (by omega)
                    have hix2 := hb2 q hq
                    have hkb : ((b.toNat : Int) != 10) = notEnd b := by
                      have := byte_beq b 10
                      unfold notEnd
                      simp only [bne]
                      exact congrArg _ this
                    by_cases hjn : j < n
                    · have hbb : notEnd b = true := by
                        obtain ⟨b', h1, h2⟩ := tw_in notEnd r j (by have := HN.out; omega)
                        rw [hb1] at h1
                        obtain rfl := Option.some.inj h1
                        exact h2
                      rw [hbb] at hkb
                      clear hb1 hb2 hbb hq hin
                      go_wp2_with fail
                      go_round
                      case rel => exact ⟨j + 1, by omega, by rw [HQ.out]; go_num⟩
                      case measure => have := HQ.out; simp [intOf]; omega
                    · have hbb : notEnd b = false := by
                        have e : j = (r.takeWhile notEnd).length := by have := HN.out; omega
                        exact tw_out notEnd r b (by rw [← e]; exact hb1)
                      rw [hbb] at hkb
                      have HJN : Hid (q = p + 1 + n) := by show _ = _; omega
                      clear hb1 hb2 hbb hj hq hjn HQ hin
                      go_wp2_with fail
                      go_meet
                      case rel => exact ⟨by rw [HJN.out], rfl⟩
                  · have hin' : (s.size : Int) ≤ (q : Int) := by omega
                    have HJN : Hid (q = p + 1 + n) := by show _ = _; have := HN.out; omega
                    clear hj hq hin HQ
                    go_wp2_with fail
                    go_meet
                    case rel => exact ⟨by rw [HJN.out], rfl⟩
              case rest =>
                obtain ⟨rfl, hwc⟩ := hcut
                subst wc
                clear HIX KC K1 HN
                go_wp2_with fail
                exact ⟨⟨p + 1 + n, by omega, by go_num, P, by omega, HW2, OWN.out.alloc _, hb.alloc hb.size _⟩, by simp [intOf]; omega⟩
          · rw [hk] at K1
            have HRR : Hid (R = ([], 6, p)) := by
              show _ = _
              rw [HR.out, HW.out, lexW_err (e := 6) (n := 0)]
              · rfl
              · unfold lexeme
                simp only [hbl, c1, c2, Bool.false_eq_true, if_false]
                rw [if_neg (by simpa using hc.1), if_neg (by simpa using hc.2.1), if_neg (by simpa using hc.2.2.1), if_neg (by simpa using hc.2.2.2.1), if_neg (by simpa using hc.2.2.2.2)]
            clear HW HX HD HIX KC hk hbl c1 c2 hc
            go_wp2_with fail
            refine (K1.out _).mono ?_
            rintro e w1 ⟨rfl, rfl⟩
            go_wp2_with fail
            go_loop [8] (fun x => x = .int .i64 ((p : Int) + 1)) (fun _ => 0)
            case atStart => rfl
            case round =>
              subst hrel
              go_wp2_with fail
              go_loop [8] (fun x => x = .int .i64 ((p : Int) + 1)) (fun _ => 0)
              case atStart => rfl
              case round =>
                subst hrel
                go_wp2_with fail
                go_ret3
                rw [HRR.out]
                exact ⟨_, rfl, World.ownsRow_nil _ _ _ _, hb⟩
      · have hlt' : (s.size : Int) ≤ (p : Int) := by omega
        have HRR : Hid (R = (P, 0, 0)) := by
          show _ = _
          rw [HR.out, HW.out, List.drop_of_length_le (by omega), lexW_nil]
          simp [glue]
        clear hlt HW KC
        go_wp2_with fail
        go_ret3
        rw [HRR.out]
        exact ⟨_, rfl, OWN.out, hb⟩
end Go.Proofs.Ytanmbaleadcfgaa
