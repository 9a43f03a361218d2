import Derived.Test.YthddlchkbnmcaaaGreatDoorJ6
import Derived.Test.YthddlchkbnmcaaaGreatDoorJ5
import Derived.WalkMore
namespace Go.Proofs.YthddlchkbnmcaaaGreatDoor
open Go Go.RowKit
set_option maxRecDepth 20000

/-- The header behind n rounds of the reference's With: from the last bit of the field on. -/
def withB (L : List Int) (F Wd v : Nat) : Nat → List Int
  | 0 => L
  | n + 1 => setB (withB L F Wd v n) ((F : Int) + ((Wd : Int) - 1 - (n : Int))) (((v / 2 ^ n : Nat) : Int) % 2 == 1)

theorem withB_bit (L : List Int) (hL : Byt L) (F Wd v : Nat) (hFW : F + Wd ≤ 104) : ∀ n, n ≤ Wd → Byt (withB L F Wd v n) ∧
    ∀ k : Nat, k < 104 → bitB (withB L F Wd v n) (k : Int) = if F + Wd - n ≤ k ∧ k < F + Wd then (v / 2 ^ (F + Wd - 1 - k) % 2 == 1) else bitB L (k : Int)
  | 0, _ => ⟨hL, fun k _ => by rw [if_neg (by omega)]; rfl⟩
  | n + 1, hn => by
    obtain ⟨h1, h2⟩ := withB_bit L hL F Wd v hFW n (by omega)
    obtain ⟨g1, g2⟩ := setB_bit (withB L F Wd v n) h1 ((F : Int) + ((Wd : Int) - 1 - (n : Int))) (((v / 2 ^ n : Nat) : Int) % 2 == 1) (by omega) (by omega)
    refine ⟨g1, fun k hk => ?_⟩
    show bitB (setB _ _ _) _ = _
    rw [g2 (k : Int) (by omega) (by omega)]
    by_cases e : (k : Int) = (F : Int) + ((Wd : Int) - 1 - (n : Int))
    · rw [if_pos e, if_pos (by omega), show F + Wd - 1 - k = n by omega, Bool.eq_iff_iff, beq_iff_eq, beq_iff_eq]
      omega
    · rw [if_neg e, h2 k hk]
      by_cases e2 : F + Wd - n ≤ k ∧ k < F + Wd
      · rw [if_pos e2, if_pos (by omega)]
      · rw [if_neg e2, if_neg (by omega)]

set_option maxHeartbeats 2000000 in
theorem refWith_core (L : List Int) (hL : Byt L) (f : Int) (F Wd v : Nat) (w : World) (hFW : F + Wd ≤ 104) (hWd : 1 ≤ Wd) (hv : v ≤ 4294967295)
    (c17 : ∀ W, Calls Tryz.prog 86 #[.int .i64 f] W fun e w' => e = .returned (.int .i64 (F : Int)) ∧ w' = W)
    (c18 : ∀ W, Calls Tryz.prog 87 #[.int .i64 f] W fun e w' => e = .returned (.int .i64 (Wd : Int)) ∧ w' = W) :
    Calls Tryz.prog 58 #[.agg (Go.Proofs.YthddlchkbnmcaaaGreatDoor.hv L), .int .i64 f, .int .u32 (v : Int)] w fun e w' => (v < 2 ^ Wd → e = .returned (.tuple #[.agg (Go.Proofs.YthddlchkbnmcaaaGreatDoor.hv (withB L F Wd v Wd)), .int .i64 0])) ∧ (¬ v < 2 ^ Wd → e = .returned (.tuple #[.agg (Go.Proofs.YthddlchkbnmcaaaGreatDoor.hv Z13), .int .i64 10])) ∧ Below w.heap.size w w' := by
  have K17 : Hid _ := c17
  have K18 : Hid _ := c18
  have HV : Hid (v ≤ 4294967295) := hv
  have hv1 : (v : Int) ≤ 4294967295 := by omega
  clear c17 c18 hv
  go_enter Tryz.func58, Tryz.ntmps58
  go_wp2_with (first
    | (go_at_call 86; refine (K17.out _).mono ?_; rintro e w' ⟨rfl, rfl⟩)
    | (go_at_call 87; refine (K18.out _).mono ?_; rintro e w' ⟨rfl, rfl⟩))
  go_loopw [2, 8] (fun x i wr => ∃ n : Nat, n ≤ Wd ∧ i = .int .i64 ((Wd : Int) - 1 - (n : Int)) ∧ x = .int .u32 ((v / 2 ^ n : Nat) : Int) ∧ wr.heap[w.heap.size]? = some (.cells (Go.Proofs.YthddlchkbnmcaaaGreatDoor.hv (withB L F Wd v n)) 31 (0, 0)) ∧ wr.heap[w.heap.size + 1]? = some (.cells zero26 31 (0, 0)) ∧ Below w.heap.size w wr) (fun _ i _ => (intOf i + 1).toNat)
  case atStart => exact ⟨0, Nat.zero_le _, by simp, by simp, heap_past _ _ _ _ (heap_new _ _ _ rfl), heap_new _ _ _ (by simp), ((Below.refl _ _).alloc (Nat.le_refl _) _).alloc (by simp) _⟩
  case round =>
    obtain ⟨n, hn, rfl, rfl, g1, g2, hbw⟩ := hrel
    have hml := (withB_bit L hL F Wd v hFW n hn).1
    have hz1 := (Array.getElem?_eq_some_iff.1 g1).1
    have hz2 := (Array.getElem?_eq_some_iff.1 g2).1
    have hvn : ((v / 2 ^ n : Nat) : Int) ≤ 4294967295 := by
      have := Nat.div_le_self v (2 ^ n)
      have := HV.out
      omega
    obtain ⟨x, hx⟩ : ∃ x : Nat, x = v / 2 ^ n := ⟨_, rfl⟩
    rw [← hx] at hvn ⊢
    have HX : Hid (x = v / 2 ^ n) := hx
    clear hx hv1
    by_cases hlt : n < Wd
    · have hi0 : 0 ≤ (Wd : Int) - 1 - (n : Int) := by omega
      go_wp2_with fail
      refine wp_region_tail 8 (by kernel_rfl) (by kernel_rfl) ?_
      simp only [List.take_succ_cons, List.take_zero, List.drop_succ_cons, List.drop_zero]
      refine q_load_row rfl 31 _ rfl w.heap.size rfl 31 _ (0, 0) _ (by rintro w' rfl; exact heap_drew g1) Tryz.underlying31 rfl (size26 _ hml.1) ?_
      simp only [Act.put, List.setIfInBounds_toArray, List.set_cons_succ, List.set_cons_zero]
      go_big_quiet_step (fail)
      go_big_quiet_want; go_big_quiet_op
      refine ⟨_, K17.out _, ?_⟩
      go_big_quiet_on
      repeat go_big_quiet_step (fail)
      refine wpQuiet_nil ?_
      go_wp2_with fail
      refine (refPut_any (withB L F Wd v n) hml _ _ _ (by omega) (by omega)).mono ?_
      rintro e w2 ⟨rfl, hb2⟩
      have k1 : w2.heap[w.heap.size]? = some (.cells (Go.Proofs.YthddlchkbnmcaaaGreatDoor.hv (withB L F Wd v n)) 31 (0, 0)) := by rw [hb2.block _ hz1]; exact g1
      have k2 : w2.heap[w.heap.size + 1]? = some (.cells zero26 31 (0, 0)) := by rw [hb2.block _ hz2]; exact g2
      have es : setB (withB L F Wd v n) ((F : Int) + ((Wd : Int) - 1 - (n : Int))) ((x : Int) % 2 == 1) = withB L F Wd v (n + 1) := by rw [HX.out]; rfl
      rw [es]
      clear es
      have hl2 := (withB_bit L hL F Wd v hFW (n + 1) (by omega)).1.1
      go_wp2_with (refine wl_store26 rfl _ _ rfl w.heap.size (withB L F Wd v (n + 1)) rfl rfl _ k1 (by rw [hv_size]; exact hml.1) hl2 _ rfl ?_)
      go_roundw
      case rel =>
        refine ⟨n + 1, by omega, by congr 1; omega, ?_, setRow_heap _ _ _ _ _ _ k1, ?_, below_setRow ((hbw.drew).trans (hb2.mono hbw.size)) (Nat.le_refl _) _⟩
        · congr 1
          rw [HX.out, Nat.pow_succ, ← Nat.div_div_eq_div_mul]; omega
        · rw [setRow_other _ _ _ _ (by omega)]; exact k2
      case measure => simp [intOf]; omega
    · obtain rfl : n = Wd := by omega
      have hneg : (n : Int) - 1 - (n : Int) < 0 := by omega
      have hx0 : v < 2 ^ n ↔ x = 0 := by
        have hp : 0 < 2 ^ n := Nat.pow_pos (by decide)
        rw [HX.out, Nat.div_eq_zero_iff]; omega
      have H0 : Hid (v < 2 ^ n ↔ x = 0) := hx0
      clear hx0
      by_cases hb : x = 0
      · have hb' : (x : Int) ≤ 0 := by omega
        have HB : Hid (x = 0) := hb
        clear hb
        go_wp2_with (first
          | (refine wl_load26 rfl _ rfl w.heap.size rfl (withB L F n v n) g1 hml.1 ?_)
          | (refine wl_store26 rfl _ _ rfl (w.heap.size + 1) (withB L F n v n) rfl rfl _ g2 rfl hml.1 _ rfl ?_))
        refine ret26e (p := 6) (u := 7) rfl rfl (w.heap.size + 1) rfl (withB L F n v n) hml.1 (setRow_heap _ _ _ _ _ _ g2) _ rfl ⟨fun _ => rfl, fun h => absurd (H0.out.2 HB.out) h, ?_⟩
        exact below_setRow hbw (by omega) _
      · have hb' : 0 < (x : Int) := by omega
        have HB : Hid (¬ x = 0) := hb
        clear hb
        go_wp2_with (refine wl_store26 rfl _ _ rfl (w.heap.size + 1) Z13 rfl rfl _ g2 rfl rfl _ rfl ?_)
        refine ret26e (p := 6) (u := 7) rfl rfl (w.heap.size + 1) rfl Z13 rfl (setRow_heap _ _ _ _ _ _ g2) _ rfl ⟨fun h => absurd (H0.out.1 h) HB.out, fun _ => rfl, ?_⟩
        exact below_setRow hbw (by omega) _
end Go.Proofs.YthddlchkbnmcaaaGreatDoor
namespace Go.Proofs.YthddlchkbnmcaaaGreatDoor
open Go Go.RowKit
set_option maxRecDepth 20000

/-- What a text comes to: its tokens, or what is wrong with it and where. -/
def lexT (S : List UInt8) : List Tok × Nat × Nat :=
  if 4096 < S.length then ([], 5, 4096) else match lexW 0 S with | .ok l => (l, 0, 0) | .error x => ([], x.1, x.2)

theorem err_ne {c : UInt8} {r : List UInt8} {n e : Nat} (h : lexeme c r = (Lx.err e, n)) : e = 6 ∨ e = 7 :=
  (lexW_error (c :: r) 0 e 0 (lexW_err h)).2.2
theorem lexW_len {S : List UInt8} {l : List Tok} (h : lexW 0 S = .ok l) : l.length ≤ S.length := (lexW_places S 0 l h).2.2

set_option maxHeartbeats 4000000 in
theorem tokens_any (s : ByteArray) (hs : s.size ≤ maxLen) (w : World) :
    Calls Tryz.prog 42 #[.string s] w fun e w' => ∃ u, e = .returned (.tuple #[u, .int .i64 ((lexT s.data.toList).2.1 : Nat), .int .i64 ((lexT s.data.toList).2.2 : Nat)]) ∧
      w'.ownsRow w.heap.size 117 4 u (lexT s.data.toList).1.length (gcells encT (lexT s.data.toList).1) ∧ Below w.heap.size w w' := by
  unfold maxLen at hs
  by_cases h4 : 4096 < s.size
  · have hR : lexT s.data.toList = ([], 5, 4096) := by unfold lexT; rw [if_pos (by rw [← Lib.size_eq]; exact h4)]
    rw [hR]
    have h4' : (s.size : Int) > 4096 := by omega
    clear hR h4
    go_enter Tryz.func42, Tryz.ntmps42
    go_wp2_with fail
    go_step3
    go_wp2_with fail
    rw [Exit.noGoto_ret]
    go_ret3
    exact ⟨_, rfl, World.ownsRow_nil _ _ _ _, Below.refl _ _⟩
  · obtain ⟨S, hS⟩ : ∃ S, S = s.data.toList := ⟨_, rfl⟩
    have hlen : S.length = s.size := by rw [hS]; exact (Lib.size_eq s).symm
    have HR : Hid (lexT S = match lexW 0 S with | .ok l => (l, 0, 0) | .error x => ([], x.1, x.2)) := by
      show _ = _
      unfold lexT
      rw [if_neg (by omega)]
    have HS : Hid (S = s.data.toList) := hS
    rw [← hS]
    obtain ⟨R, hRR⟩ : ∃ R, R = lexT S := ⟨_, rfl⟩
    rw [← hRR] at HR ⊢
    have h4' : ¬ (s.size : Int) > 4096 := by omega
    clear hS hRR
    go_enter Tryz.func42, Tryz.ntmps42
    go_wp2_with fail
    go_step3
    go_wp2_with fail
    go_step3
    go_wp2_with fail
    go_loopw [5, 6] (fun out i wr => ∃ p : Nat, p ≤ s.size ∧ i = .int .i64 (p : Int) ∧ ∃ P : List Tok, P.length ≤ p ∧ Hid (lexW 0 S = glue P (lexW p (S.drop p))) ∧ wr.ownsRow w.heap.size 117 4 out P.length (gcells encT P) ∧ Below w.heap.size w wr) (fun _ i _ => s.size - (intOf i).toNat)
    case atStart => exact ⟨0, Nat.zero_le _, rfl, [], Nat.zero_le _, (glue_nil _).symm, World.ownsRow_nil _ _ _ _, Below.refl _ _⟩
    case round =>
      obtain ⟨p, hp, rfl, P, hPl, HW, hown, hb⟩ := hrel
      have OWN : Hid (wr.ownsRow w.heap.size 117 4 u5 P.length (gcells encT P)) := hown
      clear hown
      by_cases hlt : p < s.size
      · have hlt' : (p : Int) < (s.size : Int) := by omega
        obtain ⟨c, r, hcr⟩ : ∃ c r, S.drop p = c :: r := by
          cases h : S.drop p with
          | nil =>
            have := congrArg List.length h
            rw [List.length_drop] at this
            simp at this
            omega
          | cons c r => exact ⟨c, r, rfl⟩
        have hrl : r.length + 1 + p = s.size := by
          have := congrArg List.length hcr
          rw [List.length_drop] at this
          simp at this
          omega
        have hix : ∀ W, (Instr.index 9 (.string s) (.int .i64 (p : Int))).run Tryz.prog W = .ok (.int .u8 (c.toNat : Int)) W := fun W => by
          have hc : s[p] = c := by
            have h1 := byte_q s p hlt
            rw [← HS.out] at h1
            have h2 : S[p]? = some c := by rw [← List.head?_drop, hcr]; rfl
            rw [h1] at h2
            simpa using h2
          rw [← hc]
          simp [go_sem, Tryz.underlying9, hlt]
        have HD : Hid (∀ n, r.drop n = S.drop (p + 1 + n)) := fun n => by
          have := congrArg (List.drop 1) hcr
          rw [List.drop_drop] at this
          simp only [List.drop_succ_cons, List.drop_zero] at this
          rw [← this, List.drop_drop]
        have HX : Hid ((s.extract p s.size).data.toList = c :: r) := by
          show _ = _
          rw [Lib.extract_data, ← HS.out, hcr, List.take_of_length_le]
          simp; omega
        have hxs : (s.extract p s.size).size ≤ 4096 := by rw [ByteArray.size_extract]; omega
        rw [hcr] at HW
        have e9 : ((c.toNat : Int) == 9) = (c == 9) := byte_beq c 9
        have e13 : ((c.toNat : Int) == 13) = (c == 13) := byte_beq c 13
        have e32 : ((c.toNat : Int) == 32) = (c == 32) := byte_beq c 32
        have e35 : ((c.toNat : Int) == 35) = (c == 35) := byte_beq c 35
        clear hcr hlt
        by_cases hbl : isBlank c = true
        · have hx : lexeme c r = (Lx.none, 0) := lexeme_blank hbl r
          have HW2 : Hid (lexW 0 S = glue P (lexW (p + 1) (S.drop (p + 1)))) := by
            show _ = _
            rw [HW.out, lexW_none hx, HD.out 0]
          unfold isBlank at hbl
          clear HW hx
          by_cases d9 : (c == 9) = true
          · rw [d9] at e9
            clear e13 e32 e35 hbl d9
            go_wp2_with fail
            go_roundw
            case rel => exact ⟨p + 1, by omega, by go_num, P, by omega, HW2, OWN.out, hb⟩
            case measure => simp [intOf]; omega
          · have d9' : (c == 9) = false := by simpa using d9
            rw [d9'] at e9
            by_cases d13 : (c == 13) = true
            · rw [d13] at e13
              clear e32 e35 hbl d9 d9' d13
              go_wp2_with fail
              go_roundw
              case rel => exact ⟨p + 1, by omega, by go_num, P, by omega, HW2, OWN.out, hb⟩
              case measure => simp [intOf]; omega
            · have d13' : (c == 13) = false := by simpa using d13
              rw [d13'] at e13
              have d32 : (c == 32) = true := by simpa [d9', d13'] using hbl
              rw [d32] at e32
              clear e35 hbl d9 d9' d13 d13' d32
              go_wp2_with fail
              go_roundw
              case rel => exact ⟨p + 1, by omega, by go_num, P, by omega, HW2, OWN.out, hb⟩
              case measure => simp [intOf]; omega
        · have hbl' : isBlank c = false := by simpa using hbl
          have h3 : (c == 9) = false ∧ (c == 13) = false ∧ (c == 32) = false := by
            unfold isBlank at hbl'
            simp only [Bool.or_eq_false_iff] at hbl'
            exact ⟨hbl'.1.1, hbl'.1.2, hbl'.2⟩
          rw [h3.1] at e9
          rw [h3.2.1] at e13
          rw [h3.2.2] at e32
          clear hbl h3
          by_cases d35 : (c == 35) = true
          · have hc35 : c = 35 := by simpa using d35
            have hx := lexeme_hash r
            rw [← hc35] at hx
            have C1 : Hid (∀ W, Calls Tryz.prog 68 #[.string (s.extract p s.size)] W fun e w' => e = .returned (.int .i64 (((r.takeWhile notEnd).length + 1 : Nat) : Int)) ∧ w' = W) := fun W => by
              have := remark_any (s.extract p s.size) W
              rwa [HX.out, List.takeWhile_cons, if_pos (by rw [hc35]; decide), List.length_cons] at this
            have HW2 : Hid (lexW 0 S = glue P (lexW (p + 1 + (r.takeWhile notEnd).length) (S.drop (p + 1 + (r.takeWhile notEnd).length)))) := by
              show _ = _
              rw [HW.out, lexW_none hx, HD.out]
            have hle := takeWhile_le notEnd r
            obtain ⟨n, hn⟩ : ∃ n, n = (r.takeWhile notEnd).length := ⟨_, rfl⟩
            rw [← hn] at C1 HW2 hle
            rw [d35] at e35
            clear hn hx hc35 d35 HW
            go_wp2_with fail
            refine (C1.out _).mono ?_
            rintro e w1 ⟨rfl, rfl⟩
            go_wp2_with fail
            go_roundw
            case rel => exact ⟨p + 1 + n, by omega, by go_num, P, by omega, HW2, OWN.out, hb⟩
            case measure => simp [intOf]; omega
          · have d35' : (c == 35) = false := by simpa using d35
            have C1 : Hid (∀ W, Calls Tryz.prog 69 #[.string (s.extract p s.size)] W fun e w' => FirstR (lexeme c r) e ∧ Below W.heap.size W w') := fun W => first_any (s.extract p s.size) hxs c r HX.out hbl' d35' W
            rw [d35'] at e35
            clear d35
            rcases hx : lexeme c r with ⟨x, n⟩
            have HLE : n ≤ r.length := by have := lexeme_le c r; rw [hx] at this; exact this
            rcases x with e | _ | ⟨k, t, v⟩
            · have he := err_ne hx
              have HRR : Hid (R = ([], e, p)) := by
                show _ = _
                rw [HR.out, HW.out, lexW_err hx]
                rfl
              rw [hx] at C1
              clear hx HW d35'
              have hne : ((e : Int) != 0) = true := by simp; omega
              go_wp2_with fail
              refine (C1.out _).mono ?_
              rintro e1 w1 ⟨⟨k, v, m, rfl⟩, hb1⟩
              have B1 := hb.trans (hb1.mono hb.size)
              go_wp2_with (first
                | (refine wl_storeE (E := TokE) TokOk rfl _ _ rfl w1.heap.size (tv k 0 ⟨#[]⟩ v) (tv_fits _ _ _ _) rfl rfl _ (heap_new _ _ _ rfl) rfl _ (setRow_new _ _ _ _ _ rfl) ?_))
              simp only [Exit.noGoto_ret]
              go_ret3
              rw [HRR.out]
              exact ⟨_, rfl, World.ownsRow_nil _ _ _ _, B1.alloc B1.size _⟩
            · exfalso
              rcases lexeme_none hx with ⟨h1, _⟩ | ⟨h1, _⟩
              · rw [h1] at hbl'; cases hbl'
              · rw [h1] at d35'; cases d35'
            · have HW2 : Hid (lexW 0 S = glue (P ++ [⟨k, p, t, v⟩]) (lexW (p + 1 + n) (S.drop (p + 1 + n)))) := by
                show _ = _
                rw [HW.out, lexW_tok hx, HD.out, glue_glue]
              rw [hx] at C1
              have C2 : Hid (∀ W, Calls Tryz.prog 69 #[.string (s.extract p s.size)] W fun e w' => e = .returned (.tuple #[.agg (tv (k : Nat) 0 ⟨t.toArray⟩ (v : Nat)), .int .i64 ((n + 1 : Nat) : Int), .int .i64 0]) ∧ Below W.heap.size W w') := C1.out
              have HP : Hid (P.length ≤ 4096) := by show _ ≤ _; omega
              clear hx HW C1 d35' hbl' HX HD
              go_wp2_with fail
              refine (C2.out _).mono ?_
              rintro e1 w1 ⟨rfl, hb1⟩
              have B1 := hb.trans (hb1.mono hb.size)
              have OWN1 : Hid (w1.ownsRow w.heap.size 117 4 u5 P.length (gcells encT P)) := gown_below OWN.out hb1
              clear OWN hb hb1
              have z1 := B1.size
              have HNE : Hid (u5.ownBlock ≠ some w1.heap.size) := gown_ne OWN1.out (Nat.le_refl _)
              go_wp2_with (first
                | (refine wl_storeE (E := TokE) TokOk rfl _ _ rfl w1.heap.size (tv (k : Nat) 0 ⟨t.toArray⟩ (v : Nat)) (tv_fits _ _ _ _) rfl rfl _ (heap_new _ _ _ rfl) rfl _ (setRow_new _ _ _ _ _ rfl) ?_)
                | (refine wl_loadE (E := TokE) TokOk rfl _ rfl w1.heap.size 0 rfl _ _ _ (tv (k : Nat) (p : Nat) ⟨t.toArray⟩ (v : Nat)) rfl (heap_new _ _ _ rfl) (own_cells _ _) ?_)
                | (refine wl_buildE (E := TokE) TokOk rfl _ rfl (tv (k : Nat) (p : Nat) ⟨t.toArray⟩ (v : Nat)) rfl rfl ?_)
                | (at_builtin; refine of_stopT ?_))
              unfold StopT
              have a1 := heap_new (w1.alloc (.cells ((tv (k : Nat) 0 ⟨t.toArray⟩ (v : Nat)).setIfInBounds 1 (.int .i64 (p : Int))) 117)) (.cells (tv (k : Nat) (p : Nat) ⟨t.toArray⟩ (v : Nat)) 117) (w1.heap.size + 1) (by simp)
              have OWN3 : Hid (((w1.alloc (.cells ((tv (k : Nat) 0 ⟨t.toArray⟩ (v : Nat)).setIfInBounds 1 (.int .i64 (p : Int))) 117)).alloc (.cells (tv (k : Nat) (p : Nat) ⟨t.toArray⟩ (v : Nat)) 117)).ownsRow w.heap.size 117 4 u5 P.length (gcells encT P)) := (OWN1.out.alloc _).alloc _
              have B3 := (B1.alloc B1.size (.cells ((tv (k : Nat) 0 ⟨t.toArray⟩ (v : Nat)).setIfInBounds 1 (.int .i64 (p : Int))) 117)).alloc (by simp; omega) (.cells (tv (k : Nat) (p : Nat) ⟨t.toArray⟩ (v : Nat)) 117)
              refine wl_appendE (E := TokE) TokOk encT rfl _ _ rfl w.heap.size _ P (⟨k, p, t, v⟩ : Tok) (tv_fits _ _ _ _) rfl OWN3.out _ 1 rfl a1 (by have := HP.out; omega) (by simp; omega) ?_
              intro v' w2 hown2 hgr _
              have B4 : Below w.heap.size w w2 := B3.grown hgr (by simp; omega) (fun q hq => (OWN3.out.lt q hq).1)
              have OWN4 : Hid (w2.ownsRow w.heap.size 117 4 v' (P ++ [(⟨k, p, t, v⟩ : Tok)]).length (gcells encT (P ++ [(⟨k, p, t, v⟩ : Tok)]))) := hown2
              simp only [Act.put, List.setIfInBounds_toArray, List.set_cons_succ, List.set_cons_zero]
              clear hown2 hgr a1 OWN3 B3 B1 OWN1
              go_wp2_with fail
              go_roundw
              case rel => exact ⟨p + 1 + n, by omega, by go_num, P ++ [⟨k, p, t, v⟩], by simp; omega, HW2, OWN4.out, B4⟩
              case measure => simp [intOf]; omega
      · have hlt' : (s.size : Int) ≤ (p : Int) := by omega
        have HRR : Hid (R = (P, 0, 0)) := by
          show _ = _
          rw [HR.out, HW.out, List.drop_of_length_le (by omega), lexW_nil]
          simp [glue]
        clear hlt HW
        go_wp2_with fail
        simp only [Exit.noGoto_ret]
        go_ret3
        rw [HRR.out]
        exact ⟨_, rfl, OWN.out, hb⟩
end Go.Proofs.YthddlchkbnmcaaaGreatDoor
