import Derived.Test.YtjmbdoiibchokaaJ7
import Derived.Test.YtjmbdoiibchokaaJ1
import Derived.Test.YtjmbdoiibchokaaJ4
namespace Go.Proofs.Ytjmbdoiibchokaa
open Go Go.RowKit
set_option maxRecDepth 20000

set_option maxHeartbeats 2000000 in
theorem rtake_any (v : Value) (L : List UInt8) (p s : Int) (w : World) (hL : BSl w v L) :
    Calls Try.prog 34 #[v, .int .i64 p, .int .i64 s] w fun e w' => e = .returned (.tuple #[.int .u64 ((takeT L p s).1 : Int), .int .i64 (takeT L p s).2]) ∧ w' = w := by
  have HL : Hid (BSl w v L) := hL
  obtain ⟨ov, cv, hv, hc1, hc2⟩ := hL.slice
  subst hv
  clear hL
  obtain ⟨n, hn⟩ : ∃ n, n = L.length := ⟨_, rfl⟩
  have HN : Hid (n = L.length) := hn
  rw [← hn] at HL hc1 ⊢
  clear hn
  unfold maxLen at hc2
  by_cases hc : canB s = true
  · have hs := (canB_iff s).1 hc
    obtain ⟨m, rfl⟩ : ∃ m : Nat, s = m := ⟨s.toNat, by omega⟩
    have hs1 : 1 ≤ (m : Int) := hs.1
    have hs2 : (m : Int) ≤ 8 := hs.2
    by_cases h0 : 0 ≤ p
    · obtain ⟨q, rfl⟩ : ∃ q : Nat, p = q := ⟨p.toNat, by omega⟩
      by_cases hr : q + m ≤ n
      · have HP : Hid (takeT L q m = (valB ((L.drop q).take m), 0)) := by
          show _ = _; unfold takeT; rw [if_pos ⟨hc, h0⟩, if_pos (by rw [← HN.out]; omega)]; simp
        have hg : ¬ (n : Int) - m < q := by omega
        clear hc hs
        go_enter Try.func34, Try.ntmps34
        go_wp2_with fail
        go_loop [8, 9] (fun a i => ∃ k : Nat, k ≤ m ∧ i = .int .i64 k ∧ a = .int .u64 (valB (((L.drop q).take m).take k) : Int)) (fun _ i => m - (intOf i).toNat)
        case atStart => exact ⟨0, Nat.zero_le _, rfl, rfl⟩
        case round =>
          obtain ⟨k, hk, rfl, rfl⟩ := hrel
          by_cases hlt : k < m
          · obtain ⟨g, off, c, rfl, hcc, hck⟩ := HL.out.at (q + k) (by omega)
            have HD : Hid (((L.drop q).take m)[k]? = some c) := by
              show _ = _
              rw [List.getElem?_take_of_lt hlt, List.getElem?_drop, hck]
            have hml : ((L.drop q).take m).length = m := by simp; rw [← HN.out]; omega
            have HV : Hid (valB (((L.drop q).take m).take (k + 1)) = valB (((L.drop q).take m).take k) * 256 + c.toNat) := valB_take _ k c HD.out
            have hv := valB_take7 ((L.drop q).take m) k (by omega) (by omega)
            obtain ⟨x, hx⟩ : ∃ x, x = valB (((L.drop q).take m).take k) := ⟨_, rfl⟩
            rw [← hx] at HV hv ⊢
            have hcl := c.toNat_lt
            clear hx hck hml
            go_wp2_with fail
            refine ⟨⟨k + 1, by omega, by go_num, ?_⟩, by simp [intOf]; omega⟩
            rw [HV.out]
            first | go_num | rfl
          · obtain rfl : k = m := by omega
            go_wp2_with fail
            go_ret2
            rw [HP.out, List.take_of_length_le (by simp; omega)]
            exact ⟨rfl, rfl⟩
      · have HP : Hid (takeT L q m = (0, 12)) := by
          show _ = _; unfold takeT; rw [if_pos ⟨hc, h0⟩, if_neg (by rw [← HN.out]; omega)]
        have hg : (n : Int) - m < q := by omega
        clear hc hs
        go_enter Try.func34, Try.ntmps34
        go_wp2_with fail
        go_ret2
        rw [HP.out]
        exact ⟨rfl, rfl⟩
    · have HP : Hid (takeT L p m = (0, 1)) := by
        show _ = _; unfold takeT; rw [if_neg (fun h => h0 h.2)]
      clear hc hs
      have h0' : p < 0 := by omega
      go_enter Try.func34, Try.ntmps34
      go_wp2_with fail
      go_ret2
      rw [HP.out]
      exact ⟨rfl, rfl⟩
  · have HP : Hid (takeT L p s = (0, 1)) := by
      show _ = _; unfold takeT; rw [if_neg (fun h => hc h.1)]
    have hc' : s < 1 ∨ 8 < s := by have := mt (canB_iff s).2 hc; omega
    clear hc
    rcases hc' with hc' | hc'
    all_goals
      go_enter Try.func34, Try.ntmps34
      go_wp2_with fail
      go_ret2
      rw [HP.out]
      exact ⟨rfl, rfl⟩

set_option maxHeartbeats 2000000 in
theorem rseal_any (k : Int) (v : Value) (L : List UInt8) (w : World) (hL : BSl w v L) :
    Calls Try.prog 28 #[.int .i64 k, v] w fun e w' => ∃ u, e = .returned (.tuple #[u, .int .i64 (sealT k L).2]) ∧ BOwn w.heap.size w' u (sealT k L).1 ∧ Below w.heap.size w w' := by
  have HL : Hid (BSl w v L) := hL
  obtain ⟨ov, cv, hv, hc1, hc2⟩ := hL.slice
  subst hv
  clear hL
  obtain ⟨n, hn⟩ : ∃ n, n = L.length := ⟨_, rfl⟩
  have HN : Hid (n = L.length) := hn
  rw [← hn] at HL hc1 ⊢
  clear hn
  unfold maxLen at hc2
  by_cases h0 : 0 ≤ k
  · by_cases h1 : k ≤ 255
    · obtain ⟨q, rfl⟩ : ∃ q : Nat, k = q := ⟨k.toNat, by omega⟩
      by_cases h2 : n ≤ 65535
      · have HP : Hid (sealT q L = (sealB q L, 0)) := by show _ = _; unfold sealT; rw [if_pos ⟨h0, h1⟩, if_pos (by rw [← HN.out]; exact h2)]; simp
        have CP : Hid (∀ W, Calls Try.prog 27 #[.slice none 0 0, .int .u64 (n : Int), .int .i64 2] W fun e w' => ∃ u, e = .returned (.tuple #[u, .int .i64 0]) ∧ BOwn W.heap.size w' u (beB 2 n) ∧ Below W.heap.size W w') := fun W => by
          have := rput_any (.slice none 0 0) [] n 2 W (bsl_nil W) (by simp) (by omega)
          have e : putT [] n 2 = (beB 2 n, 0) := by unfold putT; rw [if_pos (by rfl), if_pos (by simp; omega)]; simp
          rw [e] at this
          exact this
        have HF : Hid (beB 2 n ++ [UInt8.ofNat q] ++ L = sealB q L) := by show _ = _; unfold sealB; rw [HN.out]; simp
        have hq : q % 256 = q := Nat.mod_eq_of_lt (by omega)
        have HC : Hid ((q : Int) = ((UInt8.ofNat q).toNat : Int)) := by show _ = _; rw [UInt8.toNat_ofNat']; omega
        have hn : ¬ (65535 : Int) < (n : Int) := by omega
        clear hq
        go_enter Try.func28, Try.ntmps28
        go_wp2_with fail
        refine (CP.out _).mono ?_
        rintro e w1 ⟨u, rfl, ho1, hb1⟩
        obtain ⟨ou, nu, cu, rfl⟩ := val_slice ho1.sl
        have HO1 : Hid (BOwn w.heap.size w1 (.slice ou nu cu) (beB 2 n)) := ho1
        have HB1 : Hid (Below w.heap.size w w1) := hb1
        have hz1 := hb1.size
        clear ho1 hb1
        go_wp2_with (first
          | (at_builtin; refine of_stopW ?_))
        unfold StopW
        have HS : Hid (BSl (w1.alloc (.cells #[.int .u8 (q : Int)] 5)) (.slice (some ⟨w1.heap.size, 0, none⟩) 1 1) [UInt8.ofNat q]) := by
          have := (own_one w1 (UInt8.ofNat q)).sl
          rw [← HC.out] at this
          exact this
        have HO2 : Hid (BOwn w.heap.size (w1.alloc (.cells #[.int .u8 (q : Int)] 5)) (.slice ou nu cu) (beB 2 n)) := HO1.out.below ((Below.refl _ _).alloc (Nat.le_refl _) _)
        have HB2 : Hid (Below w.heap.size w (w1.alloc (.cells #[.int .u8 (q : Int)] 5))) := HB1.out.alloc hz1 _
        refine wl_appW rfl _ _ rfl w.heap.size (.slice ou nu cu) _ (beB 2 n) [UInt8.ofNat q] rfl HO2.out rfl HS.out (by rw [beB_len]; simp) HB2.out.size ?_
        intro v' w3 ho hgr _
        obtain ⟨o3, n3, c3, rfl⟩ := val_slice ho.sl
        have HO3 : Hid (BOwn w.heap.size w3 (.slice o3 n3 c3) (beB 2 n ++ [UInt8.ofNat q])) := ho
        have HB3 : Hid (Below w.heap.size w w3) := HB2.out.grown hgr HB2.out.size fun q hq => (HO2.out.ge q hq).1
        have HL3 : Hid (BSl w3 (.slice ov n cv) L) := HL.out.below HB3.out
        simp only [Act.put, List.setIfInBounds_toArray, List.set_cons_succ, List.set_cons_zero]
        clear ho hgr HO2 HB2 HS
        go_wp2_with (first
          | (at_builtin; refine of_stopW ?_))
        unfold StopW
        refine wl_appW rfl _ _ rfl w.heap.size (.slice o3 n3 c3) (.slice ov n cv) _ L rfl HO3.out rfl HL3.out (by rw [List.length_append, beB_len, ← HN.out]; simp; omega) HB3.out.size ?_
        intro v4 w4 ho hgr _
        have HO4 : Hid (BOwn w.heap.size w4 v4 (sealB q L)) := by rw [← HF.out]; exact ho
        have HB4 : Hid (Below w.heap.size w w4) := HB3.out.grown hgr HB3.out.size fun q hq => (HO3.out.ge q hq).1
        simp only [Act.put, List.setIfInBounds_toArray, List.set_cons_succ, List.set_cons_zero]
        clear ho hgr
        go_wp2_with fail
        go_ret2
        rw [HP.out]
        exact ⟨_, rfl, HO4.out, HB4.out⟩
      · have HP : Hid (sealT q L = ([], 5)) := by show _ = _; unfold sealT; rw [if_pos ⟨h0, h1⟩, if_neg (by rw [← HN.out]; exact h2)]
        have hn : (65535 : Int) < (n : Int) := by omega
        go_enter Try.func28, Try.ntmps28
        go_wp2_with fail
        go_ret2
        rw [HP.out]
        exact ⟨_, rfl, BOwn.nil _ _, Below.refl _ _⟩
    · have HP : Hid (sealT k L = ([], 1)) := by show _ = _; unfold sealT; rw [if_neg (fun h => h1 h.2)]
      have hn : (255 : Int) < k := by omega
      go_enter Try.func28, Try.ntmps28
      go_wp2_with fail
      go_ret2
      rw [HP.out]
      exact ⟨_, rfl, BOwn.nil _ _, Below.refl _ _⟩
  · have HP : Hid (sealT k L = ([], 1)) := by show _ = _; unfold sealT; rw [if_neg (fun h => h0 h.1)]
    have hn : k < 0 := by omega
    go_enter Try.func28, Try.ntmps28
    go_wp2_with fail
    go_ret2
    rw [HP.out]
    exact ⟨_, rfl, BOwn.nil _ _, Below.refl _ _⟩
end Go.Proofs.Ytjmbdoiibchokaa
namespace Go.Proofs.Ytjmbdoiibchokaa
open Go Go.RowKit
set_option maxRecDepth 20000

theorem BSl.later {w : World} {o : Option Addr} {n cap : Nat} {L : List UInt8} (h : BSl w (.slice o n cap) L) (g off : Nat) (ho : o = some ⟨g, off, none⟩) (k : Nat) (c : UInt8) (hk : L[k]? = some c) : ∀ u : Later w, u.world.cell? ⟨g, off + k, none⟩ = some (.int .u8 (c.toNat : Int)) := fun u => by
  have hkl := (List.getElem?_eq_some_iff.1 hk).1
  obtain ⟨g', off', c', e, hc, hc'⟩ := (h.below u.below).at k (by rw [h.len]; exact hkl)
  rw [ho] at e
  simp only [Option.some.injEq, Addr.mk.injEq, and_true] at e
  obtain ⟨rfl, rfl⟩ := e
  rw [hk] at hc'
  obtain rfl := Option.some.inj hc'
  exact hc
theorem conv_byte (c : UInt8) (w : World) : (convert 5 3 (.int .u8 (c.toNat : Int))).run Try.prog w = .ok (.int .i64 (c.toNat : Int)) w := by
  have := c.toNat_lt
  simp [convert, run_underlying Try.underlying5, run_underlying Try.underlying3, go_sem]
  rw [IntKind.wrap_i64]
  omega
theorem wpAnyH_takeD {P : Program} {md : Region.Mode} {ops : Array Oper} {Q : Exit → Act → World → Prop} {S : World → Prop} {i : Nat} {oi : Oper} {v : Value} {fuel : Nat} {listed : Array Bool} {a : Act} {w : World} (d : Option Tmp) (hi : ops[i]? = some oi) (hd : oi.dst = d)
    (hs : Region.noSelect ops = true) (hf : Region.free md ops listed i = true) (hr : (Region.ready md ops listed).contains i = true)
    (hQ : ∀ c a w, Q (.panic c) (a.put oi.dst v) w → Q (.panic c) a w) (hy : YieldsIf P ops S oi v a) (hS : S w)
    (h : wpAnyH P md ops Q S fuel (listed.setIfInBounds i true) (a.put d v) w) : wpAnyH P md ops Q S (fuel + 1) listed a w := by
  subst hd
  exact wpAnyH_take hi hs hf hr hQ hy hS h
theorem openT_three (a b c : UInt8) (body : List UInt8) : openT (a :: b :: c :: body) = if a.toNat * 256 + b.toNat = body.length then ((c.toNat : Int), body, 0) else (0, [], 12) := by
  show (match (if a.toNat * 256 + b.toNat = body.length then some (c.toNat, body) else none) with | some (k, body) => ((k : Int), body, (0 : Int)) | none => (0, [], 12)) = _
  split <;> split <;> simp_all

set_option maxHeartbeats 4000000 in
theorem ropen_any (v : Value) (L : List UInt8) (w : World) (hL : BSl w v L) (hl : L.length ≤ 140737488355328) :
    Calls Try.prog 31 #[v] w fun e w' => ∃ u, e = .returned (.tuple #[.int .i64 (openT L).1, u, .int .i64 (openT L).2.2]) ∧ BOwn w.heap.size w' u (openT L).2.1 ∧ Below w.heap.size w w' := by
  have HL : Hid (BSl w v L) := hL
  obtain ⟨ov, cv, hv, hc1, hc2⟩ := hL.slice
  subst hv
  clear hL
  have hcm := hc2
  unfold maxLen at hc2
  have ne0 := Later.ne w
  by_cases h3 : 3 ≤ L.length
  · obtain ⟨a, b, c, body, rfl⟩ : ∃ a b c body, L = a :: b :: c :: body := by
      match L, h3 with
      | a :: b :: c :: body, _ => exact ⟨a, b, c, body, rfl⟩
    obtain ⟨n, hn⟩ : ∃ n, n = (a :: b :: c :: body).length := ⟨_, rfl⟩
    have HN : Hid (n = body.length + 3) := by show _ = _; rw [hn]; simp
    rw [← hn] at HL hc1 hl h3 ⊢
    clear hn
    obtain ⟨g, off, _, rfl, _, _⟩ := HL.out.at 2 (by omega)
    have c0 := HL.out.later g off rfl 0 a rfl
    rw [Nat.add_zero] at c0
    have c1 := HL.out.later g off rfl 1 b rfl
    have c2 := HL.out.later g off rfl 2 c rfl
    have HT := openT_three a b c body
    have ha := a.toNat_lt
    have hb := b.toNat_lt
    obtain ⟨x, hx⟩ : ∃ x, x = a.toNat := ⟨_, rfl⟩
    obtain ⟨y, hy⟩ : ∃ y, y = b.toNat := ⟨_, rfl⟩
    rw [← hx] at c0 HT ha
    rw [← hy] at c1 HT hb
    clear hx hy
    have d3 : decide ((n : Int) < 3) = false := by simp; omega
    by_cases hq : x * 256 + y = body.length
    · rw [if_pos hq] at HT
      have HP : Hid (openT (a :: b :: c :: body) = ((c.toNat : Int), body, 0)) := HT
      have hqi : ((x : Int) * 256 + (y : Int) == (n : Int) - 3) = true := by have := HN.out; rw [beq_iff_eq]; omega
      clear HT hq
      have HR : Hid (BSl w.drew (.slice (some ⟨g, off, none⟩) n cv) (a :: b :: c :: body)) := HL.out.below (Below.refl _ _).drew
      by_cases hc3 : cv = 3
      · subst hc3
        obtain rfl : n = 3 := by omega
        obtain rfl : body = [] := List.eq_nil_of_length_eq_zero (by have := HN.out; omega)
        have HBd : Hid (∀ u : Later w, BSl u.world (.slice (some ⟨g, off, none⟩) 0 0) []) := fun u => bsl_none _ _ _ (Nat.zero_le _)
        go_enter Try.func31, Try.ntmps31
        go_wp2_with fail
        refine wp_region_later (by kernel_rfl) (by kernel_rfl) ?_
        repeat go_big_quiet_step (fail)
        refine wpQuiet_nil ?_
        rintro W ⟨u, hu⟩
        have hWb : Below w.heap.size w W := by rw [hu]; exact u.below
        clear hu u
        go_wp2_with fail
        have ne1 := Later.ne W
        have k2 : ∀ u : Later W, u.world.cell? ⟨g, off + 2, none⟩ = some (.int .u8 (c.toNat : Int)) := fun z => c2 ⟨z.world, hWb.trans (z.below.mono hWb.size)⟩
        have CB2 : Hid (∀ u : Later W, Calls Try.prog 16 #[.slice (some ⟨g, off, none⟩) 0 0] u.world fun e w' => ∃ v, e = .returned v ∧ BOwn w.heap.size w' v [] ∧ Below W.heap.size W w') := fun z => by
          refine (rbytes_any _ [] z.world (HBd.out ⟨z.world, hWb.trans (z.below.mono hWb.size)⟩) (by have := HN.out; first | (simp; done) | omega)).mono ?_
          rintro e w' ⟨v, rfl, h1, h2⟩
          exact ⟨v, rfl, h1.base (Nat.le_trans hWb.size z.below.size), z.below.trans (h2.mono z.below.size)⟩
        clear c2
        refine region_cut (fun a a' w' => ∃ u y24 y25 y26 y27 y28 y29 y30, a' = ((((((((((a.put (some 24) y24).put (some 25) y25).put (some 26) y26).put (some 27) y27).put (some 28) y28).put (some 29) y29).put (some 30) y30).put (some 2) (.int .i64 (c.toNat : Int))).put (some 3) u).put (some 4) (.int .i64 0)) ∧ BOwn w.heap.size w' u [] ∧ Below W.heap.size W w') ?_ ?_
        · refine region_begin 10 rfl (by kernel_rfl) ?_
          refine region_reads 0 3 7 rfl (by kernel_rfl) (by kernel_rfl) (by kernel_rfl) (by intro d v c a w h; exact absurd h.1 (by simp)) ⟨⟨W.drew, (Below.refl _ _).drew⟩, rfl⟩ ?_
          simp only [List.drop_zero, List.take_succ_cons, List.take_zero]
          go_big_quiet_step (fail)
          go_big_quiet_step (fail)
          go_big_quiet_step (fail)
          refine wpQuiet_nil ?_
          have e3 : ∀ w, (convert 5 3 (.int .u8 (c.toNat : Int))).run Try.prog w = .ok (.int .i64 (c.toNat : Int)) w := fun w => conv_byte c w
          refine wpAnyH_takeD (i := 3) (v := .int .i64 (c.toNat : Int)) (some 27) rfl rfl (by kernel_rfl) (by kernel_rfl) (by kernel_rfl) (fun c a w h => absurd h.1 (by simp)) (.inl ⟨rfl, fun w _ => ?_⟩) ⟨⟨W.drew, (Below.refl _ _).drew⟩, rfl⟩ ?_
          · simp [execOp, Act.eval, e3]
          refine region_reads 4 2 4 rfl (by kernel_rfl) (by kernel_rfl) (by kernel_rfl) (by intro d v c a w h; exact absurd h.1 (by simp)) ⟨⟨W.drew, (Below.refl _ _).drew⟩, rfl⟩ ?_
          simp only [List.drop_succ_cons, List.drop_zero, List.take_succ_cons, List.take_zero, Act.put, List.setIfInBounds_toArray, List.set_cons_succ, List.set_cons_zero]
          go_big_quiet_step (fail)
          go_big_quiet_step (fail)
          refine wpQuiet_nil ?_
          refine wpAnyH_all (rs := [6]) (by kernel_rfl) (by decide) ?_
          intro i hi
          obtain rfl := List.mem_singleton.1 hi
          refine wpOp_call rfl rfl 16 #[.tmp 29] (by intro b w; have hf := Try.func16; simp [go_sem]) #[.slice (some ⟨g, off, none⟩) 0 0] rfl (fun v w' => BOwn w.heap.size w' v [] ∧ Below W.heap.size W w') (CB2.out ⟨W.drew, (Below.refl _ _).drew⟩) (some 30) rfl ?_
          rintro z w4 ⟨ho4, hb4⟩
          refine ⟨⟨⟨w4, hb4⟩, rfl⟩, ?_⟩
          simp only [Act.put, List.setIfInBounds_toArray, List.set_cons_succ, List.set_cons_zero]
          refine wpAnyH_all (rs := [7]) (by kernel_rfl) (by decide) ?_
          intro i hi
          obtain rfl := List.mem_singleton.1 hi
          refine wpOp_assign rfl rfl _ rfl (.int .i64 (c.toNat : Int)) rfl (some 2) rfl ?_
          refine ⟨⟨⟨w4, hb4⟩, rfl⟩, ?_⟩
          refine wpAnyH_all (rs := [8]) (by kernel_rfl) (by decide) ?_
          intro i hi
          obtain rfl := List.mem_singleton.1 hi
          refine wpOp_assign rfl rfl _ rfl z rfl (some 3) rfl ?_
          refine ⟨⟨⟨w4, hb4⟩, rfl⟩, ?_⟩
          refine wpAnyH_all (rs := [9]) (by kernel_rfl) (by decide) ?_
          intro i hi
          obtain rfl := List.mem_singleton.1 hi
          refine wpOp_assign rfl rfl _ rfl (.int .i64 0) rfl (some 4) rfl ?_
          refine ⟨⟨⟨w4, hb4⟩, rfl⟩, ?_⟩
          refine wpAnyH_done (by kernel_rfl) ?_ _
          exact ⟨rfl, _, _, _, _, _, _, _, _, rfl, ho4, hb4⟩
        · rintro a' w4 ⟨z, y24, y25, y26, y27, y28, y29, y30, rfl, ho4, hb4⟩
          simp only [Act.put, List.setIfInBounds_toArray, List.set_cons_succ, List.set_cons_zero]
          go_wp2_with fail
          go_ret3
          rw [HP.out]
          exact ⟨z, rfl, ho4, hWb.trans (hb4.mono hWb.size)⟩
      · have hc4 : 3 < cv := by omega
        have HBd : Hid (∀ u : Later w, BSl u.world (.slice (some ⟨g, off + 3, none⟩) (n - 3) (cv - 3)) body) := fun u => by
          have := (HL.out.below u.below).part g off 3 (n - 3) (cv - 3) rfl (by omega) (by omega) (by omega)
          rw [List.take_of_length_le (by have := HN.out; simp; omega)] at this
          exact this
        go_enter Try.func31, Try.ntmps31
        go_wp2_with fail
        refine wp_region_later (by kernel_rfl) (by kernel_rfl) ?_
        repeat go_big_quiet_step (fail)
        refine wpQuiet_nil ?_
        rintro W ⟨u, hu⟩
        have hWb : Below w.heap.size w W := by rw [hu]; exact u.below
        clear hu u
        go_wp2_with fail
        have ne1 := Later.ne W
        have k2 : ∀ u : Later W, u.world.cell? ⟨g, off + 2, none⟩ = some (.int .u8 (c.toNat : Int)) := fun z => c2 ⟨z.world, hWb.trans (z.below.mono hWb.size)⟩
        have CB2 : Hid (∀ u : Later W, Calls Try.prog 16 #[.slice (some ⟨g, off + 3, none⟩) (n - 3) (cv - 3)] u.world fun e w' => ∃ v, e = .returned v ∧ BOwn w.heap.size w' v body ∧ Below W.heap.size W w') := fun z => by
          refine (rbytes_any _ body z.world (HBd.out ⟨z.world, hWb.trans (z.below.mono hWb.size)⟩) (by have := HN.out; first | (simp; done) | omega)).mono ?_
          rintro e w' ⟨v, rfl, h1, h2⟩
          exact ⟨v, rfl, h1.base (Nat.le_trans hWb.size z.below.size), z.below.trans (h2.mono z.below.size)⟩
        clear c2
        refine region_cut (fun a a' w' => ∃ u y24 y25 y26 y27 y28 y29 y30, a' = ((((((((((a.put (some 24) y24).put (some 25) y25).put (some 26) y26).put (some 27) y27).put (some 28) y28).put (some 29) y29).put (some 30) y30).put (some 2) (.int .i64 (c.toNat : Int))).put (some 3) u).put (some 4) (.int .i64 0)) ∧ BOwn w.heap.size w' u body ∧ Below W.heap.size W w') ?_ ?_
        · refine region_begin 10 rfl (by kernel_rfl) ?_
          refine region_reads 0 3 7 rfl (by kernel_rfl) (by kernel_rfl) (by kernel_rfl) (by intro d v c a w h; exact absurd h.1 (by simp)) ⟨⟨W.drew, (Below.refl _ _).drew⟩, rfl⟩ ?_
          simp only [List.drop_zero, List.take_succ_cons, List.take_zero]
          go_big_quiet_step (fail)
          go_big_quiet_step (fail)
          go_big_quiet_step (fail)
          refine wpQuiet_nil ?_
          have e3 : ∀ w, (convert 5 3 (.int .u8 (c.toNat : Int))).run Try.prog w = .ok (.int .i64 (c.toNat : Int)) w := fun w => conv_byte c w
          refine wpAnyH_takeD (i := 3) (v := .int .i64 (c.toNat : Int)) (some 27) rfl rfl (by kernel_rfl) (by kernel_rfl) (by kernel_rfl) (fun c a w h => absurd h.1 (by simp)) (.inl ⟨rfl, fun w _ => ?_⟩) ⟨⟨W.drew, (Below.refl _ _).drew⟩, rfl⟩ ?_
          · simp [execOp, Act.eval, e3]
          refine region_reads 4 2 4 rfl (by kernel_rfl) (by kernel_rfl) (by kernel_rfl) (by intro d v c a w h; exact absurd h.1 (by simp)) ⟨⟨W.drew, (Below.refl _ _).drew⟩, rfl⟩ ?_
          simp only [List.drop_succ_cons, List.drop_zero, List.take_succ_cons, List.take_zero, Act.put, List.setIfInBounds_toArray, List.set_cons_succ, List.set_cons_zero]
          go_big_quiet_step (fail)
          go_big_quiet_step (fail)
          refine wpQuiet_nil ?_
          refine wpAnyH_all (rs := [6]) (by kernel_rfl) (by decide) ?_
          intro i hi
          obtain rfl := List.mem_singleton.1 hi
          refine wpOp_call rfl rfl 16 #[.tmp 29] (by intro b w; have hf := Try.func16; simp [go_sem]) #[.slice (some ⟨g, off + 3, none⟩) (n - 3) (cv - 3)] rfl (fun v w' => BOwn w.heap.size w' v body ∧ Below W.heap.size W w') (CB2.out ⟨W.drew, (Below.refl _ _).drew⟩) (some 30) rfl ?_
          rintro z w4 ⟨ho4, hb4⟩
          refine ⟨⟨⟨w4, hb4⟩, rfl⟩, ?_⟩
          simp only [Act.put, List.setIfInBounds_toArray, List.set_cons_succ, List.set_cons_zero]
          refine wpAnyH_all (rs := [7]) (by kernel_rfl) (by decide) ?_
          intro i hi
          obtain rfl := List.mem_singleton.1 hi
          refine wpOp_assign rfl rfl _ rfl (.int .i64 (c.toNat : Int)) rfl (some 2) rfl ?_
          refine ⟨⟨⟨w4, hb4⟩, rfl⟩, ?_⟩
          refine wpAnyH_all (rs := [8]) (by kernel_rfl) (by decide) ?_
          intro i hi
          obtain rfl := List.mem_singleton.1 hi
          refine wpOp_assign rfl rfl _ rfl z rfl (some 3) rfl ?_
          refine ⟨⟨⟨w4, hb4⟩, rfl⟩, ?_⟩
          refine wpAnyH_all (rs := [9]) (by kernel_rfl) (by decide) ?_
          intro i hi
          obtain rfl := List.mem_singleton.1 hi
          refine wpOp_assign rfl rfl _ rfl (.int .i64 0) rfl (some 4) rfl ?_
          refine ⟨⟨⟨w4, hb4⟩, rfl⟩, ?_⟩
          refine wpAnyH_done (by kernel_rfl) ?_ _
          exact ⟨rfl, _, _, _, _, _, _, _, _, rfl, ho4, hb4⟩
        · rintro a' w4 ⟨z, y24, y25, y26, y27, y28, y29, y30, rfl, ho4, hb4⟩
          simp only [Act.put, List.setIfInBounds_toArray, List.set_cons_succ, List.set_cons_zero]
          go_wp2_with fail
          go_ret3
          rw [HP.out]
          exact ⟨z, rfl, ho4, hWb.trans (hb4.mono hWb.size)⟩
    · rw [if_neg hq] at HT
      have HP : Hid (openT (a :: b :: c :: body) = (0, [], 12)) := HT
      have hqi : ((x : Int) * 256 + (y : Int) == (n : Int) - 3) = false := by have := HN.out; rw [beq_eq_false_iff_ne]; omega
      clear HT hq
      go_enter Try.func31, Try.ntmps31
      go_wp2_with fail
      refine wp_region_later (by kernel_rfl) (by kernel_rfl) ?_
      repeat go_big_quiet_step (fail)
      refine wpQuiet_nil ?_
      rintro w' ⟨u, rfl⟩
      go_wp2_with fail
      go_ret3
      rw [HP.out]
      exact ⟨_, rfl, BOwn.nil _ _, u.below⟩
  · have HP : Hid (openT L = (0, [], 12)) := by show _ = _; unfold openT; rw [openB_short L h3]
    obtain ⟨n, hn⟩ : ∃ n, n = L.length := ⟨_, rfl⟩
    rw [← hn] at h3 hc1 ⊢
    clear hn hl HL
    have d3 : decide ((n : Int) < 3) = true := by simp; omega
    go_enter Try.func31, Try.ntmps31
    go_wp2_with fail
    refine wp_region_later (by kernel_rfl) (by kernel_rfl) ?_
    repeat go_big_quiet_step (fail)
    refine wpQuiet_nil ?_
    rintro w' ⟨u, rfl⟩
    go_wp2_with fail
    go_ret3
    rw [HP.out]
    exact ⟨_, rfl, BOwn.nil _ _, u.below⟩
end Go.Proofs.Ytjmbdoiibchokaa
namespace Go.Proofs.Ytjmbdoiibchokaa
open Go Go.RowKit
set_option maxRecDepth 20000

theorem toB_at {V : List Int} (hV : Byt V) (k : Nat) (hk : k < 13) : (toB V)[k]? = some ((toB V).getD k 0) := by
  rw [List.getElem?_eq_getElem (by rw [toB_len, hV.1]; exact hk), List.getD_eq_getElem?_getD, List.getElem?_eq_getElem (by rw [toB_len, hV.1]; exact hk)]
  rfl
theorem take_more (L D : List UInt8) (k : Nat) (c : UInt8) (h : D[k]? = some c) : L ++ D.take (k + 1) = (L ++ D.take k) ++ [c] := by
  rw [List.take_add_one, h]
  simp

set_option maxHeartbeats 8000000 in
theorem rputCube_any (v : Value) (L : List UInt8) (V M : List Int) (hV : Byt V) (hM : Byt M) (w : World) (hL : BSl w v L) (hl : L.length ≤ 140737488351232) :
    Calls Try.prog 26 #[v, .agg (cv V M)] w fun e w' => ∃ u, e = .returned u ∧ BOwn w.heap.size w' u (L ++ cubeB (can V M) M) ∧ Below w.heap.size w w' := by
  have HL : Hid (BSl w v L) := hL
  obtain ⟨ov, nv, cx, rfl⟩ : ∃ o n c, v = .slice o n c := by obtain ⟨o, c, h, _⟩ := hL.slice; exact ⟨o, _, c, h⟩
  have hVl := hV.1
  have hMl := hM.1
  have CC : Hid (∀ W, Calls Try.prog 23 #[.agg (cv V M)] W fun e w' => e = .returned (.agg (cv (can V M) M)) ∧ Below W.heap.size W w') := rcanon_any V M hV hM
  obtain ⟨C, hCd⟩ : ∃ C, C = can V M := ⟨_, rfl⟩
  have hC : Byt C := by rw [hCd]; exact can_byt V M
  have hCl := hC.1
  rw [← hCd] at CC ⊢
  clear hCd
  have HC : Hid (Byt C ∧ Byt M) := ⟨hC, hM⟩
  have CB : Hid (∀ W, Below w.heap.size w W → Calls Try.prog 16 #[.slice ov nv cx] W fun e w' => ∃ u, e = .returned u ∧ BOwn W.heap.size w' u L ∧ Below W.heap.size W w') := fun W hW => rbytes_any _ L W (HL.out.below hW) (by omega)
  have g0 := heap_new w (.cells (cv V M) 25) _ rfl
  have B0 : Below w.heap.size w (w.alloc (.cells (cv V M) 25)) := (Below.refl _ _).alloc (Nat.le_refl _) _
  clear hL hV hM hC
  go_enter Try.func26, Try.ntmps26
  go_wp2_with (first
    | (refine wl_loadC rfl _ rfl w.heap.size rfl V M g0 hVl hMl ?_))
  refine (CC.out _).mono ?_
  rintro e w1 ⟨rfl, hb1⟩
  have g1 : w1.heap[w.heap.size]? = some (.cells (cv V M) 25 (0, 0)) := (hb1.block _ (by simp)).trans g0
  have B1 : Below w.heap.size w w1 := B0.trans (hb1.mono (by simp))
  clear g0 B0 hb1
  have g2 := setRow_heap w1 w.heap.size _ (cv C M) _ _ g1
  have B2 := below_setRow B1 (Nat.le_refl w.heap.size) (cv C M)
  go_wp2_with (first
    | (refine wl_storeC rfl _ _ rfl w.heap.size C M rfl rfl _ g1 (cv_size V M hVl hMl) hCl hMl _ rfl ?_))
  refine (CB.out _ B2).mono ?_
  rintro e w3 ⟨u, rfl, ho3, hb3⟩
  have hs2 : w.heap.size < (w1.setRow w.heap.size (cv C M)).heap.size := (Array.getElem?_eq_some_iff.1 g2).1
  have g3 : w3.heap[w.heap.size]? = some (.cells (cv C M) 25 (0, 0)) := (hb3.block _ hs2).trans g2
  have B3 : Below w.heap.size w w3 := B2.trans (hb3.mono B2.size)
  have HO3 : Hid (BOwn (w.heap.size + 1) w3 u L) := ho3.base hs2
  clear ho3 hb3 g1 g2 B1 B2 hs2
  obtain ⟨o3, n3, c3, rfl⟩ := val_slice HO3.out.sl
  go_wp2_with fail
  go_loopw [0, 5] (fun b i W => ∃ k : Nat, k ≤ 13 ∧ i = .int .i64 k ∧ BOwn (w.heap.size + 1) W b (L ++ (toB C).take k) ∧ W.heap[w.heap.size]? = some (.cells (cv C M) 25 (0, 0)) ∧ Below w.heap.size w W) (fun _ i _ => 13 - (intOf i).toNat)
  case atStart => exact ⟨0, by omega, rfl, by simpa using HO3.out, g3, B3⟩
  case round =>
    clear g3 B3 HO3
    obtain ⟨k, hk, rfl, ho, gk, hb⟩ := hrel
    obtain ⟨ob, nb, cb, rfl⟩ := val_slice ho.sl
    have HO : Hid (BOwn (w.heap.size + 1) wr (.slice ob nb cb) (L ++ (toB C).take k)) := ho
    have HB : Hid (Below w.heap.size w wr) := hb
    have hsz := (Array.getElem?_eq_some_iff.1 gk).1
    clear ho hb
    by_cases hlt : k < 13
    · have cc : wr.cell? ⟨w.heap.size, k, none⟩ = some (.int .u8 (C.getD k 0)) := by rw [cell_of_row wr _ _ _ _ _ gk]; exact cv_val C M hCl k hlt
      have e := (byt_at HC.out.1 k hlt).2
      obtain ⟨x, hx⟩ : ∃ x, x = (toB C).getD k 0 := ⟨_, rfl⟩
      have HX : Hid ((toB C)[k]? = some x) := by rw [hx]; exact toB_at HC.out.1 k hlt
      rw [← hx] at e
      rw [← e] at cc
      clear e hx
      have HLN : Hid ((L ++ (toB C).take k).length ≤ 140737488351245) := by show _ ≤ _; rw [List.length_append, List.length_take]; omega
      go_wp2_with (first
        | (at_builtin; refine of_stopW ?_))
      unfold StopW
      have HS : Hid (BSl (wr.alloc (.cells #[.int .u8 (x.toNat : Int)] 5)) (.slice (some ⟨wr.heap.size, 0, none⟩) 1 1) [x]) := (own_one wr x).sl
      have HO2 : Hid (BOwn (w.heap.size + 1) (wr.alloc (.cells #[.int .u8 (x.toNat : Int)] 5)) (.slice ob nb cb) (L ++ (toB C).take k)) := HO.out.below ((Below.refl _ _).alloc (Nat.le_refl _) _)
      have HB2 : Hid (Below w.heap.size w (wr.alloc (.cells #[.int .u8 (x.toNat : Int)] 5))) := HB.out.alloc HB.out.size _
      refine wl_appW rfl _ _ rfl (w.heap.size + 1) (.slice ob nb cb) _ _ [x] rfl HO2.out rfl HS.out (by have := HLN.out; simp only [List.length_cons, List.length_nil]; omega) (by simp; omega) ?_
      intro v' w' ho hgr _
      have HO3 : Hid (BOwn (w.heap.size + 1) w' v' (L ++ (toB C).take (k + 1))) := by rw [take_more L (toB C) k x HX.out]; exact ho
      have HB3 : Hid (Below w.heap.size w w') := HB2.out.grown hgr HB2.out.size fun q hq => by have := (HO2.out.ge q hq).1; omega
      have g4 : w'.heap[w.heap.size]? = some (.cells (cv C M) 25 (0, 0)) := by
        rw [hgr.block _ (by simp; omega) (fun e => by have := (HO2.out.ge _ e.symm).1; omega)]
        exact heap_past _ _ _ _ gk
      simp only [Act.put, List.setIfInBounds_toArray, List.set_cons_succ, List.set_cons_zero]
      clear ho hgr HO2 HB2 HS cc gk
      go_wp2_with fail
      go_roundw
      case rel => exact ⟨k + 1, by omega, by go_num, HO3.out, g4, HB3.out⟩
      case measure => simp [intOf]; omega
    · obtain rfl : k = 13 := by omega
      have HO4 : Hid (BOwn (w.heap.size + 1) wr (.slice ob nb cb) (L ++ toB C)) := by
        have := HO.out
        rw [List.take_of_length_le (by rw [toB_len, hCl]; exact Nat.le_refl _)] at this
        exact this
      clear HO
      go_wp2_with fail
      go_loopw [0, 6] (fun b i W => ∃ k : Nat, k ≤ 13 ∧ i = .int .i64 k ∧ BOwn (w.heap.size + 1) W b ((L ++ toB C) ++ (toB M).take k) ∧ W.heap[w.heap.size]? = some (.cells (cv C M) 25 (0, 0)) ∧ Below w.heap.size w W) (fun _ i _ => 13 - (intOf i).toNat)
      case atStart => exact ⟨0, by omega, rfl, by simpa using HO4.out, gk, HB.out⟩
      case round =>
        clear gk HO4 HB hsz
        obtain ⟨k, hk, rfl, ho, gk, hb⟩ := hrel
        obtain ⟨od, nd, cd, rfl⟩ := val_slice ho.sl
        have HO : Hid (BOwn (w.heap.size + 1) wr (.slice od nd cd) ((L ++ toB C) ++ (toB M).take k)) := ho
        have HB : Hid (Below w.heap.size w wr) := hb
        have hsz := (Array.getElem?_eq_some_iff.1 gk).1
        clear ho hb
        by_cases hlt : k < 13
        · have cc : wr.cell? ⟨w.heap.size, 13 + k, none⟩ = some (.int .u8 (M.getD k 0)) := by rw [cell_of_row wr _ _ _ _ _ gk]; exact cv_mask C M hCl hMl k hlt
          have e := (byt_at HC.out.2 k hlt).2
          obtain ⟨x, hx⟩ : ∃ x, x = (toB M).getD k 0 := ⟨_, rfl⟩
          have HX : Hid ((toB M)[k]? = some x) := by rw [hx]; exact toB_at HC.out.2 k hlt
          rw [← hx] at e
          rw [← e] at cc
          clear e hx
          have HLN : Hid (((L ++ toB C) ++ (toB M).take k).length ≤ 140737488351258) := by show _ ≤ _; rw [List.length_append, List.length_append, List.length_take, toB_len, hCl]; omega
          go_wp2_with (first
            | (at_builtin; refine of_stopW ?_))
          unfold StopW
          have HS : Hid (BSl (wr.alloc (.cells #[.int .u8 (x.toNat : Int)] 5)) (.slice (some ⟨wr.heap.size, 0, none⟩) 1 1) [x]) := (own_one wr x).sl
          have HO2 : Hid (BOwn (w.heap.size + 1) (wr.alloc (.cells #[.int .u8 (x.toNat : Int)] 5)) (.slice od nd cd) ((L ++ toB C) ++ (toB M).take k)) := HO.out.below ((Below.refl _ _).alloc (Nat.le_refl _) _)
          have HB2 : Hid (Below w.heap.size w (wr.alloc (.cells #[.int .u8 (x.toNat : Int)] 5))) := HB.out.alloc HB.out.size _
          refine wl_appW rfl _ _ rfl (w.heap.size + 1) (.slice od nd cd) _ _ [x] rfl HO2.out rfl HS.out (by have := HLN.out; simp only [List.length_cons, List.length_nil]; omega) (by simp; omega) ?_
          intro v' w' ho hgr _
          have HO3 : Hid (BOwn (w.heap.size + 1) w' v' ((L ++ toB C) ++ (toB M).take (k + 1))) := by rw [take_more (L ++ toB C) (toB M) k x HX.out]; exact ho
          have HB3 : Hid (Below w.heap.size w w') := HB2.out.grown hgr HB2.out.size fun q hq => by have := (HO2.out.ge q hq).1; omega
          have g4 : w'.heap[w.heap.size]? = some (.cells (cv C M) 25 (0, 0)) := by
            rw [hgr.block _ (by simp; omega) (fun e => by have := (HO2.out.ge _ e.symm).1; omega)]
            exact heap_past _ _ _ _ gk
          simp only [Act.put, List.setIfInBounds_toArray, List.set_cons_succ, List.set_cons_zero]
          clear ho hgr HO2 HB2 HS cc gk
          go_wp2_with fail
          go_roundw
          case rel => exact ⟨k + 1, by omega, by go_num, HO3.out, g4, HB3.out⟩
          case measure => simp [intOf]; omega
        · obtain rfl : k = 13 := by omega
          have HO4 : Hid (BOwn w.heap.size wr (.slice od nd cd) (L ++ cubeB C M)) := by
            have := HO.out.base (Nat.le_succ w.heap.size)
            rw [List.take_of_length_le (by rw [toB_len, hMl]; exact Nat.le_refl _), List.append_assoc] at this
            exact this
          go_wp2_with fail
          go_ret
          exact ⟨_, rfl, HO4.out, HB.out⟩
end Go.Proofs.Ytjmbdoiibchokaa
