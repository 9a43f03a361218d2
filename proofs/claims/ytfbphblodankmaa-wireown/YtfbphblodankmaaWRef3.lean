import Derived.Test.YtfbphblodankmaaWRef2
import Derived.Test.YtfbphblodankmaaOrders
namespace Go.Proofs.Ytfbphblodankmaa
open Go Go.RowKit
set_option maxRecDepth 20000

theorem BSl.later {w : World} {o : Option Addr} {n cap : Nat} {L : List UInt8} (h : BSl w (.slice o n cap) L) (g off : Nat) (ho : o = some ⟨g, off, none⟩) (k : Nat) (c : UInt8) (hk : L[k]? = some c) : ∀ u : Later w, u.world.cell? ⟨g, off + k, none⟩ = some (.int .u8 (c.toNat : Int)) := fun u => by
  have hkl := (List.getElem?_eq_some_iff.1 hk).1
  obtain ⟨g', off', c', e, hc, hc'⟩ := (h.below u.below).at k (by rw [h.len]; exact hkl)
  rw [ho] at e
  simp only [Option.some.injEq, Addr.mk.injEq, and_true] at e
  obtain ⟨rfl, rfl⟩ := e
  rw [hk] at hc'
  obtain rfl := Option.some.inj hc'
  exact hc
theorem conv_byte (c : UInt8) (w : World) : (convert 5 3 (.int .u8 (c.toNat : Int))).run Try.prog w = .ok (.int .i64 (c.toNat : Int)) w := by
  have := c.toNat_lt
  simp [convert, run_underlying Try.underlying5, run_underlying Try.underlying3, go_sem]
  rw [IntKind.wrap_i64]
  omega
theorem wpAnyH_takeD {P : Program} {md : Region.Mode} {ops : Array Oper} {Q : Exit → Act → World → Prop} {S : World → Prop} {i : Nat} {oi : Oper} {v : Value} {fuel : Nat} {listed : Array Bool} {a : Act} {w : World} (d : Option Tmp) (hi : ops[i]? = some oi) (hd : oi.dst = d)
    (hs : Region.noSelect ops = true) (hf : Region.free md ops listed i = true) (hr : (Region.ready md ops listed).contains i = true)
    (hQ : ∀ c a w, Q (.panic c) (a.put oi.dst v) w → Q (.panic c) a w) (hy : YieldsIf P ops S oi v a) (hS : S w)
    (h : wpAnyH P md ops Q S fuel (listed.setIfInBounds i true) (a.put d v) w) : wpAnyH P md ops Q S (fuel + 1) listed a w := by
  subst hd
  exact wpAnyH_take hi hs hf hr hQ hy hS h
theorem openT_three (a b c : UInt8) (body : List UInt8) : openT (a :: b :: c :: body) = if a.toNat * 256 + b.toNat = body.length then ((c.toNat : Int), body, 0) else (0, [], 12) := by
  show (match (if a.toNat * 256 + b.toNat = body.length then some (c.toNat, body) else none) with | some (k, body) => ((k : Int), body, (0 : Int)) | none => (0, [], 12)) = _
  split <;> split <;> simp_all

set_option maxHeartbeats 4000000 in
theorem ropen_any (v : Value) (L : List UInt8) (w : World) (hL : BSl w v L) (hl : L.length ≤ 140737488355328) :
    Calls Try.prog 24 #[v] w fun e w' => ∃ u, e = .returned (.tuple #[.int .i64 (openT L).1, u, .int .i64 (openT L).2.2]) ∧ BOwn w.heap.size w' u (openT L).2.1 ∧ Below w.heap.size w w' := by
  have HL : Hid (BSl w v L) := hL
  obtain ⟨ov, cv, hv, hc1, hc2⟩ := hL.slice
  subst hv
  clear hL
  have hcm := hc2
  unfold maxLen at hc2
  have ne0 := Later.ne w
  by_cases h3 : 3 ≤ L.length
  · obtain ⟨a, b, c, body, rfl⟩ : ∃ a b c body, L = a :: b :: c :: body := by
      match L, h3 with
      | a :: b :: c :: body, _ => exact ⟨a, b, c, body, rfl⟩
    obtain ⟨n, hn⟩ : ∃ n, n = (a :: b :: c :: body).length := ⟨_, rfl⟩
    have HN : Hid (n = body.length + 3) := by show _ = _; rw [hn]; simp
    rw [← hn] at HL hc1 hl h3 ⊢
    clear hn
    obtain ⟨g, off, _, rfl, _, _⟩ := HL.out.at 2 (by omega)
    have c0 := HL.out.later g off rfl 0 a rfl
    rw [Nat.add_zero] at c0
    have c1 := HL.out.later g off rfl 1 b rfl
    have c2 := HL.out.later g off rfl 2 c rfl
    have HT := openT_three a b c body
    have ha := a.toNat_lt
    have hb := b.toNat_lt
    obtain ⟨x, hx⟩ : ∃ x, x = a.toNat := ⟨_, rfl⟩
    obtain ⟨y, hy⟩ : ∃ y, y = b.toNat := ⟨_, rfl⟩
    rw [← hx] at c0 HT ha
    rw [← hy] at c1 HT hb
    clear hx hy
    have d3 : decide ((n : Int) < 3) = false := by simp; omega
    by_cases hq : x * 256 + y = body.length
    · rw [if_pos hq] at HT
      have HP : Hid (openT (a :: b :: c :: body) = ((c.toNat : Int), body, 0)) := HT
      have hqi : ((x : Int) * 256 + (y : Int) == (n : Int) - 3) = true := by have := HN.out; rw [beq_iff_eq]; omega
      clear HT hq
      have HR : Hid (BSl w.drew (.slice (some ⟨g, off, none⟩) n cv) (a :: b :: c :: body)) := HL.out.below (Below.refl _ _).drew
      by_cases hc3 : cv = 3
      · subst hc3
        obtain rfl : n = 3 := by omega
        obtain rfl : body = [] := List.eq_nil_of_length_eq_zero (by have := HN.out; omega)
        have HBd : Hid (∀ u : Later w, BSl u.world (.slice (some ⟨g, off, none⟩) 0 0) []) := fun u => bsl_none _ _ _ (Nat.zero_le _)
        go_enter Try.func24, Try.ntmps24
        go_wp2_with fail
        refine wp_region_later (by kernel_rfl) (by kernel_rfl) ?_
        repeat go_big_quiet_step (fail)
        refine wpQuiet_nil ?_
        rintro W ⟨u, hu⟩
        have hWb : Below w.heap.size w W := by rw [hu]; exact u.below
        clear hu u
        go_wp2_with fail
        have ne1 := Later.ne W
        have k2 : ∀ u : Later W, u.world.cell? ⟨g, off + 2, none⟩ = some (.int .u8 (c.toNat : Int)) := fun z => c2 ⟨z.world, hWb.trans (z.below.mono hWb.size)⟩
        have CB2 : Hid (∀ u : Later W, Calls Try.prog 23 #[.slice (some ⟨g, off, none⟩) 0 0] u.world fun e w' => ∃ v, e = .returned v ∧ BOwn w.heap.size w' v [] ∧ Below W.heap.size W w') := fun z => by
          refine (rbytes_any _ [] z.world (HBd.out ⟨z.world, hWb.trans (z.below.mono hWb.size)⟩) (by have := HN.out; first | (simp; done) | omega)).mono ?_
          rintro e w' ⟨v, rfl, h1, h2⟩
          exact ⟨v, rfl, h1.base (Nat.le_trans hWb.size z.below.size), z.below.trans (h2.mono z.below.size)⟩
        clear c2
        refine region_cut (fun a a' w' => ∃ u y24 y25 y26 y27 y28 y29 y30, a' = ((((((((((a.put (some 24) y24).put (some 25) y25).put (some 26) y26).put (some 27) y27).put (some 28) y28).put (some 29) y29).put (some 30) y30).put (some 2) (.int .i64 (c.toNat : Int))).put (some 3) u).put (some 4) (.int .i64 0)) ∧ BOwn w.heap.size w' u [] ∧ Below W.heap.size W w') ?_ ?_
        · refine region_begin 10 rfl (by kernel_rfl) ?_
          refine region_reads 0 3 7 rfl (by kernel_rfl) (by kernel_rfl) (by kernel_rfl) (by intro d v c a w h; exact absurd h.1 (by simp)) ⟨⟨W.drew, (Below.refl _ _).drew⟩, rfl⟩ ?_
          simp only [List.drop_zero, List.take_succ_cons, List.take_zero]
          go_big_quiet_step (fail)
          go_big_quiet_step (fail)
          go_big_quiet_step (fail)
          refine wpQuiet_nil ?_
          have e3 : ∀ w, (convert 5 3 (.int .u8 (c.toNat : Int))).run Try.prog w = .ok (.int .i64 (c.toNat : Int)) w := fun w => conv_byte c w
          refine wpAnyH_takeD (i := 3) (v := .int .i64 (c.toNat : Int)) (some 27) rfl rfl (by kernel_rfl) (by kernel_rfl) (by kernel_rfl) (fun c a w h => absurd h.1 (by simp)) (.inl ⟨rfl, fun w _ => ?_⟩) ⟨⟨W.drew, (Below.refl _ _).drew⟩, rfl⟩ ?_
          · simp [execOp, Act.eval, e3]
          refine region_reads 4 2 4 rfl (by kernel_rfl) (by kernel_rfl) (by kernel_rfl) (by intro d v c a w h; exact absurd h.1 (by simp)) ⟨⟨W.drew, (Below.refl _ _).drew⟩, rfl⟩ ?_
          simp only [List.drop_succ_cons, List.drop_zero, List.take_succ_cons, List.take_zero, Act.put, List.setIfInBounds_toArray, List.set_cons_succ, List.set_cons_zero]
          go_big_quiet_step (fail)
          go_big_quiet_step (fail)
          refine wpQuiet_nil ?_
          refine wpAnyH_all (rs := [6]) (by kernel_rfl) (by decide) ?_
          intro i hi
          obtain rfl := List.mem_singleton.1 hi
          refine wpOp_call rfl rfl 23 #[.tmp 29] (by intro b w; have hf := Try.func23; simp [go_sem]) #[.slice (some ⟨g, off, none⟩) 0 0] rfl (fun v w' => BOwn w.heap.size w' v [] ∧ Below W.heap.size W w') (CB2.out ⟨W.drew, (Below.refl _ _).drew⟩) (some 30) rfl ?_
          rintro z w4 ⟨ho4, hb4⟩
          refine ⟨⟨⟨w4, hb4⟩, rfl⟩, ?_⟩
          simp only [Act.put, List.setIfInBounds_toArray, List.set_cons_succ, List.set_cons_zero]
          refine wpAnyH_all (rs := [7]) (by kernel_rfl) (by decide) ?_
          intro i hi
          obtain rfl := List.mem_singleton.1 hi
          refine wpOp_assign rfl rfl _ rfl (.int .i64 (c.toNat : Int)) rfl (some 2) rfl ?_
          refine ⟨⟨⟨w4, hb4⟩, rfl⟩, ?_⟩
          refine wpAnyH_all (rs := [8]) (by kernel_rfl) (by decide) ?_
          intro i hi
          obtain rfl := List.mem_singleton.1 hi
          refine wpOp_assign rfl rfl _ rfl z rfl (some 3) rfl ?_
          refine ⟨⟨⟨w4, hb4⟩, rfl⟩, ?_⟩
          refine wpAnyH_all (rs := [9]) (by kernel_rfl) (by decide) ?_
          intro i hi
          obtain rfl := List.mem_singleton.1 hi
          refine wpOp_assign rfl rfl _ rfl (.int .i64 0) rfl (some 4) rfl ?_
          refine ⟨⟨⟨w4, hb4⟩, rfl⟩, ?_⟩
          refine wpAnyH_done (by kernel_rfl) ?_ _
          exact ⟨rfl, _, _, _, _, _, _, _, _, rfl, ho4, hb4⟩
        · rintro a' w4 ⟨z, y24, y25, y26, y27, y28, y29, y30, rfl, ho4, hb4⟩
          simp only [Act.put, List.setIfInBounds_toArray, List.set_cons_succ, List.set_cons_zero]
          go_wp2_with fail
          go_ret3
          rw [HP.out]
          exact ⟨z, rfl, ho4, hWb.trans (hb4.mono hWb.size)⟩
      · have hc4 : 3 < cv := by omega
        have HBd : Hid (∀ u : Later w, BSl u.world (.slice (some ⟨g, off + 3, none⟩) (n - 3) (cv - 3)) body) := fun u => by
          have := (HL.out.below u.below).part g off 3 (n - 3) (cv - 3) rfl (by omega) (by omega) (by omega)
          rw [List.take_of_length_le (by have := HN.out; simp; omega)] at this
          exact this
        go_enter Try.func24, Try.ntmps24
        go_wp2_with fail
        refine wp_region_later (by kernel_rfl) (by kernel_rfl) ?_
        repeat go_big_quiet_step (fail)
        refine wpQuiet_nil ?_
        rintro W ⟨u, hu⟩
        have hWb : Below w.heap.size w W := by rw [hu]; exact u.below
        clear hu u
        go_wp2_with fail
        have ne1 := Later.ne W
        have k2 : ∀ u : Later W, u.world.cell? ⟨g, off + 2, none⟩ = some (.int .u8 (c.toNat : Int)) := fun z => c2 ⟨z.world, hWb.trans (z.below.mono hWb.size)⟩
        have CB2 : Hid (∀ u : Later W, Calls Try.prog 23 #[.slice (some ⟨g, off + 3, none⟩) (n - 3) (cv - 3)] u.world fun e w' => ∃ v, e = .returned v ∧ BOwn w.heap.size w' v body ∧ Below W.heap.size W w') := fun z => by
          refine (rbytes_any _ body z.world (HBd.out ⟨z.world, hWb.trans (z.below.mono hWb.size)⟩) (by have := HN.out; first | (simp; done) | omega)).mono ?_
          rintro e w' ⟨v, rfl, h1, h2⟩
          exact ⟨v, rfl, h1.base (Nat.le_trans hWb.size z.below.size), z.below.trans (h2.mono z.below.size)⟩
        clear c2
        refine region_cut (fun a a' w' => ∃ u y24 y25 y26 y27 y28 y29 y30, a' = ((((((((((a.put (some 24) y24).put (some 25) y25).put (some 26) y26).put (some 27) y27).put (some 28) y28).put (some 29) y29).put (some 30) y30).put (some 2) (.int .i64 (c.toNat : Int))).put (some 3) u).put (some 4) (.int .i64 0)) ∧ BOwn w.heap.size w' u body ∧ Below W.heap.size W w') ?_ ?_
        · refine region_begin 10 rfl (by kernel_rfl) ?_
          refine region_reads 0 3 7 rfl (by kernel_rfl) (by kernel_rfl) (by kernel_rfl) (by intro d v c a w h; exact absurd h.1 (by simp)) ⟨⟨W.drew, (Below.refl _ _).drew⟩, rfl⟩ ?_
          simp only [List.drop_zero, List.take_succ_cons, List.take_zero]
          go_big_quiet_step (fail)
          go_big_quiet_step (fail)
          go_big_quiet_step (fail)
          refine wpQuiet_nil ?_
          have e3 : ∀ w, (convert 5 3 (.int .u8 (c.toNat : Int))).run Try.prog w = .ok (.int .i64 (c.toNat : Int)) w := fun w => conv_byte c w
          refine wpAnyH_takeD (i := 3) (v := .int .i64 (c.toNat : Int)) (some 27) rfl rfl (by kernel_rfl) (by kernel_rfl) (by kernel_rfl) (fun c a w h => absurd h.1 (by simp)) (.inl ⟨rfl, fun w _ => ?_⟩) ⟨⟨W.drew, (Below.refl _ _).drew⟩, rfl⟩ ?_
          · simp [execOp, Act.eval, e3]
          refine region_reads 4 2 4 rfl (by kernel_rfl) (by kernel_rfl) (by kernel_rfl) (by intro d v c a w h; exact absurd h.1 (by simp)) ⟨⟨W.drew, (Below.refl _ _).drew⟩, rfl⟩ ?_
          simp only [List.drop_succ_cons, List.drop_zero, List.take_succ_cons, List.take_zero, Act.put, List.setIfInBounds_toArray, List.set_cons_succ, List.set_cons_zero]
          go_big_quiet_step (fail)
          go_big_quiet_step (fail)
          refine wpQuiet_nil ?_
          refine wpAnyH_all (rs := [6]) (by kernel_rfl) (by decide) ?_
          intro i hi
          obtain rfl := List.mem_singleton.1 hi
          refine wpOp_call rfl rfl 23 #[.tmp 29] (by intro b w; have hf := Try.func23; simp [go_sem]) #[.slice (some ⟨g, off + 3, none⟩) (n - 3) (cv - 3)] rfl (fun v w' => BOwn w.heap.size w' v body ∧ Below W.heap.size W w') (CB2.out ⟨W.drew, (Below.refl _ _).drew⟩) (some 30) rfl ?_
          rintro z w4 ⟨ho4, hb4⟩
          refine ⟨⟨⟨w4, hb4⟩, rfl⟩, ?_⟩
          simp only [Act.put, List.setIfInBounds_toArray, List.set_cons_succ, List.set_cons_zero]
          refine wpAnyH_all (rs := [7]) (by kernel_rfl) (by decide) ?_
          intro i hi
          obtain rfl := List.mem_singleton.1 hi
          refine wpOp_assign rfl rfl _ rfl (.int .i64 (c.toNat : Int)) rfl (some 2) rfl ?_
          refine ⟨⟨⟨w4, hb4⟩, rfl⟩, ?_⟩
          refine wpAnyH_all (rs := [8]) (by kernel_rfl) (by decide) ?_
          intro i hi
          obtain rfl := List.mem_singleton.1 hi
          refine wpOp_assign rfl rfl _ rfl z rfl (some 3) rfl ?_
          refine ⟨⟨⟨w4, hb4⟩, rfl⟩, ?_⟩
          refine wpAnyH_all (rs := [9]) (by kernel_rfl) (by decide) ?_
          intro i hi
          obtain rfl := List.mem_singleton.1 hi
          refine wpOp_assign rfl rfl _ rfl (.int .i64 0) rfl (some 4) rfl ?_
          refine ⟨⟨⟨w4, hb4⟩, rfl⟩, ?_⟩
          refine wpAnyH_done (by kernel_rfl) ?_ _
          exact ⟨rfl, _, _, _, _, _, _, _, _, rfl, ho4, hb4⟩
        · rintro a' w4 ⟨z, y24, y25, y26, y27, y28, y29, y30, rfl, ho4, hb4⟩
          simp only [Act.put, List.setIfInBounds_toArray, List.set_cons_succ, List.set_cons_zero]
          go_wp2_with fail
          go_ret3
          rw [HP.out]
          exact ⟨z, rfl, ho4, hWb.trans (hb4.mono hWb.size)⟩
    · rw [if_neg hq] at HT
      have HP : Hid (openT (a :: b :: c :: body) = (0, [], 12)) := HT
      have hqi : ((x : Int) * 256 + (y : Int) == (n : Int) - 3) = false := by have := HN.out; rw [beq_eq_false_iff_ne]; omega
      clear HT hq
      go_enter Try.func24, Try.ntmps24
      go_wp2_with fail
      refine wp_region_later (by kernel_rfl) (by kernel_rfl) ?_
      repeat go_big_quiet_step (fail)
      refine wpQuiet_nil ?_
      rintro w' ⟨u, rfl⟩
      go_wp2_with fail
      go_ret3
      rw [HP.out]
      exact ⟨_, rfl, BOwn.nil _ _, u.below⟩
  · have HP : Hid (openT L = (0, [], 12)) := by show _ = _; unfold openT; rw [openB_short L h3]
    obtain ⟨n, hn⟩ : ∃ n, n = L.length := ⟨_, rfl⟩
    rw [← hn] at h3 hc1 ⊢
    clear hn hl HL
    have d3 : decide ((n : Int) < 3) = true := by simp; omega
    go_enter Try.func24, Try.ntmps24
    go_wp2_with fail
    refine wp_region_later (by kernel_rfl) (by kernel_rfl) ?_
    repeat go_big_quiet_step (fail)
    refine wpQuiet_nil ?_
    rintro w' ⟨u, rfl⟩
    go_wp2_with fail
    go_ret3
    rw [HP.out]
    exact ⟨_, rfl, BOwn.nil _ _, u.below⟩
end Go.Proofs.Ytfbphblodankmaa
