import Derived.Test.YtojhckjdkafpmaaTcPlay2
namespace Go.Proofs.Ytojhckjdkafpmaa
open Go Go.RowKit
set_option maxRecDepth 20000

set_option maxHeartbeats 32000000 in
theorem lawLooks (c a q i h : Int) (A : List ActM) (lv : Value) (w : World) (hl : GSl ActE actV w lv A) (hA : ∀ x ∈ A, OkA x) (now e : Int) (H : List Int) (hH : Byt H) :
    Calls Try.prog 6 #[.agg (roomA c a q i h), lv, .int .i64 now, .int .i64 e, .agg (hv H)] w fun e w' => e = .returned (.bool true) ∧ Below w.heap.size w w' := by
  have AW : Hid (∀ W, Calls Try.prog 9 #[] W fun r w' => r = .returned (.bool true) ∧ Below W.heap.size W w') := awakeT_any
  obtain ⟨w0, hw0⟩ : ∃ w0, w0 = (w.alloc (.cells (roomA c a q i h) 23)).alloc (.cells (hv H) 34) := ⟨_, rfl⟩
  have B0 : Hid (Below w.heap.size w w0) := by show Below _ _ _; rw [hw0]; exact ((Below.refl _ _).alloc (Nat.le_refl _) _).alloc (by simp) _
  have R0 : Hid (w0.heap[w.heap.size]? = some (.cells (roomA c a q i h) 23 (0, 0))) := by show _ = _; rw [hw0]; exact heap_past _ _ _ _ (heap_new _ _ _ rfl)
  have H0 : Hid (w0.heap[w.heap.size + 1]? = some (.cells (hv H) 34 (0, 0))) := by show _ = _; rw [hw0]; exact heap_new _ _ _ (by simp)
  have haw := AW.out w0
  have HL0 : Hid (GSl ActE actV w lv A) := hl
  have HA : Hid (∀ x ∈ A, OkA x) := hA
  rw [hw0] at haw
  obtain ⟨ol, capl, rfl, _, _⟩ := hl.slice
  clear hl hA AW
  go_enter Try.func6, Try.ntmps6
  go_wp2_with (go_at_call 9; refine haw.mono ?_; rintro e w1 ⟨rfl, hb1⟩; refine of_stopS ?_)
  unfold StopS
  rw [← hw0] at hb1
  have B1 : Hid (Below w.heap.size w w1) := below_step B0.out B0.out.size hb1
  have R1 : Hid (w1.heap[w.heap.size]? = some (.cells (roomA c a q i h) 23 (0, 0))) := (hb1.block _ (Array.getElem?_eq_some_iff.1 R0.out).1).trans R0.out
  have H1 : Hid (w1.heap[w.heap.size + 1]? = some (.cells (hv H) 34 (0, 0))) := (hb1.block _ (Array.getElem?_eq_some_iff.1 H0.out).1).trans H0.out
  clear hb1 haw R0 B0 H0 hw0
  by_cases hr : OkR c a q i h
  case neg =>
    have hpl := played_no c a q i h hr (.slice ol A.length capl) w1
    clear hr
    go_wp2_with (first | ((with_reducible refine wl_gT 23 _ rfl ?_); refine wl_ldT rfl 23 _ rfl ⟨w.heap.size, 0, none⟩ rfl (.agg (roomA c a q i h)) (room_load R1.out) ?_) | (go_at_call 17; refine hpl.mono ?_; rintro e w2 ⟨rfl, hb2⟩; refine of_stopS ?_))
    unfold StopS
    have B2 : Hid (Below w.heap.size w w2) := below_step B1.out B1.out.size hb2
    clear hb2 hpl
    go_wp2_with fail
    go_ret
    exact ⟨by simp, B2.out⟩
  case pos =>
    have hpl := played_yes c a q i h hr A (.slice ol A.length capl) w1 (GSl.below HL0.out B1.out) HA.out
    have HR : Hid (OkR c a q i h) := hr
    clear hr HL0 HA
    obtain ⟨R, hRR⟩ : ∃ R, R = rmOf c a q i h := ⟨_, rfl⟩
    have HRR : Hid (R = rmOf c a q i h) := hRR
    rw [← hRR] at hpl
    clear hRR
    go_wp2_with (first | ((with_reducible refine wl_gT 23 _ rfl ?_); refine wl_ldT rfl 23 _ rfl ⟨w.heap.size, 0, none⟩ rfl (.agg (roomA c a q i h)) (room_load R1.out) ?_) | (go_at_call 17; refine hpl.mono ?_; rintro e w2 ⟨B, n, p, g, r, gr, S, rfl, hn60, L, v1, v2, v3, vl, hRun⟩; refine of_stopS ?_))
    unfold StopS
    have B2 : Hid (Below w.heap.size w w2) := below_step B1.out B1.out.size hRun.below
    have R2 : Hid (w2.heap[w.heap.size]? = some (.cells (roomA c a q i h) 23 (0, 0))) := (hRun.below.block _ (Array.getElem?_eq_some_iff.1 R1.out).1).trans R1.out
    have H2 : Hid (w2.heap[w.heap.size + 1]? = some (.cells (hv H) 34 (0, 0))) := (hRun.below.block _ (Array.getElem?_eq_some_iff.1 H1.out).1).trans H1.out
    have T2 : Hid (TabV B w2 g R S v1 v2 v3) := hRun.pl.two.t
    have IV : Hid (InvX n R S) := hRun.pl.inv
    have LN : Hid (∀ b, (bankL S b).length ≤ 1000000) := hRun.pl.lens
    have HWB : Hid (w.heap.size ≤ B) := Nat.le_trans B1.out.size hRun.hB
    clear hRun hpl R1 B1 H1
    have HHl := hH.1
    have hmt : ∀ (x : Slt) (b : Nat), mtS hsC e H (usedS now b x) = mtS hsC e H x := fun x b => rfl
    have LP := look_peek S (mtS hsC e H) now hmt
    have PL := peek_look S (mtS hsC e H) now
    have LC : Hid (∀ x, peekT S (mtS hsC e H) = (x, true) → (lookT S (mtS hsC e H) now).2 = ({ x with count := x.count + 1, used := if x.bank = 1 then timeT now else x.used }, true)) := fun x hx => look_counts IV.out.inv (by unfold MAXT; omega) _ now hx
    have PK : Hid (∀ W, Below w2.heap.size w2 W → Calls Try.prog 18 #[.pointer (some ⟨g, 0, none⟩), .int .i64 e, .agg (hv H)] W fun r w' => r = .returned (.tuple #[.agg (slotV (peekT S (mtS hsC e H)).1), .bool (peekT S (mtS hsC e H)).2]) ∧ Below W.heap.size W w') := by
      intro W hb
      exact peek_any B W g R S v1 v2 v3 (T2.out.below hb) e H hH IV.out.ord fun b y hy => (IV.out.bank b y hy).2.2.2.2.2.2.2
    have LK : Hid (∀ W, Below w2.heap.size w2 W → Calls Try.prog 20 #[.pointer (some ⟨g, 0, none⟩), .int .i64 now, .int .i64 e, .agg (hv H)] W fun r w' => r = .returned (.tuple #[.agg (slotV (lookT S (mtS hsC e H) now).2.1), .bool (lookT S (mtS hsC e H) now).2.2]) ∧ TabTo B W w' g R (lookT S (mtS hsC e H) now).1 v1 v2 v3) := by
      intro W hb
      exact look_any B W g R S v1 v2 v3 (T2.out.below hb) now e H hH IV.out.ord fun b y hy => by have h9 := IV.out.bank b y hy; exact ⟨h9.2.2.2.2.2.2.2, h9.1, h9.2.1, by have := h9.2.2.1; unfold MAXT; omega⟩
    have PK2 : Hid (∀ W u1 u2 u3, TabV B W g R (lookT S (mtS hsC e H) now).1 u1 u2 u3 → Calls Try.prog 18 #[.pointer (some ⟨g, 0, none⟩), .int .i64 e, .agg (hv H)] W fun r w' => r = .returned (.tuple #[.agg (slotV (lookT S (mtS hsC e H) now).2.1), .bool (lookT S (mtS hsC e H) now).2.2]) ∧ Below W.heap.size W w') := by
      intro W u1 u2 u3 hW
      rw [← LP]
      have hx := invx_look IV.out (mtS hsC e H) now
      have hi : InvX (n + 1) R (lookT S (mtS hsC e H) now).1 := ⟨inv_look IV.out.inv _ _, hx.1, hx.2⟩
      exact peek_any B W g R _ u1 u2 u3 hW e H hH hi.ord fun b y hy => (hi.bank b y hy).2.2.2.2.2.2.2
    have TI : Hid (∀ W, Calls Try.prog 21 #[.int .i64 now] W fun r w' => r = .returned (.int .i64 (timeT now)) ∧ w' = W) := rtime_any now
    obtain ⟨x1, hx1⟩ : ∃ x1, x1 = (peekT S (mtS hsC e H)).1 := ⟨_, rfl⟩
    obtain ⟨b1, hb1⟩ : ∃ b1, b1 = (peekT S (mtS hsC e H)).2 := ⟨_, rfl⟩
    obtain ⟨x2, hx2⟩ : ∃ x2, x2 = (lookT S (mtS hsC e H) now).2.1 := ⟨_, rfl⟩
    obtain ⟨S2, hS2⟩ : ∃ S2, S2 = (lookT S (mtS hsC e H) now).1 := ⟨_, rfl⟩
    have eb : (lookT S (mtS hsC e H) now).2.2 = b1 := by rw [hb1]; exact PL.1
    have PF : Hid (b1 = false → x2 = x1) := by intro hf; rw [hx2, hx1]; exact (PL.2 (by rw [← hb1]; exact hf)).1
    have PT : Hid (b1 = true → x2 = { x1 with count := x1.count + 1, used := if x1.bank = 1 then timeT now else x1.used }) := by
      intro hf
      rw [hx2, LC.out x1 (by rw [hx1, ← hf, hb1])]
    have XC : Hid (b1 = true → 0 ≤ x1.count ∧ x1.count ≤ 100) := by
      intro hf
      have hp : peekT S (mtS hsC e H) = (x1, true) := by rw [hx1, ← hf, hb1]
      unfold peekT at hp
      rcases findT_cases S (mtS hsC e H) with ⟨A', y, D, ⟨e1, _⟩, e0⟩ | ⟨_, A', y, D, ⟨e1, _⟩, e0⟩ | ⟨_, _, A', y, D, ⟨e1, _⟩, e0⟩ | ⟨_, _, _, e0⟩
      · rw [e0] at hp
        obtain rfl : y = x1 := by simpa using hp
        have h9 := IV.out.inv.c y (by rw [e1]; simp)
        have := h9.2.2.1
        exact ⟨h9.2.1, by omega⟩
      · rw [e0] at hp
        obtain rfl : y = x1 := by simpa using hp
        have h9 := IV.out.inv.a y (by rw [e1]; simp)
        have := h9.2.2.1
        exact ⟨h9.2.1, by omega⟩
      · rw [e0] at hp
        obtain rfl : y = x1 := by simpa using hp
        have h9 := IV.out.inv.p y (by rw [e1]; simp)
        have := h9.2.2.1
        exact ⟨h9.2.1, by omega⟩
      · rw [e0] at hp
        simp at hp
    rw [← hx1, ← hb1] at PK
    rw [← hx2, eb, ← hS2] at LK
    rw [← hx2, eb, ← hS2] at PK2
    clear hx1 hb1 hx2 hS2 eb LP PL LC hmt hH
    have ER : ∀ W, (Op.equalIn 10000 38 (.agg (slotV x2)) (.agg (slotV x2))).run Try.prog W = .ok true W := fun W => by rw [eqSlot, eqS_self]
    have G := egS
    have hp1 := PK.out w2 (Below.refl _ _)
    go_wp2_with (first | ((with_reducible refine wl_gH _ rfl ?_); refine wl_loadHg rfl _ rfl (w.heap.size + 1) rfl H H2.out HHl ?_) | (go_at_call 18; refine hp1.mono ?_; rintro e w3 ⟨rfl, hb3⟩; refine of_stopS ?_))
    unfold StopS
    obtain ⟨w4, hw4⟩ : ∃ w4, w4 = w3.alloc (.cells (slotV x1) 38) := ⟨_, rfl⟩
    have B4 : Hid (Below w2.heap.size w2 w4) := by show Below _ _ _; rw [hw4]; exact below_step hb3 hb3.size ((Below.refl _ _).alloc (Nat.le_refl _) _)
    have X4 : Hid (w4.heap[w3.heap.size]? = some (.cells (slotV x1) 38 (0, 0))) := by show _ = _; rw [hw4]; exact heap_new _ _ _ rfl
    have H4 : Hid (w4.heap[w.heap.size + 1]? = some (.cells (hv H) 34 (0, 0))) := (B4.out.block _ (Array.getElem?_eq_some_iff.1 H2.out).1).trans H2.out
    have N3 : Hid (w2.heap.size ≤ w3.heap.size) := hb3.size
    clear hb3 hp1
    go_wp2_with (first | ((with_reducible refine wl_gA rfl ?_); refine wl_allocS rfl rfl ?_; try rw [sz_alloc]) | ((with_reducible refine wl_gS _ _ rfl ?_); refine wl_storeS rfl _ _ rfl w3.heap.size x1 zeroS rfl rfl (heap_new _ _ _ rfl) _ (setRow_new _ _ _ _ _ rfl) ?_); refine of_stopS ?_)
    unfold StopS
    rw [← hw4]
    clear hw4
    have hl1 := LK.out w4 B4.out
    go_wp2_with (first | ((with_reducible refine wl_gH _ rfl ?_); refine wl_loadHg rfl _ rfl (w.heap.size + 1) rfl H H4.out HHl ?_) | (go_at_call 20; refine hl1.mono ?_; rintro e w5 ⟨rfl, h5⟩; refine of_stopS ?_))
    unfold StopS
    have B45 : Hid (Below w.heap.size w4 w5) := (TabTo.belowB (T2.out.below B4.out) h5).mono HWB.out
    obtain ⟨u1, u2, u3, h51, h52, _⟩ := h5
    have NF : ∀ k, w2.heap.size ≤ k → ¬ footT g v1 v2 v3 k := fun k hk e => by have := (T2.out.foot_in k e).2; omega
    have X5 : Hid (w5.heap[w3.heap.size]? = some (.cells (slotV x1) 38 (0, 0))) := h52.heap X4.out (NF _ N3.out)
    have NH : ¬ footT g v1 v2 v3 (w.heap.size + 1) := T2.out.boxes H2.out (by decide) (by decide)
    have N35 : Hid (w3.heap.size < w5.heap.size) := (Array.getElem?_eq_some_iff.1 X5.out).1
    have H5 : Hid (w5.heap[w.heap.size + 1]? = some (.cells (hv H) 34 (0, 0))) := h52.heap H4.out NH
    have T5 : Hid (TabV B w5 g R S2 u1 u2 u3) := h51
    clear h51 h52 NF NH hl1 X4 H4
    obtain ⟨w6, hw6⟩ : ∃ w6, w6 = w5.alloc (.cells (slotV x2) 38) := ⟨_, rfl⟩
    have B6 : Hid (Below w5.heap.size w5 w6) := by show Below _ _ _; rw [hw6]; exact (Below.refl _ _).alloc (Nat.le_refl _) _
    have Y6 : Hid (w6.heap[w5.heap.size]? = some (.cells (slotV x2) 38 (0, 0))) := by show _ = _; rw [hw6]; exact heap_new _ _ _ rfl
    have H6 : Hid (w6.heap[w.heap.size + 1]? = some (.cells (hv H) 34 (0, 0))) := (B6.out.block _ (Array.getElem?_eq_some_iff.1 H5.out).1).trans H5.out
    have X6 : Hid (w6.heap[w3.heap.size]? = some (.cells (slotV x1) 38 (0, 0))) := (B6.out.block _ (Array.getElem?_eq_some_iff.1 X5.out).1).trans X5.out
    go_wp2_with (first | ((with_reducible refine wl_gA rfl ?_); refine wl_allocS rfl rfl ?_; try rw [sz_alloc]) | ((with_reducible refine wl_gS _ _ rfl ?_); refine wl_storeS rfl _ _ rfl w5.heap.size x2 zeroS rfl rfl (heap_new _ _ _ rfl) _ (setRow_new _ _ _ _ _ rfl) ?_); refine of_stopS ?_)
    unfold StopS
    rw [← hw6]
    clear hw6
    have hp2 := PK2.out w6 u1 u2 u3 (T5.out.below B6.out)
    go_wp2_with (first | ((with_reducible refine wl_gH _ rfl ?_); refine wl_loadHg rfl _ rfl (w.heap.size + 1) rfl H H6.out HHl ?_) | (go_at_call 18; refine hp2.mono ?_; rintro e w7 ⟨rfl, hb7⟩; refine of_stopS ?_))
    unfold StopS
    obtain ⟨w8, hw8⟩ : ∃ w8, w8 = w7.alloc (.cells (slotV x2) 38) := ⟨_, rfl⟩
    have B8 : Hid (Below w6.heap.size w6 w8) := by show Below _ _ _; rw [hw8]; exact below_step hb7 hb7.size ((Below.refl _ _).alloc (Nat.le_refl _) _)
    have Z8 : Hid (w8.heap[w7.heap.size]? = some (.cells (slotV x2) 38 (0, 0))) := by show _ = _; rw [hw8]; exact heap_new _ _ _ rfl
    have X8 : Hid (w8.heap[w3.heap.size]? = some (.cells (slotV x1) 38 (0, 0))) := (B8.out.block _ (Array.getElem?_eq_some_iff.1 X6.out).1).trans X6.out
    have Y8 : Hid (w8.heap[w5.heap.size]? = some (.cells (slotV x2) 38 (0, 0))) := (B8.out.block _ (Array.getElem?_eq_some_iff.1 Y6.out).1).trans Y6.out
    have BF : Hid (Below w.heap.size w w8) := by
      have q1 := below_step B2.out B2.out.size B4.out
      have q2 := q1.trans B45.out
      have q3 := below_step q2 q2.size B6.out
      exact below_step q3 q3.size B8.out
    go_wp2_with (first | ((with_reducible refine wl_gA rfl ?_); refine wl_allocS rfl rfl ?_; try rw [sz_alloc]) | ((with_reducible refine wl_gS _ _ rfl ?_); refine wl_storeS rfl _ _ rfl w7.heap.size x2 zeroS rfl rfl (heap_new _ _ _ rfl) _ (setRow_new _ _ _ _ _ rfl) ?_); refine of_stopS ?_)
    unfold StopS
    rw [← hw8]
    have N8 : Hid (w.heap.size ≤ w3.heap.size) := Nat.le_trans B2.out.size N3.out
    clear hw8 hb7 hp2 B8 X6 Y6 H6 B6 B45 B4 X5 H5 T5
    rcases Bool.eq_false_or_eq_true b1 with hb | hb
    case inr =>
      obtain rfl := PF.out hb
      subst hb
      go_wp2_with (first | ((with_reducible refine wl_gL _ rfl ?_); refine wl_loadS rfl _ rfl w3.heap.size 0 rfl x2 (ld_own X8.out) ?_) | ((with_reducible refine wl_gL _ rfl ?_); refine wl_loadS rfl _ rfl w5.heap.size 0 rfl x2 (ld_own Y8.out) ?_) | ((with_reducible refine wl_gL _ rfl ?_); refine wl_loadS rfl _ rfl w7.heap.size 0 rfl x2 (ld_own Z8.out) ?_))
      go_ret
      exact ⟨by simp, BF.out⟩
    case inl =>
      obtain ⟨hxc0, hxc1⟩ := XC.out hb
      have EX : Hid (x2 = { x1 with count := x1.count + 1, used := if x1.bank = 1 then timeT now else x1.used }) := PT.out hb
      subst hb
      obtain ⟨us, hus⟩ : ∃ us, us = if x1.bank = 1 then timeT now else x1.used := ⟨_, rfl⟩
      rw [← hus] at EX
      have s9 : w8.cell? ⟨w3.heap.size, 34, none⟩ = some (.int .i64 x1.used) := by have := (slf_own X8.out).c34; simpa using this
      have s0 : w8.cell? ⟨w3.heap.size, 0, none⟩ = some (.int .i64 x1.bank) := (slf_own X8.out).c0
      have s35 : w8.cell? ⟨w3.heap.size, 35, none⟩ = some (.int .i64 x1.count) := by have := (slf_own X8.out).c35; simpa using this
      have f35 : w8.frozen? ⟨w3.heap.size, 35, none⟩ = false := by simp [World.frozen?, X8.out]
      have Q9 : Hid ((w8.setCell ⟨w3.heap.size, 35, none⟩ (.int .i64 (x1.count + 1))).heap[w3.heap.size]? = some (.cells (slotV { x1 with count := x1.count + 1 }) 38 (0, 0))) := by show _ = _; rw [slotV_count]; exact heap_setCell_same _ _ _ _ _ _ X8.out
      have s34 : (w8.setCell ⟨w3.heap.size, 35, none⟩ (.int .i64 (x1.count + 1))).cell? ⟨w3.heap.size, 34, none⟩ = some (.int .i64 x1.used) := by have := (slf_own Q9.out).c34; simpa using this
      have f34 : (w8.setCell ⟨w3.heap.size, 35, none⟩ (.int .i64 (x1.count + 1))).frozen? ⟨w3.heap.size, 34, none⟩ = false := by simp [World.frozen?, Q9.out]
      have Q10 : Hid (((w8.setCell ⟨w3.heap.size, 35, none⟩ (.int .i64 (x1.count + 1))).setCell ⟨w3.heap.size, 34, none⟩ (.int .i64 us)).heap[w3.heap.size]? = some (.cells (slotV x2) 38 (0, 0))) := by show _ = _; rw [EX.out, show slotV { x1 with count := x1.count + 1, used := us } = (slotV { x1 with count := x1.count + 1 }).setIfInBounds 34 (.int .i64 us) from slotV_used { x1 with count := x1.count + 1 } us]; exact heap_setCell_same _ _ _ _ _ _ Q9.out
      have N53 : Hid (w5.heap.size ≠ w3.heap.size) := by
        intro e
        have h1 := X8.out
        have h2 := N35.out
        omega
      have Y10 : Hid (((w8.setCell ⟨w3.heap.size, 35, none⟩ (.int .i64 (x1.count + 1))).setCell ⟨w3.heap.size, 34, none⟩ (.int .i64 us)).heap[w5.heap.size]? = some (.cells (slotV x2) 38 (0, 0))) := by show _ = _; rw [heap_setCell_other _ _ _ _ N53.out, heap_setCell_other _ _ _ _ N53.out]; exact Y8.out
      have BF2 : Hid (Below w.heap.size w ((w8.setCell ⟨w3.heap.size, 35, none⟩ (.int .i64 (x1.count + 1))).setCell ⟨w3.heap.size, 34, none⟩ (.int .i64 us))) := (BF.out.setCell N8.out _).setCell N8.out _
      by_cases hbk : x1.bank = 1
      · rw [if_pos hbk] at hus
        subst hus
        rw [hbk] at s0
        clear hbk
        go_wp2_with (first | (go_at_call 21; refine (TI.out _).mono ?_; rintro r w9 ⟨rfl, hw9⟩; rw [hw9]; clear hw9) | ((with_reducible refine wl_gL _ rfl ?_); refine wl_loadS rfl _ rfl w5.heap.size 0 rfl x2 (ld_own Y8.out) ?_) | ((with_reducible refine wl_gL _ rfl ?_); refine wl_loadS rfl _ rfl w5.heap.size 0 rfl x2 (ld_own Y10.out) ?_) | ((with_reducible refine wl_gL _ rfl ?_); refine wl_loadS rfl _ rfl w7.heap.size 0 rfl x2 (ld_own Z8.out) ?_) | ((with_reducible refine wl_gL _ rfl ?_); refine wl_loadS rfl _ rfl w3.heap.size 0 rfl x2 (ld_own Q10.out) ?_))
        go_ret
        exact ⟨by simp, BF2.out⟩
      · rw [if_neg hbk] at hus
        have hbd : (x1.bank == 1) = false := by simpa using hbk
        subst hus
        clear hbk
        go_wp2_with (first | ((with_reducible refine wl_gL _ rfl ?_); refine wl_loadS rfl _ rfl w5.heap.size 0 rfl x2 (ld_own Y8.out) ?_) | ((with_reducible refine wl_gL _ rfl ?_); refine wl_loadS rfl _ rfl w5.heap.size 0 rfl x2 (ld_own Y10.out) ?_) | ((with_reducible refine wl_gL _ rfl ?_); refine wl_loadS rfl _ rfl w7.heap.size 0 rfl x2 (ld_own Z8.out) ?_) | ((with_reducible refine wl_gL _ rfl ?_); refine wl_loadS rfl _ rfl w3.heap.size 0 rfl x2 (ld_own Q10.out) ?_))
        go_ret
        exact ⟨by simp, BF2.out⟩
end Go.Proofs.Ytojhckjdkafpmaa
