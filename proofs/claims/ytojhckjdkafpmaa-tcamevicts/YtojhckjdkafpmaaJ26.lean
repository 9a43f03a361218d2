import Derived.Test.YtojhckjdkafpmaaJ25
import Derived.Test.YtojhckjdkafpmaaJ10
namespace Go.Proofs.Ytojhckjdkafpmaa
open Go Go.RowKit
set_option maxRecDepth 20000

theorem stepT_1 {R : Rm} {S : Bks} {x : ActM} (h : x.kind = 1) : stepT canC hsC R S x = { S with c := (learnT R.cache S.c (newC x.now x.slot.epoch (canC x.slot.cube) x.slot.action)).1 } := by unfold stepT; rw [if_pos h]
theorem stepT_3 {R : Rm} {S : Bks} {x : ActM} (h : x.kind = 3) : stepT canC hsC R S x = (lookT S (mtS hsC x.slot.epoch x.head) x.now).1 := by unfold stepT; rw [if_neg (by omega), if_neg (by omega), if_pos h]
theorem stepT_no {R : Rm} {S : Bks} {x : ActM} (h1 : x.kind ≠ 1) (h2 : x.kind ≠ 2) (h3 : x.kind ≠ 3) (h6 : x.kind ≠ 6) (h7 : x.kind ≠ 7) : stepT canC hsC R S x = S := by unfold stepT; rw [if_neg h1, if_neg h2, if_neg h3, if_neg h6, if_neg h7]
theorem wl_gH2 {P : Program} {ops : Array Oper} {Q : Exit → Act → World → Prop} {o : Oper} {rest : List Oper} {a : Act} {w : World} (x : Operand) (_ : o.op = .load 34 x) (h : wpList P ops Q (o :: rest) a w) : wpList P ops Q (o :: rest) a w := h
set_option maxHeartbeats 16000000 in
theorem does1_any (B n : Nat) (w : World) (g r gr : Nat) (R : Rm) (S : Bks) (L : List Slt) (v1 v2 v3 vl : Value) (h : Pl B n w g r gr R S L v1 v2 v3 vl) (_ : n ≤ 100) (x : ActM) (hk : x.kind = 1) (hc : OkC x.slot.cube) (hH : Byt x.head) :
    Calls Try.prog 11 #[.agg (twoV g r), .agg (actV x)] w fun e w' => e = .returned (.bool true) ∧ PlTo B (n + 1) w w' g r gr R (stepT canC hsC R S x) v1 v2 v3 vl := by
  obtain rfl := h.bk
  have IX : Hid (InvX (n + 1) R (stepT canC hsC R (bks L) x)) := invx_step h.inv x hc
  obtain ⟨rs, hrs⟩ : ∃ rs, rs = (learnT R.cache (bkOf L 1) (newC x.now x.slot.epoch (canC x.slot.cube) x.slot.action)).2.1 := ⟨_, rfl⟩
  obtain ⟨rb, hrb⟩ : ∃ rb, rb = (learnT R.cache (bkOf L 1) (newC x.now x.slot.epoch (canC x.slot.cube) x.slot.action)).2.2.1 := ⟨_, rfl⟩
  obtain ⟨rn, hrn⟩ : ∃ rn, rn = (learnT R.cache (bkOf L 1) (newC x.now x.slot.epoch (canC x.slot.cube) x.slot.action)).2.2.2 := ⟨_, rfl⟩
  obtain ⟨S1, hS1⟩ : ∃ S1, S1 = { bks L with c := (learnT R.cache (bkOf L 1) (newC x.now x.slot.epoch (canC x.slot.cube) x.slot.action)).1 } := ⟨_, rfl⟩
  have ES : Hid (stepT canC hsC R (bks L) x = S1) := by show _ = _; rw [stepT_1 hk, hS1]; rfl
  have HH0 : Hid (Pl B n w g r gr R (bks L) L v1 v2 v3 vl) := h
  have HHl : Hid (x.head.length = 13) := hH.1
  have OW : Hid (∀ W, TabV B W g R (bks L) v1 v2 v3 → Calls Try.prog 22 #[.pointer (some ⟨g, 0, none⟩), .int .i64 x.now, .int .i64 x.slot.epoch, .agg (cv (pad x.slot.cube.1) (pad x.slot.cube.2)), .int .i64 x.slot.action] W fun q w' => q = .returned (.tuple #[.agg (slotV rs), .bool rb, .int .i64 rn]) ∧ TabTo B W w' g R S1 v1 v2 v3) := by
    intro W hW
    rw [hrs, hrb, hrn, hS1]
    exact learn_any B W g R (bks L) v1 v2 v3 hW x.now x.slot.epoch x.slot.cube x.slot.action hc (h.lens 1) h.inv.dist (fun y hy => (h.inv.inv.c y hy).2.2.2.2.2.2.2)
  have RW : Hid (∀ W, RTabV B W r gr R L vl → Calls Try.prog 29 #[.pointer (some ⟨r, 0, none⟩), .int .i64 x.now, .int .i64 x.slot.epoch, .agg (cv (pad x.slot.cube.1) (pad x.slot.cube.2)), .int .i64 x.slot.action] W fun q w' => q = .returned (.tuple #[.agg (slotV rs), .bool rb, .int .i64 rn]) ∧ RDone B W w' r gr R vl S1) := by
    intro W hW
    rw [hrs, hrb, hrn, hS1]
    exact rlearn_any B W r gr R L vl hW x.now x.slot.epoch x.slot.cube x.slot.action hc (fun y hy => by obtain ⟨b, h9⟩ := h.all y hy; exact h9.2.2.2.2.2.2.2) h.len h.ib
  have ER : ∀ W, (Op.equalIn 10000 38 (.agg (slotV rs)) (.agg (slotV rs))).run Try.prog W = .ok true W := fun W => by rw [eqSlot, eqS_self]
  have G := egS
  obtain ⟨w0, hw0⟩ : ∃ w0, w0 = (w.alloc (.cells #[.pointer (some ⟨g, 0, none⟩), .pointer (some ⟨r, 0, none⟩)] 29)).alloc (.cells (actV x) 40) := ⟨_, rfl⟩
  have B0 : Hid (Below w.heap.size w w0) := by show Below _ _ _; rw [hw0]; exact ((Below.refl _ _).alloc (Nat.le_refl _) _).alloc (by simp) _
  have T0 : Hid (w0.heap[w.heap.size]? = some (.cells #[.pointer (some ⟨g, 0, none⟩), .pointer (some ⟨r, 0, none⟩)] 29 (0, 0))) := by show _ = _; rw [hw0]; exact heap_past _ _ _ _ (heap_new _ _ _ rfl)
  have A0 : Hid (w0.heap[w.heap.size + 1]? = some (.cells (actV x) 40 (0, 0))) := by show _ = _; rw [hw0]; exact heap_new _ _ _ (by simp)
  have P0 : Hid (Pl B n w0 g r gr R (bks L) L v1 v2 v3 vl) := h.below B0.out
  have NT : Hid (∀ k, w.heap.size ≤ k → ¬ footT g v1 v2 v3 k) := h.noT
  have NR : Hid (∀ k, w.heap.size ≤ k → ¬ footR r gr vl k) := h.noR
  have HBB : Hid (B ≤ w.heap.size) := h.hB
  have t0 : w0.cell? ⟨w.heap.size, 0, none⟩ = some (.pointer (some ⟨g, 0, none⟩)) := by rw [cell_of_row _ _ _ _ _ _ T0.out]; rfl
  have k0 := (actf_of A0.out).c0
  have k1 := (actf_of A0.out).c1
  have k3 := (actf_of A0.out).c3
  have k32 := (actf_of A0.out).c32
  rw [hk] at k0
  have hl1 := OW.out w0 P0.out.two.t
  clear h hc hH hk hrs hrb hrn hS1 OW
  rw [hw0] at t0 k0 k1 k3 hl1 A0 k32
  unfold twoV
  go_enter Try.func11, Try.ntmps11
  go_wp2_with (first | ((with_reducible refine wl_gC _ rfl ?_); refine wl_loadCw rfl _ rfl (w.heap.size + 1) 6 rfl _ _ _ (pad x.slot.cube.1) (pad x.slot.cube.2) (pad_len _) (pad_len _) A0.out (actV_cube x) ?_) | (go_at_call 22; refine hl1.mono ?_; rintro q w1 ⟨rfl, h1⟩; refine of_stopS ?_))
  unfold StopS
  rw [← hw0] at A0
  clear t0 k0 k1 k3 hl1 k32
  rw [← hw0] at h1
  obtain ⟨u1, u2, u3, hP1⟩ := P0.out.two.own h1
  have Q1 : Hid (TwoTo B w0 w1 g r gr R S1 L v1 v2 v3 vl u1 u2 u3 vl) := hP1
  have P1 : Hid (TwoT B w1 g r gr R S1 L u1 u2 u3 vl) := hP1.two
  have KK := h1.choose_spec.choose_spec.choose_spec.2.1
  have T1 : Hid (w1.heap[w.heap.size]? = some (.cells #[.pointer (some ⟨g, 0, none⟩), .pointer (some ⟨r, 0, none⟩)] 29 (0, 0))) := KK.heap T0.out (NT.out _ (Nat.le_refl _))
  have A1 : Hid (w1.heap[w.heap.size + 1]? = some (.cells (actV x) 40 (0, 0))) := KK.heap A0.out (NT.out _ (by omega))
  clear h1 hP1 KK hw0 T0 A0 P0
  obtain ⟨w2, hw2⟩ : ∃ w2, w2 = w1.alloc (.cells (slotV rs) 38) := ⟨_, rfl⟩
  have X2 : Hid (w2.heap[w1.heap.size]? = some (.cells (slotV rs) 38 (0, 0))) := by show _ = _; rw [hw2]; exact heap_new _ _ _ rfl
  have B2 : Hid (Below w1.heap.size w1 w2) := by show Below _ _ _; rw [hw2]; exact (Below.refl _ _).alloc (Nat.le_refl _) _
  have N1 : Hid (w.heap.size + 1 < w1.heap.size) := (Array.getElem?_eq_some_iff.1 A1.out).1
  have T2 : Hid (w2.heap[w.heap.size]? = some (.cells #[.pointer (some ⟨g, 0, none⟩), .pointer (some ⟨r, 0, none⟩)] 29 (0, 0))) := (B2.out.block _ (Array.getElem?_eq_some_iff.1 T1.out).1).trans T1.out
  have A2 : Hid (w2.heap[w.heap.size + 1]? = some (.cells (actV x) 40 (0, 0))) := (B2.out.block _ N1.out).trans A1.out
  have Q2 : Hid _ := Q1.out.trans (P1.out.stay B2.out)
  have P2 := P1.out.below B2.out
  have P2 : Hid _ := P2
  go_wp2_with (first | ((with_reducible refine wl_gA rfl ?_); refine wl_allocS rfl rfl ?_; try rw [sz_alloc]) | ((with_reducible refine wl_gS _ _ rfl ?_); refine wl_storeS rfl _ _ rfl w1.heap.size rs zeroS rfl rfl (heap_new _ _ _ rfl) _ (setRow_new _ _ _ _ _ rfl) ?_); refine of_stopS ?_)
  unfold StopS
  rw [← hw2]
  clear hw2
  have t1 : w2.cell? ⟨w.heap.size, 1, none⟩ = some (.pointer (some ⟨r, 0, none⟩)) := by rw [cell_of_row _ _ _ _ _ _ T2.out]; rfl
  have k1 := (actf_of A2.out).c1
  have k3 := (actf_of A2.out).c3
  have k32 := (actf_of A2.out).c32
  have hl2 := RW.out w2 P2.out.rt
  go_wp2_with (first | ((with_reducible refine wl_gC _ rfl ?_); refine wl_loadCw rfl _ rfl (w.heap.size + 1) 6 rfl _ _ _ (pad x.slot.cube.1) (pad x.slot.cube.2) (pad_len _) (pad_len _) A2.out (actV_cube x) ?_) | (go_at_call 29; refine hl2.mono ?_; rintro q w3 ⟨rfl, h3⟩; refine of_stopS ?_))
  unfold StopS
  have NX : Hid (¬ footR r gr vl w1.heap.size) := NR.out _ (by have := N1.out; omega)
  obtain ⟨L3, h31, h32, h33⟩ := h3
  obtain ⟨ul, hP3⟩ := P2.out.ref h31
  have Q3 : Hid _ := Q2.out.trans hP3
  have P3 : Hid (TwoT B w3 g r gr R S1 L3 u1 u2 u3 ul) := hP3.two
  have BK : Hid (bks L3 = S1 ∧ InBanks L3) := ⟨h32, h33⟩
  have X3 : Hid (w3.heap[w1.heap.size]? = some (.cells (slotV rs) 38 (0, 0))) := h31.choose_spec.2.1.heap X2.out NX.out
  clear h31 h32 h33 hP3
  clear t1 k1 k3 hl2 T2 A2 X2 P1 P2 k32
  obtain ⟨w4, hw4⟩ : ∃ w4, w4 = w3.alloc (.cells (slotV rs) 38) := ⟨_, rfl⟩
  have Y4 : Hid (w4.heap[w3.heap.size]? = some (.cells (slotV rs) 38 (0, 0))) := by show _ = _; rw [hw4]; exact heap_new _ _ _ rfl
  have B4 : Hid (Below w3.heap.size w3 w4) := by show Below _ _ _; rw [hw4]; exact (Below.refl _ _).alloc (Nat.le_refl _) _
  have X4 : Hid (w4.heap[w1.heap.size]? = some (.cells (slotV rs) 38 (0, 0))) := (B4.out.block _ (Array.getElem?_eq_some_iff.1 X3.out).1).trans X3.out
  have Q4 : Hid _ := (HH0.out.two.stay B0.out).trans (Q3.out.trans (P3.out.stay B4.out))
  have P4 : Hid _ := P3.out.below B4.out
  go_wp2_with (first | ((with_reducible refine wl_gA rfl ?_); refine wl_allocS rfl rfl ?_; try rw [sz_alloc]) | ((with_reducible refine wl_gS _ _ rfl ?_); refine wl_storeS rfl _ _ rfl w3.heap.size rs zeroS rfl rfl (heap_new _ _ _ rfl) _ (setRow_new _ _ _ _ _ rfl) ?_); refine of_stopS ?_)
  unfold StopS
  rw [← hw4]
  clear hw4 X3 B4
  go_wp2_with (first | ((with_reducible refine wl_gL _ rfl ?_); refine wl_loadS rfl _ rfl w1.heap.size 0 rfl rs (ld_own X4.out) ?_) | ((with_reducible refine wl_gL _ rfl ?_); refine wl_loadS rfl _ rfl w3.heap.size 0 rfl rs (ld_own Y4.out) ?_))
  go_ret
  rw [ES.out]
  have IX1 := IX.out
  rw [ES.out] at IX1
  exact ⟨by simp, L3, u1, u2, u3, ul, Q4.out, P4.out, BK.out.1, BK.out.2, IX1, HH0.out.room⟩
set_option maxHeartbeats 16000000 in
theorem does3_any (B n : Nat) (w : World) (g r gr : Nat) (R : Rm) (S : Bks) (L : List Slt) (v1 v2 v3 vl : Value) (h : Pl B n w g r gr R S L v1 v2 v3 vl) (hn : n ≤ 100) (x : ActM) (hk : x.kind = 3) (hc : OkC x.slot.cube) (hH : Byt x.head) :
    Calls Try.prog 11 #[.agg (twoV g r), .agg (actV x)] w fun e w' => e = .returned (.bool true) ∧ PlTo B (n + 1) w w' g r gr R (stepT canC hsC R S x) v1 v2 v3 vl := by
  obtain rfl := h.bk
  have IX : Hid (InvX (n + 1) R (stepT canC hsC R (bks L) x)) := invx_step h.inv x hc
  obtain ⟨rs, hrs⟩ : ∃ rs, rs = (lookT (bks L) (mtS hsC x.slot.epoch x.head) x.now).2.1 := ⟨_, rfl⟩
  obtain ⟨rb, hrb⟩ : ∃ rb, rb = (lookT (bks L) (mtS hsC x.slot.epoch x.head) x.now).2.2 := ⟨_, rfl⟩
  obtain ⟨S1, hS1⟩ : ∃ S1, S1 = (lookT (bks L) (mtS hsC x.slot.epoch x.head) x.now).1 := ⟨_, rfl⟩
  have ES : Hid (stepT canC hsC R (bks L) x = S1) := by show _ = _; rw [stepT_3 hk, hS1]
  have HH0 : Hid (Pl B n w g r gr R (bks L) L v1 v2 v3 vl) := h
  have HHl : Hid (x.head.length = 13) := hH.1
  have OW : Hid (∀ W, TabV B W g R (bks L) v1 v2 v3 → Calls Try.prog 20 #[.pointer (some ⟨g, 0, none⟩), .int .i64 x.now, .int .i64 x.slot.epoch, .agg (hv x.head)] W fun q w' => q = .returned (.tuple #[.agg (slotV rs), .bool rb]) ∧ TabTo B W w' g R S1 v1 v2 v3) := by
    intro W hW
    rw [hrs, hrb, hS1]
    exact look_any B W g R (bks L) v1 v2 v3 hW x.now x.slot.epoch x.head hH h.inv.ord (fun b y hy => by have h9 := h.inv.bank b y hy; exact ⟨h9.2.2.2.2.2.2.2, h9.1, h9.2.1, by have := h9.2.2.1; unfold MAXT; omega⟩)
  have RW : Hid (∀ W, RTabV B W r gr R L vl → Calls Try.prog 31 #[.pointer (some ⟨r, 0, none⟩), .int .i64 x.now, .int .i64 x.slot.epoch, .agg (hv x.head)] W fun q w' => q = .returned (.tuple #[.agg (slotV rs), .bool rb]) ∧ RDone B W w' r gr R vl S1) := by
    intro W hW
    rw [hrs, hrb, hS1]
    exact rlook_any B W r gr R L vl hW x.now x.slot.epoch x.head hH (fun y hy => by obtain ⟨b, h9⟩ := h.all y hy; exact ⟨h9.2.2.2.2.2.2.2, h9.2.1, by have := h9.2.2.1; omega⟩) h.len h.ib
  have ER : ∀ W, (Op.equalIn 10000 38 (.agg (slotV rs)) (.agg (slotV rs))).run Try.prog W = .ok true W := fun W => by rw [eqSlot, eqS_self]
  have G := egS
  obtain ⟨w0, hw0⟩ : ∃ w0, w0 = (w.alloc (.cells #[.pointer (some ⟨g, 0, none⟩), .pointer (some ⟨r, 0, none⟩)] 29)).alloc (.cells (actV x) 40) := ⟨_, rfl⟩
  have B0 : Hid (Below w.heap.size w w0) := by show Below _ _ _; rw [hw0]; exact ((Below.refl _ _).alloc (Nat.le_refl _) _).alloc (by simp) _
  have T0 : Hid (w0.heap[w.heap.size]? = some (.cells #[.pointer (some ⟨g, 0, none⟩), .pointer (some ⟨r, 0, none⟩)] 29 (0, 0))) := by show _ = _; rw [hw0]; exact heap_past _ _ _ _ (heap_new _ _ _ rfl)
  have A0 : Hid (w0.heap[w.heap.size + 1]? = some (.cells (actV x) 40 (0, 0))) := by show _ = _; rw [hw0]; exact heap_new _ _ _ (by simp)
  have P0 : Hid (Pl B n w0 g r gr R (bks L) L v1 v2 v3 vl) := h.below B0.out
  have NT : Hid (∀ k, w.heap.size ≤ k → ¬ footT g v1 v2 v3 k) := h.noT
  have NR : Hid (∀ k, w.heap.size ≤ k → ¬ footR r gr vl k) := h.noR
  have HBB : Hid (B ≤ w.heap.size) := h.hB
  have t0 : w0.cell? ⟨w.heap.size, 0, none⟩ = some (.pointer (some ⟨g, 0, none⟩)) := by rw [cell_of_row _ _ _ _ _ _ T0.out]; rfl
  have k0 := (actf_of A0.out).c0
  have k1 := (actf_of A0.out).c1
  have k3 := (actf_of A0.out).c3
  rw [hk] at k0
  have hl1 := OW.out w0 P0.out.two.t
  clear h hc hH hk hrs hrb hS1 OW
  rw [hw0] at t0 k0 k1 k3 hl1 A0
  unfold twoV
  go_enter Try.func11, Try.ntmps11
  go_wp2_with (first | ((with_reducible refine wl_gH2 _ rfl ?_); refine wl_loadHw rfl _ rfl (w.heap.size + 1) 38 rfl x.head (act_head HHl.out A0.out) ?_) | (go_at_call 20; refine hl1.mono ?_; rintro q w1 ⟨rfl, h1⟩; refine of_stopS ?_))
  unfold StopS
  rw [← hw0] at A0
  clear t0 k0 k1 k3 hl1
  rw [← hw0] at h1
  obtain ⟨u1, u2, u3, hP1⟩ := P0.out.two.own h1
  have Q1 : Hid (TwoTo B w0 w1 g r gr R S1 L v1 v2 v3 vl u1 u2 u3 vl) := hP1
  have P1 : Hid (TwoT B w1 g r gr R S1 L u1 u2 u3 vl) := hP1.two
  have KK := h1.choose_spec.choose_spec.choose_spec.2.1
  have T1 : Hid (w1.heap[w.heap.size]? = some (.cells #[.pointer (some ⟨g, 0, none⟩), .pointer (some ⟨r, 0, none⟩)] 29 (0, 0))) := KK.heap T0.out (NT.out _ (Nat.le_refl _))
  have A1 : Hid (w1.heap[w.heap.size + 1]? = some (.cells (actV x) 40 (0, 0))) := KK.heap A0.out (NT.out _ (by omega))
  clear h1 hP1 KK hw0 T0 A0 P0
  obtain ⟨w2, hw2⟩ : ∃ w2, w2 = w1.alloc (.cells (slotV rs) 38) := ⟨_, rfl⟩
  have X2 : Hid (w2.heap[w1.heap.size]? = some (.cells (slotV rs) 38 (0, 0))) := by show _ = _; rw [hw2]; exact heap_new _ _ _ rfl
  have B2 : Hid (Below w1.heap.size w1 w2) := by show Below _ _ _; rw [hw2]; exact (Below.refl _ _).alloc (Nat.le_refl _) _
  have N1 : Hid (w.heap.size + 1 < w1.heap.size) := (Array.getElem?_eq_some_iff.1 A1.out).1
  have T2 : Hid (w2.heap[w.heap.size]? = some (.cells #[.pointer (some ⟨g, 0, none⟩), .pointer (some ⟨r, 0, none⟩)] 29 (0, 0))) := (B2.out.block _ (Array.getElem?_eq_some_iff.1 T1.out).1).trans T1.out
  have A2 : Hid (w2.heap[w.heap.size + 1]? = some (.cells (actV x) 40 (0, 0))) := (B2.out.block _ N1.out).trans A1.out
  have Q2 : Hid _ := Q1.out.trans (P1.out.stay B2.out)
  have P2 := P1.out.below B2.out
  have P2 : Hid _ := P2
  go_wp2_with (first | ((with_reducible refine wl_gA rfl ?_); refine wl_allocS rfl rfl ?_; try rw [sz_alloc]) | ((with_reducible refine wl_gS _ _ rfl ?_); refine wl_storeS rfl _ _ rfl w1.heap.size rs zeroS rfl rfl (heap_new _ _ _ rfl) _ (setRow_new _ _ _ _ _ rfl) ?_); refine of_stopS ?_)
  unfold StopS
  rw [← hw2]
  clear hw2
  have t1 : w2.cell? ⟨w.heap.size, 1, none⟩ = some (.pointer (some ⟨r, 0, none⟩)) := by rw [cell_of_row _ _ _ _ _ _ T2.out]; rfl
  have k1 := (actf_of A2.out).c1
  have k3 := (actf_of A2.out).c3
  have hl2 := RW.out w2 P2.out.rt
  go_wp2_with (first | ((with_reducible refine wl_gH2 _ rfl ?_); refine wl_loadHw rfl _ rfl (w.heap.size + 1) 38 rfl x.head (act_head HHl.out A2.out) ?_) | (go_at_call 31; refine hl2.mono ?_; rintro q w3 ⟨rfl, h3⟩; refine of_stopS ?_))
  unfold StopS
  have NX : Hid (¬ footR r gr vl w1.heap.size) := NR.out _ (by have := N1.out; omega)
  obtain ⟨L3, h31, h32, h33⟩ := h3
  obtain ⟨ul, hP3⟩ := P2.out.ref h31
  have Q3 : Hid _ := Q2.out.trans hP3
  have P3 : Hid (TwoT B w3 g r gr R S1 L3 u1 u2 u3 ul) := hP3.two
  have BK : Hid (bks L3 = S1 ∧ InBanks L3) := ⟨h32, h33⟩
  have X3 : Hid (w3.heap[w1.heap.size]? = some (.cells (slotV rs) 38 (0, 0))) := h31.choose_spec.2.1.heap X2.out NX.out
  clear h31 h32 h33 hP3
  clear t1 k1 k3 hl2 T2 A2 X2 P1 P2
  obtain ⟨w4, hw4⟩ : ∃ w4, w4 = w3.alloc (.cells (slotV rs) 38) := ⟨_, rfl⟩
  have Y4 : Hid (w4.heap[w3.heap.size]? = some (.cells (slotV rs) 38 (0, 0))) := by show _ = _; rw [hw4]; exact heap_new _ _ _ rfl
  have B4 : Hid (Below w3.heap.size w3 w4) := by show Below _ _ _; rw [hw4]; exact (Below.refl _ _).alloc (Nat.le_refl _) _
  have X4 : Hid (w4.heap[w1.heap.size]? = some (.cells (slotV rs) 38 (0, 0))) := (B4.out.block _ (Array.getElem?_eq_some_iff.1 X3.out).1).trans X3.out
  have Q4 : Hid _ := (HH0.out.two.stay B0.out).trans (Q3.out.trans (P3.out.stay B4.out))
  have P4 : Hid _ := P3.out.below B4.out
  go_wp2_with (first | ((with_reducible refine wl_gA rfl ?_); refine wl_allocS rfl rfl ?_; try rw [sz_alloc]) | ((with_reducible refine wl_gS _ _ rfl ?_); refine wl_storeS rfl _ _ rfl w3.heap.size rs zeroS rfl rfl (heap_new _ _ _ rfl) _ (setRow_new _ _ _ _ _ rfl) ?_); refine of_stopS ?_)
  unfold StopS
  rw [← hw4]
  clear hw4 X3 B4
  go_wp2_with (first | ((with_reducible refine wl_gL _ rfl ?_); refine wl_loadS rfl _ rfl w1.heap.size 0 rfl rs (ld_own X4.out) ?_) | ((with_reducible refine wl_gL _ rfl ?_); refine wl_loadS rfl _ rfl w3.heap.size 0 rfl rs (ld_own Y4.out) ?_))
  go_ret
  rw [ES.out]
  have IX1 := IX.out
  rw [ES.out] at IX1
  exact ⟨by simp, L3, u1, u2, u3, ul, Q4.out, P4.out, BK.out.1, BK.out.2, IX1, HH0.out.room⟩
set_option maxHeartbeats 16000000 in
theorem does4_any (B n : Nat) (w : World) (g r gr : Nat) (R : Rm) (S : Bks) (L : List Slt) (v1 v2 v3 vl : Value) (h : Pl B n w g r gr R S L v1 v2 v3 vl) (_ : n ≤ 100) (x : ActM) (hk : x.kind = 4) (hc : OkC x.slot.cube) (hH : Byt x.head) :
    Calls Try.prog 11 #[.agg (twoV g r), .agg (actV x)] w fun e w' => e = .returned (.bool true) ∧ PlTo B (n + 1) w w' g r gr R (stepT canC hsC R S x) v1 v2 v3 vl := by
  obtain rfl := h.bk
  have IX : Hid (InvX (n + 1) R (stepT canC hsC R (bks L) x)) := invx_step h.inv x hc
  obtain ⟨rs, hrs⟩ : ∃ rs, rs = (peekT (bks L) (mtS hsC x.slot.epoch x.head)).1 := ⟨_, rfl⟩
  obtain ⟨rb, hrb⟩ : ∃ rb, rb = (peekT (bks L) (mtS hsC x.slot.epoch x.head)).2 := ⟨_, rfl⟩
  obtain ⟨S1, hS1⟩ : ∃ S1, S1 = bks L := ⟨_, rfl⟩
  have ES : Hid (stepT canC hsC R (bks L) x = S1) := by show _ = _; rw [stepT_no (by omega) (by omega) (by omega) (by omega) (by omega), hS1]
  have ES4 : Hid (S1 = bks L) := hS1
  have HH0 : Hid (Pl B n w g r gr R (bks L) L v1 v2 v3 vl) := h
  have HHl : Hid (x.head.length = 13) := hH.1
  have OW : Hid (∀ W, TabV B W g R (bks L) v1 v2 v3 → Calls Try.prog 18 #[.pointer (some ⟨g, 0, none⟩), .int .i64 x.slot.epoch, .agg (hv x.head)] W fun q w' => q = .returned (.tuple #[.agg (slotV rs), .bool rb]) ∧ Below W.heap.size W w') := by
    intro W hW
    rw [hrs, hrb]
    exact peek_any B W g R (bks L) v1 v2 v3 hW x.slot.epoch x.head hH h.inv.ord (fun b y hy => (h.inv.bank b y hy).2.2.2.2.2.2.2)
  have RW : Hid (∀ W, RTabV B W r gr R L vl → Calls Try.prog 32 #[.pointer (some ⟨r, 0, none⟩), .int .i64 x.slot.epoch, .agg (hv x.head)] W fun q w' => q = .returned (.tuple #[.agg (slotV rs), .bool rb]) ∧ Below W.heap.size W w') := by
    intro W hW
    rw [hrs, hrb]
    exact rpeek_any B W r gr R L vl hW x.slot.epoch x.head hH (fun y hy => by obtain ⟨b, h9⟩ := h.all y hy; exact h9.2.2.2.2.2.2.2) h.len
  have ER : ∀ W, (Op.equalIn 10000 38 (.agg (slotV rs)) (.agg (slotV rs))).run Try.prog W = .ok true W := fun W => by rw [eqSlot, eqS_self]
  have G := egS
  obtain ⟨w0, hw0⟩ : ∃ w0, w0 = (w.alloc (.cells #[.pointer (some ⟨g, 0, none⟩), .pointer (some ⟨r, 0, none⟩)] 29)).alloc (.cells (actV x) 40) := ⟨_, rfl⟩
  have B0 : Hid (Below w.heap.size w w0) := by show Below _ _ _; rw [hw0]; exact ((Below.refl _ _).alloc (Nat.le_refl _) _).alloc (by simp) _
  have T0 : Hid (w0.heap[w.heap.size]? = some (.cells #[.pointer (some ⟨g, 0, none⟩), .pointer (some ⟨r, 0, none⟩)] 29 (0, 0))) := by show _ = _; rw [hw0]; exact heap_past _ _ _ _ (heap_new _ _ _ rfl)
  have A0 : Hid (w0.heap[w.heap.size + 1]? = some (.cells (actV x) 40 (0, 0))) := by show _ = _; rw [hw0]; exact heap_new _ _ _ (by simp)
  have P0 : Hid (Pl B n w0 g r gr R (bks L) L v1 v2 v3 vl) := h.below B0.out
  have NT : Hid (∀ k, w.heap.size ≤ k → ¬ footT g v1 v2 v3 k) := h.noT
  have NR : Hid (∀ k, w.heap.size ≤ k → ¬ footR r gr vl k) := h.noR
  have HBB : Hid (B ≤ w.heap.size) := h.hB
  have t0 : w0.cell? ⟨w.heap.size, 0, none⟩ = some (.pointer (some ⟨g, 0, none⟩)) := by rw [cell_of_row _ _ _ _ _ _ T0.out]; rfl
  have k0 := (actf_of A0.out).c0
  have k1 := (actf_of A0.out).c1
  have k3 := (actf_of A0.out).c3
  rw [hk] at k0
  have hl1 := OW.out w0 P0.out.two.t
  clear h hc hH hk hrs hrb hS1 OW
  rw [hw0] at t0 k0 k1 k3 hl1 A0
  unfold twoV
  go_enter Try.func11, Try.ntmps11
  go_wp2_with (first | ((with_reducible refine wl_gH2 _ rfl ?_); refine wl_loadHw rfl _ rfl (w.heap.size + 1) 38 rfl x.head (act_head HHl.out A0.out) ?_) | (go_at_call 18; refine hl1.mono ?_; rintro q w1 ⟨rfl, h1⟩; refine of_stopS ?_))
  unfold StopS
  rw [← hw0] at A0
  clear t0 k0 k1 k3 hl1
  rw [← hw0] at h1
  have Q1 : Hid (TwoTo B w0 w1 g r gr R (bks L) L v1 v2 v3 vl v1 v2 v3 vl) := P0.out.two.stay h1
  have P1 : Hid (TwoT B w1 g r gr R (bks L) L v1 v2 v3 vl) := P0.out.two.below h1
  have T1 : Hid (w1.heap[w.heap.size]? = some (.cells #[.pointer (some ⟨g, 0, none⟩), .pointer (some ⟨r, 0, none⟩)] 29 (0, 0))) := (h1.block _ (Array.getElem?_eq_some_iff.1 T0.out).1).trans T0.out
  have A1 : Hid (w1.heap[w.heap.size + 1]? = some (.cells (actV x) 40 (0, 0))) := (h1.block _ (Array.getElem?_eq_some_iff.1 A0.out).1).trans A0.out
  clear h1 hw0 T0 A0 P0
  obtain ⟨w2, hw2⟩ : ∃ w2, w2 = w1.alloc (.cells (slotV rs) 38) := ⟨_, rfl⟩
  have X2 : Hid (w2.heap[w1.heap.size]? = some (.cells (slotV rs) 38 (0, 0))) := by show _ = _; rw [hw2]; exact heap_new _ _ _ rfl
  have B2 : Hid (Below w1.heap.size w1 w2) := by show Below _ _ _; rw [hw2]; exact (Below.refl _ _).alloc (Nat.le_refl _) _
  have N1 : Hid (w.heap.size + 1 < w1.heap.size) := (Array.getElem?_eq_some_iff.1 A1.out).1
  have T2 : Hid (w2.heap[w.heap.size]? = some (.cells #[.pointer (some ⟨g, 0, none⟩), .pointer (some ⟨r, 0, none⟩)] 29 (0, 0))) := (B2.out.block _ (Array.getElem?_eq_some_iff.1 T1.out).1).trans T1.out
  have A2 : Hid (w2.heap[w.heap.size + 1]? = some (.cells (actV x) 40 (0, 0))) := (B2.out.block _ N1.out).trans A1.out
  have Q2 : Hid _ := Q1.out.trans (P1.out.stay B2.out)
  have P2 := P1.out.below B2.out
  have P2 : Hid _ := P2
  go_wp2_with (first | ((with_reducible refine wl_gA rfl ?_); refine wl_allocS rfl rfl ?_; try rw [sz_alloc]) | ((with_reducible refine wl_gS _ _ rfl ?_); refine wl_storeS rfl _ _ rfl w1.heap.size rs zeroS rfl rfl (heap_new _ _ _ rfl) _ (setRow_new _ _ _ _ _ rfl) ?_); refine of_stopS ?_)
  unfold StopS
  rw [← hw2]
  clear hw2
  have t1 : w2.cell? ⟨w.heap.size, 1, none⟩ = some (.pointer (some ⟨r, 0, none⟩)) := by rw [cell_of_row _ _ _ _ _ _ T2.out]; rfl
  have k1 := (actf_of A2.out).c1
  have k3 := (actf_of A2.out).c3
  have hl2 := RW.out w2 P2.out.rt
  go_wp2_with (first | ((with_reducible refine wl_gH2 _ rfl ?_); refine wl_loadHw rfl _ rfl (w.heap.size + 1) 38 rfl x.head (act_head HHl.out A2.out) ?_) | (go_at_call 32; refine hl2.mono ?_; rintro q w3 ⟨rfl, h3⟩; refine of_stopS ?_))
  unfold StopS
  have NX : Hid (¬ footR r gr vl w1.heap.size) := NR.out _ (by have := N1.out; omega)
  have Q3 : Hid _ := Q2.out.trans (P2.out.stay h3)
  have P3 : Hid (TwoT B w3 g r gr R (bks L) L v1 v2 v3 vl) := P2.out.below h3
  have X3 : Hid (w3.heap[w1.heap.size]? = some (.cells (slotV rs) 38 (0, 0))) := (h3.block _ (Array.getElem?_eq_some_iff.1 X2.out).1).trans X2.out
  clear h3
  clear t1 k1 k3 hl2 T2 A2 X2 P1 P2
  obtain ⟨w4, hw4⟩ : ∃ w4, w4 = w3.alloc (.cells (slotV rs) 38) := ⟨_, rfl⟩
  have Y4 : Hid (w4.heap[w3.heap.size]? = some (.cells (slotV rs) 38 (0, 0))) := by show _ = _; rw [hw4]; exact heap_new _ _ _ rfl
  have B4 : Hid (Below w3.heap.size w3 w4) := by show Below _ _ _; rw [hw4]; exact (Below.refl _ _).alloc (Nat.le_refl _) _
  have X4 : Hid (w4.heap[w1.heap.size]? = some (.cells (slotV rs) 38 (0, 0))) := (B4.out.block _ (Array.getElem?_eq_some_iff.1 X3.out).1).trans X3.out
  have Q4 : Hid _ := (HH0.out.two.stay B0.out).trans (Q3.out.trans (P3.out.stay B4.out))
  have P4 : Hid _ := P3.out.below B4.out
  go_wp2_with (first | ((with_reducible refine wl_gA rfl ?_); refine wl_allocS rfl rfl ?_; try rw [sz_alloc]) | ((with_reducible refine wl_gS _ _ rfl ?_); refine wl_storeS rfl _ _ rfl w3.heap.size rs zeroS rfl rfl (heap_new _ _ _ rfl) _ (setRow_new _ _ _ _ _ rfl) ?_); refine of_stopS ?_)
  unfold StopS
  rw [← hw4]
  clear hw4 X3 B4
  go_wp2_with (first | ((with_reducible refine wl_gL _ rfl ?_); refine wl_loadS rfl _ rfl w1.heap.size 0 rfl rs (ld_own X4.out) ?_) | ((with_reducible refine wl_gL _ rfl ?_); refine wl_loadS rfl _ rfl w3.heap.size 0 rfl rs (ld_own Y4.out) ?_))
  go_ret
  rw [ES.out]
  have IX1 := IX.out
  rw [ES.out] at IX1
  exact ⟨by simp, L, v1, v2, v3, vl, by rw [ES4.out]; exact Q4.out, by rw [ES4.out]; exact P4.out, ES4.out.symm, HH0.out.ib, IX1, HH0.out.room⟩
set_option maxHeartbeats 4000000 in
theorem does0_any (B n : Nat) (w : World) (g r gr : Nat) (R : Rm) (S : Bks) (L : List Slt) (v1 v2 v3 vl : Value) (h : Pl B n w g r gr R S L v1 v2 v3 vl) (x : ActM) (hc : OkC x.slot.cube) (h1 : x.kind ≠ 1) (h2 : x.kind ≠ 2) (h3 : x.kind ≠ 3) (h4 : x.kind ≠ 4) (h5 : x.kind ≠ 5) (h6 : x.kind ≠ 6) (h7 : x.kind ≠ 7) :
    Calls Try.prog 11 #[.agg (twoV g r), .agg (actV x)] w fun e w' => e = .returned (.bool true) ∧ PlTo B (n + 1) w w' g r gr R (stepT canC hsC R S x) v1 v2 v3 vl := by
  have IX : Hid (InvX (n + 1) R (stepT canC hsC R S x)) := invx_step h.inv x hc
  have ES : Hid (stepT canC hsC R S x = S) := stepT_no h1 h2 h3 h6 h7
  obtain ⟨w0, hw0⟩ : ∃ w0, w0 = (w.alloc (.cells #[.pointer (some ⟨g, 0, none⟩), .pointer (some ⟨r, 0, none⟩)] 29)).alloc (.cells (actV x) 40) := ⟨_, rfl⟩
  have B0 : Hid (Below w.heap.size w w0) := by show Below _ _ _; rw [hw0]; exact ((Below.refl _ _).alloc (Nat.le_refl _) _).alloc (by simp) _
  have A0 : Hid (w0.heap[w.heap.size + 1]? = some (.cells (actV x) 40 (0, 0))) := by show _ = _; rw [hw0]; exact heap_new _ _ _ (by simp)
  have k0 := (actf_of A0.out).c0
  have HH0 : Hid (Pl B n w g r gr R S L v1 v2 v3 vl) := h
  have d1 : (x.kind == 1) = false := by simpa using h1
  have d2 : (x.kind == 2) = false := by simpa using h2
  have d3 : (x.kind == 3) = false := by simpa using h3
  have d4 : (x.kind == 4) = false := by simpa using h4
  have d5 : (x.kind == 5) = false := by simpa using h5
  have d6 : (x.kind == 6) = false := by simpa using h6
  have d7 : (x.kind == 7) = false := by simpa using h7
  obtain ⟨kd, hkd⟩ : ∃ kd, kd = x.kind := ⟨_, rfl⟩
  rw [← hkd] at k0 d1 d2 d3 d4 d5 d6 d7
  clear h hc h1 h2 h3 h4 h5 h6 h7 hkd
  rw [hw0] at k0 B0
  clear hw0 A0
  unfold twoV
  go_enter Try.func11, Try.ntmps11
  go_wp2_with fail
  go_ret
  have IX1 := IX.out
  rw [ES.out] at IX1
  rw [ES.out]
  exact ⟨by simp, L, v1, v2, v3, vl, HH0.out.two.stay B0.out, HH0.out.two.below B0.out, HH0.out.bk, HH0.out.ib, IX1, HH0.out.room⟩
end Go.Proofs.Ytojhckjdkafpmaa
namespace Go.Proofs.Ytojhckjdkafpmaa
open Go Go.RowKit
set_option maxRecDepth 20000

set_option maxHeartbeats 8000000 in
/-- Two lists alike. -/
theorem rsameT_any (C : List Slt) (va vb : Value) (w : World) (ha : GSl SlotE slotV w va C) (hb : GSl SlotE slotV w vb C) (hn : C.length ≤ 1000000) :
    Calls Try.prog 16 #[va, vb] w fun e w' => e = .returned (.bool true) ∧ Below w.heap.size w w' := by
  obtain ⟨o, cap, rfl, hc1, hc2⟩ := GSl.slice ha
  obtain ⟨o', cap', rfl, hc1', hc2'⟩ := GSl.slice hb
  obtain ⟨n, hn0⟩ : ∃ n, n = C.length := ⟨_, rfl⟩
  rw [← hn0] at ha hb hc1 hc1' hn ⊢
  have HA : Hid (GSl SlotE slotV w (.slice o n cap) C) := ha
  have HB' : Hid (GSl SlotE slotV w (.slice o' n cap') C) := hb
  unfold maxLen at hc2 hc2'
  clear ha hb hn0
  go_enter Try.func16, Try.ntmps16
  go_wp2_with fail
  go_loopw [5] (fun i wr => ∃ k : Nat, k ≤ n ∧ i = .int .i64 (k : Int) ∧ Hid (Below w.heap.size w wr)) (fun i _ => n - (intOf i).toNat)
  case atStart => exact ⟨0, Nat.zero_le _, rfl, Below.refl _ _⟩
  case round =>
    obtain ⟨k, hk, rfl, HB⟩ := hrel
    by_cases hlt : k < n
    · have hlt' : (k : Int) < (n : Int) := by omega
      obtain ⟨g, off, cur, ty, fr, x, rfl, hg, hcc, hxk⟩ := (GSl.below HA.out HB.out).at k hlt
      obtain ⟨g', off', cur', ty', fr', y, rfl, hg', hcc', hyk⟩ := (GSl.below HB'.out HB.out).at k hlt
      obtain rfl : x = y := by rw [hxk] at hyk; exact Option.some.inj hyk
      have K1 : Hid (wr.heap[g]? = some (.cells cur ty fr)) := hg
      have H1 : Hid (∀ j, j < 36 → cur[off + k * 36 + j]? = (slotV x)[j]?) := hcc
      have K2 : Hid (wr.heap[g']? = some (.cells cur' ty' fr')) := hg'
      have H2 : Hid (∀ j, j < 36 → cur'[off' + k * 36 + j]? = (slotV x)[j]?) := hcc'
      have E : ∀ W, (Op.equalIn 10000 38 (.agg (slotV x)) (.agg (slotV x))).run Try.prog W = .ok true W := fun W => by rw [eqSlot, eqS_self]
      have G := egS
      have ne1 := Later.ne wr
      clear hg hcc hg' hcc' hxk hyk
      go_wp2_with fail
      refine wp_region_later (by kernel_rfl) (by kernel_rfl) ?_
      go_big_quiet_step (rfl)
      go_big_quiet_step (rfl)
      go_big_quiet_step (rfl)
      refine qlE (E := SlotE) SlotOk rfl _ rfl g (off + k * 36) rfl cur ty fr (slotV x) (slotV_size x) (later_block K1.out) H1.out ?_
      simp only [Act.put, List.setIfInBounds_toArray, List.set_cons_succ, List.set_cons_zero]
      go_big_quiet_step (rfl)
      go_big_quiet_step (rfl)
      go_big_quiet_step (rfl)
      refine qlE (E := SlotE) SlotOk rfl _ rfl g' (off' + k * 36) rfl cur' ty' fr' (slotV x) (slotV_size x) (later_block K2.out) H2.out ?_
      simp only [Act.put, List.setIfInBounds_toArray, List.set_cons_succ, List.set_cons_zero]
      go_big_quiet_step (rfl)
      refine wpQuiet_nil ?_
      rintro w' ⟨u, rfl⟩
      go_wp2_with fail
      go_roundw
      case rel => exact ⟨k + 1, by omega, by go_num, below_step HB.out HB.out.size u.below⟩
      case measure => simp [intOf]; omega
    · have hlt' : ¬ (k : Int) < (n : Int) := by omega
      go_wp2_with fail
      go_ret
      exact ⟨rfl, HB.out⟩
end Go.Proofs.Ytojhckjdkafpmaa
