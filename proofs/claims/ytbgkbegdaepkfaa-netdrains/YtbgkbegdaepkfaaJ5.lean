import Derived.Test.YtbgkbegdaepkfaaJ4
import Derived.Test.YtbgkbegdaepkfaaJ1
import Derived.Deep.Slices
import Derived.SizedLaws
import Derived.Test.YtbgkbegdaepkfaaJ2
import Derived.Laws.CopyRow
namespace Go.Proofs.Ytbgkbegdaepkfaa
open Go Go.RowKit
set_option maxRecDepth 20000

set_option maxHeartbeats 16000000 in
theorem plays1_any (B : Nat) (w : World) (g r : Nat) (n : NetM) (vs : List Value) (v : Value) (h : TwM B w g r n n vs v) (hi : NetIn n) (hl : n.last < 1000000000000) (hf : n.row.length ≤ 900000) (x : ActN) (hx : OkActN x) (hk : x.kind = 1) :
    Calls Try.prog 10 #[.pointer (some ⟨g, 0, none⟩), .pointer (some ⟨r, 0, none⟩), .agg (actN x)] w fun e w' => e = .returned (.bool true) ∧ TwTo B w w' g r (sendN n x.src x.dst x.data.data.toList).1 (sendN n x.src x.dst x.data.data.toList).1 vs v := by
  obtain ⟨rs, hrs⟩ : ∃ rs, rs = (sendN n x.src x.dst x.data.data.toList).2 := ⟨_, rfl⟩
  obtain ⟨n1, hn1⟩ : ∃ n1, n1 = (sendN n x.src x.dst x.data.data.toList).1 := ⟨_, rfl⟩
  have OW : Hid (∀ W vs, NetV B W g n vs → Calls Try.prog 16 #[.pointer (some ⟨g, 0, none⟩), .int .i64 x.src, .int .i64 x.dst, .string x.data] W fun e w' => e = .returned (.int .i64 rs) ∧ NetTo B W w' g n1 vs) := by
    intro W vs hW
    rw [hrs, hn1]
    exact send_any B W g n vs hW hi x.src x.dst x.data hx hl
  have RW : Hid (∀ W v, RNetV B W r n v → Calls Try.prog 20 #[.pointer (some ⟨r, 0, none⟩), .int .i64 x.src, .int .i64 x.dst, .string x.data] W fun e w' => e = .returned (.int .i64 rs) ∧ RNetTo B W w' r n1 v) := by
    intro W v hW
    rw [hrs, hn1]
    exact rsend_any B W r n v hW hf x.src x.dst x.data
  rw [← hn1]
  obtain ⟨w0, hw0⟩ : ∃ w0, w0 = w.alloc (.cells (actN x) 33) := ⟨_, rfl⟩
  have B0 : Hid (Below w.heap.size w w0) := by show Below _ _ _; rw [hw0]; exact (Below.refl _ _).alloc (Nat.le_refl _) _
  have A0 : Hid (w0.heap[w.heap.size]? = some (.cells (actN x) 33 (0, 0))) := by show _ = _; rw [hw0]; exact heap_new _ _ _ rfl
  have P0 : Hid (TwM B (World.drew w0) g r n n vs v) := h.below B0.out.drew
  have NF : Hid (¬ footTw g r vs v w.heap.size) := fun e => by have := (h.foot _ e).2; omega
  have HH : Hid (TwM B w g r n n vs v) := h
  have k0 := (actfn_of (off := 0) A0.out (fun j _ => by rw [Nat.zero_add])).c0
  rw [hk] at k0
  rw [hw0] at k0
  clear h hi hl hf hrs hn1 hk
  go_enter Try.func10, Try.ntmps10
  go_wp2_with fail
  rw [← hw0]
  clear hw0 k0
  refine region_cut (fun a a' w' => ∃ y19 y20 y21 y22 y23 y24 y25 y26 y27 y28 y29 y30 y31 y32 y33 y34 y35, a' = ((((((((((((((((((a.put (some 19) y19).put (some 20) y20).put (some 21) y21).put (some 22) y22).put (some 23) y23).put (some 24) y24).put (some 25) y25).put (some 26) y26).put (some 27) y27).put (some 28) y28).put (some 29) y29).put (some 30) y30).put (some 31) y31).put (some 32) y32).put (some 33) y33).put (some 34) y34).put (some 35) y35).put (some 6) (.bool true)) ∧ TwTo B (World.drew w0) w' g r n1 n1 vs v) ?_ ?_
  · have ne9 : Nonempty (KeepB w.heap.size (.cells (actN x) 33 (0, 0))) := ⟨⟨w0, A0.out⟩⟩
    have e1 : ∀ z : KeepB w.heap.size (.cells (actN x) 33 (0, 0)), z.world.cell? ⟨w.heap.size, 1, none⟩ = some (.int .i64 x.src) := fun z => (actfn_of (off := 0) z.k1 (fun j _ => by rw [Nat.zero_add])).c1
    have e2 : ∀ z : KeepB w.heap.size (.cells (actN x) 33 (0, 0)), z.world.cell? ⟨w.heap.size, 2, none⟩ = some (.int .i64 x.dst) := fun z => (actfn_of (off := 0) z.k1 (fun j _ => by rw [Nat.zero_add])).c2
    have e4 : ∀ z : KeepB w.heap.size (.cells (actN x) 33 (0, 0)), z.world.cell? ⟨w.heap.size, 4, none⟩ = some (.string x.data) := fun z => (actfn_of (off := 0) z.k1 (fun j _ => by rw [Nat.zero_add])).c4
    refine region_beginS (InB w.heap.size (.cells (actN x) 33 (0, 0))) 18 rfl (by kernel_rfl) ?_
    refine region_reads 0 7 11 rfl (by kernel_rfl) (by kernel_rfl) (by kernel_rfl) (by intro d v c a w h; exact absurd h.1 (by simp)) (InB.of (w := World.drew w0) A0.out) ?_
    simp only [List.drop_zero, List.take_succ_cons, List.take_zero]
    go_big_quiet_step (rfl)
    go_big_quiet_step (rfl)
    repeat go_big_quiet_step (rfl)
    refine wpQuiet_nil ?_
    refine region_reads 8 7 4 rfl (by kernel_rfl) (by kernel_rfl) (by kernel_rfl) (by intro d v c a w h; exact absurd h.1 (by simp)) (InB.of (w := World.drew w0) A0.out) ?_
    simp only [List.drop_succ_cons, List.drop_zero, List.take_succ_cons, List.take_zero]
    go_big_quiet_step (rfl)
    go_big_quiet_step (rfl)
    repeat go_big_quiet_step (rfl)
    refine wpQuiet_nil ?_
    refine wpAnyH_all (rs := [7]) (by kernel_rfl) (by decide) ?_
    intro i hi
    obtain rfl := List.mem_singleton.1 hi
    refine wpOp_call rfl rfl 16 #[.tmp 19, .tmp 21, .tmp 23, .tmp 25] (by intro b w; have hf := Try.func16; simp [go_sem]) #[.pointer (some ⟨g, 0, none⟩), .int .i64 x.src, .int .i64 x.dst, .string x.data] rfl (fun u w' => u = .int .i64 rs ∧ NetTo B (World.drew w0) w' g n1 vs) ((OW.out _ _ P0.out.o).mono fun e w' h => ⟨_, h.1, rfl, h.2⟩) (some 26) rfl ?_
    rintro u x1 ⟨rfl, h1⟩
    have Q1 := P0.out.own h1
    have AX1 := Q1.heap A0.out NF.out
    refine ⟨InB.of AX1, ?_⟩
    simp only [Act.put, List.setIfInBounds_toArray, List.set_cons_succ, List.set_cons_zero]
    refine wpAnyH_all (rs := [15]) (by kernel_rfl) (by decide) ?_
    intro i hi
    obtain rfl := List.mem_singleton.1 hi
    obtain ⟨us, u, hM, hF⟩ := Q1
    refine wpOp_call rfl rfl 20 #[.tmp 27, .tmp 29, .tmp 31, .tmp 33] (by intro b w; have hf := Try.func20; simp [go_sem]) #[.pointer (some ⟨r, 0, none⟩), .int .i64 x.src, .int .i64 x.dst, .string x.data] rfl (fun z w' => z = .int .i64 rs ∧ RNetTo B x1 w' r n1 u) ((RW.out _ _ hM.f).mono fun e w' h => ⟨_, h.1, rfl, h.2⟩) (some 34) rfl ?_
    rintro z x2 ⟨rfl, h2⟩
    have Q2 : TwTo B (World.drew w0) x2 g r n1 n1 vs v := by
      obtain ⟨xs, y, hM2, hF2⟩ := hM.ref h2
      exact ⟨xs, y, hM2, hF.trans hF2⟩
    have AX2 := Q2.heap A0.out NF.out
    refine ⟨InB.of AX2, ?_⟩
    simp only [Act.put, List.setIfInBounds_toArray, List.set_cons_succ, List.set_cons_zero]
    refine wpAnyH_all (rs := [16]) (by kernel_rfl) (by decide) ?_
    intro i hi
    obtain rfl := List.mem_singleton.1 hi
    refine wpOp_val (w' := x2) rfl rfl (.bool true) (by simp [go_sem]) (some 35) rfl ?_
    refine ⟨InB.of AX2, ?_⟩
    simp only [Act.put, List.setIfInBounds_toArray, List.set_cons_succ, List.set_cons_zero]
    refine wpAnyH_all (rs := [17]) (by kernel_rfl) (by decide) ?_
    intro i hi
    obtain rfl := List.mem_singleton.1 hi
    refine wpOp_assign rfl rfl _ rfl _ rfl (some 6) rfl ?_
    refine ⟨InB.of AX2, ?_⟩
    refine wpAnyH_done (by kernel_rfl) ?_ _
    exact ⟨rfl, _, _, _, _, _, _, _, _, _, _, _, _, _, _, _, _, _, rfl, Q2⟩
  rintro a' w' ⟨y19, y20, y21, y22, y23, y24, y25, y26, y27, y28, y29, y30, y31, y32, y33, y34, y35, rfl, hP⟩
  have QQ : Hid (TwTo B w w' g r n1 n1 vs v) := TwTo.pre B0.out.drew hP
  clear hP
  simp only [Act.put, List.setIfInBounds_toArray, List.set_cons_succ, List.set_cons_zero]
  go_wp2_with fail
  go_ret
  exact ⟨rfl, QQ.out⟩
set_option maxHeartbeats 16000000 in
theorem plays3_any (B : Nat) (w : World) (g r : Nat) (n : NetM) (vs : List Value) (v : Value) (h : TwM B w g r n n vs v) (hi : NetIn n) (hl : n.last < 1000000000000) (hf : n.row.length ≤ 900000) (x : ActN) (hk : x.kind = 3) :
    Calls Try.prog 10 #[.pointer (some ⟨g, 0, none⟩), .pointer (some ⟨r, 0, none⟩), .agg (actN x)] w fun e w' => e = .returned (.bool true) ∧ TwTo B w w' g r (twiceN n x.src x.dst x.pl).1 (twiceN n x.src x.dst x.pl).1 vs v := by
  obtain ⟨rs, hrs⟩ : ∃ rs, rs = (twiceN n x.src x.dst x.pl).2 := ⟨_, rfl⟩
  obtain ⟨n1, hn1⟩ : ∃ n1, n1 = (twiceN n x.src x.dst x.pl).1 := ⟨_, rfl⟩
  have OW : Hid (∀ W vs, NetV B W g n vs → Calls Try.prog 18 #[.pointer (some ⟨g, 0, none⟩), .int .i64 x.src, .int .i64 x.dst, .int .i64 x.pl] W fun e w' => e = .returned (.int .i64 rs) ∧ NetTo B W w' g n1 vs) := by
    intro W vs hW
    rw [hrs, hn1]
    exact twice_any B W g n vs hW hi x.src x.dst x.pl hl
  have RW : Hid (∀ W v, RNetV B W r n v → Calls Try.prog 22 #[.pointer (some ⟨r, 0, none⟩), .int .i64 x.src, .int .i64 x.dst, .int .i64 x.pl] W fun e w' => e = .returned (.int .i64 rs) ∧ RNetTo B W w' r n1 v) := by
    intro W v hW
    rw [hrs, hn1]
    exact rtwice_any B W r n v hW hf x.src x.dst x.pl
  rw [← hn1]
  obtain ⟨w0, hw0⟩ : ∃ w0, w0 = w.alloc (.cells (actN x) 33) := ⟨_, rfl⟩
  have B0 : Hid (Below w.heap.size w w0) := by show Below _ _ _; rw [hw0]; exact (Below.refl _ _).alloc (Nat.le_refl _) _
  have A0 : Hid (w0.heap[w.heap.size]? = some (.cells (actN x) 33 (0, 0))) := by show _ = _; rw [hw0]; exact heap_new _ _ _ rfl
  have P0 : Hid (TwM B (World.drew w0) g r n n vs v) := h.below B0.out.drew
  have NF : Hid (¬ footTw g r vs v w.heap.size) := fun e => by have := (h.foot _ e).2; omega
  have HH : Hid (TwM B w g r n n vs v) := h
  have k0 := (actfn_of (off := 0) A0.out (fun j _ => by rw [Nat.zero_add])).c0
  rw [hk] at k0
  rw [hw0] at k0
  clear h hi hl hf hrs hn1 hk
  go_enter Try.func10, Try.ntmps10
  go_wp2_with fail
  rw [← hw0]
  clear hw0 k0
  refine region_cut (fun a a' w' => ∃ y70 y71 y72 y73 y74 y75 y76 y77 y78 y79 y80 y81 y82 y83 y84 y85 y86, a' = ((((((((((((((((((a.put (some 70) y70).put (some 71) y71).put (some 72) y72).put (some 73) y73).put (some 74) y74).put (some 75) y75).put (some 76) y76).put (some 77) y77).put (some 78) y78).put (some 79) y79).put (some 80) y80).put (some 81) y81).put (some 82) y82).put (some 83) y83).put (some 84) y84).put (some 85) y85).put (some 86) y86).put (some 6) (.bool true)) ∧ TwTo B (World.drew w0) w' g r n1 n1 vs v) ?_ ?_
  · have ne9 : Nonempty (KeepB w.heap.size (.cells (actN x) 33 (0, 0))) := ⟨⟨w0, A0.out⟩⟩
    have e1 : ∀ z : KeepB w.heap.size (.cells (actN x) 33 (0, 0)), z.world.cell? ⟨w.heap.size, 1, none⟩ = some (.int .i64 x.src) := fun z => (actfn_of (off := 0) z.k1 (fun j _ => by rw [Nat.zero_add])).c1
    have e2 : ∀ z : KeepB w.heap.size (.cells (actN x) 33 (0, 0)), z.world.cell? ⟨w.heap.size, 2, none⟩ = some (.int .i64 x.dst) := fun z => (actfn_of (off := 0) z.k1 (fun j _ => by rw [Nat.zero_add])).c2
    have e3 : ∀ z : KeepB w.heap.size (.cells (actN x) 33 (0, 0)), z.world.cell? ⟨w.heap.size, 3, none⟩ = some (.int .i64 x.pl) := fun z => (actfn_of (off := 0) z.k1 (fun j _ => by rw [Nat.zero_add])).c3
    refine region_beginS (InB w.heap.size (.cells (actN x) 33 (0, 0))) 18 rfl (by kernel_rfl) ?_
    refine region_reads 0 7 11 rfl (by kernel_rfl) (by kernel_rfl) (by kernel_rfl) (by intro d v c a w h; exact absurd h.1 (by simp)) (InB.of (w := World.drew w0) A0.out) ?_
    simp only [List.drop_zero, List.take_succ_cons, List.take_zero]
    go_big_quiet_step (rfl)
    go_big_quiet_step (rfl)
    repeat go_big_quiet_step (rfl)
    refine wpQuiet_nil ?_
    refine region_reads 8 7 4 rfl (by kernel_rfl) (by kernel_rfl) (by kernel_rfl) (by intro d v c a w h; exact absurd h.1 (by simp)) (InB.of (w := World.drew w0) A0.out) ?_
    simp only [List.drop_succ_cons, List.drop_zero, List.take_succ_cons, List.take_zero]
    go_big_quiet_step (rfl)
    go_big_quiet_step (rfl)
    repeat go_big_quiet_step (rfl)
    refine wpQuiet_nil ?_
    refine wpAnyH_all (rs := [7]) (by kernel_rfl) (by decide) ?_
    intro i hi
    obtain rfl := List.mem_singleton.1 hi
    refine wpOp_call rfl rfl 18 #[.tmp 70, .tmp 72, .tmp 74, .tmp 76] (by intro b w; have hf := Try.func18; simp [go_sem]) #[.pointer (some ⟨g, 0, none⟩), .int .i64 x.src, .int .i64 x.dst, .int .i64 x.pl] rfl (fun u w' => u = .int .i64 rs ∧ NetTo B (World.drew w0) w' g n1 vs) ((OW.out _ _ P0.out.o).mono fun e w' h => ⟨_, h.1, rfl, h.2⟩) (some 77) rfl ?_
    rintro u x1 ⟨rfl, h1⟩
    have Q1 := P0.out.own h1
    have AX1 := Q1.heap A0.out NF.out
    refine ⟨InB.of AX1, ?_⟩
    simp only [Act.put, List.setIfInBounds_toArray, List.set_cons_succ, List.set_cons_zero]
    refine wpAnyH_all (rs := [15]) (by kernel_rfl) (by decide) ?_
    intro i hi
    obtain rfl := List.mem_singleton.1 hi
    obtain ⟨us, u, hM, hF⟩ := Q1
    refine wpOp_call rfl rfl 22 #[.tmp 78, .tmp 80, .tmp 82, .tmp 84] (by intro b w; have hf := Try.func22; simp [go_sem]) #[.pointer (some ⟨r, 0, none⟩), .int .i64 x.src, .int .i64 x.dst, .int .i64 x.pl] rfl (fun z w' => z = .int .i64 rs ∧ RNetTo B x1 w' r n1 u) ((RW.out _ _ hM.f).mono fun e w' h => ⟨_, h.1, rfl, h.2⟩) (some 85) rfl ?_
    rintro z x2 ⟨rfl, h2⟩
    have Q2 : TwTo B (World.drew w0) x2 g r n1 n1 vs v := by
      obtain ⟨xs, y, hM2, hF2⟩ := hM.ref h2
      exact ⟨xs, y, hM2, hF.trans hF2⟩
    have AX2 := Q2.heap A0.out NF.out
    refine ⟨InB.of AX2, ?_⟩
    simp only [Act.put, List.setIfInBounds_toArray, List.set_cons_succ, List.set_cons_zero]
    refine wpAnyH_all (rs := [16]) (by kernel_rfl) (by decide) ?_
    intro i hi
    obtain rfl := List.mem_singleton.1 hi
    refine wpOp_val (w' := x2) rfl rfl (.bool true) (by simp [go_sem]) (some 86) rfl ?_
    refine ⟨InB.of AX2, ?_⟩
    simp only [Act.put, List.setIfInBounds_toArray, List.set_cons_succ, List.set_cons_zero]
    refine wpAnyH_all (rs := [17]) (by kernel_rfl) (by decide) ?_
    intro i hi
    obtain rfl := List.mem_singleton.1 hi
    refine wpOp_assign rfl rfl _ rfl _ rfl (some 6) rfl ?_
    refine ⟨InB.of AX2, ?_⟩
    refine wpAnyH_done (by kernel_rfl) ?_ _
    exact ⟨rfl, _, _, _, _, _, _, _, _, _, _, _, _, _, _, _, _, _, rfl, Q2⟩
  rintro a' w' ⟨y70, y71, y72, y73, y74, y75, y76, y77, y78, y79, y80, y81, y82, y83, y84, y85, y86, rfl, hP⟩
  have QQ : Hid (TwTo B w w' g r n1 n1 vs v) := TwTo.pre B0.out.drew hP
  clear hP
  simp only [Act.put, List.setIfInBounds_toArray, List.set_cons_succ, List.set_cons_zero]
  go_wp2_with fail
  go_ret
  exact ⟨rfl, QQ.out⟩
set_option maxHeartbeats 16000000 in
theorem plays2_any (B : Nat) (w : World) (g r : Nat) (n : NetM) (vs : List Value) (v : Value) (h : TwM B w g r n n vs v) (hi : NetIn n) (hf : n.row.length ≤ 900000) (x : ActN) (hk : x.kind = 2) :
    Calls Try.prog 10 #[.pointer (some ⟨g, 0, none⟩), .pointer (some ⟨r, 0, none⟩), .agg (actN x)] w fun e w' => e = .returned (.bool true) ∧ TwTo B w w' g r (takeN n x.src x.dst x.pl).1 (takeN n x.src x.dst x.pl).1 vs v := by
  obtain ⟨s, hs⟩ : ∃ s : ByteArray, s = ⟨(takeN n x.src x.dst x.pl).2.1.toArray⟩ := ⟨_, rfl⟩
  obtain ⟨c, hc⟩ : ∃ c, c = (takeN n x.src x.dst x.pl).2.2 := ⟨_, rfl⟩
  obtain ⟨n1, hn1⟩ : ∃ n1, n1 = (takeN n x.src x.dst x.pl).1 := ⟨_, rfl⟩
  have OW : Hid (∀ W vs, NetV B W g n vs → Calls Try.prog 17 #[.pointer (some ⟨g, 0, none⟩), .int .i64 x.src, .int .i64 x.dst, .int .i64 x.pl] W fun e w' => e = .returned (.tuple #[.string s, .int .i64 c]) ∧ NetTo B W w' g n1 vs) := by
    intro W vs hW
    rw [hs, hc, hn1]
    exact takeN_any B W g n vs hW hi x.src x.dst x.pl
  have RW : Hid (∀ W v, RNetV B W r n v → Calls Try.prog 21 #[.pointer (some ⟨r, 0, none⟩), .int .i64 x.src, .int .i64 x.dst, .int .i64 x.pl] W fun e w' => e = .returned (.tuple #[.string s, .int .i64 c]) ∧ RNetTo B W w' r n1 v) := by
    intro W v hW
    rw [hs, hc, hn1]
    exact rtake_any B W r n v hW hf x.src x.dst x.pl
  rw [← hn1]
  obtain ⟨w0, hw0⟩ : ∃ w0, w0 = w.alloc (.cells (actN x) 33) := ⟨_, rfl⟩
  have B0 : Hid (Below w.heap.size w w0) := by show Below _ _ _; rw [hw0]; exact (Below.refl _ _).alloc (Nat.le_refl _) _
  have A0 : Hid (w0.heap[w.heap.size]? = some (.cells (actN x) 33 (0, 0))) := by show _ = _; rw [hw0]; exact heap_new _ _ _ rfl
  have P0 : Hid (TwM B w0 g r n n vs v) := h.below B0.out
  have NF : Hid (¬ footTw g r vs v w.heap.size) := fun e => by have := (h.foot _ e).2; omega
  have F0 := actfn_of (off := 0) A0.out (fun j _ => by rw [Nat.zero_add])
  have k0 := F0.c0
  have k1 := F0.c1
  have k2 := F0.c2
  have k3 := F0.c3
  rw [hk] at k0
  clear hk
  have hl1 := OW.out w0 _ P0.out.o
  rw [hw0] at k0 k1 k2 k3 hl1
  clear h hi hf hs hc hn1 OW F0
  go_enter Try.func10, Try.ntmps10
  go_wp2_with (go_at_call 17; refine hl1.mono ?_; rintro e w1 ⟨rfl, h1⟩; refine of_stopT ?_)
  unfold StopT
  rw [← hw0] at h1
  clear k0 k1 k2 k3 hl1
  have Q1 := P0.out.own h1
  have AX1 := Q1.heap A0.out NF.out
  have F1 := actfn_of (off := 0) AX1 (fun j _ => by rw [Nat.zero_add])
  have k1 := F1.c1
  have k2 := F1.c2
  have k3 := F1.c3
  obtain ⟨us, u, hM, hF⟩ := Q1
  have hl2 := RW.out w1 u hM.f
  have HM : Hid (TwM B w1 g r n1 n us u) := hM
  have HF : Hid _ := hF
  clear h1 hM hF AX1 F1 hw0
  go_wp2_with (go_at_call 21; refine hl2.mono ?_; rintro e w2 ⟨rfl, h2⟩; refine of_stopT ?_)
  unfold StopT
  have QQ : Hid (TwTo B w w2 g r n1 n1 vs v) := by
    obtain ⟨xs, y, hM2, hF2⟩ := HM.out.ref h2
    exact ⟨xs, y, hM2, (HF.out.trans hF2).pre B0.out⟩
  clear k1 k2 k3 hl2 h2
  go_wp2_with fail
  go_ret
  exact ⟨by simp, QQ.out⟩
set_option maxHeartbeats 16000000 in
theorem plays0_any (B : Nat) (w : World) (g r : Nat) (n : NetM) (vs : List Value) (v : Value) (h : TwM B w g r n n vs v) (hi : NetIn n) (hf : n.row.length ≤ 900000) (x : ActN) (hk1 : x.kind ≠ 1) (hk2 : x.kind ≠ 2) (hk3 : x.kind ≠ 3) :
    Calls Try.prog 10 #[.pointer (some ⟨g, 0, none⟩), .pointer (some ⟨r, 0, none⟩), .agg (actN x)] w fun e w' => e = .returned (.bool true) ∧ TwTo B w w' g r n n vs v := by
  obtain ⟨s, hs⟩ : ∃ s : ByteArray, s = ⟨(peekN n x.src x.dst x.pl).1.toArray⟩ := ⟨_, rfl⟩
  obtain ⟨c, hc⟩ : ∃ c, c = (peekN n x.src x.dst x.pl).2 := ⟨_, rfl⟩
  obtain ⟨n1, hn1⟩ : ∃ n1, n1 = n := ⟨_, rfl⟩
  have OW : Hid (∀ W vs, NetV B W g n vs → Calls Try.prog 19 #[.pointer (some ⟨g, 0, none⟩), .int .i64 x.src, .int .i64 x.dst, .int .i64 x.pl] W fun e w' => e = .returned (.tuple #[.string s, .int .i64 c]) ∧ NetTo B W w' g n1 vs) := by
    intro W vs hW
    rw [hs, hc, hn1]
    exact (peek_any B W g n vs hW hi x.src x.dst x.pl).mono fun e w' h => ⟨h.1, hW.stay h.2⟩
  have RW : Hid (∀ W v, RNetV B W r n v → Calls Try.prog 23 #[.pointer (some ⟨r, 0, none⟩), .int .i64 x.src, .int .i64 x.dst, .int .i64 x.pl] W fun e w' => e = .returned (.tuple #[.string s, .int .i64 c]) ∧ RNetTo B W w' r n1 v) := by
    intro W v hW
    rw [hs, hc, hn1]
    exact (rpeek_any B W r n v hW (by omega) x.src x.dst x.pl).mono fun e w' h => ⟨h.1, hW.stay (by rw [h.2]; exact Below.refl _ _)⟩
  have RES : Hid (∀ w', TwTo B w w' g r n1 n1 vs v → TwTo B w w' g r n n vs v) := fun w' h => by rw [hn1] at h; exact h
  obtain ⟨w0, hw0⟩ : ∃ w0, w0 = w.alloc (.cells (actN x) 33) := ⟨_, rfl⟩
  have B0 : Hid (Below w.heap.size w w0) := by show Below _ _ _; rw [hw0]; exact (Below.refl _ _).alloc (Nat.le_refl _) _
  have A0 : Hid (w0.heap[w.heap.size]? = some (.cells (actN x) 33 (0, 0))) := by show _ = _; rw [hw0]; exact heap_new _ _ _ rfl
  have P0 : Hid (TwM B w0 g r n n vs v) := h.below B0.out
  have NF : Hid (¬ footTw g r vs v w.heap.size) := fun e => by have := (h.foot _ e).2; omega
  have F0 := actfn_of (off := 0) A0.out (fun j _ => by rw [Nat.zero_add])
  have k0 := F0.c0
  have k1 := F0.c1
  have k2 := F0.c2
  have k3 := F0.c3
  have d1 : (x.kind == 1) = false := by simpa using hk1
  have d2 : (x.kind == 2) = false := by simpa using hk2
  have d3 : (x.kind == 3) = false := by simpa using hk3
  clear hk1 hk2 hk3
  have hl1 := OW.out w0 _ P0.out.o
  rw [hw0] at k0 k1 k2 k3 hl1
  clear h hi hf hs hc hn1 OW F0
  go_enter Try.func10, Try.ntmps10
  go_wp2_with (go_at_call 19; refine hl1.mono ?_; rintro e w1 ⟨rfl, h1⟩; refine of_stopT ?_)
  unfold StopT
  rw [← hw0] at h1
  clear k0 k1 k2 k3 hl1
  have Q1 := P0.out.own h1
  have AX1 := Q1.heap A0.out NF.out
  have F1 := actfn_of (off := 0) AX1 (fun j _ => by rw [Nat.zero_add])
  have k1 := F1.c1
  have k2 := F1.c2
  have k3 := F1.c3
  obtain ⟨us, u, hM, hF⟩ := Q1
  have hl2 := RW.out w1 u hM.f
  have HM : Hid (TwM B w1 g r n1 n us u) := hM
  have HF : Hid _ := hF
  clear h1 hM hF AX1 F1 hw0
  go_wp2_with (go_at_call 23; refine hl2.mono ?_; rintro e w2 ⟨rfl, h2⟩; refine of_stopT ?_)
  unfold StopT
  have QQ : Hid (TwTo B w w2 g r n1 n1 vs v) := by
    obtain ⟨xs, y, hM2, hF2⟩ := HM.out.ref h2
    exact ⟨xs, y, hM2, (HF.out.trans hF2).pre B0.out⟩
  clear k1 k2 k3 hl2 h2
  go_wp2_with fail
  go_ret
  exact ⟨by simp, RES.out _ QQ.out⟩
theorem plays_any (B : Nat) (w : World) (g r : Nat) (n : NetM) (vs : List Value) (v : Value) (h : TwM B w g r n n vs v) (hi : NetIn n) (hl : n.last < 1000000000000) (x : ActN) (hx : OkActN x) :
    Calls Try.prog 10 #[.pointer (some ⟨g, 0, none⟩), .pointer (some ⟨r, 0, none⟩), .agg (actN x)] w fun e w' => e = .returned (.bool true) ∧ TwTo B w w' g r (stepN n x) (stepN n x) vs v := by
  have hf : n.row.length ≤ 900000 := Nat.le_trans (row_few hi) (by decide)
  unfold stepN
  by_cases h1 : x.kind = 1
  · rw [if_pos h1]; exact plays1_any B w g r n vs v h hi hl hf x hx h1
  rw [if_neg h1]
  by_cases h2 : x.kind = 2
  · rw [if_pos h2]; exact plays2_any B w g r n vs v h hi hf x h2
  rw [if_neg h2]
  by_cases h3 : x.kind = 3
  · rw [if_pos h3]; exact plays3_any B w g r n vs v h hi hl hf x h3
  rw [if_neg h3]
  exact plays0_any B w g r n vs v h hi hf x h1 h2 h3
end Go.Proofs.Ytbgkbegdaepkfaa
namespace Go.Proofs.Ytbgkbegdaepkfaa
open Go.ChangeShapes Go.WideShapes Go.ChangeAt Go.WideMaps Go.WideElems Go.RowKit
set_option maxRecDepth 20000

theorem El.Ok.cellsOf {E : El} (H : E.Ok) : Try.prog.cellsOf E.elem = E.size := by
  obtain ⟨i, h1, _, h2, _⟩ := H.info
  simp [Program.cellsOf, h1, h2]

/-- A slice that comes in, of elements that are opened one by one. -/
theorem open_anyK {E : El} (HE : E.Ok) {α : Type} [Inhabited α] (row : α → Array Value) (hrow : ∀ a, (row a).size = E.size) (Q : α → Prop) {H : Type} {enc : TypeId × Value → H} {W : World} {base : Nat} {spare : Nat → Bool} {held : Bool} (Ok : DataW H → Prop)
    (elem : ∀ (fuel : Nat) (cs : List Value) (x : DataW H × List MemPlace), cs.length = E.size → Ok x.1 → DataW.trod enc Try.prog W base spare held fuel E.elem cs = some x → ∃ a, cs = (row a).toList ∧ Q a)
    {fuel : Nat} {v : Value} {x : DataW H × List MemPlace} (hf : DataW.trod enc Try.prog W base spare held fuel E.slice [v] = some x) (hOk : ∀ es sp, x.1 = .slice es sp → ∀ d ∈ es, Ok d) : ∃ C : List α, GSl E row W v C ∧ ∀ c ∈ C, Q c := by
  have hp := HE.hp
  rcases Deep.open_slice HE.hs hf with ⟨h0, _⟩ | ⟨a, len, cap, m, n, D, Pl, h0, hb, hl, hm, hmm, hxe, hx⟩
  · obtain rfl : v = .slice none 0 0 := by simpa using h0
    exact ⟨[], gsl_nil E row W, fun c hc => absurd hc (by simp)⟩
  · obtain rfl : v = .slice (some a) len cap := by simpa using h0
    rw [HE.cellsOf] at hx
    have hlm : len ≤ m := by rw [hmm]; split <;> omega
    have each : ∀ i, i < len → ∃ c : α, Q c ∧ ∀ j, j < E.size → W.cell? (a.add (i * E.size + j)) = (row c)[j]? := fun i hi => by
      obtain ⟨cs', h1, h2⟩ := hx i (by omega)
      obtain ⟨_, hlen, hcell⟩ := World.cells?_some h1
      obtain ⟨c, h3, h4⟩ := elem _ cs' _ hlen (hOk _ _ (by rw [hxe]) _ (List.mem_map.2 ⟨i, List.mem_range.2 hi, rfl⟩)) h2
      refine ⟨c, h4, fun j hj => ?_⟩
      have := hcell j hj
      rw [Deep.add_add] at this
      rw [this, h3]
      simp
    obtain ⟨f, hf⟩ := Deep.choose_lt each
    refine ⟨(List.range len).map f, ⟨some a, cap, by simp, by simpa using hl, hm, fun i hi => ?_⟩, fun c hc => ?_⟩
    · have hi' : i < len := by simpa using hi
      have h1 := (hf i hi').2
      obtain ⟨g, off, sp⟩ := a
      have hj : ∀ j, j < E.size → ∃ cur t fr, W.heap[g]? = some (.cells cur t fr) ∧ cur[off + i * E.size + j]? = (row (f i))[j]? ∧ (i * E.size + j = 0 → sp = none) := fun j hj => by
        have h2 := h1 j hj
        obtain ⟨y, hy⟩ : ∃ y, (row (f i))[j]? = some y := ⟨_, Array.getElem?_eq_getElem (by rw [hrow]; exact hj)⟩
        rw [hy] at h2 ⊢
        unfold World.cell? at h2
        split at h2
        · rename_i cur t fr hq
          have hbk : (Addr.add ⟨g, off, sp⟩ (i * E.size + j)).block = g := by unfold Addr.add; split <;> rfl
          have hof : (Addr.add ⟨g, off, sp⟩ (i * E.size + j)).off = off + i * E.size + j := by unfold Addr.add; split <;> simp_all [Nat.add_assoc]
          rw [hbk] at hq
          rw [hof] at h2
          split at h2
          · cases h2
          · rename_i hsp
            refine ⟨cur, t, fr, hq, h2, fun h0 => ?_⟩
            unfold Addr.add at hsp
            rw [if_pos h0] at hsp
            simpa using hsp
        · cases h2
      have hsp : sp = none := by
        obtain ⟨cur, t, fr, h2, h3, h4⟩ := hj 0 hp
        by_cases hi0 : i = 0
        · exact h4 (by rw [hi0]; simp)
        · have h5 := (hf 0 (by omega)).2 0 hp
          obtain ⟨y, hy⟩ : ∃ y, (row (f 0))[0]? = some y := ⟨_, Array.getElem?_eq_getElem (by rw [hrow]; exact hp)⟩
          rw [hy] at h5
          unfold World.cell? at h5
          split at h5
          · split at h5
            · cases h5
            · rename_i hs
              simpa [Addr.add] using hs
          · cases h5
      subst hsp
      obtain ⟨cur, t, fr, h2, _, _⟩ := hj 0 hp
      refine ⟨g, off, cur, t, fr, rfl, h2, fun j hjl => ?_⟩
      obtain ⟨cur', t', fr', h3, h4, _⟩ := hj j hjl
      rw [h2] at h3
      obtain ⟨rfl, rfl, rfl⟩ : cur = cur' ∧ t = t' ∧ fr = fr' := by simpa using h3
      rw [h4]
      simp
    · rw [List.mem_map] at hc
      obtain ⟨i, hi, rfl⟩ := hc
      exact (hf i (by simpa using hi)).1

/-- A list whose elements hold lists of their own: each row with the value of its inner list. -/
def NSl {α : Type} (E : El) (row : α → Value → Array Value) (R : World → α → Value → Prop) (w : World) (v : Value) (C : List α) : Prop :=
  ∃ P : List (α × Value), P.map (·.1) = C ∧ GSl E (fun p => row p.1 p.2) w v P ∧ ∀ p ∈ P, R w p.1 p.2
theorem NSl.below {α : Type} {E : El} {row : α → Value → Array Value} {R : World → α → Value → Prop} (hR : ∀ w w' a v, Below w.heap.size w w' → R w a v → R w' a v) {w w' : World} {v : Value} {C : List α} (h : NSl E row R w v C) (hb : Below w.heap.size w w') : NSl E row R w' v C := by
  obtain ⟨P, h1, h2, h3⟩ := h
  exact ⟨P, h1, h2.below hb, fun p hp => hR w w' _ _ hb (h3 p hp)⟩
theorem NSl.slice {α : Type} {E : El} {row : α → Value → Array Value} {R : World → α → Value → Prop} {w : World} {v : Value} {C : List α} (h : NSl E row R w v C) : ∃ (o : Option Addr) (cap : Nat), v = .slice o C.length cap ∧ C.length ≤ cap ∧ cap ≤ maxLen := by
  obtain ⟨P, h1, h2, _⟩ := h
  obtain ⟨o, cap, e, h4, h5⟩ := h2.slice
  have hl : P.length = C.length := by rw [← h1, List.length_map]
  rw [hl] at e h4
  exact ⟨o, cap, e, h4, h5⟩
theorem NSl.at {α : Type} {E : El} {row : α → Value → Array Value} {R : World → α → Value → Prop} {w : World} {o : Option Addr} {n cap : Nat} {C : List α} (h : NSl E row R w (.slice o n cap) C) (k : Nat) (hk : k < n) :
    ∃ g off cur t fr, ∃ (c : α) (u : Value), o = some ⟨g, off, none⟩ ∧ w.heap[g]? = some (.cells cur t fr) ∧ (∀ j, j < E.size → cur[off + k * E.size + j]? = (row c u)[j]?) ∧ C[k]? = some c ∧ R w c u := by
  obtain ⟨P, h1, h2, h3⟩ := h
  obtain ⟨g, off, cur, t, fr, c, e1, e2, e3, e4⟩ := h2.at k hk
  exact ⟨g, off, cur, t, fr, c.1, c.2, e1, e2, e3, by rw [← h1, List.getElem?_map, e4]; rfl, h3 c (List.mem_of_getElem? e4)⟩
/-- The same of one's own row. -/
def NOwn {α : Type} (E : El) (row : α → Value → Array Value) (R : World → α → Value → Prop) (w : World) (B : Nat) (v : Value) (C : List α) : Prop :=
  ∃ P : List (α × Value), P.map (·.1) = C ∧ w.ownsRow B E.elem E.size v P.length (gcells (fun p : α × Value => row p.1 p.2) P) ∧ ∀ p ∈ P, R w p.1 p.2
theorem NOwn.sl {α : Type} {E : El} {row : α → Value → Array Value} {R : World → α → Value → Prop} (hrow : ∀ a u, (row a u).size = E.size) {w : World} {B : Nat} {v : Value} {C : List α} (h : NOwn E row R w B v C) : NSl E row R w v C := by
  obtain ⟨P, h1, h2, h3⟩ := h
  exact ⟨P, h1, gsl_of h2 fun c _ => hrow c.1 c.2, h3⟩
theorem NOwn.nil {α : Type} (E : El) (row : α → Value → Array Value) (R : World → α → Value → Prop) (w : World) (B : Nat) : NOwn E row R w B (.slice none 0 0) [] :=
  ⟨[], rfl, World.ownsRow_nil _ _ _ _, fun p hp => by simp at hp⟩
theorem NOwn.below {α : Type} {E : El} {row : α → Value → Array Value} {R : World → α → Value → Prop} (hR : ∀ w w' a v, Below w.heap.size w w' → R w a v → R w' a v) {w w' : World} {B : Nat} {v : Value} {C : List α} (h : NOwn E row R w B v C) (hb : Below w.heap.size w w') : NOwn E row R w' B v C := by
  obtain ⟨P, h1, h2, h3⟩ := h
  exact ⟨P, h1, gown_below h2 hb, fun p hp => hR w w' _ _ hb (h3 p hp)⟩
/-- A row stays as it is while another one grows. -/
theorem own_grown {w w' : World} {b : Option Nat} (hgr : w.grownBy w' b) {B : Nat} {e : TypeId} {s : Nat} {u : Value} {m : Nat} {ys : List Value} (h : w.ownsRow B e s u m ys) (hne : ∀ g, b = some g → u.ownBlock ≠ some g) : w'.ownsRow B e s u m ys := by
  obtain ⟨h0, h1 | ⟨g, cap, cur, rfl, hB, hcur, h3⟩⟩ := h
  · exact ⟨h0, .inl h1⟩
  · refine ⟨h0, .inr ⟨g, cap, cur, rfl, hB, ?_, h3⟩⟩
    rw [hgr.block g (Array.getElem?_eq_some_iff.1 hcur).1 (fun hq => hne g hq.symm rfl)]
    exact hcur
theorem NOwn.grown {α : Type} {E : El} {row : α → Value → Array Value} {R : World → α → Value → Prop} {w w' : World} {b : Option Nat} (hgr : w.grownBy w' b) {B : Nat} {v : Value} {C : List α} (h : NOwn E row R w B v C) (hne : ∀ g, b = some g → v.ownBlock ≠ some g) (hR : ∀ a u, R w a u → R w' a u) : NOwn E row R w' B v C := by
  obtain ⟨P, h1, h2, h3⟩ := h
  exact ⟨P, h1, own_grown hgr h2 hne, fun p hp => hR _ _ (h3 p hp)⟩
end Go.Proofs.Ytbgkbegdaepkfaa
namespace Go.Proofs.Ytbgkbegdaepkfaa
open Go.ChangeShapes Go.WideShapes Go.ChangeAt Go.WideMaps Go.WideElems Go.RowKit
set_option maxRecDepth 20000

theorem take_one {cs : List Value} {i : Nat} {v : Value} (h : (cs.drop i).take 1 = [v]) : cs[i]? = some v := by
  have := congrArg List.head? h
  rw [List.head?_take, if_neg (by decide), List.head?_drop] at this
  simpa using this
/-- The one cell of a field. -/
theorem field_int {P : Program} {H : Type} {enc : TypeId × Value → H} {W : World} {base : Nat} {spare : Nat → Bool} {held : Bool} {n : Nat} {t : TypeId} {cs : List Value} {y : Option (DataW H × List MemPlace)} {i : Nat} {k : IntKind} (ht : P.underlying t = some (.int k)) (hc : P.cellsOf t = 1)
    (h : DataW.trod enc P W base spare held n t ((cs.drop i).take (P.cellsOf t)) = y) (hy : y.isSome = true) : ∃ z : Int, cs[i]? = some (.int k z) ∧ (Lit.int k z).wf = true := by
  obtain ⟨y', rfl⟩ := Option.isSome_iff_exists.1 hy
  obtain ⟨z, h1, _, h3⟩ := DataW.trod_int ht h
  rw [hc] at h1
  exact ⟨z, take_one h1, h3⟩
theorem xs_some {α : Type} {xs : List α} {n i : Nat} (h : xs.length = n) (hi : i < n) : (xs[i]?).isSome = true := by
  rw [List.getElem?_eq_getElem (by omega)]; rfl

end Go.Proofs.Ytbgkbegdaepkfaa
namespace Go.Proofs.Ytbgkbegdaepkfaa
open Go.ChangeShapes Go.WideShapes Go.ChangeAt Go.WideMaps Go.WideElems Go.RowKit
set_option maxRecDepth 20000

/-! Calls that come in. -/
def zeroActN : ActN := ⟨0, 0, 0, 0, ⟨#[]⟩⟩
def ActNE : El := ⟨33, 22, 5, 48, actN zeroActN⟩
theorem ActNOk : ActNE.Ok := ⟨Try.underlying22, ⟨_, Try.underlying33, rfl⟩, by kernel_rfl, rfl, by decide, by decide, by decide⟩
theorem actN_fits (x : ActN) : Fits ActNE (actN x) := ⟨rfl, by simp [actN, Value.oneCell']⟩
theorem weights_all {H : Type} {P : Program} {e : TypeId} : ∀ {es : List (DataW H)} {d : DataW H}, d ∈ es → ∀ m ∈ d.weights P e, m ∈ DataW.weightsAll P e es
  | [], _, h, _, _ => absurd h (by simp)
  | x :: es, d, h, m, hm => by
    simp only [DataW.weightsAll, List.mem_append]
    rcases List.mem_cons.1 h with rfl | h
    · exact .inl hm
    · exact .inr (weights_all h m hm)
theorem weights_elems {H : Type} {P : Program} {t e : TypeId} (ht : P.underlying t = some (.slice e)) {b : Nat} {x : DataW H} (h : ∀ m ∈ x.weights P t, m ≤ b) {es sp : List (DataW H)} (hx : x = .slice es sp) : ∀ d ∈ es, ∀ m ∈ d.weights P e, m ≤ b := fun d hd m hm => by
  subst hx
  refine h m ?_
  simp only [DataW.weights, ht, List.mem_cons, List.mem_append]
  exact .inr (.inl (weights_all hd m hm))
theorem field_stringW {P : Program} {H : Type} {enc : TypeId × Value → H} {W : World} {base : Nat} {spare : Nat → Bool} {held : Bool} {n : Nat} {t : TypeId} {cs : List Value} {xs : List (DataW H × List MemPlace)} {ts : List TypeId} {i k b : Nat} (ht : P.underlying t = some .string) (hc : P.cellsOf t = 1)
    (h : DataW.trod enc P W base spare held n t ((cs.drop i).take (P.cellsOf t)) = xs[k]?) (hy : (xs[k]?).isSome = true) (hts : ts[k]? = some t) (hw : ∀ m ∈ DataW.weightsEach P ts (xs.map (·.1)), m ≤ b) : ∃ s : ByteArray, cs[i]? = some (.string s) ∧ s.size ≤ b := by
  obtain ⟨y, hy⟩ := Option.isSome_iff_exists.1 hy
  rw [hy] at h
  obtain ⟨s, h1, h2, _⟩ := DataW.trod_string ht h
  rw [hc] at h1
  refine ⟨s, take_one h1, ?_⟩
  have := hw s.data.toList.length (DataW.weights_mem_each hts (d := .lit (.string s.data.toList)) (by rw [List.getElem?_map, hy, h2]; rfl) _ (by simp [DataW.weights]))
  rw [Array.length_toList] at this
  exact this
theorem actn_of {H : Type} {enc : TypeId × Value → H} {W : World} {base : Nat} {spare : Nat → Bool} {held : Bool} (fuel : Nat) (cs : List Value) (x : DataW H × List MemPlace) (hl : cs.length = 5) (hw : ∀ m ∈ x.1.weights Try.prog 33, m ≤ reachBytes)
    (h : DataW.trod enc Try.prog W base spare held fuel 33 cs = some x) : ∃ r : ActN, cs = (actN r).toList ∧ OkActN r := by
  have c3 : Try.prog.cellsOf 3 = 1 := by kernel_rfl
  have c9 : Try.prog.cellsOf 9 = 1 := by kernel_rfl
  obtain ⟨xs, n, _, hxe, _, hxl, hf⟩ := DataW.trod_struct Try.underlying33 h
  rw [hxe] at hw
  simp only [DataW.weights, Try.underlying33] at hw
  obtain ⟨n0, h0, _⟩ := field_int Try.underlying3 c3 (hf 0 _ rfl) (xs_some hxl (by decide))
  obtain ⟨n1, h1, _⟩ := field_int Try.underlying3 c3 (hf 1 _ rfl) (xs_some hxl (by decide))
  obtain ⟨n2, h2, _⟩ := field_int Try.underlying3 c3 (hf 2 _ rfl) (xs_some hxl (by decide))
  obtain ⟨n3, h3, _⟩ := field_int Try.underlying3 c3 (hf 3 _ rfl) (xs_some hxl (by decide))
  obtain ⟨s, h4, hs⟩ := field_stringW Try.underlying9 c9 (hf 4 _ rfl) (xs_some hxl (by decide)) rfl hw
  refine ⟨⟨n0, n1, n2, n3, s⟩, ?_, Nat.le_trans hs (by decide)⟩
  apply List.ext_getElem?
  intro k
  refine Eq.trans ?_ (Array.getElem?_toList).symm
  rcases (show k = 0 ∨ k = 1 ∨ k = 2 ∨ k = 3 ∨ k = 4 ∨ 5 ≤ k by omega) with rfl | rfl | rfl | rfl | rfl | hk
  · exact h0
  · exact h1
  · exact h2
  · exact h3
  · exact h4
  · rw [List.getElem?_eq_none (by omega), Array.getElem?_eq_none (by simpa [actN] using hk)]
theorem open_actsN {H : Type} {enc : TypeId × Value → H} {W : World} {r : Reach} {b0 base : Nat} {spare : Nat → Bool} {held : Bool} {v : Value} {d : DataW H} {p : List MemPlace}
    (hok : Value.okWide Try.prog W r b0 22 v) (h : DataW.Trod enc Try.prog W base spare held 22 v d p) (hw : ∀ m ∈ d.weights Try.prog 22, m ≤ reachBytes) : ∃ A : List ActN, GSl ActNE actN W v A ∧ ∀ x ∈ A, OkActN x := by
  obtain ⟨fuel, hf⟩ := h
  have hv1 : v.cells.toList = [v] := by
    simp only [Value.okWide, Cell.okWide, Cell.ok, Try.underlying22] at hok
    cases v <;> simp_all [Value.cells]
  rw [hv1] at hf
  have hin : Inhabited ActN := ⟨zeroActN⟩
  exact open_anyK (E := ActNE) ActNOk actN (fun _ => rfl) OkActN (fun d => ∀ m ∈ d.weights Try.prog 33, m ≤ reachBytes) (fun fuel cs x h1 hw h2 => actn_of fuel cs x h1 hw h2) hf (fun es sp he => weights_elems Try.underlying22 hw he)
theorem open_actN {H : Type} {enc : TypeId × Value → H} {W : World} {r : Reach} {b0 base : Nat} {spare : Nat → Bool} {held : Bool} {v : Value} {d : DataW H} {p : List MemPlace}
    (hok : Value.okWide Try.prog W r b0 33 v) (h : DataW.Trod enc Try.prog W base spare held 33 v d p) (hw : ∀ m ∈ d.weights Try.prog 33, m ≤ reachBytes) : ∃ x : ActN, v = .agg (actN x) ∧ OkActN x := by
  have c5 : Try.prog.cellsOf 33 = 5 := by kernel_rfl
  simp only [Value.okWide, Try.underlying33] at hok
  obtain ⟨cs, rfl, hsz, _⟩ := hok
  rw [c5] at hsz
  obtain ⟨fuel, hf⟩ := h
  simp only [Value.cells] at hf
  obtain ⟨x, h1, h2⟩ := actn_of fuel cs.toList _ (by simpa using hsz) hw hf
  exact ⟨x, by congr 1; exact Array.ext' h1, h2⟩
end Go.Proofs.Ytbgkbegdaepkfaa
namespace Go.Proofs.Ytbgkbegdaepkfaa
open Go Go.RowKit
set_option maxRecDepth 20000

theorem new_net (w : World) (nodes room : Int) : NetV w.heap.size (w.alloc (.cells (netV ⟨nodes, room, [], 0⟩ (List.replicate 49 (.slice none 0 0))) 53)) w.heap.size ⟨nodes, room, [], 0⟩ (List.replicate 49 (.slice none 0 0)) := by
  have hr : ∀ (k : Nat) (v : Value), (List.replicate 49 (Value.slice none 0 0))[k]? = some v → v = .slice none 0 0 := fun k v e => List.eq_of_mem_replicate (List.mem_of_getElem? e)
  refine ⟨heap_new _ _ _ rfl, by simp, fun k v e => ?_, fun j k u v _ hu hv => ?_, Nat.le_refl _⟩
  · rw [hr k v e]; exact LetsAt.nil _ _
  · rw [hr j u hu]; exact .inl rfl
set_option maxHeartbeats 4000000 in
theorem newN_yes (nodes room : Int) (h : 0 ≤ nodes ∧ nodes ≤ 6 ∧ 1 ≤ room ∧ room ≤ 512) (w : World) :
    Calls Try.prog 8 #[.int .i64 nodes, .int .i64 room] w fun e w' => ∃ g vs, e = .returned (.tuple #[.pointer (some ⟨g, 0, none⟩), .int .i64 0]) ∧ NetV w.heap.size w' g ⟨nodes, room, [], 0⟩ vs ∧ Below w.heap.size w w' := by
  have HN : Hid (NetV w.heap.size (w.alloc (.cells (netV ⟨nodes, room, [], 0⟩ (List.replicate 49 (.slice none 0 0))) 53)) w.heap.size ⟨nodes, room, [], 0⟩ (List.replicate 49 (.slice none 0 0))) := new_net w nodes room
  obtain ⟨h1, h2, h3, h4⟩ := h
  have d1 : ¬ nodes < 0 := by omega
  have d2 : ¬ nodes > 6 := by omega
  have d3 : ¬ room < 1 := by omega
  have d4 : ¬ room > 512 := by omega
  clear h1 h2 h3 h4
  go_enter Try.func8, Try.ntmps8
  go_wp2_with fail
  go_ret2
  exact ⟨_, rfl, ⟨_, HN.out⟩, (Below.refl _ _).alloc (Nat.le_refl _) _⟩
set_option maxHeartbeats 4000000 in
theorem newN_no (nodes room : Int) (h : ¬ (0 ≤ nodes ∧ nodes ≤ 6 ∧ 1 ≤ room ∧ room ≤ 512)) (w : World) :
    Calls Try.prog 8 #[.int .i64 nodes, .int .i64 room] w fun e w' => e = .returned (.tuple #[.pointer none, .int .i64 1]) ∧ w' = w := by
  by_cases h1 : nodes < 0
  · clear h
    go_enter Try.func8, Try.ntmps8
    go_wp2_with fail
    go_ret2
    exact ⟨rfl, rfl⟩
  by_cases h2 : nodes > 6
  · clear h
    go_enter Try.func8, Try.ntmps8
    go_wp2_with fail
    go_ret2
    exact ⟨rfl, rfl⟩
  by_cases h3 : room < 1
  · clear h
    go_enter Try.func8, Try.ntmps8
    go_wp2_with fail
    go_ret2
    exact ⟨rfl, rfl⟩
  have h4 : room > 512 := by omega
  clear h
  go_enter Try.func8, Try.ntmps8
  go_wp2_with fail
  go_ret2
  exact ⟨rfl, rfl⟩
end Go.Proofs.Ytbgkbegdaepkfaa
namespace Go.Proofs.Ytbgkbegdaepkfaa
open Go Go.Lib Go.RowKit
set_option maxRecDepth 20000

/-! Structs that no slice is made of, in memory. -/
/-- A struct that no slice is made of. -/
structure Ag where
  elem : TypeId
  size : Nat
structure Ag.Ok (E : Ag) : Prop where
  hu : ∃ d, Try.prog.underlying E.elem = some d ∧ (match d with | .struct _ | .array _ _ => true | _ => false) = true
  hi : (Try.prog.info? E.elem).map (fun i => i.size) = some E.size
theorem Ag.Ok.load {E : Ag} (H : E.Ok) (w : World) (g off : Nat) (cur : Array Value) (t : TypeId) (fr : Nat × Nat) (cs : Array Value) (hcs : cs.size = E.size) (hg : w.heap[g]? = some (.cells cur t fr)) (hc : ∀ j, j < E.size → cur[off + j]? = cs[j]?) :
    (loadVar E.elem ⟨g, off, none⟩).run Try.prog w = .ok (.agg cs) w := by
  have hl : (loadCells ⟨g, off, none⟩ cs.toList.length).run Try.prog w = .ok cs.toList.toArray w :=
    run_loadCells_list (P := Try.prog) w ⟨g, off, none⟩ cs.toList (fun j v hv => by
      have hadd : (⟨g, off, none⟩ : Addr).add j = ⟨g, off + j, none⟩ := by unfold Addr.add; split <;> simp_all
      have hj : j < E.size := by
        have := (List.getElem?_eq_some_iff.1 hv).1
        rw [Array.length_toList] at this
        omega
      rw [hadd, cell_of_row w g (off + j) cur t fr hg, hc j hj]
      simpa using hv)
  obtain ⟨i, hq, hs⟩ : ∃ i, Try.prog.info? E.elem = some i ∧ i.size = E.size := by
    have h1 := H.hi
    cases h : Try.prog.info? E.elem with
    | none => rw [h] at h1; simp at h1
    | some i => rw [h] at h1; exact ⟨i, rfl, by simpa using h1⟩
  have hagg : (isAgg E.elem).run Try.prog w = .ok true w := by
    obtain ⟨d, hd, hm⟩ := H.hu
    unfold isAgg
    rw [Sem.run_bind, run_underlying hd w]
    revert hm
    cases d <;> simp [go_sem]
  rw [Array.length_toList, hcs, Array.toArray_toList] at hl
  simp [loadVar, Sem.run_bind, hagg, sizeOf, typeInfo, hq, hs, hl]
theorem wl_loadA {E : Ag} (H : E.Ok) {ops : Array Oper} {rest : List Oper} {o : Oper} {a : Act} {w : World} {Q : Exit → Act → World → Prop} (hw : Region.wanted o (yielded ops a.tmps) = true) (x : Operand) (ho : o.op = .load E.elem x)
    (g off : Nat) (hx : a.eval x = .pointer (some ⟨g, off, none⟩)) (cur : Array Value) (t : TypeId) (fr : Nat × Nat) (cs : Array Value) (hcs : cs.size = E.size) (hg : w.heap[g]? = some (.cells cur t fr)) (hc : ∀ j, j < E.size → cur[off + j]? = cs[j]?)
    (h : wpList Try.prog ops Q rest (a.put o.dst (.agg cs)) w) : wpList Try.prog ops Q (o :: rest) a w := by
  refine wpList_step fun K hK => ?_
  rw [if_pos hw]
  unfold Oper.wp execOp
  simp only [ho, hx, Instr.loadAt, Instr.sureAddr, Sem.run_bind, Sem.run_pure, Result.andThen_ok, H.load w g off cur t fr cs hcs hg hc]
  exact hK _ _ h
/-- A struct that is stored within a block, from a place on. -/
theorem Ag.Ok.store {E : Ag} (H : E.Ok) (w : World) (g off : Nat) (cur : Array Value) (t : TypeId) (cs : Array Value) (hf : cs.size = E.size ∧ cs.all (·.oneCell') = true) (hg : w.heap[g]? = some (.cells cur t (0, 0))) (hs : off + E.size ≤ cur.size) :
    (storeVar E.elem ⟨g, off, none⟩ (.agg cs)).run Try.prog w = .ok () (w.setRow g (cur.toList.take off ++ cs.toList ++ cur.toList.drop (off + E.size)).toArray) := by
  have hst := run_storeCells_at Try.prog g off t cs.toList 0 cur w hg (by rw [Array.length_toList, hf.1]; omega) (fun v hv => by
    have h1 := Array.all_eq_true_iff_forall_mem.1 hf.2 v (by simpa using hv)
    exact h1)
  obtain ⟨i, hq, hz⟩ : ∃ i, Try.prog.info? E.elem = some i ∧ i.size = E.size := by
    have h1 := H.hi
    cases h : Try.prog.info? E.elem with
    | none => rw [h] at h1; simp at h1
    | some i => rw [h] at h1; exact ⟨i, rfl, by simpa using h1⟩
  rw [Nat.add_zero, Array.length_toList, hf.1] at hst
  simp [storeVar, sizeOf, typeInfo, hq, Value.cells, hz, hf.1]
  simpa using hst
end Go.Proofs.Ytbgkbegdaepkfaa
