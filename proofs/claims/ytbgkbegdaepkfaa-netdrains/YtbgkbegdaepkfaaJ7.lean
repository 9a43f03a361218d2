import Derived.Test.YtbgkbegdaepkfaaJ6
namespace Go.Proofs.Ytbgkbegdaepkfaa
open Go Go.RowKit
set_option maxRecDepth 20000

theorem rest_same (n : NetM) (x : ActN) : ((stepN n x).row.length : Int) - (countL (stepN n x) x.src x.dst : Int) = (n.row.length : Int) - (countL n x.src x.dst : Int) := by
  have h1 := rest_len n x.src x.dst
  have h2 := rest_len (stepN n x) x.src x.dst
  rw [step_rest] at h2
  omega
theorem count_row (n : NetM) (f t : Int) : countL n f t ≤ n.row.length := List.length_filter_le _ _
theorem step1_any {B : Nat} {w : World} {g : Nat} {n : NetM} {vs : List Value} (h : NetV B w g n vs) (hi : NetIn n) (hl : n.last < 1000000000000) {x : ActN} (hx : OkActN x) (hk : x.kind = 1) :
    Calls Try.prog 16 #[.pointer (some ⟨g, 0, none⟩), .int .i64 x.src, .int .i64 x.dst, .string x.data] w fun e w' => ∃ u, e = .returned u ∧ NetTo B w w' g (stepN n x) vs :=
  (send_any B w g n vs h hi x.src x.dst x.data hx hl).mono fun e w' hh => ⟨_, hh.1, by unfold stepN; rw [if_pos hk]; exact hh.2⟩
theorem step2_any {B : Nat} {w : World} {g : Nat} {n : NetM} {vs : List Value} (h : NetV B w g n vs) (hi : NetIn n) {x : ActN} (hk : x.kind = 2) :
    Calls Try.prog 17 #[.pointer (some ⟨g, 0, none⟩), .int .i64 x.src, .int .i64 x.dst, .int .i64 x.pl] w fun e w' => ∃ u, e = .returned u ∧ NetTo B w w' g (stepN n x) vs :=
  (takeN_any B w g n vs h hi x.src x.dst x.pl).mono fun e w' hh => ⟨_, hh.1, by unfold stepN; rw [if_neg (by omega), if_pos hk]; exact hh.2⟩
theorem step3_any {B : Nat} {w : World} {g : Nat} {n : NetM} {vs : List Value} (h : NetV B w g n vs) (hi : NetIn n) (hl : n.last < 1000000000000) {x : ActN} (hk : x.kind = 3) :
    Calls Try.prog 18 #[.pointer (some ⟨g, 0, none⟩), .int .i64 x.src, .int .i64 x.dst, .int .i64 x.pl] w fun e w' => ∃ u, e = .returned u ∧ NetTo B w w' g (stepN n x) vs :=
  (twice_any B w g n vs h hi x.src x.dst x.pl hl).mono fun e w' hh => ⟨_, hh.1, by unfold stepN; rw [if_neg (by omega), if_neg (by omega), if_pos hk]; exact hh.2⟩
theorem step0_eq {n : NetM} {x : ActN} (h1 : x.kind ≠ 1) (h2 : x.kind ≠ 2) (h3 : x.kind ≠ 3) : stepN n x = n := by unfold stepN; rw [if_neg h1, if_neg h2, if_neg h3]
set_option maxHeartbeats 16000000 in
theorem lawNBounds_any (w : World) (nodes room : Int) (v : Value) (A : List ActN) (hA : GSl ActNE actN w v A) (hok : ∀ x ∈ A, OkActN x) :
    Calls Try.prog 4 #[.int .i64 nodes, .int .i64 room, v] w fun e w' => e = .returned (.bool true) ∧ Below w.heap.size w w' := by
  have HW := awake17_any w
  by_cases hp : 0 ≤ nodes ∧ nodes ≤ 6 ∧ 1 ≤ room ∧ room ≤ 512
  · have N1 : Hid (∀ W, Calls Try.prog 8 #[.int .i64 nodes, .int .i64 room] W fun e w' => ∃ g vs, e = .returned (.tuple #[.pointer (some ⟨g, 0, none⟩), .int .i64 0]) ∧ NetV W.heap.size w' g ⟨nodes, room, [], 0⟩ vs ∧ Below W.heap.size W w') := fun W => newN_yes nodes room hp W
    have I0 : Hid (NetIn ⟨nodes, room, [], 0⟩) := new_in (nodes := nodes) (room := room) (by unfold newN; rw [if_pos hp])
    obtain ⟨o, cap, hv, hc1, hc2⟩ := hA.slice
    have HA : Hid (GSl ActNE actN w v A) := hA
    have HK : Hid (∀ x ∈ A, OkActN x) := hok
    obtain ⟨q, hq⟩ : ∃ q, q = A.length := ⟨_, rfl⟩
    have HQ : Hid (q = A.length) := hq
    rw [← hq] at hv
    unfold maxLen at hc2
    have hq2 : q ≤ 9223372036854775807 := by omega
    clear hp hA hok hq hc1 hc2
    subst hv
    go_enter Try.func4, Try.ntmps4
    go_wp2_with (first
      | (go_at_call 7; refine HW.mono ?_; rintro e w1 ⟨rfl, hb1⟩)
      | (go_at_call 8; refine (N1.out _).mono ?_; rintro e w3 ⟨g, vs0, rfl, hV2, hb2⟩; refine of_stopT ?_))
    unfold StopT
    have HB3 : Hid (Below w.heap.size w w3) := below_step hb1 hb1.size hb2
    have HT3 : Hid (NetV w.heap.size w3 g ⟨nodes, room, [], 0⟩ vs0) := hV2.base hb1.size
    clear hV2 hb1 hb2 HW N1
    go_wp2_with fail
    go_loopw [9] (fun s9 wr => ∃ (k : Nat) (vs : List Value) (n : NetM), k ≤ q ∧ s9 = .int .i64 (k : Int) ∧ Hid (NetV w.heap.size wr g n vs) ∧ Hid (NetIn n) ∧ Hid (n.room = room) ∧ k ≤ 80 ∧ n.last ≤ k ∧ Below w.heap.size w wr) (fun s9 _ => q - (intOf s9).toNat)
    case atStart => exact ⟨0, vs0, _, Nat.zero_le _, rfl, HT3, I0, rfl, Nat.zero_le _, Nat.le_refl _, HB3.out⟩
    case round =>
      obtain ⟨k, vs, n, hk, rfl, HT, HI, HR, h80, hlast, hb⟩ := hrel
      have HB : Hid (Below w.heap.size w wr) := hb
      clear hb
      by_cases hlt : k < q
      · have hlt' : (k : Int) < (q : Int) := by omega
        by_cases hl80 : k < 80
        · have hl80' : (k : Int) < 80 := by omega
          obtain ⟨g', off, cur, ty, fr, x, rfl, hg, hcc, hxk⟩ := (GSl.below HA.out HB.out).at k hlt
          have KG : Hid (wr.heap[g']? = some (.cells cur ty fr)) := hg
          have H1 : Hid (∀ a, a < 5 → cur[off + k * 5 + a]? = (actN x)[a]?) := hcc
          have HX : Hid (OkActN x) := HK.out x (List.mem_of_getElem? hxk)
          have HL : Hid (n.last < 1000000000000) := by show _ < _; omega
          have I1 : Hid (NetIn (stepN n x)) := step_in HI.out HX.out
          have L1 : Hid ((stepN n x).last ≤ k + 1) := Nat.le_trans (step_last n x) (by omega)
          have R1 : Hid ((stepN n x).room = room) := by
            show _ = _
            rw [← HR.out]
            unfold stepN sendN takeN twiceN sendN putNt
            repeat (first | rfl | split)
          obtain ⟨w4, hw4⟩ : ∃ w4, w4 = wr.alloc (.cells (actN x) 33) := ⟨_, rfl⟩
          have HW4 : Hid (wr.alloc (.cells (actN x) 33) = w4) := hw4.symm
          have B4 : Hid (Below wr.heap.size wr w4) := by show Below _ _ _; rw [hw4]; exact (Below.refl _ _).alloc (Nat.le_refl _) _
          have A4 : Hid (w4.heap[wr.heap.size]? = some (.cells (actN x) 33 (0, 0))) := by show _ = _; rw [hw4]; exact heap_new _ _ _ rfl
          have NF : Hid (¬ footN g vs wr.heap.size) := fun e => by have := (HT.out.foot_in _ e).2; omega
          have T4 : Hid (NetV w.heap.size w4 g n vs) := HT.out.below B4.out
          clear hg hcc hxk hlast hw4
          go_wp2_with (first
            | (refine wl_loadE (E := ActNE) ActNOk rfl _ rfl g' (off + k * 5) rfl cur ty fr (actN x) rfl KG.out H1.out ?_)
            | (refine wl_storeE (E := ActNE) ActNOk rfl _ _ rfl wr.heap.size (actN x) (actN_fits x) rfl rfl _ (heap_new _ _ _ rfl) rfl w4 (by rw [setRow_new _ _ _ _ _ rfl]; exact HW4.out) ?_; refine of_stopT ?_))
          unfold StopT
          have HTot : Hid (∀ m, Calls Try.prog 13 #[.pointer (some ⟨g, 0, none⟩)] (w4.drewN m) fun e w' => e = .returned (.int .i64 (n.row.length : Int)) ∧ w' = w4.drewN m) := fun m => total_any w.heap.size _ g n vs (T4.out.below (below_drewN (Below.refl _ _) _)) HI.out
          have HCn : Hid (∀ m, Calls Try.prog 14 #[.pointer (some ⟨g, 0, none⟩), .int .i64 x.src, .int .i64 x.dst] (w4.drewN m) fun e w' => e = .returned (.int .i64 (countL n x.src x.dst : Int)) ∧ w' = w4.drewN m) := fun m => by
            have := count_any w.heap.size _ g n vs (T4.out.below (below_drewN (Below.refl _ _) m)) HI.out x.src x.dst
            rw [count_both HI.out] at this
            exact this
          have k1 : ∀ m, (w4.drewN m).cell? ⟨wr.heap.size, 1, none⟩ = some (.int .i64 x.src) := fun m => (actfn_of (w := w4.drewN m) (off := 0) A4.out (fun j _ => by rw [Nat.zero_add])).c1
          have k2 : ∀ m, (w4.drewN m).cell? ⟨wr.heap.size, 2, none⟩ = some (.int .i64 x.dst) := fun m => (actfn_of (w := w4.drewN m) (off := 0) A4.out (fun j _ => by rw [Nat.zero_add])).c2
          have hle := count_row n x.src x.dst
          have hfew := row_few HI.out
          have HRE : Hid (((stepN n x).row.length : Int) - (countL (stepN n x) x.src x.dst : Int) = (n.row.length : Int) - (countL n x.src x.dst : Int)) := rest_same n x
          obtain ⟨qr, hqr⟩ : ∃ qr, qr = n.row.length := ⟨_, rfl⟩
          obtain ⟨cn, hcn⟩ : ∃ cn, cn = countL n x.src x.dst := ⟨_, rfl⟩
          rw [← hqr] at HTot hle hfew HRE
          rw [← hcn] at HCn hle HRE
          clear hqr hcn KG H1
          go_wp2_with fail
          go_quiet (first
            | (go_at_call 13; exact Calls.quiet_of_same (HTot.out _))
            | (go_at_call 14; exact Calls.quiet_of_same (HCn.out _)))
          have B5 : Hid (Below wr.heap.size wr (w4.drewN nq)) := below_drewN B4.out _
          have T5 : Hid (NetV w.heap.size (w4.drewN nq) g n vs) := T4.out.below (below_drewN (Below.refl _ _) _)
          have A5 : Hid ((w4.drewN nq).heap[wr.heap.size]? = some (.cells (actN x) 33 (0, 0))) := A4.out
          obtain ⟨w5, hw5⟩ : ∃ w5, w5 = w4.drewN nq := ⟨_, rfl⟩
          rw [← hw5] at B5 T5 A5 ⊢
          have F5 := actfn_of (off := 0) A5.out (fun j _ => by rw [Nat.zero_add])
          have c0 := F5.c0
          have c1 := F5.c1
          have c2 := F5.c2
          have c3 := F5.c3
          have c4 := F5.c4
          clear F5 hw5 k1 k2 HTot HCn A4 T4 B4 HW4
          by_cases h1 : x.kind = 1
          · have hst := step1_any T5.out HI.out HL.out HX.out h1
            rw [h1] at c0
            go_wp2_with (go_at_call 16; refine hst.mono ?_; rintro e w6 ⟨u, rfl, hto⟩; refine of_stopT ?_)
            unfold StopT
            clear c0 c1 c2 c3 c4 hst h1
            obtain ⟨vs6, hV6, hb6⟩ := NetTo.belowN T5.out hto
            have AX6 := (show ∃ us, NetV w.heap.size w6 g (stepN n x) us ∧ Kept (footN g vs) w5 w6 ∧ _ from hto).choose_spec.2.1.heap A5.out NF.out
            have T6 : Hid (NetV w.heap.size w6 g (stepN n x) vs6) := hV6
            have B6 : Hid (Below w.heap.size w w6) := (below_step HB.out HB.out.size B5.out).trans hb6
            have A6 : Hid (w6.heap[wr.heap.size]? = some (.cells (actN x) 33 (0, 0))) := AX6
            have HTot : Hid (∀ m, Calls Try.prog 13 #[.pointer (some ⟨g, 0, none⟩)] (w6.drewN m) fun e w' => e = .returned (.int .i64 ((stepN n x).row.length : Int)) ∧ w' = w6.drewN m) := fun m => total_any w.heap.size _ g (stepN n x) vs6 (T6.out.below (below_drewN (Below.refl _ _) _)) I1.out
            have HCn : Hid (∀ m, Calls Try.prog 14 #[.pointer (some ⟨g, 0, none⟩), .int .i64 x.src, .int .i64 x.dst] (w6.drewN m) fun e w' => e = .returned (.int .i64 (countL (stepN n x) x.src x.dst : Int)) ∧ w' = w6.drewN m) := fun m => by
              have := count_any w.heap.size _ g (stepN n x) vs6 (T6.out.below (below_drewN (Below.refl _ _) m)) I1.out x.src x.dst
              rw [count_both I1.out] at this
              exact this
            have k1 : ∀ m, (w6.drewN m).cell? ⟨wr.heap.size, 1, none⟩ = some (.int .i64 x.src) := fun m => (actfn_of (w := w6.drewN m) (off := 0) A6.out (fun j _ => by rw [Nat.zero_add])).c1
            have k2 : ∀ m, (w6.drewN m).cell? ⟨wr.heap.size, 2, none⟩ = some (.int .i64 x.dst) := fun m => (actfn_of (w := w6.drewN m) (off := 0) A6.out (fun j _ => by rw [Nat.zero_add])).c2
            have hle6 := count_row (stepN n x) x.src x.dst
            have hfew6 := row_few I1.out
            have hrm := I1.out.ok.count x.src x.dst
            rw [R1.out] at hrm
            have HRE6 := HRE.out
            obtain ⟨n1, hn1⟩ : ∃ n1, n1 = stepN n x := ⟨_, rfl⟩
            rw [← hn1] at HTot HCn hle6 hfew6 hrm HRE6 I1 L1 R1 T6
            obtain ⟨qr6, hqr6⟩ : ∃ qr6, qr6 = n1.row.length := ⟨_, rfl⟩
            obtain ⟨cn6, hcn6⟩ : ∃ cn6, cn6 = countL n1 x.src x.dst := ⟨_, rfl⟩
            rw [← hqr6] at HTot hle6 hfew6 HRE6
            rw [← hcn6] at HCn hle6 hrm HRE6
            have d1 : ¬ ((cn6 : Int) > room) := by omega
            have d1' : ¬ (room < (cn6 : Int)) := by omega
            have hwr : IntKind.i64.wrap ((qr6 : Int) - (cn6 : Int)) = (qr6 : Int) - (cn6 : Int) := by rw [IntKind.wrap_i64]; omega
            have d2 : (((qr6 : Int) - (cn6 : Int)) != ((qr : Int) - (cn : Int))) = false := by simp; omega
            clear hqr6 hcn6 hn1 hV6 hb6 AX6 hto HRE6 hrm HRE
            go_wp2_with fail
            go_quiet (first
              | (go_at_call 13; exact Calls.quiet_of_same (HTot.out _))
              | (go_at_call 14; exact Calls.quiet_of_same (HCn.out _)))
            have B7 : Hid (Below w.heap.size w (w6.drewN nq)) := below_drewN B6.out _
            have T7 : Hid (NetV w.heap.size (w6.drewN nq) g n1 vs6) := T6.out.below (below_drewN (Below.refl _ _) _)
            go_wp2_with fail
            go_roundw
            case rel => exact ⟨k + 1, vs6, n1, by omega, by go_num, T7, I1, R1, by omega, L1.out, B7.out⟩
            case measure => simp [intOf]; omega
          by_cases h2 : x.kind = 2
          · have hst := step2_any T5.out HI.out h2
            rw [h2] at c0
            go_wp2_with (go_at_call 17; refine hst.mono ?_; rintro e w6 ⟨u, rfl, hto⟩; refine of_stopT ?_)
            unfold StopT
            clear c0 c1 c2 c3 c4 hst h2
            obtain ⟨vs6, hV6, hb6⟩ := NetTo.belowN T5.out hto
            have AX6 := (show ∃ us, NetV w.heap.size w6 g (stepN n x) us ∧ Kept (footN g vs) w5 w6 ∧ _ from hto).choose_spec.2.1.heap A5.out NF.out
            have T6 : Hid (NetV w.heap.size w6 g (stepN n x) vs6) := hV6
            have B6 : Hid (Below w.heap.size w w6) := (below_step HB.out HB.out.size B5.out).trans hb6
            have A6 : Hid (w6.heap[wr.heap.size]? = some (.cells (actN x) 33 (0, 0))) := AX6
            have HTot : Hid (∀ m, Calls Try.prog 13 #[.pointer (some ⟨g, 0, none⟩)] (w6.drewN m) fun e w' => e = .returned (.int .i64 ((stepN n x).row.length : Int)) ∧ w' = w6.drewN m) := fun m => total_any w.heap.size _ g (stepN n x) vs6 (T6.out.below (below_drewN (Below.refl _ _) _)) I1.out
            have HCn : Hid (∀ m, Calls Try.prog 14 #[.pointer (some ⟨g, 0, none⟩), .int .i64 x.src, .int .i64 x.dst] (w6.drewN m) fun e w' => e = .returned (.int .i64 (countL (stepN n x) x.src x.dst : Int)) ∧ w' = w6.drewN m) := fun m => by
              have := count_any w.heap.size _ g (stepN n x) vs6 (T6.out.below (below_drewN (Below.refl _ _) m)) I1.out x.src x.dst
              rw [count_both I1.out] at this
              exact this
            have k1 : ∀ m, (w6.drewN m).cell? ⟨wr.heap.size, 1, none⟩ = some (.int .i64 x.src) := fun m => (actfn_of (w := w6.drewN m) (off := 0) A6.out (fun j _ => by rw [Nat.zero_add])).c1
            have k2 : ∀ m, (w6.drewN m).cell? ⟨wr.heap.size, 2, none⟩ = some (.int .i64 x.dst) := fun m => (actfn_of (w := w6.drewN m) (off := 0) A6.out (fun j _ => by rw [Nat.zero_add])).c2
            have hle6 := count_row (stepN n x) x.src x.dst
            have hfew6 := row_few I1.out
            have hrm := I1.out.ok.count x.src x.dst
            rw [R1.out] at hrm
            have HRE6 := HRE.out
            obtain ⟨n1, hn1⟩ : ∃ n1, n1 = stepN n x := ⟨_, rfl⟩
            rw [← hn1] at HTot HCn hle6 hfew6 hrm HRE6 I1 L1 R1 T6
            obtain ⟨qr6, hqr6⟩ : ∃ qr6, qr6 = n1.row.length := ⟨_, rfl⟩
            obtain ⟨cn6, hcn6⟩ : ∃ cn6, cn6 = countL n1 x.src x.dst := ⟨_, rfl⟩
            rw [← hqr6] at HTot hle6 hfew6 HRE6
            rw [← hcn6] at HCn hle6 hrm HRE6
            have d1 : ¬ ((cn6 : Int) > room) := by omega
            have d1' : ¬ (room < (cn6 : Int)) := by omega
            have hwr : IntKind.i64.wrap ((qr6 : Int) - (cn6 : Int)) = (qr6 : Int) - (cn6 : Int) := by rw [IntKind.wrap_i64]; omega
            have d2 : (((qr6 : Int) - (cn6 : Int)) != ((qr : Int) - (cn : Int))) = false := by simp; omega
            clear hqr6 hcn6 hn1 hV6 hb6 AX6 hto HRE6 hrm HRE
            go_wp2_with fail
            go_quiet (first
              | (go_at_call 13; exact Calls.quiet_of_same (HTot.out _))
              | (go_at_call 14; exact Calls.quiet_of_same (HCn.out _)))
            have B7 : Hid (Below w.heap.size w (w6.drewN nq)) := below_drewN B6.out _
            have T7 : Hid (NetV w.heap.size (w6.drewN nq) g n1 vs6) := T6.out.below (below_drewN (Below.refl _ _) _)
            go_wp2_with fail
            go_roundw
            case rel => exact ⟨k + 1, vs6, n1, by omega, by go_num, T7, I1, R1, by omega, L1.out, B7.out⟩
            case measure => simp [intOf]; omega
          by_cases h3 : x.kind = 3
          · have hst := step3_any T5.out HI.out HL.out h3
            rw [h3] at c0
            go_wp2_with (go_at_call 18; refine hst.mono ?_; rintro e w6 ⟨u, rfl, hto⟩; refine of_stopT ?_)
            unfold StopT
            clear c0 c1 c2 c3 c4 hst h3
            obtain ⟨vs6, hV6, hb6⟩ := NetTo.belowN T5.out hto
            have AX6 := (show ∃ us, NetV w.heap.size w6 g (stepN n x) us ∧ Kept (footN g vs) w5 w6 ∧ _ from hto).choose_spec.2.1.heap A5.out NF.out
            have T6 : Hid (NetV w.heap.size w6 g (stepN n x) vs6) := hV6
            have B6 : Hid (Below w.heap.size w w6) := (below_step HB.out HB.out.size B5.out).trans hb6
            have A6 : Hid (w6.heap[wr.heap.size]? = some (.cells (actN x) 33 (0, 0))) := AX6
            have HTot : Hid (∀ m, Calls Try.prog 13 #[.pointer (some ⟨g, 0, none⟩)] (w6.drewN m) fun e w' => e = .returned (.int .i64 ((stepN n x).row.length : Int)) ∧ w' = w6.drewN m) := fun m => total_any w.heap.size _ g (stepN n x) vs6 (T6.out.below (below_drewN (Below.refl _ _) _)) I1.out
            have HCn : Hid (∀ m, Calls Try.prog 14 #[.pointer (some ⟨g, 0, none⟩), .int .i64 x.src, .int .i64 x.dst] (w6.drewN m) fun e w' => e = .returned (.int .i64 (countL (stepN n x) x.src x.dst : Int)) ∧ w' = w6.drewN m) := fun m => by
              have := count_any w.heap.size _ g (stepN n x) vs6 (T6.out.below (below_drewN (Below.refl _ _) m)) I1.out x.src x.dst
              rw [count_both I1.out] at this
              exact this
            have k1 : ∀ m, (w6.drewN m).cell? ⟨wr.heap.size, 1, none⟩ = some (.int .i64 x.src) := fun m => (actfn_of (w := w6.drewN m) (off := 0) A6.out (fun j _ => by rw [Nat.zero_add])).c1
            have k2 : ∀ m, (w6.drewN m).cell? ⟨wr.heap.size, 2, none⟩ = some (.int .i64 x.dst) := fun m => (actfn_of (w := w6.drewN m) (off := 0) A6.out (fun j _ => by rw [Nat.zero_add])).c2
            have hle6 := count_row (stepN n x) x.src x.dst
            have hfew6 := row_few I1.out
            have hrm := I1.out.ok.count x.src x.dst
            rw [R1.out] at hrm
            have HRE6 := HRE.out
            obtain ⟨n1, hn1⟩ : ∃ n1, n1 = stepN n x := ⟨_, rfl⟩
            rw [← hn1] at HTot HCn hle6 hfew6 hrm HRE6 I1 L1 R1 T6
            obtain ⟨qr6, hqr6⟩ : ∃ qr6, qr6 = n1.row.length := ⟨_, rfl⟩
            obtain ⟨cn6, hcn6⟩ : ∃ cn6, cn6 = countL n1 x.src x.dst := ⟨_, rfl⟩
            rw [← hqr6] at HTot hle6 hfew6 HRE6
            rw [← hcn6] at HCn hle6 hrm HRE6
            have d1 : ¬ ((cn6 : Int) > room) := by omega
            have d1' : ¬ (room < (cn6 : Int)) := by omega
            have hwr : IntKind.i64.wrap ((qr6 : Int) - (cn6 : Int)) = (qr6 : Int) - (cn6 : Int) := by rw [IntKind.wrap_i64]; omega
            have d2 : (((qr6 : Int) - (cn6 : Int)) != ((qr : Int) - (cn : Int))) = false := by simp; omega
            clear hqr6 hcn6 hn1 hV6 hb6 AX6 hto HRE6 hrm HRE
            go_wp2_with fail
            go_quiet (first
              | (go_at_call 13; exact Calls.quiet_of_same (HTot.out _))
              | (go_at_call 14; exact Calls.quiet_of_same (HCn.out _)))
            have B7 : Hid (Below w.heap.size w (w6.drewN nq)) := below_drewN B6.out _
            have T7 : Hid (NetV w.heap.size (w6.drewN nq) g n1 vs6) := T6.out.below (below_drewN (Below.refl _ _) _)
            go_wp2_with fail
            go_roundw
            case rel => exact ⟨k + 1, vs6, n1, by omega, by go_num, T7, I1, R1, by omega, L1.out, B7.out⟩
            case measure => simp [intOf]; omega
          have e1 : (x.kind == 1) = false := by simpa using h1
          have e2 : (x.kind == 2) = false := by simpa using h2
          have e3 : (x.kind == 3) = false := by simpa using h3
          have hto : NetTo w.heap.size w5 w5 g (stepN n x) vs := by rw [step0_eq h1 h2 h3]; exact T5.out.stay (Below.refl _ _)
          have hto : ∃ w6, w6 = w5 ∧ NetTo w.heap.size w5 w6 g (stepN n x) vs := ⟨w5, rfl, hto⟩
          clear h1 h2 h3
          go_wp2_with fail
          obtain ⟨w6, hw6, hto⟩ := hto
          rw [← hw6]
          clear hw6 c0 c1 c2 c3 c4
          obtain ⟨vs6, hV6, hb6⟩ := NetTo.belowN T5.out hto
          have AX6 := (show ∃ us, NetV w.heap.size w6 g (stepN n x) us ∧ Kept (footN g vs) w5 w6 ∧ _ from hto).choose_spec.2.1.heap A5.out NF.out
          have T6 : Hid (NetV w.heap.size w6 g (stepN n x) vs6) := hV6
          have B6 : Hid (Below w.heap.size w w6) := (below_step HB.out HB.out.size B5.out).trans hb6
          have A6 : Hid (w6.heap[wr.heap.size]? = some (.cells (actN x) 33 (0, 0))) := AX6
          have HTot : Hid (∀ m, Calls Try.prog 13 #[.pointer (some ⟨g, 0, none⟩)] (w6.drewN m) fun e w' => e = .returned (.int .i64 ((stepN n x).row.length : Int)) ∧ w' = w6.drewN m) := fun m => total_any w.heap.size _ g (stepN n x) vs6 (T6.out.below (below_drewN (Below.refl _ _) _)) I1.out
          have HCn : Hid (∀ m, Calls Try.prog 14 #[.pointer (some ⟨g, 0, none⟩), .int .i64 x.src, .int .i64 x.dst] (w6.drewN m) fun e w' => e = .returned (.int .i64 (countL (stepN n x) x.src x.dst : Int)) ∧ w' = w6.drewN m) := fun m => by
            have := count_any w.heap.size _ g (stepN n x) vs6 (T6.out.below (below_drewN (Below.refl _ _) m)) I1.out x.src x.dst
            rw [count_both I1.out] at this
            exact this
          have k1 : ∀ m, (w6.drewN m).cell? ⟨wr.heap.size, 1, none⟩ = some (.int .i64 x.src) := fun m => (actfn_of (w := w6.drewN m) (off := 0) A6.out (fun j _ => by rw [Nat.zero_add])).c1
          have k2 : ∀ m, (w6.drewN m).cell? ⟨wr.heap.size, 2, none⟩ = some (.int .i64 x.dst) := fun m => (actfn_of (w := w6.drewN m) (off := 0) A6.out (fun j _ => by rw [Nat.zero_add])).c2
          have hle6 := count_row (stepN n x) x.src x.dst
          have hfew6 := row_few I1.out
          have hrm := I1.out.ok.count x.src x.dst
          rw [R1.out] at hrm
          have HRE6 := HRE.out
          obtain ⟨n1, hn1⟩ : ∃ n1, n1 = stepN n x := ⟨_, rfl⟩
          rw [← hn1] at HTot HCn hle6 hfew6 hrm HRE6 I1 L1 R1 T6
          obtain ⟨qr6, hqr6⟩ : ∃ qr6, qr6 = n1.row.length := ⟨_, rfl⟩
          obtain ⟨cn6, hcn6⟩ : ∃ cn6, cn6 = countL n1 x.src x.dst := ⟨_, rfl⟩
          rw [← hqr6] at HTot hle6 hfew6 HRE6
          rw [← hcn6] at HCn hle6 hrm HRE6
          have d1 : ¬ ((cn6 : Int) > room) := by omega
          have d1' : ¬ (room < (cn6 : Int)) := by omega
          have hwr : IntKind.i64.wrap ((qr6 : Int) - (cn6 : Int)) = (qr6 : Int) - (cn6 : Int) := by rw [IntKind.wrap_i64]; omega
          have d2 : (((qr6 : Int) - (cn6 : Int)) != ((qr : Int) - (cn : Int))) = false := by simp; omega
          clear hqr6 hcn6 hn1 hV6 hb6 AX6 hto HRE6 hrm HRE
          go_wp2_with fail
          go_quiet (first
            | (go_at_call 13; exact Calls.quiet_of_same (HTot.out _))
            | (go_at_call 14; exact Calls.quiet_of_same (HCn.out _)))
          have B7 : Hid (Below w.heap.size w (w6.drewN nq)) := below_drewN B6.out _
          have T7 : Hid (NetV w.heap.size (w6.drewN nq) g n1 vs6) := T6.out.below (below_drewN (Below.refl _ _) _)
          go_wp2_with fail
          go_roundw
          case rel => exact ⟨k + 1, vs6, n1, by omega, by go_num, T7, I1, R1, by omega, L1.out, B7.out⟩
          case measure => simp [intOf]; omega
        · have hl80' : ¬ (k : Int) < 80 := by omega
          go_wp2_with fail
          go_ret
          exact ⟨rfl, HB.out⟩
      · have hlt' : ¬ (k : Int) < (q : Int) := by omega
        go_wp2_with fail
        go_ret
        exact ⟨rfl, HB.out⟩
  · have N1 : Hid (∀ W, Calls Try.prog 8 #[.int .i64 nodes, .int .i64 room] W fun e w' => e = .returned (.tuple #[.pointer none, .int .i64 1]) ∧ w' = W) := fun W => newN_no nodes room hp W
    clear hp hA hok
    go_enter Try.func4, Try.ntmps4
    go_wp2_with (first
      | (go_at_call 7; refine HW.mono ?_; rintro e w1 ⟨rfl, hb1⟩)
      | (go_at_call 8; refine (N1.out _).mono ?_; rintro e w2 ⟨rfl, h2⟩; subst h2))
    go_ret
    exact ⟨rfl, hb1⟩
end Go.Proofs.Ytbgkbegdaepkfaa
namespace Go.Proofs.Ytbgkbegdaepkfaa
open Go Go.RowKit
set_option maxRecDepth 20000

theorem TwM.ownB {B : Nat} {w w' : World} {g r : Nat} {n m n' : NetM} {vs : List Value} {v : Value} (h : TwM B w g r n m vs v) (ht : NetTo B w w' g n' vs) : ∃ us, TwM B w' g r n' m us v ∧ Below B w w' := by
  obtain ⟨us, h1, h2, h3⟩ := ht
  have hF : Frm (footN g vs) (footN g us) w w' := ⟨h2, h3⟩
  exact ⟨us, ⟨h1, h.f.kept h2 fun k e e' => h.ap k e' e, hF.apart (fun k e => (h.f.foot_in k e).2) h.ap⟩, h2.below (fun k e => (h.o.foot_in k e).1) h.o.hw⟩
set_option maxHeartbeats 16000000 in
theorem lawNDrains_any (w : World) (nodes room : Int) (v : Value) (A : List ActN) (hA : GSl ActNE actN w v A) (hok : ∀ x ∈ A, OkActN x) :
    Calls Try.prog 5 #[.int .i64 nodes, .int .i64 room, v] w fun e w' => e = .returned (.bool true) ∧ Below w.heap.size w w' := by
  have HW := awake17_any w
  by_cases hp : 0 ≤ nodes ∧ nodes ≤ 6 ∧ 1 ≤ room ∧ room ≤ 512
  · have N1 : Hid (∀ W, Calls Try.prog 8 #[.int .i64 nodes, .int .i64 room] W fun e w' => ∃ g vs, e = .returned (.tuple #[.pointer (some ⟨g, 0, none⟩), .int .i64 0]) ∧ NetV W.heap.size w' g ⟨nodes, room, [], 0⟩ vs ∧ Below W.heap.size W w') := fun W => newN_yes nodes room hp W
    have N2 : Hid (∀ W, Calls Try.prog 9 #[.int .i64 nodes, .int .i64 room] W fun e w' => ∃ r v, e = .returned (.tuple #[.pointer (some ⟨r, 0, none⟩), .int .i64 0]) ∧ RNetV W.heap.size w' r ⟨nodes, room, [], 0⟩ v ∧ Below W.heap.size W w') := fun W => rnewN_yes nodes room hp W
    have I0 : Hid (NetIn ⟨nodes, room, [], 0⟩) := new_in (nodes := nodes) (room := room) (by unfold newN; rw [if_pos hp])
    obtain ⟨o, cap, hv, hc1, hc2⟩ := hA.slice
    have HA : Hid (GSl ActNE actN w v A) := hA
    have HK : Hid (∀ x ∈ A, OkActN x) := hok
    obtain ⟨q, hq⟩ : ∃ q, q = A.length := ⟨_, rfl⟩
    have HQ : Hid (q = A.length) := hq
    rw [← hq] at hv
    unfold maxLen at hc2
    have hq2 : q ≤ 9223372036854775807 := by omega
    clear hp hA hok hq hc1 hc2
    subst hv
    go_enter Try.func5, Try.ntmps5
    go_wp2_with (first
      | (go_at_call 7; refine HW.mono ?_; rintro e w1 ⟨rfl, hb1⟩)
      | (go_at_call 8; refine (N1.out _).mono ?_; rintro e w2 ⟨g, vs0, rfl, hV2, hb2⟩)
      | (go_at_call 9; refine (N2.out _).mono ?_; rintro e w3 ⟨r, v0, rfl, hV3, hb3⟩; refine of_stopT ?_))
    unfold StopT
    have B2 : Below w.heap.size w w2 := below_step hb1 hb1.size hb2
    have HT3 : Hid (TwM w.heap.size w3 g r ⟨nodes, room, [], 0⟩ ⟨nodes, room, [], 0⟩ vs0 v0) := two_new (hV2.base hb1.size) hV3 hb3 B2.size
    have HB3 : Hid (Below w.heap.size w w3) := below_step B2 B2.size hb3
    clear hV2 hV3 hb1 hb2 hb3 B2 HW N1 N2
    go_wp2_with fail
    go_loopw [11] (fun s11 wr => ∃ (k : Nat) (vs : List Value) (v : Value) (n : NetM), k ≤ q ∧ s11 = .int .i64 (k : Int) ∧ Hid (TwM w.heap.size wr g r n n vs v) ∧ Hid (NetIn n) ∧ k ≤ 80 ∧ n.last ≤ k ∧ Below w.heap.size w wr) (fun s11 _ => q - (intOf s11).toNat)
    case atStart => exact ⟨0, vs0, v0, _, Nat.zero_le _, rfl, HT3, I0, Nat.zero_le _, Nat.le_refl _, HB3.out⟩
    case round =>
      obtain ⟨k, vs, v, n, hk, rfl, HT, HI, h80, hlast, hb⟩ := hrel
      have HB : Hid (Below w.heap.size w wr) := hb
      clear hb
      by_cases hgo : k < q ∧ k < 80
      · obtain ⟨hlt, hl80⟩ := hgo
        have hlt' : (k : Int) < (q : Int) := by omega
        have hl80' : (k : Int) < 80 := by omega
        obtain ⟨g', off, cur, ty, fr, x, rfl, hg, hcc, hxk⟩ := (GSl.below HA.out HB.out).at k hlt
        have KG : Hid (wr.heap[g']? = some (.cells cur ty fr)) := hg
        have H1 : Hid (∀ a, a < 5 → cur[off + k * 5 + a]? = (actN x)[a]?) := hcc
        have HX : Hid (OkActN x) := HK.out x (List.mem_of_getElem? hxk)
        have hpl := plays_any w.heap.size wr g r n vs v HT.out HI.out (by omega) x HX.out
        have I1 : Hid (NetIn (stepN n x)) := step_in HI.out HX.out
        have L1 : Hid ((stepN n x).last ≤ k + 1) := Nat.le_trans (step_last n x) (by omega)
        obtain ⟨n1, hn1⟩ : ∃ n1, n1 = stepN n x := ⟨_, rfl⟩
        rw [← hn1] at hpl I1 L1
        clear hg hcc hxk hlast hn1
        go_wp2_with (first
          | (refine wl_loadE (E := ActNE) ActNOk rfl _ rfl g' (off + k * 5) rfl cur ty fr (actN x) rfl KG.out H1.out ?_)
          | (go_at_call 10; refine hpl.mono ?_; rintro e w4 ⟨rfl, hto⟩; refine of_stopT ?_))
        unfold StopT
        obtain ⟨vs4, v4, hT4, hb4⟩ := TwTo.belowW HT.out hto
        have T4 : Hid (TwM w.heap.size w4 g r n1 n1 vs4 v4) := hT4
        have B4 : Hid (Below w.heap.size w w4) := HB.out.trans hb4
        clear hto hT4 hb4 hpl HT KG
        go_wp2_with fail
        go_roundw
        case rel => exact ⟨k + 1, vs4, v4, n1, by omega, by go_num, T4, I1, by omega, L1.out, B4.out⟩
        case measure => simp [intOf]; omega
      · have hd : ((k : Int) < (q : Int) ∧ (k : Int) < 80) → False := fun e => hgo (by omega)
        have HT0 : Hid (TwM w.heap.size wr g r n n vs v) := HT
        have HB0 : Hid (Below w.heap.size w wr) := HB
        have hfew := row_few HI.out
        obtain ⟨W, hW⟩ : ∃ W, W = wr := ⟨_, rfl⟩
        rw [← hW] at HT0 HB0
        have hrest : ∀ (a : Nat), True := fun _ => trivial
        clear hrest HT HB
        by_cases hlt : k < q
        · have hlt' : (k : Int) < (q : Int) := by omega
          have hl80' : ¬ (k : Int) < 80 := by omega
          rw [← hW]
          clear hd hgo hW
          go_wp2_with fail
          go_loopw [12] (fun s12 wr => ∃ (j : Nat) (us : List Value) (m : NetM), j ≤ n.row.length ∧ s12 = .int .i64 (j : Int) ∧ Hid (TwM w.heap.size wr g r m n us v) ∧ Hid (NetIn m) ∧ Hid (m.row = n.row.drop j) ∧ Below w.heap.size w wr) (fun s12 _ => n.row.length - (intOf s12).toNat)
          case atStart => exact ⟨0, vs, n, Nat.zero_le _, rfl, HT0, HI, rfl, HB0.out⟩
          case round =>
            obtain ⟨j, us, m, hj, rfl, HT, HM, HD, hb⟩ := hrel
            have HB : Hid (Below w.heap.size w wr) := hb
            have F := HT.out.f.f.c2
            obtain ⟨o6, cap6, hv6, _, hc6⟩ := HT.out.f.own.slice
            have HFF : Hid (∀ W' m' us', TwM w.heap.size W' g r m' n us' v → W'.cell? ⟨r, 2, none⟩ = some v ∧ GSl RLetE rletV W' v n.row) := fun W' m' us' h => ⟨h.f.f.c2, h.f.own.sl⟩
            have HVV : Hid (v = Value.slice o6 n.row.length cap6) := hv6
            obtain ⟨qr, hqr⟩ : ∃ qr, qr = n.row.length := ⟨_, rfl⟩
            have HQR : Hid (qr = n.row.length) := hqr
            unfold maxLen at hc6
            have hj' : j ≤ qr := by omega
            have hfew' : qr ≤ 25088 := by omega
            rw [← hqr] at hv6 HVV
            rw [hv6] at F
            by_cases hlt2 : j < qr
            · have hlt2' : (j : Int) < (qr : Int) := by omega
              obtain ⟨x, hx⟩ : ∃ x, n.row[j]? = some x := ⟨_, List.getElem?_eq_getElem (by omega)⟩
              have hmr : m.row = x :: n.row.drop (j + 1) := by
                rw [HD.out, List.drop_eq_getElem_cons (show j < n.row.length by omega)]
                congr 1
                exact (List.getElem?_eq_some_iff.1 hx).2
              obtain ⟨eo, et⟩ := old_take HM.out.ok hmr
              have hold := oldest_any w.heap.size wr g m us HT.out.o HM.out
              rw [eo] at hold
              have HTK : Hid (∀ W, Below wr.heap.size wr W → Calls Try.prog 17 #[.pointer (some ⟨g, 0, none⟩), .int .i64 x.src, .int .i64 x.dst, .int .i64 0] W fun e w' => e = .returned (.tuple #[.string ⟨x.data.toArray⟩, .int .i64 0]) ∧ NetTo w.heap.size W w' g { m with row := n.row.drop (j + 1) } us) := fun W hb => by
                have := takeN_any w.heap.size W g m us (HT.out.o.below hb) HM.out x.src x.dst 0
                rw [et] at this
                exact this
              have HM1 : Hid (NetIn { m with row := n.row.drop (j + 1) }) := by
                have := take_in HM.out x.src x.dst 0
                rw [et] at this
                exact this
              have HX : Hid (n.row[j]? = some x) := hx
              have HD1 : Hid (({ m with row := n.row.drop (j + 1) } : NetM).row = n.row.drop (j + 1)) := rfl
              obtain ⟨m1, hm1⟩ : ∃ m1 : NetM, m1 = { m with row := n.row.drop (j + 1) } := ⟨_, rfl⟩
              rw [← hm1] at HTK HM1 HD1
              obtain ⟨s, hs⟩ : ∃ s : ByteArray, s = ⟨x.data.toArray⟩ := ⟨_, rfl⟩
              have HSS : Hid (s = ⟨x.data.toArray⟩) := hs
              rw [← hs] at HTK
              obtain ⟨xs, hxs⟩ : ∃ xs, xs = x.src := ⟨_, rfl⟩
              obtain ⟨xd, hxd⟩ : ∃ xd, xd = x.dst := ⟨_, rfl⟩
              have HXS : Hid (xs = x.src) := hxs
              have HXD : Hid (xd = x.dst) := hxd
              dsimp only at hold
              rw [← hxs, ← hxd] at HTK hold
              clear hs hxs hxd hm1 eo et hmr hx hb hqr hv6 hj hfew
              go_wp2_with (first
                | (go_at_call 11; refine hold.mono ?_; rintro e w5 ⟨rfl, hb5⟩)
                | (go_at_call 17; refine (HTK.out _ hb5).mono ?_; rintro e w6 ⟨rfl, hto⟩; refine of_stopT ?_))
              unfold StopT
              obtain ⟨us6, hT6, hb6⟩ := (HT.out.below hb5).ownB hto
              have B6 : Hid (Below w.heap.size w w6) := (below_step HB.out HB.out.size hb5).trans hb6
              have T6 : Hid (TwM w.heap.size w6 g r m1 n us6 v) := hT6
              obtain ⟨F6, hgs⟩ := HFF.out _ _ _ hT6
              rw [HVV.out] at F6 hgs
              obtain ⟨g7, off7, cur7, ty7, fr7, y, ho7, hg7, hcc7, hy7⟩ := hgs.at j hlt2
              obtain rfl : y = x := by have e := HX.out; rw [hy7] at e; exact Option.some.inj e
              have RF := rlf_of (off := off7 + j * 3) hg7 hcc7
              have f0 := RF.c0
              have f1 := RF.c1
              have f2 := RF.c2
              rw [← HXS.out] at f0
              rw [← HXD.out] at f1
              rw [← HSS.out] at f2
              rw [ho7] at F6
              clear RF hg7 hcc7 hy7 hgs hT6 hb6 hto hb5 hold F ho7
              go_wp2_with fail
              go_roundw
              case rel => exact ⟨j + 1, us6, m1, by have := HQR.out; omega, by go_num, T6, HM1, HD1, B6.out⟩
              case measure => have := HQR.out; simp [intOf]; omega
            · have hlt2' : ¬ (j : Int) < (qr : Int) := by omega
              have hmr : m.row = [] := by rw [HD.out]; exact List.drop_of_length_le (by omega)
              have hold := oldest_any w.heap.size wr g m us HT.out.o HM.out
              have ho : oldN m = (0, 0, false) := by unfold oldN; rw [hmr]
              rw [ho] at hold
              have HTO : Hid (∀ W, Below wr.heap.size wr W → Calls Try.prog 13 #[.pointer (some ⟨g, 0, none⟩)] W fun e w' => e = .returned (.int .i64 0) ∧ w' = W) := fun W hb => by
                have := total_any w.heap.size W g m us (HT.out.o.below hb) HM.out
                rw [hmr] at this
                exact this
              clear hmr ho hb hqr hv6 hj hfew
              go_wp2_with (first
                | (go_at_call 11; refine hold.mono ?_; rintro e w5 ⟨rfl, hb5⟩)
                | (go_at_call 13; refine (HTO.out _ hb5).mono ?_; rintro e w6 ⟨rfl, h6⟩))
              go_ret
              exact ⟨rfl, below_step HB.out HB.out.size hb5⟩
        · have hlt' : ¬ (k : Int) < (q : Int) := by omega
          rw [← hW]
          clear hd hgo hW
          go_wp2_with fail
          go_loopw [12] (fun s12 wr => ∃ (j : Nat) (us : List Value) (m : NetM), j ≤ n.row.length ∧ s12 = .int .i64 (j : Int) ∧ Hid (TwM w.heap.size wr g r m n us v) ∧ Hid (NetIn m) ∧ Hid (m.row = n.row.drop j) ∧ Below w.heap.size w wr) (fun s12 _ => n.row.length - (intOf s12).toNat)
          case atStart => exact ⟨0, vs, n, Nat.zero_le _, rfl, HT0, HI, rfl, HB0.out⟩
          case round =>
            obtain ⟨j, us, m, hj, rfl, HT, HM, HD, hb⟩ := hrel
            have HB : Hid (Below w.heap.size w wr) := hb
            have F := HT.out.f.f.c2
            obtain ⟨o6, cap6, hv6, _, hc6⟩ := HT.out.f.own.slice
            have HFF : Hid (∀ W' m' us', TwM w.heap.size W' g r m' n us' v → W'.cell? ⟨r, 2, none⟩ = some v ∧ GSl RLetE rletV W' v n.row) := fun W' m' us' h => ⟨h.f.f.c2, h.f.own.sl⟩
            have HVV : Hid (v = Value.slice o6 n.row.length cap6) := hv6
            obtain ⟨qr, hqr⟩ : ∃ qr, qr = n.row.length := ⟨_, rfl⟩
            have HQR : Hid (qr = n.row.length) := hqr
            unfold maxLen at hc6
            have hj' : j ≤ qr := by omega
            have hfew' : qr ≤ 25088 := by omega
            rw [← hqr] at hv6 HVV
            rw [hv6] at F
            by_cases hlt2 : j < qr
            · have hlt2' : (j : Int) < (qr : Int) := by omega
              obtain ⟨x, hx⟩ : ∃ x, n.row[j]? = some x := ⟨_, List.getElem?_eq_getElem (by omega)⟩
              have hmr : m.row = x :: n.row.drop (j + 1) := by
                rw [HD.out, List.drop_eq_getElem_cons (show j < n.row.length by omega)]
                congr 1
                exact (List.getElem?_eq_some_iff.1 hx).2
              obtain ⟨eo, et⟩ := old_take HM.out.ok hmr
              have hold := oldest_any w.heap.size wr g m us HT.out.o HM.out
              rw [eo] at hold
              have HTK : Hid (∀ W, Below wr.heap.size wr W → Calls Try.prog 17 #[.pointer (some ⟨g, 0, none⟩), .int .i64 x.src, .int .i64 x.dst, .int .i64 0] W fun e w' => e = .returned (.tuple #[.string ⟨x.data.toArray⟩, .int .i64 0]) ∧ NetTo w.heap.size W w' g { m with row := n.row.drop (j + 1) } us) := fun W hb => by
                have := takeN_any w.heap.size W g m us (HT.out.o.below hb) HM.out x.src x.dst 0
                rw [et] at this
                exact this
              have HM1 : Hid (NetIn { m with row := n.row.drop (j + 1) }) := by
                have := take_in HM.out x.src x.dst 0
                rw [et] at this
                exact this
              have HX : Hid (n.row[j]? = some x) := hx
              have HD1 : Hid (({ m with row := n.row.drop (j + 1) } : NetM).row = n.row.drop (j + 1)) := rfl
              obtain ⟨m1, hm1⟩ : ∃ m1 : NetM, m1 = { m with row := n.row.drop (j + 1) } := ⟨_, rfl⟩
              rw [← hm1] at HTK HM1 HD1
              obtain ⟨s, hs⟩ : ∃ s : ByteArray, s = ⟨x.data.toArray⟩ := ⟨_, rfl⟩
              have HSS : Hid (s = ⟨x.data.toArray⟩) := hs
              rw [← hs] at HTK
              obtain ⟨xs, hxs⟩ : ∃ xs, xs = x.src := ⟨_, rfl⟩
              obtain ⟨xd, hxd⟩ : ∃ xd, xd = x.dst := ⟨_, rfl⟩
              have HXS : Hid (xs = x.src) := hxs
              have HXD : Hid (xd = x.dst) := hxd
              dsimp only at hold
              rw [← hxs, ← hxd] at HTK hold
              clear hs hxs hxd hm1 eo et hmr hx hb hqr hv6 hj hfew
              go_wp2_with (first
                | (go_at_call 11; refine hold.mono ?_; rintro e w5 ⟨rfl, hb5⟩)
                | (go_at_call 17; refine (HTK.out _ hb5).mono ?_; rintro e w6 ⟨rfl, hto⟩; refine of_stopT ?_))
              unfold StopT
              obtain ⟨us6, hT6, hb6⟩ := (HT.out.below hb5).ownB hto
              have B6 : Hid (Below w.heap.size w w6) := (below_step HB.out HB.out.size hb5).trans hb6
              have T6 : Hid (TwM w.heap.size w6 g r m1 n us6 v) := hT6
              obtain ⟨F6, hgs⟩ := HFF.out _ _ _ hT6
              rw [HVV.out] at F6 hgs
              obtain ⟨g7, off7, cur7, ty7, fr7, y, ho7, hg7, hcc7, hy7⟩ := hgs.at j hlt2
              obtain rfl : y = x := by have e := HX.out; rw [hy7] at e; exact Option.some.inj e
              have RF := rlf_of (off := off7 + j * 3) hg7 hcc7
              have f0 := RF.c0
              have f1 := RF.c1
              have f2 := RF.c2
              rw [← HXS.out] at f0
              rw [← HXD.out] at f1
              rw [← HSS.out] at f2
              rw [ho7] at F6
              clear RF hg7 hcc7 hy7 hgs hT6 hb6 hto hb5 hold F ho7
              go_wp2_with fail
              go_roundw
              case rel => exact ⟨j + 1, us6, m1, by have := HQR.out; omega, by go_num, T6, HM1, HD1, B6.out⟩
              case measure => have := HQR.out; simp [intOf]; omega
            · have hlt2' : ¬ (j : Int) < (qr : Int) := by omega
              have hmr : m.row = [] := by rw [HD.out]; exact List.drop_of_length_le (by omega)
              have hold := oldest_any w.heap.size wr g m us HT.out.o HM.out
              have ho : oldN m = (0, 0, false) := by unfold oldN; rw [hmr]
              rw [ho] at hold
              have HTO : Hid (∀ W, Below wr.heap.size wr W → Calls Try.prog 13 #[.pointer (some ⟨g, 0, none⟩)] W fun e w' => e = .returned (.int .i64 0) ∧ w' = W) := fun W hb => by
                have := total_any w.heap.size W g m us (HT.out.o.below hb) HM.out
                rw [hmr] at this
                exact this
              clear hmr ho hb hqr hv6 hj hfew
              go_wp2_with (first
                | (go_at_call 11; refine hold.mono ?_; rintro e w5 ⟨rfl, hb5⟩)
                | (go_at_call 13; refine (HTO.out _ hb5).mono ?_; rintro e w6 ⟨rfl, h6⟩))
              go_ret
              exact ⟨rfl, below_step HB.out HB.out.size hb5⟩
  · have N1 : Hid (∀ W, Calls Try.prog 8 #[.int .i64 nodes, .int .i64 room] W fun e w' => e = .returned (.tuple #[.pointer none, .int .i64 1]) ∧ w' = W) := fun W => newN_no nodes room hp W
    have N2 : Hid (∀ W, Calls Try.prog 9 #[.int .i64 nodes, .int .i64 room] W fun e w' => e = .returned (.tuple #[.pointer none, .int .i64 1]) ∧ w' = W) := fun W => rnewN_no nodes room hp W
    clear hp hA hok
    go_enter Try.func5, Try.ntmps5
    go_wp2_with (first
      | (go_at_call 7; refine HW.mono ?_; rintro e w1 ⟨rfl, hb1⟩)
      | (go_at_call 8; refine (N1.out _).mono ?_; rintro e w2 ⟨rfl, h2⟩; subst h2)
      | (go_at_call 9; refine (N2.out _).mono ?_; rintro e w3 ⟨rfl, h3⟩; subst h3))
    go_ret
    exact ⟨rfl, hb1⟩
end Go.Proofs.Ytbgkbegdaepkfaa
