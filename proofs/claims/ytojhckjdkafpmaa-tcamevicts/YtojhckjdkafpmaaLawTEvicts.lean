import Derived.Test.YtojhckjdkafpmaaTcPlay2
namespace Go.Proofs.Ytojhckjdkafpmaa
open Go Go.RowKit
set_option maxRecDepth 20000

/-- What Learn leaves, as the statement asks. -/
structure EvR (room : Nat) (C : List Slt) (s : Slt) (Is : List Slt) (x : Slt) (gb : Bool) : Prop where
  ne : 0 < Is.length
  le : Is.length ≤ C.length + 1
  eqL : gb = true → Is.length = C.length
  least : gb = true → ∀ y ∈ C, x.used ≤ y.used
  way : (∃ i, i < C.length ∧ (∀ (j : Nat) (y : Slt), j < i → C[j]? = some y → sameC s y = false) ∧ (∃ y, C[i]? = some y ∧ sameC s y = true) ∧ gb = false ∧ Is.length = C.length ∧ Is[i]? = some s) ∨ ((∀ (j : Nat) (y : Slt), C[j]? = some y → sameC s y = false) ∧ (∃ I0, Is = I0 ++ [s]) ∧ gb = decide (C.length = room))
theorem evR_of (room : Nat) (hr : room ≠ 0) (C : List Slt) (s : Slt) : EvR room C s (learnT room C s).1 (learnT room C s).2.1 (learnT room C s).2.2.1 ∧ (learnT room C s).2.2.2 = 0 := by
  rcases learnT_cases room C s with ⟨h0, _⟩ | ⟨_, A, x, D, hL, e⟩ | ⟨_, hn, hf, A, x, D, hL, e⟩ | ⟨_, hn, hf, e⟩
  · exact absurd h0 hr
  · rw [e]
    obtain ⟨h1, h2, h3, _⟩ := hL
    refine ⟨⟨by simp only [List.length_append, List.length_cons]; omega, by rw [h1]; simp only [List.length_append, List.length_cons]; omega, fun h => (by cases h), fun h => (by cases h), .inl ⟨A.length, by rw [h1]; simp only [List.length_append, List.length_cons]; omega, fun j y hj hy => ?_, ⟨x, by rw [h1]; simp, h2⟩, rfl, by rw [h1]; simp only [List.length_append, List.length_cons], by simp⟩⟩, rfl⟩
    rw [h1, List.getElem?_append_left hj] at hy
    cases hb : sameC s y with
    | false => rfl
    | true => exact absurd (show (0 : Int) < 0 from h3 y (List.mem_of_getElem? hy) hb) (by decide)
  · rw [e]
    obtain ⟨h1, _, h3, h4⟩ := hL
    refine ⟨⟨by simp only [List.length_append, List.length_cons, List.length_nil]; omega, by rw [h1]; simp only [List.length_append, List.length_cons, List.length_nil]; omega, fun _ => by rw [h1]; simp only [List.length_append, List.length_cons, List.length_nil]; omega, fun _ y hy => ?_, .inr ⟨fun j y hy => hn y (List.mem_of_getElem? hy), ⟨A ++ D, rfl⟩, (decide_eq_true hf).symm⟩⟩, rfl⟩
    rw [h1] at hy
    rcases List.mem_append.1 hy with q | q
    · exact Int.le_of_lt (show x.used < y.used from h3 y q rfl)
    · rcases List.mem_cons.1 q with rfl | q
      · exact Int.le_refl _
      · exact h4 y q rfl
  · rw [e]
    exact ⟨⟨by simp only [List.length_append, List.length_cons, List.length_nil]; omega, by simp only [List.length_append, List.length_cons, List.length_nil]; omega, fun h => (by cases h), fun h => (by cases h), .inr ⟨fun j y hy => hn y (List.mem_of_getElem? hy), ⟨C, rfl⟩, (decide_eq_false hf).symm⟩⟩, rfl⟩
theorem slot_fld {B : Nat} {w : World} {o : Option Addr} {n cap : Nat} {C : List Slt} (h : SlotsAt B w (.slice o n cap) C) (k : Nat) {y : Slt} (hy : C[k]? = some y) : ∃ g off cur ty fr, o = some ⟨g, off, none⟩ ∧ w.heap[g]? = some (.cells cur ty fr) ∧ ∀ j, j < 36 → cur[off + k * 36 + j]? = (slotV y)[j]? := by
  have hn : n = C.length := by obtain ⟨o', c, e, _⟩ := h.slice; simp only [Value.slice.injEq] at e; exact e.2.1
  have hk := (List.getElem?_eq_some_iff.1 hy).1
  obtain ⟨g, off, cur, ty, fr, x, ho, hg, hcc, hx⟩ := h.sl.at k (by omega)
  obtain rfl : x = y := by rw [hy] at hx; exact (Option.some.inj hx).symm
  exact ⟨g, off, cur, ty, fr, ho, hg, hcc⟩
set_option maxHeartbeats 32000000 in
theorem lawEvicts (c a q i h : Int) (A : List ActM) (lv : Value) (w : World) (hl : GSl ActE actV w lv A) (hA : ∀ x ∈ A, OkA x) (now e : Int) (cu : Cub) (act : Int) (hcu : OkC cu) :
    Calls Try.prog 7 #[.agg (roomA c a q i h), lv, .int .i64 now, .int .i64 e, .agg (cv (pad cu.1) (pad cu.2)), .int .i64 act] w fun e w' => e = .returned (.bool true) ∧ Below w.heap.size w w' := by
  have AW : Hid (∀ W, Calls Try.prog 9 #[] W fun r w' => r = .returned (.bool true) ∧ Below W.heap.size W w') := awakeT_any
  obtain ⟨w0, hw0⟩ : ∃ w0, w0 = (w.alloc (.cells (roomA c a q i h) 23)).alloc (.cells (cv (pad cu.1) (pad cu.2)) 36) := ⟨_, rfl⟩
  have B0 : Hid (Below w.heap.size w w0) := by show Below _ _ _; rw [hw0]; exact ((Below.refl _ _).alloc (Nat.le_refl _) _).alloc (by simp) _
  have R0 : Hid (w0.heap[w.heap.size]? = some (.cells (roomA c a q i h) 23 (0, 0))) := by show _ = _; rw [hw0]; exact heap_past _ _ _ _ (heap_new _ _ _ rfl)
  have H0 : Hid (w0.heap[w.heap.size + 1]? = some (.cells (cv (pad cu.1) (pad cu.2)) 36 (0, 0))) := by show _ = _; rw [hw0]; exact heap_new _ _ _ (by simp)
  have haw := AW.out w0
  have HL0 : Hid (GSl ActE actV w lv A) := hl
  have HA : Hid (∀ x ∈ A, OkA x) := hA
  rw [hw0] at haw
  obtain ⟨ol, capl, rfl, _, _⟩ := hl.slice
  clear hl hA AW
  go_enter Try.func7, Try.ntmps7
  go_wp2_with (go_at_call 9; refine haw.mono ?_; rintro e w1 ⟨rfl, hb1⟩; refine of_stopS ?_)
  unfold StopS
  rw [← hw0] at hb1
  have B1 : Hid (Below w.heap.size w w1) := below_step B0.out B0.out.size hb1
  have R1 : Hid (w1.heap[w.heap.size]? = some (.cells (roomA c a q i h) 23 (0, 0))) := (hb1.block _ (Array.getElem?_eq_some_iff.1 R0.out).1).trans R0.out
  have H1 : Hid (w1.heap[w.heap.size + 1]? = some (.cells (cv (pad cu.1) (pad cu.2)) 36 (0, 0))) := (hb1.block _ (Array.getElem?_eq_some_iff.1 H0.out).1).trans H0.out
  clear hb1 haw R0 B0 H0 hw0
  by_cases hr : OkR c a q i h
  case neg =>
    have hpl := played_no c a q i h hr (.slice ol A.length capl) w1
    clear hr
    go_wp2_with (first | ((with_reducible refine wl_gT 23 _ rfl ?_); refine wl_ldT rfl 23 _ rfl ⟨w.heap.size, 0, none⟩ rfl (.agg (roomA c a q i h)) (room_load R1.out) ?_) | (go_at_call 17; refine hpl.mono ?_; rintro e w2 ⟨rfl, hb2⟩; refine of_stopS ?_))
    unfold StopS
    have B2 : Hid (Below w.heap.size w w2) := below_step B1.out B1.out.size hb2
    clear hb2 hpl
    go_wp2_with fail
    go_ret
    exact ⟨by simp, B2.out⟩
  case pos =>
    have hpl := played_yes c a q i h hr A (.slice ol A.length capl) w1 (GSl.below HL0.out B1.out) HA.out
    have HR : Hid (OkR c a q i h) := hr
    clear hr HL0 HA
    obtain ⟨R, hRR⟩ : ∃ R, R = rmOf c a q i h := ⟨_, rfl⟩
    have HRR : Hid (R = rmOf c a q i h) := hRR
    rw [← hRR] at hpl
    clear hRR
    go_wp2_with (first | ((with_reducible refine wl_gT 23 _ rfl ?_); refine wl_ldT rfl 23 _ rfl ⟨w.heap.size, 0, none⟩ rfl (.agg (roomA c a q i h)) (room_load R1.out) ?_) | (go_at_call 17; refine hpl.mono ?_; rintro e w2 ⟨B, n, p, g, r, gr, S, rfl, hn60, L, v1, v2, v3, vl, hRun⟩; refine of_stopS ?_))
    unfold StopS
    have B2 : Hid (Below w.heap.size w w2) := below_step B1.out B1.out.size hRun.below
    have R2 : Hid (w2.heap[w.heap.size]? = some (.cells (roomA c a q i h) 23 (0, 0))) := (hRun.below.block _ (Array.getElem?_eq_some_iff.1 R1.out).1).trans R1.out
    have H2 : Hid (w2.heap[w.heap.size + 1]? = some (.cells (cv (pad cu.1) (pad cu.2)) 36 (0, 0))) := (hRun.below.block _ (Array.getElem?_eq_some_iff.1 H1.out).1).trans H1.out
    have T2 : Hid (TabV B w2 g R S v1 v2 v3) := hRun.pl.two.t
    have IV : Hid (InvX n R S) := hRun.pl.inv
    have LN : Hid (∀ b, (bankL S b).length ≤ 1000000) := hRun.pl.lens
    have HWB : Hid (w.heap.size ≤ B) := Nat.le_trans B1.out.size hRun.hB
    clear hRun hpl R1 B1 H1
    have SS : Hid (R.cache = c.toNat) := by rw [HRR.out]; rfl
    have hc0 : 0 ≤ c := HR.out.1.1
    have r0 : w2.cell? ⟨w.heap.size, 0, none⟩ = some (.int .i64 c) := by rw [cell_of_row _ _ _ _ _ _ R2.out]; rfl
    by_cases hz : c = 0
    · subst hz
      go_wp2_with fail
      go_ret
      exact ⟨by simp, B2.out⟩
    have hzd : (c == 0) = false := by simpa using hz
    have CA : Hid (∀ W, Calls Try.prog 23 #[.agg (cv (pad cu.1) (pad cu.2))] W fun e w' => e = .returned (.agg (cv (pad (canC cu).1) (pad (canC cu).2))) ∧ Below W.heap.size W w') := rcanC_any cu hcu
    have CO : Hid (OkC (canC cu)) := canC_ok hcu
    obtain ⟨tt, htt⟩ : ∃ tt, tt = timeT now := ⟨_, rfl⟩
    obtain ⟨s, hs⟩ : ∃ s, s = newC now e (canC cu) act := ⟨_, rfl⟩
    have SF : Hid (s.epoch = e ∧ s.cube = canC cu ∧ s.action = act ∧ s.born = tt) := by rw [hs, htt]; exact ⟨rfl, rfl, rfl, rfl⟩
    have BFR : Hid (∀ W, (Instr.build 38 #[(0, .int .i64 1), (1, .int .i64 e), (4, .agg (cv (pad (canC cu).1) (pad (canC cu).2))), (5, .int .i64 act), (8, .int .i64 tt), (9, .int .i64 tt)]).run Try.prog W = .ok (.agg (slotV s)) W) := by intro W; rw [hs, htt]; exact build_fresh e act (timeT now) (canC cu) W
    obtain ⟨C, hC⟩ : ∃ C, C = S.c := ⟨_, rfl⟩
    obtain ⟨Is, hIs⟩ : ∃ Is, Is = (learnT R.cache C s).1 := ⟨_, rfl⟩
    obtain ⟨x, hx⟩ : ∃ x, x = (learnT R.cache C s).2.1 := ⟨_, rfl⟩
    obtain ⟨gb, hgb⟩ : ∃ gb, gb = (learnT R.cache C s).2.2.1 := ⟨_, rfl⟩
    obtain ⟨ev1, ev2⟩ := evR_of R.cache (by rw [SS.out]; omega) C s
    have EV : Hid (EvR R.cache C s Is x gb) := by rw [hIs, hx, hgb]; exact ev1
    have CL : Hid (C.length ≤ 1000000) := by show _ ≤ _; rw [hC]; exact LN.out 1
    have COK : Hid (∀ y ∈ C, OkC y.cube) := by intro y hy; rw [hC] at hy; exact (IV.out.inv.c y hy).2.2.2.2.2.2.2
    have SL1 := slots_any B w2 g R S v1 v2 v3 T2.out 1 LN.out
    rw [show slotsT S 1 = C by rw [hC]; rfl] at SL1
    have LE : Hid (∀ W, Below w2.heap.size w2 W → Calls Try.prog 22 #[.pointer (some ⟨g, 0, none⟩), .int .i64 now, .int .i64 e, .agg (cv (pad cu.1) (pad cu.2)), .int .i64 act] W fun r w' => r = .returned (.tuple #[.agg (slotV x), .bool gb, .int .i64 0]) ∧ TabTo B W w' g R { S with c := Is } v1 v2 v3) := by
      intro W hb
      rw [hIs, hx, hgb, ← ev2, hs, hC]
      exact learn_any B W g R S v1 v2 v3 (T2.out.below hb) now e cu act hcu (LN.out 1) IV.out.dist fun y hy => (IV.out.inv.c y hy).2.2.2.2.2.2.2
    have IL : Hid (Is.length ≤ 1000001) := by have h1 := EV.out.le; have h2 := CL.out; show _ ≤ _; omega
    have IL2 : Hid (Is.length ≤ 1000000) := by
      show _ ≤ _
      have h1 := learnT_len R.cache C s (by rw [hC]; exact IV.out.inv.lc)
      rw [← hIs] at h1
      have h2 := SS.out
      have h3 := HR.out.1.2
      omega
    have SL2 : Hid (∀ W u1 u2 u3, TabV B W g R { S with c := Is } u1 u2 u3 → Calls Try.prog 14 #[.pointer (some ⟨g, 0, none⟩), .int .i64 1] W fun e w' => (∃ u, e = .returned u ∧ SlotsAt W.heap.size w' u Is) ∧ Below W.heap.size W w') := by
      intro W u1 u2 u3 hW
      refine slots_any B W g R { S with c := Is } u1 u2 u3 hW 1 fun b => ?_
      have h9 := LN.out b
      unfold bankL at h9 ⊢
      split
      · exact IL2.out
      · rename_i hb1
        rw [if_neg hb1] at h9
        exact h9
    have TI : Hid (∀ W, Calls Try.prog 21 #[.int .i64 now] W fun r w' => r = .returned (.int .i64 tt) ∧ w' = W) := by intro W; rw [htt]; exact rtime_any now W
    have RC : Hid ((R.cache : Int) = c) := by show _ = _; rw [SS.out]; exact Int.toNat_of_nonneg hc0
    clear hs hC hIs hx hgb ev1 ev2 htt hcu hz IL
    go_wp2_with (go_at_call 14; refine SL1.mono ?_; rintro e w3 ⟨⟨u3', rfl, hu3⟩, hb3⟩; refine of_stopS ?_)
    unfold StopS
    have UC3 : Hid (SlotsAt w2.heap.size w3 u3' C) := hu3
    have B3 : Hid (Below w2.heap.size w2 w3) := hb3
    have H3 : Hid (w3.heap[w.heap.size + 1]? = some (.cells (cv (pad cu.1) (pad cu.2)) 36 (0, 0))) := (hb3.block _ (Array.getElem?_eq_some_iff.1 H2.out).1).trans H2.out
    have R3 : Hid (w3.heap[w.heap.size]? = some (.cells (roomA c a q i h) 23 (0, 0))) := (hb3.block _ (Array.getElem?_eq_some_iff.1 R2.out).1).trans R2.out
    have hle := LE.out w3 hb3
    clear hu3 hb3 SL1 r0 LE
    go_wp2_with (first | ((with_reducible refine wl_gC _ rfl ?_); refine wl_loadCg rfl _ rfl (w.heap.size + 1) rfl (pad cu.1) (pad cu.2) H3.out (pad_len _) (pad_len _) ?_) | (go_at_call 22; refine hle.mono ?_; rintro e w4 ⟨rfl, h4⟩; refine of_stopS ?_))
    unfold StopS
    have B34 : Hid (Below w.heap.size w3 w4) := (TabTo.belowB (T2.out.below B3.out) h4).mono HWB.out
    obtain ⟨y1, y2, y3, h41, h42, _⟩ := h4
    have NH : ¬ footT g v1 v2 v3 w.heap.size := T2.out.boxes R2.out (by decide) (by decide)
    have NH1 : ¬ footT g v1 v2 v3 (w.heap.size + 1) := T2.out.boxes H2.out (by decide) (by decide)
    have R4 : Hid (w4.heap[w.heap.size]? = some (.cells (roomA c a q i h) 23 (0, 0))) := h42.heap R3.out NH
    have H4 : Hid (w4.heap[w.heap.size + 1]? = some (.cells (cv (pad cu.1) (pad cu.2)) 36 (0, 0))) := h42.heap H3.out NH1
    have UC4 : Hid (SlotsAt w2.heap.size w4 u3' C) := UC3.out.kept h42 fun k e e' => by have h1 := (UC3.out.lt k e).1; have h2 := (T2.out.foot_in k e').2; omega
    have T4 : Hid (TabV B w4 g R { S with c := Is } y1 y2 y3) := h41
    have B4 : Hid (Below w.heap.size w w4) := (below_step B2.out B2.out.size B3.out).trans B34.out
    clear h41 h42 NH NH1 hle R3 H3 B34 UC3
    obtain ⟨w5, hw5⟩ : ∃ w5, w5 = w4.alloc (.cells (slotV x) 38) := ⟨_, rfl⟩
    have B5 : Hid (Below w4.heap.size w4 w5) := by show Below _ _ _; rw [hw5]; exact (Below.refl _ _).alloc (Nat.le_refl _) _
    have X5 : Hid (w5.heap[w4.heap.size]? = some (.cells (slotV x) 38 (0, 0))) := by show _ = _; rw [hw5]; exact heap_new _ _ _ rfl
    go_wp2_with (first | ((with_reducible refine wl_gA rfl ?_); refine wl_allocS rfl rfl ?_; try rw [sz_alloc]) | ((with_reducible refine wl_gS _ _ rfl ?_); refine wl_storeS rfl _ _ rfl w4.heap.size x zeroS rfl rfl (heap_new _ _ _ rfl) _ (setRow_new _ _ _ _ _ rfl) ?_); refine of_stopS ?_)
    unfold StopS
    rw [← hw5]
    obtain ⟨px, hpx⟩ : ∃ px, px = w4.heap.size := ⟨_, rfl⟩
    rw [← hpx] at X5
    rw [← hpx]
    clear hw5 hpx
    have hsl := SL2.out w5 y1 y2 y3 (T4.out.below B5.out)
    go_wp2_with (first | (go_at_call 21; refine (TI.out _).mono ?_; rintro e w9 ⟨rfl, hw9⟩; rw [hw9]; clear hw9) | (go_at_call 14; refine hsl.mono ?_; rintro e w6 ⟨⟨ui, rfl, hui⟩, hb6⟩; refine of_stopS ?_))
    unfold StopS
    have BB6 : Hid (Below w4.heap.size w4 w6) := below_step B5.out B5.out.size hb6
    have B6 : Hid (Below w.heap.size w w6) := below_step B4.out B4.out.size BB6.out
    have R6 : Hid (w6.heap[w.heap.size]? = some (.cells (roomA c a q i h) 23 (0, 0))) := (BB6.out.block _ (Array.getElem?_eq_some_iff.1 R4.out).1).trans R4.out
    have H6 : Hid (w6.heap[w.heap.size + 1]? = some (.cells (cv (pad cu.1) (pad cu.2)) 36 (0, 0))) := (BB6.out.block _ (Array.getElem?_eq_some_iff.1 H4.out).1).trans H4.out
    have UC : Hid (SlotsAt w2.heap.size w6 u3' C) := UC4.out.below BB6.out
    have UI : Hid (SlotsAt w5.heap.size w6 ui Is) := hui
    have X6 : Hid (w6.heap[px]? = some (.cells (slotV x) 38 (0, 0))) := (hb6.block _ (Array.getElem?_eq_some_iff.1 X5.out).1).trans X5.out
    obtain ⟨oc, capc, rfl, hc1, hc2⟩ := UC.out.slice
    obtain ⟨oi, capi, rfl, hi1, hi2⟩ := UI.out.slice
    obtain ⟨nc, hnc⟩ : ∃ nc, nc = C.length := ⟨_, rfl⟩
    obtain ⟨ni, hni⟩ : ∃ ni, ni = Is.length := ⟨_, rfl⟩
    have HNC : Hid (nc = C.length) := hnc
    have HNI : Hid (ni = Is.length) := hni
    have hnl : nc ≤ 1000000 := by rw [hnc]; exact CL.out
    have hil : ni ≤ 1000000 := by rw [hni]; exact IL2.out
    rw [← hnc] at UC hc1
    rw [← hni] at UI hi1
    rw [← hnc, ← hni]
    unfold maxLen at hc2 hi2
    clear hnc hni hui hb6 hsl R4 H4 UC4 BB6 X5 B5 T4
    have n1 : ((ni : Int) == 0) = false := by have h1 := EV.out.ne; have h2 := HNI.out; simp; omega
    have n2 : gb = true → (ni : Int) = (nc : Int) := fun hg => by have h1 := EV.out.eqL hg; have h2 := HNI.out; have h3 := HNC.out; omega
    have N2 : Hid _ := n2
    clear n2
    rcases Bool.eq_false_or_eq_true gb with hg | hg
    · subst hg
      have nn1 : ((ni : Int) != (nc : Int)) = false := by rw [N2.out rfl]; simp
      have nn3 : (ni != nc) = false := by have h9 := N2.out rfl; simp; omega
      go_wp2_with fail
      go_loopw [19] (fun s19 wr => ∃ k : Nat, k ≤ nc ∧ s19 = .int .i64 (k : Int) ∧ Hid (∀ (j : Nat) (y : Slt), j < k → C[j]? = some y → sameC s y = false) ∧ Hid (Below w6.heap.size w6 wr)) (fun s19 _ => nc - (intOf s19).toNat)
      case atStart => exact ⟨0, Nat.zero_le _, rfl, fun j y hj => by omega, Below.refl _ _⟩
      case round =>
        obtain ⟨k, hk, rfl, HP, HB⟩ := hrel
        have HZ : Hid (wr.heap[w.heap.size + 1]? = some (.cells (cv (pad cu.1) (pad cu.2)) 36 (0, 0))) := (HB.out.block _ (Array.getElem?_eq_some_iff.1 H6.out).1).trans H6.out
        have XZ : Hid (wr.heap[px]? = some (.cells (slotV x) 38 (0, 0))) := (HB.out.block _ (Array.getElem?_eq_some_iff.1 X6.out).1).trans X6.out
        have BFW : Hid (Below w.heap.size w wr) := below_step B6.out B6.out.size HB.out
        have UIr : Hid (SlotsAt w5.heap.size wr (.slice oi ni capi) Is) := UI.out.below HB.out
        by_cases hlt : k < nc
        · have hlt' : (k : Int) < (nc : Int) := by omega
          obtain ⟨y, hyk⟩ : ∃ y, C[k]? = some y := ⟨_, List.getElem?_eq_getElem (by have := HNC.out; omega)⟩
          obtain ⟨g', off, cur, ty, fr, rfl, hg', hcc⟩ := slot_fld (UC.out.below HB.out) k hyk
          have K1 : Hid (wr.heap[g']? = some (.cells cur ty fr)) := hg'
          have HC1 : Hid (∀ j, j < 26 → cur[off + k * 36 + 4 + j]? = (cv (pad y.cube.1) (pad y.cube.2))[j]?) := cube_row hg' hcc
          have HY : Hid (C[k]? = some y) := hyk
          have HYO : Hid (OkC y.cube) := COK.out y (List.mem_of_getElem? hyk)
          have E1 : Hid (∀ W, Below wr.heap.size wr W → W.cell? ⟨g', off + k * 36 + 1, none⟩ = some (.int .i64 y.epoch)) := fun W hb => ((slf_of hg' hcc).below (hb.block _ (Array.getElem?_eq_some_iff.1 hg').1)).c1
          have d34 : ∀ u : Later wr, u.world.cell? ⟨g', off + k * 36 + 34, none⟩ = some (.int .i64 y.used) := fun u => ((slf_of hg' hcc).below ((later_block hg' _ ⟨u, rfl⟩).trans hg'.symm)).c34
          have x34 : ∀ u : Later wr, u.world.cell? ⟨px, 34, none⟩ = some (.int .i64 x.used) := fun u => by have := (later_slf XZ.out (slf_own XZ.out) u).c34; simpa using this
          have ldu : decide (y.used < x.used) = false := decide_eq_false (by have := EV.out.least rfl y (List.mem_of_getElem? hyk); omega)
          have ne1 := Later.ne wr
          clear hg' hcc hyk
          go_wp2_with fail
          refine wp_region_later (by kernel_rfl) (by kernel_rfl) ?_
          go_big_quiet_step (rfl)
          go_big_quiet_step (rfl)
          go_big_quiet_step (rfl)
          go_big_quiet_step (rfl)
          go_big_quiet_step (rfl)
          go_big_quiet_step (rfl)
          go_big_quiet_step (rfl)
          go_big_quiet_step (rfl)
          go_big_quiet_step (rfl)
          go_big_quiet_step (rfl)
          go_big_quiet_step (rfl)
          refine wpQuiet_nil ?_
          rintro w' ⟨u, rfl⟩
          have BU : Hid (Below wr.heap.size wr u.world) := u.below
          obtain ⟨wz, hwz⟩ : ∃ wz, u.world = wz := ⟨_, rfl⟩
          rw [hwz] at BU
          rw [hwz]
          clear hwz ne1 d34 x34
          have HBz : Hid (Below w6.heap.size w6 wz) := below_step HB.out HB.out.size BU.out
          have K1 : Hid (wz.heap[g']? = some (.cells cur ty fr)) := (BU.out.block _ (Array.getElem?_eq_some_iff.1 K1.out).1).trans K1.out
          have HZ : Hid (wz.heap[w.heap.size + 1]? = some (.cells (cv (pad cu.1) (pad cu.2)) 36 (0, 0))) := (BU.out.block _ (Array.getElem?_eq_some_iff.1 HZ.out).1).trans HZ.out
          have e1 : ∀ u : Later wz, u.world.cell? ⟨g', off + k * 36 + 1, none⟩ = some (.int .i64 y.epoch) := fun u => E1.out _ (below_step BU.out BU.out.size u.below)
          have ne1 := Later.ne wz
          have EQ : ∀ W, (Op.equalIn 10000 36 (.agg (cv (pad y.cube.1) (pad y.cube.2))) (.agg (cv (pad (canC cu).1) (pad (canC cu).2)))).run Try.prog W = .ok (y.cube == canC cu) W := fun W => by rw [← cub_eq HYO.out CO.out]; exact eqC _ _ _ _ (pad_len _) (pad_len _) (pad_len _) (pad_len _) W
          have G := egC
          have HM : Hid (sameC s y = ((y.epoch == e) && (y.cube == canC cu))) := by show _ = _; unfold sameC; rw [SF.out.1, SF.out.2.1]
          obtain ⟨ye, hye⟩ : ∃ ye, ye = y.epoch := ⟨_, rfl⟩
          obtain ⟨bc, hbc⟩ : ∃ bc, bc = (y.cube == canC cu) := ⟨_, rfl⟩
          rw [← hye] at e1 HM
          rw [← hbc] at EQ HM
          clear hye hbc
          by_cases he : ye = e
          · subst he
            have hed : (ye == ye) = true := by simp
            rcases Bool.eq_false_or_eq_true bc with hh | hh
            · subst hh
              have HMM : Hid (sameC s y = true) := by show _ = _; rw [HM.out, hed]; rfl
              clear HM
              exfalso
              rcases EV.out.way with ⟨_, _, _, _, hf, _⟩ | ⟨hno, _⟩
              · cases hf
              · have h1 := hno k y HY.out
                rw [HMM.out] at h1
                cases h1
            · subst hh
              have HMM : Hid (sameC s y = false) := by show _ = _; rw [HM.out, hed]; rfl
              clear HM
              go_wp2_with fail
              refine wp_region_later (by kernel_rfl) (by kernel_rfl) ?_
              go_big_quiet_step (rfl)
              go_big_quiet_step (rfl)
              go_big_quiet_step (rfl)
              go_big_quiet_step (rfl)
              go_big_quiet_step (rfl)
              go_big_quiet_step (rfl)
              go_big_quiet_step (rfl)
              go_big_quiet_step (rfl)
              go_big_quiet_step (rfl)
              go_big_quiet_step (rfl)
              go_big_quiet_step (rfl)
              go_big_quiet_step (rfl)
              refine qlCw rfl _ rfl g' (off + k * 36 + 4) rfl cur _ _ (pad y.cube.1) (pad y.cube.2) (pad_len _) (pad_len _) (later_block K1.out) HC1.out ?_
              simp only [Act.put, List.setIfInBounds_toArray, List.set_cons_succ, List.set_cons_zero]
              refine qlCw rfl _ rfl (w.heap.size + 1) 0 rfl _ _ _ (pad cu.1) (pad cu.2) (pad_len _) (pad_len _) (later_block HZ.out) (own_cells _ _) ?_
              simp only [Act.put, List.setIfInBounds_toArray, List.set_cons_succ, List.set_cons_zero]
              go_big_quiet_want; go_big_quiet_op
              refine ⟨_, fun u => Calls.later_of (CA.out u.world), ?_⟩
              go_big_quiet_on
              go_big_quiet_step (rfl)
              go_big_quiet_step (rfl)
              refine wpQuiet_nil ?_
              rintro w' ⟨u, rfl⟩
              go_wp2_with fail
              go_roundw
              case rel =>
                refine ⟨k + 1, by omega, by go_num, fun j z hj hz => ?_, below_step HBz.out HBz.out.size u.below⟩
                by_cases ej : j = k
                · subst ej; rw [HY.out] at hz; cases hz; exact HMM.out
                · exact HP.out j z (by omega) hz
              case measure => simp [intOf]; omega
          · have hed : (ye == e) = false := by simpa using he
            have HMM : Hid (sameC s y = false) := by show _ = _; rw [HM.out, hed]; rfl
            clear HM
            go_wp2_with fail
            refine wp_region_later (by kernel_rfl) (by kernel_rfl) ?_
            go_big_quiet_step (rfl)
            go_big_quiet_step (rfl)
            go_big_quiet_step (rfl)
            go_big_quiet_step (rfl)
            go_big_quiet_step (rfl)
            go_big_quiet_step (rfl)
            go_big_quiet_step (rfl)
            go_big_quiet_step (rfl)
            go_big_quiet_step (rfl)
            go_big_quiet_step (rfl)
            go_big_quiet_step (rfl)
            go_big_quiet_step (rfl)
            go_big_quiet_step (rfl)
            go_big_quiet_step (rfl)
            go_big_quiet_step (rfl)
            go_big_quiet_step (rfl)
            go_big_quiet_step (rfl)
            refine wpQuiet_nil ?_
            rintro w' ⟨u, rfl⟩
            go_wp2_with fail
            go_roundw
            case rel =>
              refine ⟨k + 1, by omega, by go_num, fun j z hj hz => ?_, below_step HBz.out HBz.out.size u.below⟩
              by_cases ej : j = k
              · subst ej; rw [HY.out] at hz; cases hz; exact HMM.out
              · exact HP.out j z (by omega) hz
            case measure => simp [intOf]; omega
        · have hlt' : ¬ (k : Int) < (nc : Int) := by omega
          rcases EV.out.way with ⟨i0, hi0, _, ⟨y0, hy0, hsm⟩, _⟩ | ⟨_, ⟨I0, hI0⟩, hgd⟩
          · exfalso
            have h1 := HP.out i0 y0 (by have := HNC.out; omega) hy0
            rw [h1] at hsm
            cases hsm
          obtain ⟨j0, hj0⟩ : ∃ j0, j0 = I0.length := ⟨_, rfl⟩
          have hnij : ni = j0 + 1 := by rw [HNI.out, hI0, hj0]; simp
          subst hnij
          have hls : Is[j0]? = some s := by rw [hI0, hj0]; simp
          obtain ⟨gl, offl, curl, tyl, frl, rfl, hgl, hccl⟩ := slot_fld UIr.out j0 hls
          have LDS : Hid ((loadVar 38 ⟨gl, offl + j0 * 36, none⟩).run Try.prog wr = .ok (.agg (slotV s)) wr) := ld_row hgl hccl
          have HGD : Hid (true = decide (C.length = R.cache)) := hgd
          clear hgl hccl hls hI0 hj0 hgd
          have ej : ((j0 + 1 : Nat) : Int) - 1 = (j0 : Int) := by omega
          have ej2 : (j0 : Int) < ((j0 + 1 : Nat) : Int) := by omega
          obtain ⟨wy, hwy⟩ : ∃ wy, wy = wr.alloc (.cells (slotV s) 38) := ⟨_, rfl⟩
          have BY : Hid (Below wr.heap.size wr wy) := by show Below _ _ _; rw [hwy]; exact (Below.refl _ _).alloc (Nat.le_refl _) _
          have SY : Hid (wy.heap[wr.heap.size]? = some (.cells (slotV s) 38 (0, 0))) := by show _ = _; rw [hwy]; exact heap_new _ _ _ rfl
          go_wp2_with (first | ((with_reducible refine wl_gL _ rfl ?_); refine wl_loadS rfl _ rfl gl (offl + j0 * 36) rfl s LDS.out ?_) | ((with_reducible refine wl_gA rfl ?_); refine wl_allocS rfl rfl ?_; try rw [sz_alloc]) | ((with_reducible refine wl_gS _ _ rfl ?_); refine wl_storeS rfl _ _ rfl wr.heap.size s zeroS rfl rfl (heap_new _ _ _ rfl) _ (setRow_new _ _ _ _ _ rfl) ?_); refine of_stopS ?_)
          unfold StopS
          rw [← hwy]
          clear hwy
          have HZy : Hid (wy.heap[w.heap.size + 1]? = some (.cells (cv (pad cu.1) (pad cu.2)) 36 (0, 0))) := (BY.out.block _ (Array.getElem?_eq_some_iff.1 HZ.out).1).trans HZ.out
          have RY : Hid (wy.heap[w.heap.size]? = some (.cells (roomA c a q i h) 23 (0, 0))) := ((below_step HB.out HB.out.size BY.out).block _ (Array.getElem?_eq_some_iff.1 R6.out).1).trans R6.out
          have BFY : Hid (Below w.heap.size w wy) := below_step BFW.out BFW.out.size BY.out
          have rc : ∀ u : Later wy, u.world.cell? ⟨w.heap.size, 0, none⟩ = some (.int .i64 c) := fun u => by rw [cell_of_row _ _ _ _ _ _ (later_block RY.out _ ⟨u, rfl⟩)]; rfl
          have ER : ∀ W, (Op.equalIn 10000 38 (.agg (slotV s)) (.agg (slotV s))).run Try.prog W = .ok true W := fun W => by rw [eqSlot, eqS_self]
          have GS := egS
          have qc : ((nc : Int) == c) = true := by
            rw [HGD.out, HNC.out, ← RC.out]
            by_cases hq : C.length = R.cache
            · rw [decide_eq_true hq, hq]; simp
            · rw [decide_eq_false hq]; simp; omega
          have ne1 := Later.ne wy
          clear HGD ej ej2
          obtain ⟨ps, hps⟩ : ∃ ps, ps = wr.heap.size := ⟨_, rfl⟩
          rw [← hps] at SY
          rw [← hps]
          clear hps HZ
          have HZ : Hid _ := HZy.out
          go_wp2_with fail
          refine wp_region_later (by kernel_rfl) (by kernel_rfl) ?_
          go_big_quiet_step (rfl)
          go_big_quiet_step (rfl)
          go_big_quiet_step (rfl)
          go_big_quiet_step (rfl)
          go_big_quiet_step (rfl)
          go_big_quiet_step (rfl)
          go_big_quiet_step (rfl)
          go_big_quiet_step (rfl)
          refine qlE (E := SlotE) SlotOk rfl _ rfl ps 0 rfl _ _ _ (slotV s) (slotV_size _) (later_block SY.out) (own_cells _ _) ?_
          simp only [Act.put, List.setIfInBounds_toArray, List.set_cons_succ, List.set_cons_zero]
          go_big_quiet_step (rfl)
          refine qlCw rfl _ rfl (w.heap.size + 1) 0 rfl _ _ _ (pad cu.1) (pad cu.2) (pad_len _) (pad_len _) (later_block HZ.out) (own_cells _ _) ?_
          simp only [Act.put, List.setIfInBounds_toArray, List.set_cons_succ, List.set_cons_zero]
          go_big_quiet_want; go_big_quiet_op
          refine ⟨_, fun u => Calls.later_of (CA.out u.world), ?_⟩
          go_big_quiet_on
          go_big_quiet_step (rfl)
          go_big_quiet_step (rfl)
          go_big_quiet_step (rfl)
          refine q_valT rfl (.agg (slotV s)) (fun W _ => run_buildOpT rfl _ _ #[(0, .int .i64 1), (1, .int .i64 e), (4, .agg (cv (pad (canC cu).1) (pad (canC cu).2))), (5, .int .i64 act), (8, .int .i64 tt), (9, .int .i64 tt)] (by simp only [List.map_toArray, List.map_cons, List.map_nil]; rfl) _ (BFR.out W)) ?_
          simp only [Act.put, List.setIfInBounds_toArray, List.set_cons_succ, List.set_cons_zero]
          go_big_quiet_step (rfl)
          go_big_quiet_step (rfl)
          go_big_quiet_step (rfl)
          refine wpQuiet_nil ?_
          rintro w' ⟨u, rfl⟩
          go_wp2_with fail
          go_ret
          exact ⟨by simp, below_step BFY.out BFY.out.size u.below⟩
    · subst hg
      go_wp2_with fail
      go_loopw [19] (fun s19 wr => ∃ k : Nat, k ≤ nc ∧ s19 = .int .i64 (k : Int) ∧ Hid (∀ (j : Nat) (y : Slt), j < k → C[j]? = some y → sameC s y = false) ∧ Hid (Below w6.heap.size w6 wr)) (fun s19 _ => nc - (intOf s19).toNat)
      case atStart => exact ⟨0, Nat.zero_le _, rfl, fun j y hj => by omega, Below.refl _ _⟩
      case round =>
        obtain ⟨k, hk, rfl, HP, HB⟩ := hrel
        have HZ : Hid (wr.heap[w.heap.size + 1]? = some (.cells (cv (pad cu.1) (pad cu.2)) 36 (0, 0))) := (HB.out.block _ (Array.getElem?_eq_some_iff.1 H6.out).1).trans H6.out
        have XZ : Hid (wr.heap[px]? = some (.cells (slotV x) 38 (0, 0))) := (HB.out.block _ (Array.getElem?_eq_some_iff.1 X6.out).1).trans X6.out
        have BFW : Hid (Below w.heap.size w wr) := below_step B6.out B6.out.size HB.out
        have UIr : Hid (SlotsAt w5.heap.size wr (.slice oi ni capi) Is) := UI.out.below HB.out
        by_cases hlt : k < nc
        · have hlt' : (k : Int) < (nc : Int) := by omega
          obtain ⟨y, hyk⟩ : ∃ y, C[k]? = some y := ⟨_, List.getElem?_eq_getElem (by have := HNC.out; omega)⟩
          obtain ⟨g', off, cur, ty, fr, rfl, hg', hcc⟩ := slot_fld (UC.out.below HB.out) k hyk
          have K1 : Hid (wr.heap[g']? = some (.cells cur ty fr)) := hg'
          have HC1 : Hid (∀ j, j < 26 → cur[off + k * 36 + 4 + j]? = (cv (pad y.cube.1) (pad y.cube.2))[j]?) := cube_row hg' hcc
          have HY : Hid (C[k]? = some y) := hyk
          have HYO : Hid (OkC y.cube) := COK.out y (List.mem_of_getElem? hyk)
          have E1 : Hid (∀ W, Below wr.heap.size wr W → W.cell? ⟨g', off + k * 36 + 1, none⟩ = some (.int .i64 y.epoch)) := fun W hb => ((slf_of hg' hcc).below (hb.block _ (Array.getElem?_eq_some_iff.1 hg').1)).c1
          have d34 : ∀ u : Later wr, u.world.cell? ⟨g', off + k * 36 + 34, none⟩ = some (.int .i64 y.used) := fun u => ((slf_of hg' hcc).below ((later_block hg' _ ⟨u, rfl⟩).trans hg'.symm)).c34
          have x34 : ∀ u : Later wr, u.world.cell? ⟨px, 34, none⟩ = some (.int .i64 x.used) := fun u => by have := (later_slf XZ.out (slf_own XZ.out) u).c34; simpa using this
          have ne1 := Later.ne wr
          clear hg' hcc hyk
          go_wp2_with fail
          refine wp_region_later (by kernel_rfl) (by kernel_rfl) ?_
          go_big_quiet_step (rfl)
          go_big_quiet_step (rfl)
          go_big_quiet_step (rfl)
          go_big_quiet_step (rfl)
          go_big_quiet_step (rfl)
          go_big_quiet_step (rfl)
          go_big_quiet_step (rfl)
          go_big_quiet_step (rfl)
          go_big_quiet_step (rfl)
          go_big_quiet_step (rfl)
          go_big_quiet_step (rfl)
          refine wpQuiet_nil ?_
          rintro w' ⟨u, rfl⟩
          have BU : Hid (Below wr.heap.size wr u.world) := u.below
          obtain ⟨wz, hwz⟩ : ∃ wz, u.world = wz := ⟨_, rfl⟩
          rw [hwz] at BU
          rw [hwz]
          clear hwz ne1 d34 x34
          have HBz : Hid (Below w6.heap.size w6 wz) := below_step HB.out HB.out.size BU.out
          have K1 : Hid (wz.heap[g']? = some (.cells cur ty fr)) := (BU.out.block _ (Array.getElem?_eq_some_iff.1 K1.out).1).trans K1.out
          have HZ : Hid (wz.heap[w.heap.size + 1]? = some (.cells (cv (pad cu.1) (pad cu.2)) 36 (0, 0))) := (BU.out.block _ (Array.getElem?_eq_some_iff.1 HZ.out).1).trans HZ.out
          have e1 : ∀ u : Later wz, u.world.cell? ⟨g', off + k * 36 + 1, none⟩ = some (.int .i64 y.epoch) := fun u => E1.out _ (below_step BU.out BU.out.size u.below)
          have ne1 := Later.ne wz
          have EQ : ∀ W, (Op.equalIn 10000 36 (.agg (cv (pad y.cube.1) (pad y.cube.2))) (.agg (cv (pad (canC cu).1) (pad (canC cu).2)))).run Try.prog W = .ok (y.cube == canC cu) W := fun W => by rw [← cub_eq HYO.out CO.out]; exact eqC _ _ _ _ (pad_len _) (pad_len _) (pad_len _) (pad_len _) W
          have G := egC
          have HM : Hid (sameC s y = ((y.epoch == e) && (y.cube == canC cu))) := by show _ = _; unfold sameC; rw [SF.out.1, SF.out.2.1]
          obtain ⟨ye, hye⟩ : ∃ ye, ye = y.epoch := ⟨_, rfl⟩
          obtain ⟨bc, hbc⟩ : ∃ bc, bc = (y.cube == canC cu) := ⟨_, rfl⟩
          rw [← hye] at e1 HM
          rw [← hbc] at EQ HM
          clear hye hbc
          by_cases he : ye = e
          · subst he
            have hed : (ye == ye) = true := by simp
            rcases Bool.eq_false_or_eq_true bc with hh | hh
            · subst hh
              have HMM : Hid (sameC s y = true) := by show _ = _; rw [HM.out, hed]; rfl
              clear HM
              go_wp2_with fail
              refine wp_region_later (by kernel_rfl) (by kernel_rfl) ?_
              go_big_quiet_step (rfl)
              go_big_quiet_step (rfl)
              go_big_quiet_step (rfl)
              go_big_quiet_step (rfl)
              go_big_quiet_step (rfl)
              go_big_quiet_step (rfl)
              go_big_quiet_step (rfl)
              go_big_quiet_step (rfl)
              go_big_quiet_step (rfl)
              go_big_quiet_step (rfl)
              go_big_quiet_step (rfl)
              go_big_quiet_step (rfl)
              refine qlCw rfl _ rfl g' (off + k * 36 + 4) rfl cur _ _ (pad y.cube.1) (pad y.cube.2) (pad_len _) (pad_len _) (later_block K1.out) HC1.out ?_
              simp only [Act.put, List.setIfInBounds_toArray, List.set_cons_succ, List.set_cons_zero]
              refine qlCw rfl _ rfl (w.heap.size + 1) 0 rfl _ _ _ (pad cu.1) (pad cu.2) (pad_len _) (pad_len _) (later_block HZ.out) (own_cells _ _) ?_
              simp only [Act.put, List.setIfInBounds_toArray, List.set_cons_succ, List.set_cons_zero]
              go_big_quiet_want; go_big_quiet_op
              refine ⟨_, fun u => Calls.later_of (CA.out u.world), ?_⟩
              go_big_quiet_on
              go_big_quiet_step (rfl)
              go_big_quiet_step (rfl)
              refine wpQuiet_nil ?_
              rintro w' ⟨u, rfl⟩
              rcases EV.out.way with ⟨i0, hi0, hbf, ⟨y0, hy0, hsm⟩, _, hlen, hat⟩ | ⟨hno, _⟩
              · obtain rfl : i0 = k := by
                  rcases Nat.lt_trichotomy i0 k with q | q | q
                  · have h1 := HP.out i0 y0 q hy0
                    rw [h1] at hsm
                    cases hsm
                  · exact q
                  · have h1 := hbf k y q HY.out
                    rw [HMM.out] at h1
                    cases h1
                have hBu : Below w6.heap.size w6 u.world := below_step HBz.out HBz.out.size u.below
                obtain ⟨gl, offl, curl, tyl, frl, rfl, hgl, hccl⟩ := slot_fld (UI.out.below hBu) i0 hat
                have f30 : u.world.cell? ⟨gl, offl + i0 * 36 + 30, none⟩ = some (.int .i64 act) := by have h9 := (slf_of hgl hccl).c30; rw [SF.out.2.2.1] at h9; exact h9
                have f33 : u.world.cell? ⟨gl, offl + i0 * 36 + 33, none⟩ = some (.int .i64 tt) := by have h9 := (slf_of hgl hccl).c33; rw [SF.out.2.2.2] at h9; exact h9
                have hni : ni = nc := by rw [HNI.out, HNC.out]; exact hlen
                subst hni
                have BL : Hid (Below w.heap.size w u.world) := below_step B6.out B6.out.size hBu
                clear hgl hccl hat hlen hsm hy0 hbf hBu
                go_wp2_with fail
                go_ret
                exact ⟨by simp, BL.out⟩
              · exfalso
                have h1 := hno k y HY.out
                rw [HMM.out] at h1
                cases h1
            · subst hh
              have HMM : Hid (sameC s y = false) := by show _ = _; rw [HM.out, hed]; rfl
              clear HM
              go_wp2_with fail
              refine wp_region_later (by kernel_rfl) (by kernel_rfl) ?_
              go_big_quiet_step (rfl)
              go_big_quiet_step (rfl)
              go_big_quiet_step (rfl)
              go_big_quiet_step (rfl)
              go_big_quiet_step (rfl)
              go_big_quiet_step (rfl)
              go_big_quiet_step (rfl)
              go_big_quiet_step (rfl)
              go_big_quiet_step (rfl)
              go_big_quiet_step (rfl)
              go_big_quiet_step (rfl)
              go_big_quiet_step (rfl)
              refine qlCw rfl _ rfl g' (off + k * 36 + 4) rfl cur _ _ (pad y.cube.1) (pad y.cube.2) (pad_len _) (pad_len _) (later_block K1.out) HC1.out ?_
              simp only [Act.put, List.setIfInBounds_toArray, List.set_cons_succ, List.set_cons_zero]
              refine qlCw rfl _ rfl (w.heap.size + 1) 0 rfl _ _ _ (pad cu.1) (pad cu.2) (pad_len _) (pad_len _) (later_block HZ.out) (own_cells _ _) ?_
              simp only [Act.put, List.setIfInBounds_toArray, List.set_cons_succ, List.set_cons_zero]
              go_big_quiet_want; go_big_quiet_op
              refine ⟨_, fun u => Calls.later_of (CA.out u.world), ?_⟩
              go_big_quiet_on
              go_big_quiet_step (rfl)
              go_big_quiet_step (rfl)
              refine wpQuiet_nil ?_
              rintro w' ⟨u, rfl⟩
              go_wp2_with fail
              go_roundw
              case rel =>
                refine ⟨k + 1, by omega, by go_num, fun j z hj hz => ?_, below_step HBz.out HBz.out.size u.below⟩
                by_cases ej : j = k
                · subst ej; rw [HY.out] at hz; cases hz; exact HMM.out
                · exact HP.out j z (by omega) hz
              case measure => simp [intOf]; omega
          · have hed : (ye == e) = false := by simpa using he
            have HMM : Hid (sameC s y = false) := by show _ = _; rw [HM.out, hed]; rfl
            clear HM
            go_wp2_with fail
            refine wp_region_later (by kernel_rfl) (by kernel_rfl) ?_
            go_big_quiet_step (rfl)
            go_big_quiet_step (rfl)
            go_big_quiet_step (rfl)
            go_big_quiet_step (rfl)
            go_big_quiet_step (rfl)
            go_big_quiet_step (rfl)
            go_big_quiet_step (rfl)
            go_big_quiet_step (rfl)
            go_big_quiet_step (rfl)
            go_big_quiet_step (rfl)
            go_big_quiet_step (rfl)
            go_big_quiet_step (rfl)
            go_big_quiet_step (rfl)
            go_big_quiet_step (rfl)
            go_big_quiet_step (rfl)
            go_big_quiet_step (rfl)
            go_big_quiet_step (rfl)
            refine wpQuiet_nil ?_
            rintro w' ⟨u, rfl⟩
            go_wp2_with fail
            go_roundw
            case rel =>
              refine ⟨k + 1, by omega, by go_num, fun j z hj hz => ?_, below_step HBz.out HBz.out.size u.below⟩
              by_cases ej : j = k
              · subst ej; rw [HY.out] at hz; cases hz; exact HMM.out
              · exact HP.out j z (by omega) hz
            case measure => simp [intOf]; omega
        · have hlt' : ¬ (k : Int) < (nc : Int) := by omega
          rcases EV.out.way with ⟨i0, hi0, _, ⟨y0, hy0, hsm⟩, _⟩ | ⟨_, ⟨I0, hI0⟩, hgd⟩
          · exfalso
            have h1 := HP.out i0 y0 (by have := HNC.out; omega) hy0
            rw [h1] at hsm
            cases hsm
          obtain ⟨j0, hj0⟩ : ∃ j0, j0 = I0.length := ⟨_, rfl⟩
          have hnij : ni = j0 + 1 := by rw [HNI.out, hI0, hj0]; simp
          subst hnij
          have hls : Is[j0]? = some s := by rw [hI0, hj0]; simp
          obtain ⟨gl, offl, curl, tyl, frl, rfl, hgl, hccl⟩ := slot_fld UIr.out j0 hls
          have LDS : Hid ((loadVar 38 ⟨gl, offl + j0 * 36, none⟩).run Try.prog wr = .ok (.agg (slotV s)) wr) := ld_row hgl hccl
          have HGD : Hid (false = decide (C.length = R.cache)) := hgd
          clear hgl hccl hls hI0 hj0 hgd
          have ej : ((j0 + 1 : Nat) : Int) - 1 = (j0 : Int) := by omega
          have ej2 : (j0 : Int) < ((j0 + 1 : Nat) : Int) := by omega
          obtain ⟨wy, hwy⟩ : ∃ wy, wy = wr.alloc (.cells (slotV s) 38) := ⟨_, rfl⟩
          have BY : Hid (Below wr.heap.size wr wy) := by show Below _ _ _; rw [hwy]; exact (Below.refl _ _).alloc (Nat.le_refl _) _
          have SY : Hid (wy.heap[wr.heap.size]? = some (.cells (slotV s) 38 (0, 0))) := by show _ = _; rw [hwy]; exact heap_new _ _ _ rfl
          go_wp2_with (first | ((with_reducible refine wl_gL _ rfl ?_); refine wl_loadS rfl _ rfl gl (offl + j0 * 36) rfl s LDS.out ?_) | ((with_reducible refine wl_gA rfl ?_); refine wl_allocS rfl rfl ?_; try rw [sz_alloc]) | ((with_reducible refine wl_gS _ _ rfl ?_); refine wl_storeS rfl _ _ rfl wr.heap.size s zeroS rfl rfl (heap_new _ _ _ rfl) _ (setRow_new _ _ _ _ _ rfl) ?_); refine of_stopS ?_)
          unfold StopS
          rw [← hwy]
          clear hwy
          have HZy : Hid (wy.heap[w.heap.size + 1]? = some (.cells (cv (pad cu.1) (pad cu.2)) 36 (0, 0))) := (BY.out.block _ (Array.getElem?_eq_some_iff.1 HZ.out).1).trans HZ.out
          have RY : Hid (wy.heap[w.heap.size]? = some (.cells (roomA c a q i h) 23 (0, 0))) := ((below_step HB.out HB.out.size BY.out).block _ (Array.getElem?_eq_some_iff.1 R6.out).1).trans R6.out
          have BFY : Hid (Below w.heap.size w wy) := below_step BFW.out BFW.out.size BY.out
          have rc : ∀ u : Later wy, u.world.cell? ⟨w.heap.size, 0, none⟩ = some (.int .i64 c) := fun u => by rw [cell_of_row _ _ _ _ _ _ (later_block RY.out _ ⟨u, rfl⟩)]; rfl
          have ER : ∀ W, (Op.equalIn 10000 38 (.agg (slotV s)) (.agg (slotV s))).run Try.prog W = .ok true W := fun W => by rw [eqSlot, eqS_self]
          have GS := egS
          have qc : ((nc : Int) == c) = false := by
            rw [HGD.out, HNC.out, ← RC.out]
            by_cases hq : C.length = R.cache
            · rw [decide_eq_true hq, hq]; simp
            · rw [decide_eq_false hq]; simp; omega
          have ne1 := Later.ne wy
          clear HGD ej ej2
          obtain ⟨ps, hps⟩ : ∃ ps, ps = wr.heap.size := ⟨_, rfl⟩
          rw [← hps] at SY
          rw [← hps]
          clear hps HZ
          have HZ : Hid _ := HZy.out
          go_wp2_with fail
          refine wp_region_later (by kernel_rfl) (by kernel_rfl) ?_
          go_big_quiet_step (rfl)
          go_big_quiet_step (rfl)
          go_big_quiet_step (rfl)
          go_big_quiet_step (rfl)
          go_big_quiet_step (rfl)
          go_big_quiet_step (rfl)
          go_big_quiet_step (rfl)
          go_big_quiet_step (rfl)
          refine qlE (E := SlotE) SlotOk rfl _ rfl ps 0 rfl _ _ _ (slotV s) (slotV_size _) (later_block SY.out) (own_cells _ _) ?_
          simp only [Act.put, List.setIfInBounds_toArray, List.set_cons_succ, List.set_cons_zero]
          go_big_quiet_step (rfl)
          refine qlCw rfl _ rfl (w.heap.size + 1) 0 rfl _ _ _ (pad cu.1) (pad cu.2) (pad_len _) (pad_len _) (later_block HZ.out) (own_cells _ _) ?_
          simp only [Act.put, List.setIfInBounds_toArray, List.set_cons_succ, List.set_cons_zero]
          go_big_quiet_want; go_big_quiet_op
          refine ⟨_, fun u => Calls.later_of (CA.out u.world), ?_⟩
          go_big_quiet_on
          go_big_quiet_step (rfl)
          go_big_quiet_step (rfl)
          go_big_quiet_step (rfl)
          refine q_valT rfl (.agg (slotV s)) (fun W _ => run_buildOpT rfl _ _ #[(0, .int .i64 1), (1, .int .i64 e), (4, .agg (cv (pad (canC cu).1) (pad (canC cu).2))), (5, .int .i64 act), (8, .int .i64 tt), (9, .int .i64 tt)] (by simp only [List.map_toArray, List.map_cons, List.map_nil]; rfl) _ (BFR.out W)) ?_
          simp only [Act.put, List.setIfInBounds_toArray, List.set_cons_succ, List.set_cons_zero]
          go_big_quiet_step (rfl)
          go_big_quiet_step (rfl)
          go_big_quiet_step (rfl)
          refine wpQuiet_nil ?_
          rintro w' ⟨u, rfl⟩
          go_wp2_with fail
          go_ret
          exact ⟨by simp, below_step BFY.out BFY.out.size u.below⟩
theorem lawEvicts2 (c a q i h : Int) (A : List ActM) (lv : Value) (w : World) (hl : GSl ActE actV w lv A) (hA : ∀ x ∈ A, OkA x) (now e : Int) (V M : List Int) (hV : Byt V) (hM : Byt M) (act : Int) :
    Calls Try.prog 7 #[.agg (roomA c a q i h), lv, .int .i64 now, .int .i64 e, .agg (cv V M), .int .i64 act] w fun e w' => e = .returned (.bool true) ∧ Below w.heap.size w w' := by
  have h9 := lawEvicts c a q i h A lv w hl hA now e (V, M) act ⟨hV, hM⟩
  simp only [pad_id hV.1, pad_id hM.1] at h9
  exact h9
end Go.Proofs.Ytojhckjdkafpmaa
