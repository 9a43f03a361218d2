import Derived.Test.YtagogbodkbbikaaJ10
import Derived.Test.YtagogbodkbbikaaJ11
import Derived.Test.YtagogbodkbbikaaJ2
namespace Go.Proofs.Ytagogbodkbbikaa
open Go Go.RowKit
set_option maxRecDepth 20000

set_option maxHeartbeats 64000000 in
theorem lawWPlays_any (w : World) (room tries time : Int) (va : Value) (l : List ActW) (hl : GSl ActWE actW w va l) (ho : ∀ x ∈ l, OkActW x) : Calls Try.prog 3 #[.int .i64 room, .int .i64 tries, .int .i64 time, va] w fun e w' => e = .returned (.bool true) ∧ Below w.heap.size w w' := by
  have HW := awake19_any w
  obtain ⟨oA, cA, hva, hcA, hcA2⟩ := hl.slice
  obtain ⟨q, hq⟩ : ∃ q, q = l.length := ⟨_, rfl⟩
  rw [← hq] at hva hcA
  have HL : Hid (∀ W, Below w.heap.size w W → GSl ActWE actW W va l) := fun W hb => hl.below hb
  have HOK : Hid (∀ x ∈ l, OkActW x) := ho
  unfold maxLen at hcA2
  clear hl ho hq
  subst hva
  by_cases hnew : OkNew room tries time
  case neg =>
    have HN : Hid (∀ W, Calls Try.prog 8 #[.int .i64 room, .int .i64 tries, .int .i64 time] W fun e w' => e = .returned (.tuple #[.pointer none, .int .i64 1]) ∧ w' = W) := fun W => newWt_no room tries time hnew W
    have HR : Hid (∀ W, Calls Try.prog 9 #[.int .i64 room, .int .i64 tries, .int .i64 time] W fun e w' => e = .returned (.tuple #[.pointer none, .int .i64 1]) ∧ w' = W) := fun W => rnewW_no room tries time hnew W
    go_enter Try.func3, Try.ntmps3
    go_wp2_with (first
      | (go_at_call 7; refine HW.mono ?_; rintro e w1 ⟨rfl, hb1⟩)
      | (go_at_call 8; refine (HN.out _).mono ?_; rintro e w2 ⟨rfl, h2⟩; have h2 := h2.symm; subst h2)
      | (go_at_call 9; refine (HR.out _).mono ?_; rintro e w2 ⟨rfl, h2⟩; have h2 := h2.symm; subst h2))
    go_ret
    exact ⟨rfl, hb1⟩
  have HN : Hid (∀ W, Calls Try.prog 8 #[.int .i64 room, .int .i64 tries, .int .i64 time] W fun e w' => e = .returned (.tuple #[.pointer (some ⟨W.heap.size, 0, none⟩), .int .i64 0]) ∧ WaitV W.heap.size w' W.heap.size ⟨room, tries, time, [], 0⟩ (.slice none 0 0) ∧ Below W.heap.size W w') := fun W => newWt_yes room tries time hnew W
  have HR : Hid (∀ W, Calls Try.prog 9 #[.int .i64 room, .int .i64 tries, .int .i64 time] W fun e w' => e = .returned (.tuple #[.pointer (some ⟨W.heap.size, 0, none⟩), .int .i64 0]) ∧ RwO W.heap.size w' W.heap.size ⟨room, tries, time, [], 0⟩ (.slice none 0 0) (.slice none 0 0) [] ∧ Below W.heap.size W w') := fun W => rnewW_yes room tries time hnew W
  have HI0 : Hid (WaitIn ⟨room, tries, time, [], 0⟩) := new_inW (room := room) (tries := tries) (time := time) (by unfold newW; exact if_pos hnew)
  clear hnew
  go_enter Try.func3, Try.ntmps3
  go_wp2_with (first
    | (go_at_call 7; refine HW.mono ?_; rintro e w1 ⟨rfl, hb1⟩)
    | (go_at_call 8; refine of_stopT ?_))
  unfold StopT
  have HBW : Hid (Below w.heap.size w w1) := hb1
  refine (HN.out w1).mono ?_
  rintro e w2 ⟨rfl, hV2, hb2⟩
  have HV2 : Hid _ := hV2
  have HB2 : Hid _ := hb2
  clear HN hb1 HW hV2 hb2
  go_wp2_with (go_at_call 9; refine of_stopT ?_)
  unfold StopT
  refine (HR.out w2).mono ?_
  rintro e w3 ⟨rfl, hV3, hb3⟩
  obtain ⟨g, hg⟩ : ∃ g, g = w1.heap.size := ⟨_, rfl⟩
  obtain ⟨r, hr⟩ : ∃ r, r = w2.heap.size := ⟨_, rfl⟩
  have H0 : Hid (TwM w1 w3 g r ⟨room, tries, time, [], 0⟩ ⟨room, tries, time, [], 0⟩ (fun _ => False)) := by
    show TwM _ _ _ _ _ _ _
    rw [hg, hr]
    exact newT w1 w2 w3 room tries time HV2.out HB2.out hV3 hb3
  clear HR hV3 hb3 HV2 HB2
  rw [← hg, ← hr]
  clear hg hr
  go_wp2_with fail
  go_loopw [13] (fun s13 wr => ∃ (i : Nat) (m : WaitM), i ≤ q ∧ i ≤ 100 ∧ s13 = .int .i64 (i : Int) ∧ Hid (TwM w1 wr g r m m (fun _ => False)) ∧ Hid (WaitIn m ∧ m.last ≤ i ∧ m.room = room)) (fun s13 _ => q - (intOf s13).toNat)
  case atStart => exact ⟨0, _, Nat.zero_le _, by omega, rfl, H0, HI0.out, Nat.le_refl _, rfl⟩
  case round =>
    obtain ⟨i, m, hi, hi100, rfl, HO, HI⟩ := hrel
    have HBr : Hid (Below w.heap.size w wr) := HBW.out.trans ((TwM.below HO.out).mono HBW.out.size)
    by_cases hlt : i < q
    case neg =>
      have hlt' : ¬ (i : Int) < (q : Int) := by omega
      go_wp2_with fail
      go_ret
      exact ⟨rfl, HBr.out⟩
    have hlt' : (i : Int) < (q : Int) := by omega
    by_cases hlt2 : i < 100
    case neg =>
      have hlt2' : ¬ (i : Int) < 100 := by omega
      go_wp2_with fail
      go_ret
      exact ⟨rfl, HBr.out⟩
    have hlt2' : (i : Int) < 100 := by omega
    obtain ⟨ga, offa, cura, tya, fra, x, rfl, hga, hcca, hxa⟩ := (HL.out wr HBr.out).at i hlt
    have HX : Hid (OkActW x) := HOK.out x (List.mem_of_getElem? hxa)
    obtain ⟨wx, hwx⟩ : ∃ wx, wx = wr.alloc (.cells (actW x) 34) := ⟨_, rfl⟩
    obtain ⟨px, hpx⟩ : ∃ px, px = wr.heap.size := ⟨_, rfl⟩
    have HOx : Hid (TwM w1 wx g r m m (fun k => k = px)) := by
      rw [hwx, hpx]
      exact TwM.less (TwM.block HO.out _) fun k e => .inr e
    have Ax : Hid (wx.heap[px]? = some (.cells (actW x) 34 (0, 0))) := by show _ = _; rw [hwx, hpx]; exact heap_new _ _ _ rfl
    have SRx : (wr.alloc (.cells (actW zeroActW) 34)).setRow wr.heap.size (actW x) = wx := by rw [hwx]; exact setRow_new _ _ _ _ _ rfl
    have HFA : Hid (∀ W : World, W.heap[px]? = some (.cells (actW x) 34 (0, 0)) → W.cell? ⟨px, 0, none⟩ = some (.int .i64 x.kind) ∧ W.cell? ⟨px, 1, none⟩ = some (.int .i64 x.index) ∧ W.cell? ⟨px, 15, none⟩ = some (.int .i64 x.seq) ∧ W.cell? ⟨px, 16, none⟩ = some (.int .i64 x.now)) := fun W hW => by
      have F := actwf_of hW fun j _ => by rw [Nat.zero_add]
      have k1 := F.c1
      have k3 := F.c3
      have k4 := F.c4
      simp only [Nat.zero_add] at k1 k3 k4
      exact ⟨F.c0, k1, k3, k4⟩
    obtain ⟨kd, hkd⟩ : ∃ kd, kd = x.kind := ⟨_, rfl⟩
    obtain ⟨xi, hxi⟩ : ∃ xi, xi = x.index := ⟨_, rfl⟩
    obtain ⟨xq, hxq⟩ : ∃ xq, xq = x.seq := ⟨_, rfl⟩
    obtain ⟨xn, hxn⟩ : ∃ xn, xn = x.now := ⟨_, rfl⟩
    rw [← hkd, ← hxi, ← hxq, ← hxn] at HFA
    have HHD : Hid (∀ j, j < 13 → (actW x)[2 + j]? = (hv x.head)[j]?) := actw_head HX.out
    have HHS : Hid ((hv x.head).size = 13) := by show _ = _; rw [hv_size]; exact HX.out
    have KGa : Hid (wr.heap[ga]? = some (.cells cura tya fra)) := hga
    have KCa : Hid (∀ j, j < 17 → cura[offa + i * 17 + j]? = (actW x)[j]?) := hcca
    have HPX : Hid (px = wr.heap.size) := hpx
    obtain ⟨k0, k1, k3, k4⟩ := HFA.out wx Ax.out
    clear hxa hwx hga hcca HO hkd hxi hxq hxn
    go_wp2_with (first
      | ((with_reducible refine wl_gaT rfl ?_); refine wl_allocE (E := ActWE) ActWOk rfl rfl ?_; try rw [sz_allocK])
      | ((with_reducible refine wl_glT _ rfl ?_); refine wl_loadE (E := ActWE) ActWOk rfl _ rfl ga (offa + i * 17) rfl cura tya fra (actW x) rfl KGa.out KCa.out ?_)
      | ((with_reducible refine wl_gsT _ _ rfl ?_); refine wl_storeE (E := ActWE) ActWOk rfl _ _ rfl wr.heap.size (actW x) (actW_fits x) rfl rfl _ (heap_new _ _ _ rfl) rfl _ SRx ?_; refine of_stopT ?_))
    unfold StopT
    rw [← hpx]
    clear SRx KGa KCa hpx
    by_cases q1 : kd = 1
    · subst q1
      obtain ⟨m', hm'⟩ : ∃ m', m' = (addW m xi x.head xn).1 := ⟨_, rfl⟩
      obtain ⟨a1, ha1⟩ : ∃ a1, a1 = (addW m xi x.head xn).2.1 := ⟨_, rfl⟩
      obtain ⟨a2, ha2⟩ : ∃ a2, a2 = (addW m xi x.head xn).2.2 := ⟨_, rfl⟩
      have HIN : Hid (WaitIn m' ∧ m'.last ≤ i + 1 ∧ m'.room = room) := by
        rw [hm']
        refine ⟨add_inW HI.out.1 _ _ _, ?_, ?_⟩
        · have := HI.out.2.1
          unfold addW
          split
          · dsimp only; omega
          · show m.last + 1 ≤ _; omega
        · have : (addW m xi x.head xn).1.room = m.room := by unfold addW; split <;> rfl
          rw [this]
          exact HI.out.2.2
      have CO := addO_any HOx.out HI.out.1 xi x.head HX.out xn (by have := HI.out.2.1; omega)
      rw [← hm', ← ha1, ← ha2] at CO
      have HE3 : Hid (m' = (addW m xi x.head xn).1 ∧ a1 = (addW m xi x.head xn).2.1 ∧ a2 = (addW m xi x.head xn).2.2) := ⟨hm', ha1, ha2⟩
      clear hm' ha1 ha2
      go_wp2_with (first
        | ((with_reducible refine wl_glH _ rfl ?_); refine wl_loadA HeKOk rfl _ rfl px 2 rfl (actW x) _ _ (hv x.head) HHS.out Ax.out HHD.out ?_)
        | (go_at_call 10; refine CO.mono ?_; rintro e w4 ⟨rfl, t4, kp4⟩; refine of_stopT ?_))
      unfold StopT
      have CR := addR_any t4 HI.out.1 xi x.head HX.out xn (by have := HI.out.2.1; omega)
      rw [← HE3.out.1, ← HE3.out.2.1, ← HE3.out.2.2] at CR
      have A4 : Hid (w4.heap[px]? = some (.cells (actW x) 34 (0, 0))) := (kp4 px rfl).trans Ax.out
      clear CO k0 k1 k3 k4 t4 kp4
      obtain ⟨k0, k1, k3, k4⟩ := HFA.out w4 A4.out
      go_wp2_with (first
        | ((with_reducible refine wl_glH _ rfl ?_); refine wl_loadA HeKOk rfl _ rfl px 2 rfl (actW x) _ _ (hv x.head) HHS.out A4.out HHD.out ?_)
        | (go_at_call 11; refine CR.mono ?_; rintro e w5 ⟨rfl, t5, kp5⟩; refine of_stopT ?_))
      unfold StopT
      have TW : Hid (TwM w1 w5 g r m' m' (fun _ => False)) := TwM.less t5 fun _ e => e.elim
      clear CR k0 k1 k3 k4 t5 kp5 HOx
      have C1 := lstO_any TW.out HIN.out.1
      go_wp2_with (go_at_call 19; refine C1.mono ?_; rintro e y1 ⟨u1, rfl, h1, t1, _⟩; refine of_stopT ?_)
      unfold StopT
      have H1 : Hid _ := h1
      have C2 := lstR_any t1 (by have := HIN.out.2.1; omega)
      obtain ⟨o1, c1, e1, _⟩ := h1.slice
      generalize m'.l.length = z1 at e1
      clear C1 h1 t1 TW
      subst e1
      go_wp2_with (go_at_call 20; refine C2.mono ?_; rintro e y2 ⟨u2, rfl, h2, t2, bb2⟩; refine of_stopT ?_)
      unfold StopT
      have C3 := rsameK_any m'.l _ u2 y2 (AsksAt.sl (AsksAt.below H1.out bb2)) h2.sl
      obtain ⟨o2, c2, e2, _⟩ := h2.slice
      have T2 : Hid _ := t2
      generalize m'.l.length = z2 at e2
      clear C2 h2 t2 bb2 H1
      subst e2
      go_wp2_with (go_at_call 16; refine C3.mono ?_; rintro e y3 ⟨rfl, bb3⟩; refine of_stopT ?_)
      unfold StopT
      have t3 := (TwM.grow T2.out bb3).1
      have C4 := lstO_any t3 HIN.out.1
      obtain ⟨z4, hz4⟩ : ∃ z4, z4 = m'.l.length := ⟨_, rfl⟩
      have hz4r : ¬ (z4 : Int) > room := by have q1 := HIN.out.1.ok.len; rw [HIN.out.2.2, ← hz4] at q1; omega
      have C5 : Calls Try.prog 19 #[.pointer (some ⟨g, 0, none⟩)] y3 fun e w' => ∃ o c, e = .returned (.slice o z4 c) ∧ TwM w1 w' g r m' m' (fun _ => False) := by
        refine C4.mono ?_
        rintro e w' ⟨u, rfl, hu, ht, _⟩
        obtain ⟨o, c, eu, _⟩ := hu.slice
        rw [← hz4] at eu
        exact ⟨o, c, by rw [eu], ht.less fun _ e => e.elim⟩
      clear C3 C4 t3 bb3 T2 hz4
      go_wp2_with (go_at_call 19; refine C5.mono ?_; rintro e y4 ⟨o4, c4, rfl, t4⟩; have T4 : Hid _ := t4; clear t4)
      go_roundw
      case rel => exact ⟨i + 1, m', by omega, by omega, by go_num, T4, HIN⟩
      case measure => simp [intOf]; omega
    by_cases q2 : kd = 2
    · subst q2
      obtain ⟨m', hm'⟩ : ∃ m', m' = (answerW m xq).1 := ⟨_, rfl⟩
      obtain ⟨y, hy⟩ : ∃ y, y = (answerW m xq).2.getD zeroA := ⟨_, rfl⟩
      obtain ⟨b, hb⟩ : ∃ b, b = (answerW m xq).2.isSome := ⟨_, rfl⟩
      have HIN : Hid (WaitIn m' ∧ m'.last ≤ i + 1 ∧ m'.room = room) := by
        rw [hm']
        have e1 : (answerW m xq).1.last = m.last ∧ (answerW m xq).1.room = m.room := by unfold answerW; split <;> exact ⟨rfl, rfl⟩
        exact ⟨answer_inW HI.out.1 _, by rw [e1.1]; have := HI.out.2.1; omega, by rw [e1.2]; exact HI.out.2.2⟩
      have CO := ansO_any HOx.out HI.out.1 xq
      rw [← hm', ← hy, ← hb] at CO
      have HE3 : Hid (m' = (answerW m xq).1 ∧ y = (answerW m xq).2.getD zeroA ∧ b = (answerW m xq).2.isSome) := ⟨hm', hy, hb⟩
      clear hm' hy hb
      go_wp2_with (go_at_call 12; refine CO.mono ?_; rintro e w4 ⟨rfl, t4, kp4⟩; refine of_stopT ?_)
      unfold StopT
      obtain ⟨w5, hw5⟩ : ∃ w5, w5 = w4.alloc (.cells (askV y) 38) := ⟨_, rfl⟩
      have t5 : TwM w1 w5 g r m' m (fun k => k = px ∨ k = w4.heap.size) := by rw [hw5]; exact TwM.block t4 _
      have A4 : w4.heap[px]? = some (.cells (actW x) 34 (0, 0)) := (kp4 px rfl).trans Ax.out
      have A5 : Hid (w5.heap[px]? = some (.cells (actW x) 34 (0, 0))) := by show _ = _; rw [hw5]; exact heap_past _ _ _ _ A4
      have Y5 : Hid (w5.heap[w4.heap.size]? = some (.cells (askV y) 38 (0, 0))) := by show _ = _; rw [hw5]; exact heap_new _ _ _ rfl
      have SR5 : (w4.alloc (.cells (askV zeroA) 38)).setRow w4.heap.size (askV y) = w5 := by rw [hw5]; exact setRow_new _ _ _ _ _ rfl
      have CR := ansR_any t5 xq (by have := HI.out.2.1; omega)
      rw [← HE3.out.1, ← HE3.out.2.1, ← HE3.out.2.2] at CR
      clear CO k0 k1 k3 k4 t4 kp4 A4 t5 hw5
      obtain ⟨k0, k1, k3, k4⟩ := HFA.out w5 A5.out
      go_wp2_with (first
        | ((with_reducible refine wl_gaK rfl ?_); refine wl_allocK rfl rfl ?_; try rw [sz_allocK])
        | ((with_reducible refine wl_gsK _ _ rfl ?_); refine wl_storeK rfl _ _ rfl w4.heap.size y zeroA rfl rfl (heap_new _ _ _ rfl) _ SR5 ?_)
        | (go_at_call 13; refine CR.mono ?_; rintro e w6 ⟨rfl, t6, kp6⟩; refine of_stopT ?_))
      unfold StopT
      obtain ⟨w7, hw7⟩ : ∃ w7, w7 = w6.alloc (.cells (askV y) 38) := ⟨_, rfl⟩
      have Y6 : w6.heap[w4.heap.size]? = some (.cells (askV y) 38 (0, 0)) := (kp6 _ (.inr rfl)).trans Y5.out
      have L1 : (loadVar 38 ⟨w4.heap.size, 0, none⟩).run Try.prog w7 = .ok (.agg (askV y)) w7 := ldK_own (by rw [hw7]; exact heap_past _ _ _ _ Y6)
      have L2 : (loadVar 38 ⟨w6.heap.size, 0, none⟩).run Try.prog w7 = .ok (.agg (askV y)) w7 := ldK_own (by rw [hw7]; exact heap_new _ _ _ rfl)
      have SR7 : (w6.alloc (.cells (askV zeroA) 38)).setRow w6.heap.size (askV y) = w7 := by rw [hw7]; exact setRow_new _ _ _ _ _ rfl
      have TW : Hid (TwM w1 w7 g r m' m' (fun _ => False)) := by rw [hw7]; exact TwM.less (TwM.block t6 _) fun _ e => e.elim
      have eM : ∀ W, (Op.equalIn 10000 38 (.agg (askV y)) (.agg (askV y))).run Try.prog W = .ok true W := eqK_same y
      have eG : ∀ op p q W, (eqGuard op 38 p q (.agg (askV y)) (.agg (askV y))).run Try.prog W = .ok () W := fun op p q W => egK op p q _ _ W
      clear CR k0 k1 k3 k4 t6 kp6 HOx hw7 Y6 Y5 SR5
      cases b
      all_goals
        have C1 := lstO_any TW.out HIN.out.1
        go_wp2_with (first
          | ((with_reducible refine wl_gaK rfl ?_); refine wl_allocK rfl rfl ?_; try rw [sz_allocK])
          | ((with_reducible refine wl_gsK _ _ rfl ?_); refine wl_storeK rfl _ _ rfl w6.heap.size y zeroA rfl rfl (heap_new _ _ _ rfl) _ SR7 ?_)
          | ((with_reducible refine wl_glK _ rfl ?_); refine wl_loadK rfl _ rfl w4.heap.size 0 rfl y L1 ?_)
          | ((with_reducible refine wl_glK _ rfl ?_); refine wl_loadK rfl _ rfl w6.heap.size 0 rfl y L2 ?_)
          | (go_at_call 19; refine of_stopT ?_))
        unfold StopT
        clear SR7 L1 L2 eM eG
        refine C1.mono ?_
        rintro e y1 ⟨u1, rfl, h1, t1, _⟩
        have H1 : Hid _ := h1
        have C2 := lstR_any t1 (by have := HIN.out.2.1; omega)
        obtain ⟨o1, c1, e1, _⟩ := h1.slice
        generalize m'.l.length = z1 at e1
        clear C1 h1 t1 TW
        subst e1
        go_wp2_with (go_at_call 20; refine C2.mono ?_; rintro e y2 ⟨u2, rfl, h2, t2, bb2⟩; refine of_stopT ?_)
        unfold StopT
        have C3 := rsameK_any m'.l _ u2 y2 (AsksAt.sl (AsksAt.below H1.out bb2)) h2.sl
        obtain ⟨o2, c2, e2, _⟩ := h2.slice
        have T2 : Hid _ := t2
        generalize m'.l.length = z2 at e2
        clear C2 h2 t2 bb2 H1
        subst e2
        go_wp2_with (go_at_call 16; refine C3.mono ?_; rintro e y3 ⟨rfl, bb3⟩; refine of_stopT ?_)
        unfold StopT
        have t3 := (TwM.grow T2.out bb3).1
        have C4 := lstO_any t3 HIN.out.1
        obtain ⟨z4, hz4⟩ : ∃ z4, z4 = m'.l.length := ⟨_, rfl⟩
        have hz4r : ¬ (z4 : Int) > room := by have q1 := HIN.out.1.ok.len; rw [HIN.out.2.2, ← hz4] at q1; omega
        have C5 : Calls Try.prog 19 #[.pointer (some ⟨g, 0, none⟩)] y3 fun e w' => ∃ o c, e = .returned (.slice o z4 c) ∧ TwM w1 w' g r m' m' (fun _ => False) := by
          refine C4.mono ?_
          rintro e w' ⟨u, rfl, hu, ht, _⟩
          obtain ⟨o, c, eu, _⟩ := hu.slice
          rw [← hz4] at eu
          exact ⟨o, c, by rw [eu], ht.less fun _ e => e.elim⟩
        clear C3 C4 t3 bb3 T2 hz4
        go_wp2_with (go_at_call 19; refine C5.mono ?_; rintro e y4 ⟨o4, c4, rfl, t4⟩; have T4 : Hid _ := t4; clear t4)
        go_roundw
        case rel => exact ⟨i + 1, m', by omega, by omega, by go_num, T4, HIN⟩
        case measure => simp [intOf]; omega
    by_cases q3 : kd = 3
    · subst q3
      obtain ⟨m', hm'⟩ : ∃ m', m' = tickW m xn := ⟨_, rfl⟩
      obtain ⟨AL, hAL⟩ : ∃ AL, AL = againW m xn := ⟨_, rfl⟩
      obtain ⟨GL, hGL⟩ : ∃ GL, GL = goneW m xn := ⟨_, rfl⟩
      have HIN : Hid (WaitIn m' ∧ m'.last ≤ i + 1 ∧ m'.room = room) := by
        rw [hm']
        exact ⟨tick_inW HI.out.1 _, by have := HI.out.2.1; show m.last ≤ _; omega, HI.out.2.2⟩
      have CO := tickO_any HOx.out HI.out.1 xn
      rw [← hm', ← hAL, ← hGL] at CO
      go_wp2_with (go_at_call 14; refine CO.mono ?_; rintro e w4 ⟨a4, b4, rfl, ha4, hb4, t4, kp4⟩; refine of_stopT ?_)
      unfold StopT
      have CR := tickR_any t4 HI.out.1 xn (by have := HI.out.2.1; omega)
      rw [← hm', ← hAL, ← hGL] at CR
      have A4 : Hid (w4.heap[px]? = some (.cells (actW x) 34 (0, 0))) := (kp4 px rfl).trans Ax.out
      have HA4 : Hid (AsksAt w1.heap.size w4 a4 AL) := ha4
      have HB4 : Hid (AsksAt w1.heap.size w4 b4 GL) := hb4
      have HXX : Hid (∀ w', KpX (fun k => k = px ∨ rowX a4 k ∨ rowX b4 k) w4 w' → AsksAt w1.heap.size w' a4 AL ∧ AsksAt w1.heap.size w' b4 GL) := fun w' kk => ⟨asks_kp HA4.out kk fun k e => .inr (.inl e), asks_kp HB4.out kk fun k e => .inr (.inr e)⟩
      obtain ⟨o4, c4, e4, _⟩ := ha4.slice
      obtain ⟨o5, c5, e5, _⟩ := hb4.slice
      generalize AL.length = z4 at e4
      generalize GL.length = z5 at e5
      clear CO k0 k1 k3 k4 t4 kp4 hm' hAL hGL ha4 hb4
      subst e4
      subst e5
      obtain ⟨k0, k1, k3, k4⟩ := HFA.out w4 A4.out
      go_wp2_with (go_at_call 15; refine CR.mono ?_; rintro e w5 ⟨a5, b5, rfl, ha5, hb5, t5, kp5⟩; refine of_stopT ?_)
      unfold StopT
      obtain ⟨s1, s2⟩ := HXX.out w5 kp5
      have C6 := rsameK_any AL _ a5 w5 s1.sl ha5.sl
      have HS7 : Hid (∀ w6, Below w5.heap.size w5 w6 → Calls Try.prog 16 #[.slice o5 z5 c5, b5] w6 fun e w' => e = .returned (.bool true) ∧ Below w6.heap.size w6 w') := fun w6 hb => rsameK_any GL _ b5 w6 (AsksAt.sl (AsksAt.below s2 hb)) (AsksAt.sl (AsksAt.below hb5 hb))
      have T5 : Hid (TwM w1 w5 g r m' m' (fun _ => False)) := TwM.less t5 fun _ e => e.elim
      obtain ⟨o6, c6, e6, _⟩ := ha5.slice
      obtain ⟨o7, c7, e7, _⟩ := hb5.slice
      generalize AL.length = z6 at e6
      generalize GL.length = z7 at e7
      clear CR k0 k1 k3 k4 t5 kp5 HOx s1 s2 ha5 hb5 HXX HA4 HB4
      subst e6
      subst e7
      go_wp2_with (go_at_call 16; refine C6.mono ?_; rintro e w6 ⟨rfl, b6⟩; refine of_stopT ?_)
      unfold StopT
      have C7 := HS7.out w6 b6
      have t6 := (TwM.grow T5.out b6).1
      have T6 : Hid _ := t6
      clear C6 HS7 b6 t6 T5
      go_wp2_with (go_at_call 16; refine C7.mono ?_; rintro e w7 ⟨rfl, b7⟩; refine of_stopT ?_)
      unfold StopT
      have TW : Hid (TwM w1 w7 g r m' m' (fun _ => False)) := (TwM.grow T6.out b7).1
      clear C7 b7 T6
      have C1 := lstO_any TW.out HIN.out.1
      go_wp2_with (go_at_call 19; refine C1.mono ?_; rintro e y1 ⟨u1, rfl, h1, t1, _⟩; refine of_stopT ?_)
      unfold StopT
      have H1 : Hid _ := h1
      have C2 := lstR_any t1 (by have := HIN.out.2.1; omega)
      obtain ⟨o1, c1, e1, _⟩ := h1.slice
      generalize m'.l.length = z1 at e1
      clear C1 h1 t1 TW
      subst e1
      go_wp2_with (go_at_call 20; refine C2.mono ?_; rintro e y2 ⟨u2, rfl, h2, t2, bb2⟩; refine of_stopT ?_)
      unfold StopT
      have C3 := rsameK_any m'.l _ u2 y2 (AsksAt.sl (AsksAt.below H1.out bb2)) h2.sl
      obtain ⟨o2, c2, e2, _⟩ := h2.slice
      have T2 : Hid _ := t2
      generalize m'.l.length = z2 at e2
      clear C2 h2 t2 bb2 H1
      subst e2
      go_wp2_with (go_at_call 16; refine C3.mono ?_; rintro e y3 ⟨rfl, bb3⟩; refine of_stopT ?_)
      unfold StopT
      have t3 := (TwM.grow T2.out bb3).1
      have C4 := lstO_any t3 HIN.out.1
      obtain ⟨z4, hz4⟩ : ∃ z4, z4 = m'.l.length := ⟨_, rfl⟩
      have hz4r : ¬ (z4 : Int) > room := by have q1 := HIN.out.1.ok.len; rw [HIN.out.2.2, ← hz4] at q1; omega
      have C5 : Calls Try.prog 19 #[.pointer (some ⟨g, 0, none⟩)] y3 fun e w' => ∃ o c, e = .returned (.slice o z4 c) ∧ TwM w1 w' g r m' m' (fun _ => False) := by
        refine C4.mono ?_
        rintro e w' ⟨u, rfl, hu, ht, _⟩
        obtain ⟨o, c, eu, _⟩ := hu.slice
        rw [← hz4] at eu
        exact ⟨o, c, by rw [eu], ht.less fun _ e => e.elim⟩
      clear C3 C4 t3 bb3 T2 hz4
      go_wp2_with (go_at_call 19; refine C5.mono ?_; rintro e y4 ⟨o4, c4, rfl, t4⟩; have T4 : Hid _ := t4; clear t4)
      go_roundw
      case rel => exact ⟨i + 1, m', by omega, by omega, by go_num, T4, HIN⟩
      case measure => simp [intOf]; omega
    by_cases q4 : kd = 4
    · subst q4
      obtain ⟨m', hm'⟩ : ∃ m', m' = clearW m := ⟨_, rfl⟩
      obtain ⟨GL, hGL⟩ : ∃ GL, GL = m.l := ⟨_, rfl⟩
      have HIN : Hid (WaitIn m' ∧ m'.last ≤ i + 1 ∧ m'.room = room) := by
        rw [hm']
        exact ⟨clear_inW HI.out.1, by have := HI.out.2.1; show m.last ≤ _; omega, HI.out.2.2⟩
      have CO := clrO_any HOx.out
      rw [← hm', ← hGL] at CO
      go_wp2_with (go_at_call 17; refine CO.mono ?_; rintro e w4 ⟨a4, rfl, ha4, t4, kp4⟩; refine of_stopT ?_)
      unfold StopT
      have CR := clrR_any t4 (by have := HI.out.2.1; omega)
      rw [← hm', ← hGL] at CR
      have HA4 : Hid (AsksAt w1.heap.size w4 a4 GL) := ha4
      have HXX : Hid (∀ w', KpX (fun k => k = px ∨ rowX a4 k) w4 w' → AsksAt w1.heap.size w' a4 GL) := fun w' kk => asks_kp HA4.out kk fun k e => .inr e
      obtain ⟨o4, c4, e4, _⟩ := ha4.slice
      generalize GL.length = z4 at e4
      clear CO k0 k1 k3 k4 t4 kp4 hm' hGL ha4
      subst e4
      go_wp2_with (go_at_call 18; refine CR.mono ?_; rintro e w5 ⟨a5, rfl, ha5, t5, kp5⟩; refine of_stopT ?_)
      unfold StopT
      have s1 := HXX.out w5 kp5
      have C6 := rsameK_any GL _ a5 w5 (AsksAt.sl s1) ha5.sl
      have T5 : Hid (TwM w1 w5 g r m' m' (fun _ => False)) := TwM.less t5 fun _ e => e.elim
      obtain ⟨o6, c6, e6, _⟩ := ha5.slice
      generalize GL.length = z6 at e6
      clear CR t5 kp5 HOx s1 ha5 HXX HA4
      subst e6
      go_wp2_with (go_at_call 16; refine C6.mono ?_; rintro e w6 ⟨rfl, b6⟩; refine of_stopT ?_)
      unfold StopT
      have TW : Hid (TwM w1 w6 g r m' m' (fun _ => False)) := (TwM.grow T5.out b6).1
      clear C6 b6 T5
      have C1 := lstO_any TW.out HIN.out.1
      go_wp2_with (go_at_call 19; refine C1.mono ?_; rintro e y1 ⟨u1, rfl, h1, t1, _⟩; refine of_stopT ?_)
      unfold StopT
      have H1 : Hid _ := h1
      have C2 := lstR_any t1 (by have := HIN.out.2.1; omega)
      obtain ⟨o1, c1, e1, _⟩ := h1.slice
      generalize m'.l.length = z1 at e1
      clear C1 h1 t1 TW
      subst e1
      go_wp2_with (go_at_call 20; refine C2.mono ?_; rintro e y2 ⟨u2, rfl, h2, t2, bb2⟩; refine of_stopT ?_)
      unfold StopT
      have C3 := rsameK_any m'.l _ u2 y2 (AsksAt.sl (AsksAt.below H1.out bb2)) h2.sl
      obtain ⟨o2, c2, e2, _⟩ := h2.slice
      have T2 : Hid _ := t2
      generalize m'.l.length = z2 at e2
      clear C2 h2 t2 bb2 H1
      subst e2
      go_wp2_with (go_at_call 16; refine C3.mono ?_; rintro e y3 ⟨rfl, bb3⟩; refine of_stopT ?_)
      unfold StopT
      have t3 := (TwM.grow T2.out bb3).1
      have C4 := lstO_any t3 HIN.out.1
      obtain ⟨z4, hz4⟩ : ∃ z4, z4 = m'.l.length := ⟨_, rfl⟩
      have hz4r : ¬ (z4 : Int) > room := by have q1 := HIN.out.1.ok.len; rw [HIN.out.2.2, ← hz4] at q1; omega
      have C5 : Calls Try.prog 19 #[.pointer (some ⟨g, 0, none⟩)] y3 fun e w' => ∃ o c, e = .returned (.slice o z4 c) ∧ TwM w1 w' g r m' m' (fun _ => False) := by
        refine C4.mono ?_
        rintro e w' ⟨u, rfl, hu, ht, _⟩
        obtain ⟨o, c, eu, _⟩ := hu.slice
        rw [← hz4] at eu
        exact ⟨o, c, by rw [eu], ht.less fun _ e => e.elim⟩
      clear C3 C4 t3 bb3 T2 hz4
      go_wp2_with (go_at_call 19; refine C5.mono ?_; rintro e y4 ⟨o4, c4, rfl, t4⟩; have T4 : Hid _ := t4; clear t4)
      go_roundw
      case rel => exact ⟨i + 1, m', by omega, by omega, by go_num, T4, HIN⟩
      case measure => simp [intOf]; omega
    have z1 : (kd == 1) = false := by simpa using q1
    have z2 : (kd == 2) = false := by simpa using q2
    have z3 : (kd == 3) = false := by simpa using q3
    have z4 : (kd == 4) = false := by simpa using q4
    clear q1 q2 q3 q4
    have TW : Hid (TwM w1 wx g r m m (fun _ => False)) := TwM.less HOx.out fun _ e => e.elim
    have HIN : Hid (WaitIn m ∧ m.last ≤ i + 1 ∧ m.room = room) := ⟨HI.out.1, by have := HI.out.2.1; omega, HI.out.2.2⟩
    clear HOx k1 k3 k4
    have C1 := lstO_any TW.out HIN.out.1
    go_wp2_with (go_at_call 19; refine C1.mono ?_; rintro e y1 ⟨u1, rfl, h1, t1, _⟩; refine of_stopT ?_)
    unfold StopT
    have H1 : Hid _ := h1
    have C2 := lstR_any t1 (by have := HIN.out.2.1; omega)
    obtain ⟨o1, c1, e1, _⟩ := h1.slice
    generalize m.l.length = z1 at e1
    clear C1 h1 t1 TW
    subst e1
    go_wp2_with (go_at_call 20; refine C2.mono ?_; rintro e y2 ⟨u2, rfl, h2, t2, bb2⟩; refine of_stopT ?_)
    unfold StopT
    have C3 := rsameK_any m.l _ u2 y2 (AsksAt.sl (AsksAt.below H1.out bb2)) h2.sl
    obtain ⟨o2, c2, e2, _⟩ := h2.slice
    have T2 : Hid _ := t2
    generalize m.l.length = z2 at e2
    clear C2 h2 t2 bb2 H1
    subst e2
    go_wp2_with (go_at_call 16; refine C3.mono ?_; rintro e y3 ⟨rfl, bb3⟩; refine of_stopT ?_)
    unfold StopT
    have t3 := (TwM.grow T2.out bb3).1
    have C4 := lstO_any t3 HIN.out.1
    obtain ⟨z4, hz4⟩ : ∃ z4, z4 = m.l.length := ⟨_, rfl⟩
    have hz4r : ¬ (z4 : Int) > room := by have q1 := HIN.out.1.ok.len; rw [HIN.out.2.2, ← hz4] at q1; omega
    have C5 : Calls Try.prog 19 #[.pointer (some ⟨g, 0, none⟩)] y3 fun e w' => ∃ o c, e = .returned (.slice o z4 c) ∧ TwM w1 w' g r m m (fun _ => False) := by
      refine C4.mono ?_
      rintro e w' ⟨u, rfl, hu, ht, _⟩
      obtain ⟨o, c, eu, _⟩ := hu.slice
      rw [← hz4] at eu
      exact ⟨o, c, by rw [eu], ht.less fun _ e => e.elim⟩
    clear C3 C4 t3 bb3 T2 hz4
    go_wp2_with (go_at_call 19; refine C5.mono ?_; rintro e y4 ⟨o4, c4, rfl, t4⟩; have T4 : Hid _ := t4; clear t4)
    go_roundw
    case rel => exact ⟨i + 1, m, by omega, by omega, by go_num, T4, HIN⟩
    case measure => simp [intOf]; omega
end Go.Proofs.Ytagogbodkbbikaa
namespace Go.Proofs.Ytagogbodkbbikaa
open Go
set_option maxRecDepth 20000

/-! With a tick at each time. -/
structure EndS (R tr T start : Nat) (m : WaitM) (j asked : Nat) : Prop where
  inn : WaitIn m
  tries : m.tries = (tr : Int)
  time : m.time = (T : Int)
  st : (∃ t, t ≤ tr ∧ t * T ≤ j ∧ j ≤ (t + 1) * T ∧ alike ((start : Int) + ((t + 1) * T : Nat)) ((t : Int) + 1) m.l ∧ m.l.length = R ∧ asked = R * t) ∨ (j = (tr + 1) * T + 1 ∧ m.l = [] ∧ asked = R * tr)
theorem clock_small {n : Nat} (h : n ≤ 1000000000) : clockW (n : Int) = (n : Int) := by unfold clockW; omega
theorem ends_step {R tr T start : Nat} {m : WaitM} {j asked : Nat} (h : EndS R tr T start m j asked) (hT : 1 ≤ T) (hs : start ≤ 1048575) (hb : (tr + 1) * T ≤ 1000) (hj : j ≤ (tr + 1) * T) :
    EndS R tr T start (tickW m ((start + j : Nat) : Int)) (j + 1) (asked + (againW m ((start + j : Nat) : Int)).length) ∧ ((goneW m ((start + j : Nat) : Int)).length = 0 ∨ (j = (tr + 1) * T ∧ (goneW m ((start + j : Nat) : Int)).length = R)) := by
  obtain ⟨hi, htr, hti, hst⟩ := h
  have hc : clockW ((start + j : Nat) : Int) = ((start + j : Nat) : Int) := clock_small (by omega)
  rcases hst with ⟨t, ht, h1, h2, ha, hl, hk⟩ | ⟨h1, _, _⟩
  · have ett : (t + 1) * T = t * T + T := by rw [Nat.add_mul, Nat.one_mul]
    have et2 : (t + 1 + 1) * T = t * T + T + T := by rw [Nat.add_mul (t + 1), ett, Nat.one_mul]
    by_cases hd : j < (t + 1) * T
    · obtain ⟨q1, q2, q3⟩ := tick_early ha (now := ((start + j : Nat) : Int)) (by rw [hc]; omega)
      rw [q1, q2, q3]
      exact ⟨⟨hi, htr, hti, .inl ⟨t, ht, by omega, by omega, ha, hl, by simpa using hk⟩⟩, .inl rfl⟩
    · have hje : j = (t + 1) * T := by omega
      have hdue : (start : Int) + ((t + 1) * T : Nat) ≤ clockW ((start + j : Nat) : Int) := by rw [hc]; omega
      by_cases hmore : t + 1 ≤ tr
      · obtain ⟨q1, q2, q3, q4⟩ := tick_due ha hdue (by rw [htr]; omega)
        rw [q3, q2, List.length_map]
        refine ⟨⟨tick_inW hi _, htr, hti, .inl ⟨t + 1, hmore, by omega, by omega, ?_, by rw [q1, List.length_map]; exact hl, by rw [hk, hl, Nat.mul_add, Nat.mul_one]⟩⟩, .inl rfl⟩
        have e : clockW ((start + j : Nat) : Int) + m.time = (start : Int) + ((t + 1 + 1) * T : Nat) := by rw [hc, hti]; omega
        have e2 : (t : Int) + 1 + 1 = ((t + 1 : Nat) : Int) + 1 := by omega
        rw [e, e2] at q4
        exact q4
      · have htt : t = tr := by omega
        subst htt
        obtain ⟨q1, q2, q3⟩ := tick_last ha hdue (by rw [htr]; omega)
        rw [q2, q3]
        exact ⟨⟨tick_inW hi _, htr, hti, .inr ⟨by omega, q1, by simpa using hk⟩⟩, .inr ⟨hje, hl⟩⟩
  · omega
theorem ends_end {R tr T start : Nat} {m : WaitM} {j asked : Nat} (h : EndS R tr T start m j asked) (hj : ¬ j ≤ (tr + 1) * T) : m.l = [] ∧ asked = R * tr := by
  rcases h.st with ⟨t, ht, h1, h2, _⟩ | ⟨_, h1, h2⟩
  · have := Nat.mul_le_mul_right T (show t + 1 ≤ tr + 1 by omega)
    omega
  · exact ⟨h1, h2⟩
/-- So many are added. -/
structure AddS (R tr T start : Nat) (m : WaitM) (i : Nat) : Prop where
  inn : WaitIn m
  room : m.room = (R : Int)
  tries : m.tries = (tr : Int)
  time : m.time = (T : Int)
  last : m.last = i
  len : m.l.length = i
  al : alike ((start : Int) + (T : Int)) 1 m.l
theorem adds_new {R tr T start : Nat} (hR : 1 ≤ R) (hR2 : R ≤ 64) (ht : tr ≤ 8) (hT : 1 ≤ T) (hT2 : T ≤ 1000) : AddS R tr T start ⟨R, tr, T, [], 0⟩ 0 :=
  ⟨new_inW (room := R) (tries := tr) (time := T) (by unfold newW; rw [if_pos (by omega)]), rfl, rfl, rfl, rfl, rfl, fun x hx => absurd hx List.not_mem_nil⟩
theorem adds_step {R tr T start : Nat} {m : WaitM} {i : Nat} (h : AddS R tr T start m i) (hs : start ≤ 1048575) (hi : i < R) (k : Int) (L : List Int) : addW m k L (start : Int) = (putW m k L (start : Int), (i : Int) + 1, 0) ∧ AddS R tr T start (putW m k L (start : Int)) (i + 1) := by
  have e : addW m k L (start : Int) = (putW m k L (start : Int), (i : Int) + 1, 0) := by
    unfold addW
    rw [if_neg (by rw [h.len, h.room]; omega), h.last]
  refine ⟨e, ?_⟩
  have hin := add_inW h.inn k L (start : Int)
  rw [e] at hin
  refine ⟨hin, h.room, h.tries, h.time, by unfold putW; rw [h.last], by unfold putW; simp [h.len], fun x hx => ?_⟩
  unfold putW at hx
  rcases List.mem_append.1 hx with q | q
  · exact h.al x q
  · obtain rfl := List.mem_singleton.1 q
    exact ⟨by show clockW (start : Int) + m.time = _; rw [clock_small (by omega), h.time], rfl⟩
theorem adds_full {R tr T start : Nat} {m : WaitM} (h : AddS R tr T start m R) (k : Int) (L : List Int) (now : Int) : addW m k L now = (m, 0, 13) := by
  unfold addW
  rw [if_pos (by rw [h.len, h.room])]
theorem adds_ends {R tr T start : Nat} {m : WaitM} (h : AddS R tr T start m R) : EndS R tr T start m 0 0 :=
  ⟨h.inn, h.tries, h.time, .inl ⟨0, Nat.zero_le _, by omega, by omega, by simpa using h.al, h.len, by simp⟩⟩
end Go.Proofs.Ytagogbodkbbikaa
namespace Go.Proofs.Ytagogbodkbbikaa
open Go Go.RowKit
set_option maxRecDepth 20000

theorem andW15 (n : Int) : bits .and .i64 n 15 = n % 16 := by
  have h : (BitVec.ofInt 64 15).toNat = 2 ^ 4 - 1 := by decide
  have key : (BitVec.ofInt 64 n &&& BitVec.ofInt 64 15).toNat = (n % ((2 ^ 64 : Nat) : Int)).toNat % 2 ^ 4 := by
    rw [BitVec.toNat_and, BitVec.toNat_ofInt, h, Nat.and_two_pow_sub_one_eq_mod]
  show IntKind.i64.wrap ((BitVec.ofInt 64 n &&& BitVec.ofInt 64 15).toNat : Nat) = _
  rw [key, IntKind.wrap_i64]
  omega
theorem andW7 (n : Int) : bits .and .i64 n 7 = n % 8 := by
  have h : (BitVec.ofInt 64 7).toNat = 2 ^ 3 - 1 := by decide
  have key : (BitVec.ofInt 64 n &&& BitVec.ofInt 64 7).toNat = (n % ((2 ^ 64 : Nat) : Int)).toNat % 2 ^ 3 := by
    rw [BitVec.toNat_and, BitVec.toNat_ofInt, h, Nat.and_two_pow_sub_one_eq_mod]
  show IntKind.i64.wrap ((BitVec.ofInt 64 n &&& BitVec.ofInt 64 7).toNat : Nat) = _
  rw [key, IntKind.wrap_i64]
  omega
theorem andW1048575 (n : Int) : bits .and .i64 n 1048575 = n % 1048576 := by
  have h : (BitVec.ofInt 64 1048575).toNat = 2 ^ 20 - 1 := by decide
  have key : (BitVec.ofInt 64 n &&& BitVec.ofInt 64 1048575).toNat = (n % ((2 ^ 64 : Nat) : Int)).toNat % 2 ^ 20 := by
    rw [BitVec.toNat_and, BitVec.toNat_ofInt, h, Nat.and_two_pow_sub_one_eq_mod]
  show IntKind.i64.wrap ((BitVec.ofInt 64 n &&& BitVec.ofInt 64 1048575).toNat : Nat) = _
  rw [key, IntKind.wrap_i64]
  omega
set_option maxHeartbeats 16000000 in
theorem lawWEnds_any (w : World) (room0 tries0 time0 start0 : Int) : Calls Try.prog 5 #[.int .i64 room0, .int .i64 tries0, .int .i64 time0, .int .i64 start0] w fun e w' => e = .returned (.bool true) ∧ Below w.heap.size w w' := by
  have HW := awake19_any w
  obtain ⟨r, hr, r2⟩ : ∃ r : Nat, bits .and .i64 room0 15 = (r : Int) ∧ r ≤ 15 := ⟨(room0 % 16).toNat, by rw [andW15]; omega, by omega⟩
  obtain ⟨tr, htr, t2⟩ : ∃ r : Nat, bits .and .i64 tries0 7 = (r : Int) ∧ r ≤ 7 := ⟨(tries0 % 8).toNat, by rw [andW7]; omega, by omega⟩
  obtain ⟨t, ht, t3⟩ : ∃ r : Nat, bits .and .i64 time0 15 = (r : Int) ∧ r ≤ 15 := ⟨(time0 % 16).toNat, by rw [andW15]; omega, by omega⟩
  obtain ⟨start, hst, t4⟩ : ∃ r : Nat, bits .and .i64 start0 1048575 = (r : Int) ∧ r ≤ 1048575 := ⟨(start0 % 1048576).toNat, by rw [andW1048575]; omega, by omega⟩
  have HN : Hid (∀ W, Calls Try.prog 8 #[.int .i64 (1 + (r : Int)), .int .i64 (tr : Int), .int .i64 (1 + (t : Int))] W fun e w' => e = .returned (.tuple #[.pointer (some ⟨W.heap.size, 0, none⟩), .int .i64 0]) ∧ OwnS W w' W.heap.size ⟨1 + (r : Int), (tr : Int), 1 + (t : Int), [], 0⟩) := fun W => newS_any _ _ _ (by unfold OkNew; omega) W
  go_enter Try.func5, Try.ntmps5
  go_wp2_with (first
    | (go_at_call 7; refine HW.mono ?_; rintro e w1 ⟨rfl, hb1⟩)
    | (go_at_call 8; refine of_stopT ?_))
  unfold StopT
  have HNw := HN.out w1
  obtain ⟨R, hR⟩ : ∃ R : Nat, R = 1 + r := ⟨_, rfl⟩
  obtain ⟨T, hT⟩ : ∃ T : Nat, T = 1 + t := ⟨_, rfl⟩
  rw [show (1 + (r : Int)) = (R : Int) by omega, show (1 + (t : Int)) = (T : Int) by omega] at HNw ⊢
  obtain ⟨N, hN⟩ : ∃ N : Nat, N = (tr + 1) * T := ⟨_, rfl⟩
  have hNi : ((tr : Int) + 1) * (T : Int) = (N : Int) := by rw [hN]; simp
  have hN1 : N ≤ 128 := by
    rw [hN]
    exact Nat.le_trans (Nat.mul_le_mul (show tr + 1 ≤ 8 by omega) (show T ≤ 16 by omega)) (by decide)
  have hwm : IntKind.i64.wrap (((tr : Int) + 1) * (T : Int)) = (N : Int) := by rw [hNi, IntKind.wrap_i64]; omega
  have HBW : Hid (Below w.heap.size w w1) := hb1
  obtain ⟨g, hg⟩ : ∃ g, g = w1.heap.size := ⟨_, rfl⟩
  rw [← hg] at HNw
  have HT1 : Hid (1 ≤ T ∧ T ≤ 16 ∧ 1 ≤ R ∧ R ≤ 16 ∧ tr ≤ 7 ∧ start ≤ 1048575 ∧ N = (tr + 1) * T) := ⟨by omega, by omega, by omega, by omega, t2, t4, hN⟩
  have HA0 : Hid (AddS R tr T start ⟨(R : Int), (tr : Int), (T : Int), [], 0⟩ 0) := adds_new (by omega) (by omega) (by omega) (by omega) (by omega)
  have b1 : R ≤ 16 := by omega
  obtain ⟨P, hP⟩ : ∃ P : Nat, P = R * tr := ⟨_, rfl⟩
  have hP1 : P ≤ 112 := by rw [hP]; exact Nat.le_trans (Nat.mul_le_mul b1 t2) (by decide)
  have hwp : IntKind.i64.wrap ((R : Int) * (tr : Int)) = (P : Int) := by
    rw [show (R : Int) * (tr : Int) = (P : Int) by rw [hP]; simp, IntKind.wrap_i64]
    omega
  have HP : Hid (P = R * tr) := hP
  clear HN hb1 hR hT hN hNi hr htr ht hst hg HW r2 t3 hP
  refine HNw.mono ?_
  rintro e w2 ⟨rfl, hO⟩
  have HO2 : Hid (OwnS w1 w2 g ⟨(R : Int), (tr : Int), (T : Int), [], 0⟩) := hO
  clear HNw hO
  go_wp2_with fail
  go_loopw [11] (fun s11 wr => ∃ (i : Nat) (m : WaitM), i ≤ R ∧ s11 = .int .i64 (i : Int) ∧ Hid (AddS R tr T start m i) ∧ Hid (OwnS w1 wr g m)) (fun s11 _ => R - (intOf s11).toNat)
  case atStart => exact ⟨0, _, Nat.zero_le _, rfl, HA0, HO2⟩
  case round =>
    obtain ⟨i, m, hi, rfl, HA, HO⟩ := hrel
    by_cases hlt : i < R
    · have hlt' : (i : Int) < (R : Int) := by omega
      obtain ⟨e1, e2⟩ := adds_step HA.out HT1.out.2.2.2.2.2.1 hlt (i : Int) z13
      have CA := addS_any HO.out HA.out.inn (i : Int) z13 rfl (start : Int) (by rw [HA.out.last]; omega)
      rw [e1, hv_z13] at CA
      have E2 : Hid _ := e2
      clear e1 e2
      go_wp2_with (go_at_call 10; refine CA.mono ?_; rintro e w3 ⟨rfl, hO3⟩; have HO3 : Hid _ := hO3; clear hO3)
      go_roundw
      case rel => exact ⟨i + 1, _, by omega, by go_num, E2, HO3⟩
      case measure => simp [intOf]; omega
    · have hlt' : ¬ (i : Int) < (R : Int) := by omega
      obtain rfl : i = R := by omega
      have CA := addS_any HO.out HA.out.inn 0 z13 rfl (start : Int) (by rw [HA.out.last]; omega)
      rw [adds_full HA.out, hv_z13] at CA
      have HE0 : Hid (EndS i tr T start m 0 0) := adds_ends HA.out
      clear HA HO HA0 HO2
      go_wp2_with (go_at_call 10; refine CA.mono ?_; rintro e w3 ⟨rfl, hO3⟩; have HO3 : Hid _ := hO3; clear hO3)
      go_loopw [16, 17] (fun s16 s17 wr => ∃ (j asked : Nat) (m' : WaitM), j ≤ N + 1 ∧ s17 = .int .i64 ((start : Int) + (j : Int)) ∧ s16 = .int .i64 (asked : Int) ∧ asked ≤ 10000 + 100 * j ∧ Hid (EndS i tr T start m' j asked) ∧ Hid (OwnS w1 wr g m')) (fun _ s17 _ => N + 1 + start - (intOf s17).toNat)
      case atStart => exact ⟨0, 0, m, Nat.zero_le _, by simp, rfl, by omega, HE0, HO3⟩
      case round =>
        obtain ⟨j, asked, m', hj, rfl, rfl, hask, HE, HO⟩ := hrel
        by_cases hjn : j ≤ N
        · have hjn' : (start : Int) + (j : Int) ≤ (start : Int) + (N : Int) := by omega
          obtain ⟨s1, s2⟩ := ends_step HE.out HT1.out.1 HT1.out.2.2.2.2.2.1 (by rw [← HT1.out.2.2.2.2.2.2]; omega) (by rw [← HT1.out.2.2.2.2.2.2]; exact hjn)
          have CT := tickS_any HO.out HE.out.inn ((start : Int) + (j : Int))
          rw [show ((start + j : Nat) : Int) = (start : Int) + (j : Int) by omega] at s1 s2
          obtain ⟨la, hla⟩ : ∃ la, la = (againW m' ((start : Int) + (j : Int))).length := ⟨_, rfl⟩
          obtain ⟨lg, hlg⟩ : ∃ lg, lg = (goneW m' ((start : Int) + (j : Int))).length := ⟨_, rfl⟩
          have hla64 : la ≤ 64 := by
            have h1 := HE.out.inn.len
            rw [hla]
            unfold againW
            rw [List.length_map]
            exact Nat.le_trans (List.length_filter_le _ _) h1
          rw [← hla] at s1
          rw [← hlg, ← HT1.out.2.2.2.2.2.2] at s2
          have S1 : Hid _ := s1
          have CT2 : Calls Try.prog 14 #[.pointer (some ⟨g, 0, none⟩), .int .i64 ((start : Int) + (j : Int))] wr fun e w' => ∃ oa ca ob cb, e = .returned (.tuple #[.slice oa la ca, .slice ob lg cb]) ∧ OwnS w1 w' g (tickW m' ((start : Int) + (j : Int))) := by
            refine CT.mono ?_
            rintro e w' ⟨a, b, rfl, ha, hb, ho⟩
            obtain ⟨oa, ca, ea, _⟩ := ha.slice
            obtain ⟨ob, cb, eb, _⟩ := hb.slice
            rw [← hla] at ea
            rw [← hlg] at eb
            exact ⟨oa, ca, ob, cb, by rw [ea, eb], ho⟩
          clear s1 CT hla hlg HE HO
          rcases s2 with s2 | ⟨s2, s3⟩
          · subst s2
            go_wp2_with (go_at_call 14; refine CT2.mono ?_; rintro e w4 ⟨oa, ca, ob, cb, rfl, hO4⟩; have HO4 : Hid _ := hO4; clear hO4)
            go_roundw
            case rel => exact ⟨j + 1, asked + la, _, by omega, by go_num, by go_num, by omega, S1, HO4⟩
            case measure => simp [intOf]; omega
          · subst s2
            subst s3
            have hp1 : (lg : Int) > 0 := by have := HT1.out; omega
            go_wp2_with (go_at_call 14; refine CT2.mono ?_; rintro e w4 ⟨oa, ca, ob, cb, rfl, hO4⟩; have HO4 : Hid _ := hO4; clear hO4)
            go_roundw
            case rel => exact ⟨j + 1, asked + la, _, by omega, by go_num, by go_num, by omega, S1, HO4⟩
            case measure => simp [intOf]; omega
        · have hjn' : ¬ (start : Int) + (j : Int) ≤ (start : Int) + (N : Int) := by omega
          obtain ⟨q1, q2⟩ := ends_end HE.out (by rw [← HT1.out.2.2.2.2.2.2]; exact hjn)
          rw [← HP.out] at q2
          subst q2
          have CL := listS_any HO.out HE.out.inn
          rw [q1] at CL
          have CL2 : Calls Try.prog 19 #[.pointer (some ⟨g, 0, none⟩)] wr fun e w' => ∃ o c, e = .returned (.slice o 0 c) ∧ Below w1.heap.size w1 w' := by
            refine CL.mono ?_
            rintro e w' ⟨u, rfl, hu, ho⟩
            obtain ⟨o, c, eu, _⟩ := hu.slice
            exact ⟨o, c, by rw [eu]; rfl, ho.below⟩
          clear CL HE HO q1
          go_wp2_with (go_at_call 19; refine CL2.mono ?_; rintro e w4 ⟨o4, c4, rfl, hb4⟩; have HB4 : Hid (Below w.heap.size w w4) := HBW.out.trans (hb4.mono HBW.out.size); clear hb4)
          go_ret
          exact ⟨rfl, HB4.out⟩
end Go.Proofs.Ytagogbodkbbikaa
