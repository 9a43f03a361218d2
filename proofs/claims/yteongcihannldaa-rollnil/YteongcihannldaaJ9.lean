import Derived.Test.YteongcihannldaaJ4
import Derived.Test.YteongcihannldaaJ5
import Derived.Test.YteongcihannldaaJ8
import Derived.Deep.CutRange
import Derived.Deep.CutBlock
namespace Go.Proofs.Yteongcihannldaa
open Go Go.RowKit
set_option maxRecDepth 20000

theorem wl_ga21 {P : Program} {ops : Array Oper} {Q : Exit → Act → World → Prop} {o : Oper} {rest : List Oper} {a : Act} {w : World} (_ : o.op = .alloc 34) (h : wpList P ops Q (o :: rest) a w) : wpList P ops Q (o :: rest) a w := h
theorem wl_gl21 {P : Program} {ops : Array Oper} {Q : Exit → Act → World → Prop} {o : Oper} {rest : List Oper} {a : Act} {w : World} (x : Operand) (_ : o.op = .load 34 x) (h : wpList P ops Q (o :: rest) a w) : wpList P ops Q (o :: rest) a w := h
theorem wl_gs21 {P : Program} {ops : Array Oper} {Q : Exit → Act → World → Prop} {o : Oper} {rest : List Oper} {a : Act} {w : World} (x y : Operand) (_ : o.op = .store 34 x y) (h : wpList P ops Q (o :: rest) a w) : wpList P ops Q (o :: rest) a w := h
set_option maxHeartbeats 64000000 in
theorem lawRLives_any (w : World) (sw s : Int) (va : Value) (l : List ActR) (hl : GSl Act21E actV21 w va l) (ho : ∀ x ∈ l, OkActR x) : Calls Try.prog 5 #[.int .i64 sw, va, .int .i64 s] w fun e w' => e = .returned (.bool true) ∧ Below w.heap.size w w' := by
  have HW : Hid (∀ W, Calls Try.prog 7 #[] W fun e w' => e = .returned (.bool true) ∧ Below W.heap.size W w') := fun W => awake21_any W
  obtain ⟨oA, cA, hva, hcA, hcA2⟩ := hl.slice
  obtain ⟨q, hq⟩ : ∃ q, q = l.length := ⟨_, rfl⟩
  rw [← hq] at hva hcA
  have HL : Hid (∀ W, Below w.heap.size w W → GSl Act21E actV21 W va l) := fun W hb => hl.below hb
  have HOK : Hid (∀ x ∈ l, OkActR x) := ho
  unfold maxLen at hcA2
  clear hl ho hq
  subst hva
  by_cases hnew : 1 ≤ sw ∧ sw ≤ 6
  case neg =>
    have HN : Hid (∀ W, Calls Try.prog 8 #[.int .i64 sw] W fun e w' => e = .returned (.tuple #[.pointer none, .int .i64 1]) ∧ w' = W) := fun W => newRl_no sw hnew W
    have HW0 := HW.out w
    go_enter Try.func5, Try.ntmps5
    go_wp2_with (first
      | (go_at_call 7; refine HW0.mono ?_; rintro e w1 ⟨rfl, hb1⟩)
      | (go_at_call 8; refine (HN.out _).mono ?_; rintro e w2 ⟨rfl, h2⟩; have h2 := h2.symm; subst h2))
    go_ret
    exact ⟨rfl, hb1⟩
  have HN : Hid (∀ W, Calls Try.prog 8 #[.int .i64 sw] W fun e w' => e = .returned (.tuple #[.pointer (some ⟨W.heap.size, 0, none⟩), .int .i64 0]) ∧ OwnR W w' W.heap.size ⟨sw, fun _ => sw0⟩ 0) := fun W => newO_yes sw hnew W
  have HW0 := HW.out w
  clear hnew HW
  go_enter Try.func5, Try.ntmps5
  go_wp2_with (first
    | (go_at_call 7; refine HW0.mono ?_; rintro e w1 ⟨rfl, hb1⟩)
    | (go_at_call 8; refine of_stopT ?_))
  unfold StopT
  have HBW : Hid (Below w.heap.size w w1) := hb1
  refine (HN.out w1).mono ?_
  rintro e w2 ⟨rfl, hV2⟩
  obtain ⟨g, hg⟩ : ∃ g, g = w1.heap.size := ⟨_, rfl⟩
  have H0 : Hid (OwnX w1 w2 g ⟨sw, fun _ => sw0⟩ 0 (fun _ => False)) := by rw [hg]; exact OwnX.of hV2
  clear HN hb1 HW0 hV2
  rw [← hg]
  clear hg
  go_wp2_with fail
  go_loopw [9] (fun s9 wr => ∃ (i : Nat) (R : RollM), i ≤ q ∧ i ≤ 80 ∧ s9 = .int .i64 (i : Int) ∧ Hid (OwnX w1 wr g R i (fun _ => False))) (fun s9 _ => q - (intOf s9).toNat)
  case atStart => exact ⟨0, _, Nat.zero_le _, by omega, rfl, H0⟩
  case round =>
    obtain ⟨i, R, hi, hi80, rfl, HO⟩ := hrel
    have HBr : Hid (Below w.heap.size w wr) := HBW.out.trans ((OwnX.bel HO.out).mono HBW.out.size)
    by_cases hlt : i < q
    case neg =>
      have hlt' : ¬ (i : Int) < (q : Int) := by omega
      go_wp2_with fail
      go_ret
      exact ⟨rfl, HBr.out⟩
    have hlt' : (i : Int) < (q : Int) := by omega
    by_cases hlt2 : i < 80
    case neg =>
      have hlt2' : ¬ (i : Int) < 80 := by omega
      go_wp2_with fail
      go_ret
      exact ⟨rfl, HBr.out⟩
    have hlt2' : (i : Int) < 80 := by omega
    obtain ⟨ga, offa, cura, tya, fra, x, rfl, hga, hcca, hxa⟩ := (HL.out wr HBr.out).at i hlt
    have HX : Hid (OkActR x) := HOK.out x (List.mem_of_getElem? hxa)
    obtain ⟨wx, hwx⟩ : ∃ wx, wx = wr.alloc (.cells (actV21 x) 34) := ⟨_, rfl⟩
    obtain ⟨px, hpx⟩ : ∃ px, px = wr.heap.size := ⟨_, rfl⟩
    have HOx : Hid (OwnX w1 wx g R i (fun k =>  k = px)) := by
      rw [hwx, hpx]
      exact OwnX.less (OwnX.block HO.out _) fun k e => .inr e
    have Ax : Hid (wx.heap[px]? = some (.cells (actV21 x) 34 (0, 0))) := by show _ = _; rw [hwx, hpx]; exact heap_new _ _ _ rfl
    have SRx : (wr.alloc (.cells (actV21 zeroAct21) 34)).setRow wr.heap.size (actV21 x) = wx := by rw [hwx]; exact setRow_new _ _ _ _ _ rfl
    have HFA : Hid (∀ W : World, W.heap[px]? = some (.cells (actV21 x) 34 (0, 0)) → W.cell? ⟨px, 0, none⟩ = some (.int .i64 x.kind) ∧ W.cell? ⟨px, 1, none⟩ = some (.int .i64 x.s) ∧ W.cell? ⟨px, 2, none⟩ = some (.int .i64 x.inc) ∧ W.cell? ⟨px, 3, none⟩ = some (.int .i64 x.ep) ∧ W.cell? ⟨px, 4, none⟩ = some (.int .i64 x.n) ∧ W.cell? ⟨px, 5, none⟩ = some (.int .i64 x.now)) := fun W hW =>
      ⟨by rw [cell_of_row _ _ _ _ _ _ hW]; rfl, by rw [cell_of_row _ _ _ _ _ _ hW]; rfl, by rw [cell_of_row _ _ _ _ _ _ hW]; rfl, by rw [cell_of_row _ _ _ _ _ _ hW]; rfl, by rw [cell_of_row _ _ _ _ _ _ hW]; rfl, by rw [cell_of_row _ _ _ _ _ _ hW]; rfl⟩
    obtain ⟨kd, hkd⟩ : ∃ kd, kd = x.kind := ⟨_, rfl⟩
    obtain ⟨xs, hxs⟩ : ∃ xi, xi = x.s := ⟨_, rfl⟩
    obtain ⟨xc, hxc⟩ : ∃ xi, xi = x.inc := ⟨_, rfl⟩
    obtain ⟨xe, hxe⟩ : ∃ xi, xi = x.ep := ⟨_, rfl⟩
    obtain ⟨xn, hxn⟩ : ∃ xi, xi = x.n := ⟨_, rfl⟩
    obtain ⟨xt, hxt⟩ : ∃ xi, xi = x.now := ⟨_, rfl⟩
    have HV : Hid (kd = x.kind ∧ xs = x.s ∧ xc = x.inc ∧ xe = x.ep ∧ xn = x.n ∧ xt = x.now) := ⟨hkd, hxs, hxc, hxe, hxn, hxt⟩
    rw [← hkd, ← hxs, ← hxc, ← hxe, ← hxn, ← hxt] at HFA
    have KGa : Hid (wr.heap[ga]? = some (.cells cura tya fra)) := hga
    have KCa : Hid (∀ j, j < 6 → cura[offa + i * 6 + j]? = (actV21 x)[j]?) := hcca
    have HPX : Hid (px = wr.heap.size) := hpx
    obtain ⟨k0, k1, k2, k3, k4, k5⟩ := HFA.out wx Ax.out
    clear hxa hwx hga hcca HO hkd hxs hxc hxe hxn hxt
    go_wp2_with (first
      | ((with_reducible refine wl_ga21 rfl ?_); refine wl_allocE21 (E := Act21E) Act21Ok rfl rfl ?_)
      | ((with_reducible refine wl_gl21 _ rfl ?_); refine wl_loadE (E := Act21E) Act21Ok rfl _ rfl ga (offa + i * 6) rfl cura tya fra (actV21 x) rfl KGa.out KCa.out ?_)
      | ((with_reducible refine wl_gs21 _ _ rfl ?_); refine wl_storeE (E := Act21E) Act21Ok rfl _ _ rfl wr.heap.size (actV21 x) (act21_fits x) rfl rfl _ (heap_new _ _ _ rfl) rfl _ SRx ?_; refine of_stopT ?_))
    unfold StopT
    rw [← hpx]
    clear SRx KGa KCa hpx
    have A1 := incX HOx.out s
    have A2 := useX HOx.out s
    have A3 := haveX HOx.out s xe (by rw [HV.out.2.2.2.1]; exact HX.out.ep)
    have A5 := doesX HOx.out (by omega) x HX.out
    obtain ⟨L, hL⟩ : ∃ L, L = incR R s := ⟨_, rfl⟩
    obtain ⟨U, hU⟩ : ∃ U, U = useR R s := ⟨_, rfl⟩
    obtain ⟨HH, hH⟩ : ∃ H, H = haveR R s xe := ⟨_, rfl⟩
    rw [← hL] at A1
    rw [← hU] at A2
    rw [← hH] at A3
    obtain ⟨R2, hR2⟩ : ∃ R2, R2 = (actR R x).1 := ⟨_, rfl⟩
    obtain ⟨d, hd⟩ : ∃ d, d = (actR R x).2 := ⟨_, rfl⟩
    have hlife : ¬ incR R2 s < L := by rw [hR2, hL]; exact act_life R x s
    have HNOT : Hid (kd = 2 ∨ kd = 3 → xs = s → xc ≠ L → d = false ∧ useR R2 s = U ∧ haveR R2 s xe = HH) := fun h1 h2 h3 => by
      have := act_not R x s (by rw [← HV.out.1]; exact h1) (by rw [← HV.out.2.1]; exact h2) (by rw [← HV.out.2.2.1, ← hL]; exact h3)
      rw [hd, hR2, this]
      exact ⟨rfl, hU.symm, hH.symm⟩
    have HOTH : Hid (xs ≠ s → kd ≠ 5 → incR R2 s = L ∧ useR R2 s = U ∧ haveR R2 s xe = HH) := fun h1 h2 => by
      have := act_other3 R x s xe (by rw [← HV.out.2.1]; exact h1) (by rw [← HV.out.1]; exact h2)
      rw [hR2, hL, hU, hH]
      exact this
    rw [← hR2, ← hd] at A5
    clear HOx hL hU hH hR2 hd
    go_wp2_with (first
      | (go_at_call 16; refine A1.mono ?_; rintro e y1 ⟨rfl, z⟩; have z := z.symm; subst z)
      | (go_at_call 22; refine A2.mono ?_; rintro e y1 ⟨rfl, z⟩; have z := z.symm; subst z)
      | (go_at_call 20; refine A3.mono ?_; rintro e y1 ⟨rfl, z⟩; have z := z.symm; subst z)
      | ((with_reducible refine wl_gl21 _ rfl ?_); refine wl_loadE (E := Act21E) Act21Ok rfl _ rfl px 0 rfl (actV21 x) _ (0, 0) (actV21 x) rfl Ax.out (fun j _ => by rw [Nat.zero_add]) ?_)
      | (go_at_call 15; refine A5.mono ?_; rintro e w5 ⟨rfl, h5, kp5⟩; refine of_stopT ?_))
    unfold StopT
    have HO2 : Hid (OwnX w1 w5 g R2 (i + 1) (fun k => k = px)) := h5
    have Ax5 : w5.heap[px]? = some (.cells (actV21 x) 34 (0, 0)) := (kp5 px rfl).trans Ax.out
    clear k0 k1 k2 k3 k4 k5 A1 A2 A3 A5
    obtain ⟨k0, k1, k2, k3, k4, k5⟩ := HFA.out w5 Ax5
    have T1 := incX HO2.out s
    have T2 := useX HO2.out s
    have T3 := haveX HO2.out s xe (by rw [HV.out.2.2.2.1]; exact HX.out.ep)
    clear h5 kp5 Ax5 HFA Ax
    generalize incR R2 s = L2 at T1 hlife HOTH
    generalize useR R2 s = U2 at T2 HNOT HOTH
    generalize haveR R2 s xe = H2 at T3 HNOT HOTH
    have zL : (L != L) = false := by simp
    have zU : (U != U) = false := by simp
    have zH : (HH != HH) = false := by simp
    by_cases c2 : kd = 2 ∨ kd = 3
    · by_cases cs : xs = s
      · have b1 : (xs == s) = true := by simp [cs]
        have b1' : (xs != s) = false := by simp [cs]
        by_cases ci : xc = L
        · have b2 : (xc != L) = false := by simp [ci]
          rcases c2 with c2 | c2
          · have b3 : (kd == 2) = true := by simp [c2]
            clear HNOT HOTH c2 cs ci
            go_wp2_with (first
              | (go_at_call 16; refine T1.mono ?_; rintro e y1 ⟨rfl, z⟩; have z := z.symm; subst z)
              | (go_at_call 22; refine T2.mono ?_; rintro e y1 ⟨rfl, z⟩; have z := z.symm; subst z)
              | (go_at_call 20; refine T3.mono ?_; rintro e y1 ⟨rfl, z⟩; have z := z.symm; subst z))
            go_roundw
            case rel => exact ⟨i + 1, R2, by omega, by omega, by go_num, OwnX.less HO2.out fun _ e => e.elim⟩
            case measure => simp [intOf]; omega
          · have b3 : (kd == 2) = false := by simp [c2]
            have b4 : (kd == 3) = true := by simp [c2]
            clear HNOT HOTH c2 cs ci
            go_wp2_with (first
              | (go_at_call 16; refine T1.mono ?_; rintro e y1 ⟨rfl, z⟩; have z := z.symm; subst z)
              | (go_at_call 22; refine T2.mono ?_; rintro e y1 ⟨rfl, z⟩; have z := z.symm; subst z)
              | (go_at_call 20; refine T3.mono ?_; rintro e y1 ⟨rfl, z⟩; have z := z.symm; subst z))
            go_roundw
            case rel => exact ⟨i + 1, R2, by omega, by omega, by go_num, OwnX.less HO2.out fun _ e => e.elim⟩
            case measure => simp [intOf]; omega
        · have b2 : (xc != L) = true := by simp [ci]
          obtain ⟨rfl, rfl, rfl⟩ := HNOT.out c2 cs ci
          rcases c2 with c2 | c2
          · have b3 : (kd == 2) = true := by simp [c2]
            clear HNOT HOTH c2 cs ci
            go_wp2_with (first
              | (go_at_call 16; refine T1.mono ?_; rintro e y1 ⟨rfl, z⟩; have z := z.symm; subst z)
              | (go_at_call 22; refine T2.mono ?_; rintro e y1 ⟨rfl, z⟩; have z := z.symm; subst z)
              | (go_at_call 20; refine T3.mono ?_; rintro e y1 ⟨rfl, z⟩; have z := z.symm; subst z))
            go_roundw
            case rel => exact ⟨i + 1, R2, by omega, by omega, by go_num, OwnX.less HO2.out fun _ e => e.elim⟩
            case measure => simp [intOf]; omega
          · have b3 : (kd == 2) = false := by simp [c2]
            have b4 : (kd == 3) = true := by simp [c2]
            clear HNOT HOTH c2 cs ci
            go_wp2_with (first
              | (go_at_call 16; refine T1.mono ?_; rintro e y1 ⟨rfl, z⟩; have z := z.symm; subst z)
              | (go_at_call 22; refine T2.mono ?_; rintro e y1 ⟨rfl, z⟩; have z := z.symm; subst z)
              | (go_at_call 20; refine T3.mono ?_; rintro e y1 ⟨rfl, z⟩; have z := z.symm; subst z))
            go_roundw
            case rel => exact ⟨i + 1, R2, by omega, by omega, by go_num, OwnX.less HO2.out fun _ e => e.elim⟩
            case measure => simp [intOf]; omega
      · have b1 : (xs == s) = false := by simp [cs]
        have b1' : (xs != s) = true := by simp [cs]
        obtain ⟨rfl, rfl, rfl⟩ := HOTH.out cs (by omega)
        rcases c2 with c2 | c2
        · have b3 : (kd == 2) = true := by simp [c2]
          have b5 : (kd != 5) = true := by simp [c2]
          clear HNOT HOTH c2 cs
          go_wp2_with (first
            | (go_at_call 16; refine T1.mono ?_; rintro e y1 ⟨rfl, z⟩; have z := z.symm; subst z)
            | (go_at_call 22; refine T2.mono ?_; rintro e y1 ⟨rfl, z⟩; have z := z.symm; subst z)
            | (go_at_call 20; refine T3.mono ?_; rintro e y1 ⟨rfl, z⟩; have z := z.symm; subst z))
          go_roundw
          case rel => exact ⟨i + 1, R2, by omega, by omega, by go_num, OwnX.less HO2.out fun _ e => e.elim⟩
          case measure => simp [intOf]; omega
        · have b3 : (kd == 2) = false := by simp [c2]
          have b4 : (kd == 3) = true := by simp [c2]
          have b5 : (kd != 5) = true := by simp [c2]
          clear HNOT HOTH c2 cs
          go_wp2_with (first
            | (go_at_call 16; refine T1.mono ?_; rintro e y1 ⟨rfl, z⟩; have z := z.symm; subst z)
            | (go_at_call 22; refine T2.mono ?_; rintro e y1 ⟨rfl, z⟩; have z := z.symm; subst z)
            | (go_at_call 20; refine T3.mono ?_; rintro e y1 ⟨rfl, z⟩; have z := z.symm; subst z))
          go_roundw
          case rel => exact ⟨i + 1, R2, by omega, by omega, by go_num, OwnX.less HO2.out fun _ e => e.elim⟩
          case measure => simp [intOf]; omega
    · have b3 : (kd == 2) = false := by simp; omega
      have b4 : (kd == 3) = false := by simp; omega
      by_cases cs : xs = s
      · have b1 : (xs == s) = true := by simp [cs]
        have b1' : (xs != s) = false := by simp [cs]
        clear HNOT HOTH c2 cs
        go_wp2_with (first
          | (go_at_call 16; refine T1.mono ?_; rintro e y1 ⟨rfl, z⟩; have z := z.symm; subst z)
          | (go_at_call 22; refine T2.mono ?_; rintro e y1 ⟨rfl, z⟩; have z := z.symm; subst z)
          | (go_at_call 20; refine T3.mono ?_; rintro e y1 ⟨rfl, z⟩; have z := z.symm; subst z))
        go_roundw
        case rel => exact ⟨i + 1, R2, by omega, by omega, by go_num, OwnX.less HO2.out fun _ e => e.elim⟩
        case measure => simp [intOf]; omega
      · have b1 : (xs == s) = false := by simp [cs]
        have b1' : (xs != s) = true := by simp [cs]
        by_cases c5 : kd = 5
        · have b5 : (kd != 5) = false := by simp [c5]
          clear HNOT HOTH c2 cs c5
          go_wp2_with (first
            | (go_at_call 16; refine T1.mono ?_; rintro e y1 ⟨rfl, z⟩; have z := z.symm; subst z)
            | (go_at_call 22; refine T2.mono ?_; rintro e y1 ⟨rfl, z⟩; have z := z.symm; subst z)
            | (go_at_call 20; refine T3.mono ?_; rintro e y1 ⟨rfl, z⟩; have z := z.symm; subst z))
          go_roundw
          case rel => exact ⟨i + 1, R2, by omega, by omega, by go_num, OwnX.less HO2.out fun _ e => e.elim⟩
          case measure => simp [intOf]; omega
        · have b5 : (kd != 5) = true := by simp [c5]
          obtain ⟨rfl, rfl, rfl⟩ := HOTH.out cs c5
          clear HNOT HOTH c2 cs c5
          go_wp2_with (first
            | (go_at_call 16; refine T1.mono ?_; rintro e y1 ⟨rfl, z⟩; have z := z.symm; subst z)
            | (go_at_call 22; refine T2.mono ?_; rintro e y1 ⟨rfl, z⟩; have z := z.symm; subst z)
            | (go_at_call 20; refine T3.mono ?_; rintro e y1 ⟨rfl, z⟩; have z := z.symm; subst z))
          go_roundw
          case rel => exact ⟨i + 1, R2, by omega, by omega, by go_num, OwnX.less HO2.out fun _ e => e.elim⟩
          case measure => simp [intOf]; omega
end Go.Proofs.Yteongcihannldaa
namespace Go.Proofs.Yteongcihannldaa
open Go Go.RowKit
set_option maxRecDepth 20000

theorem bool_of (P : Prop) : ∃ b : Bool, b = true ↔ P := by
  by_cases h : P
  · exact ⟨true, fun _ => h, fun _ => rfl⟩
  · exact ⟨false, fun q => (by cases q), fun q => absurd q h⟩
set_option maxHeartbeats 64000000 in
theorem lawRPlays_any (w : World) (sw : Int) (va : Value) (l : List ActR) (hl : GSl Act21E actV21 w va l) (ho : ∀ x ∈ l, OkActR x) (q0 : AskR) : Calls Try.prog 3 #[.int .i64 sw, va, .agg (askV21 q0)] w fun e w' => e = .returned (.bool true) ∧ Below w.heap.size w w' := by
  have HW : Hid (∀ W, Calls Try.prog 7 #[] W fun e w' => e = .returned (.bool true) ∧ Below W.heap.size W w') := fun W => awake21_any W
  obtain ⟨oA, cA, hva, hcA, hcA2⟩ := hl.slice
  obtain ⟨q, hq⟩ : ∃ q, q = l.length := ⟨_, rfl⟩
  rw [← hq] at hva hcA
  have HL : Hid (∀ W, Below w.heap.size w W → GSl Act21E actV21 W va l) := fun W hb => hl.below hb
  have HOK : Hid (∀ x ∈ l, OkActR x) := ho
  unfold maxLen at hcA2
  clear hl ho hq
  subst hva
  obtain ⟨qe, qn, ql, qs⟩ := q0
  obtain ⟨wq, hwq⟩ : ∃ wq, wq = w.alloc (.cells (askV21 ⟨qe, qn, ql, qs⟩) 24) := ⟨_, rfl⟩
  obtain ⟨pq, hpq⟩ : ∃ pq, pq = w.heap.size := ⟨_, rfl⟩
  have HBQ : Hid (Below w.heap.size w wq) := by show Below _ _ _; rw [hwq]; exact (Below.refl _ _).alloc (Nat.le_refl _) _
  have HFQ : Hid (∀ W, Below wq.heap.size wq W → W.cell? ⟨pq, 0, none⟩ = some (.int .i64 qe) ∧ W.cell? ⟨pq, 1, none⟩ = some (.int .i64 qn) ∧ W.cell? ⟨pq, 2, none⟩ = some (.int .i64 ql) ∧ W.cell? ⟨pq, 3, none⟩ = some (.int .i64 qs)) := fun W hW => by
    have a2 : wq.heap[pq]? = some (.cells (askV21 ⟨qe, qn, ql, qs⟩) 24 (0, 0)) := by rw [hwq, hpq]; exact heap_new _ _ _ rfl
    have a3 := (hW.block _ (Array.getElem?_eq_some_iff.1 a2).1).trans a2
    exact ⟨by rw [cell_of_row _ _ _ _ _ _ a3]; rfl, by rw [cell_of_row _ _ _ _ _ _ a3]; rfl, by rw [cell_of_row _ _ _ _ _ _ a3]; rfl, by rw [cell_of_row _ _ _ _ _ _ a3]; rfl⟩
  have HWA : Hid (w.alloc (.cells (askV21 ⟨qe, qn, ql, qs⟩) 24) = wq) := hwq.symm
  have HP : Hid (w.heap.size = pq) := hpq.symm
  have HW0 := HW.out wq
  rw [hwq] at HW0
  clear hpq hwq HW
  by_cases hnew : 1 ≤ sw ∧ sw ≤ 6
  case neg =>
    have HN : Hid (∀ W, Calls Try.prog 8 #[.int .i64 sw] W fun e w' => e = .returned (.tuple #[.pointer none, .int .i64 1]) ∧ w' = W) := fun W => newRl_no sw hnew W
    have HR : Hid (∀ W, Calls Try.prog 9 #[.int .i64 sw] W fun e w' => e = .returned (.tuple #[.pointer none, .int .i64 1]) ∧ w' = W) := fun W => rNew21_no sw hnew W
    go_enter Try.func3, Try.ntmps3
    go_wp2_with (go_at_call 7; refine HW0.mono ?_; rintro e w1 ⟨rfl, hb1⟩; refine of_stopT ?_)
    unfold StopT
    rw [HWA.out] at hb1
    rw [HP.out]
    have HBq1 : Hid (Below wq.heap.size wq w1) := hb1
    have HBW : Hid (Below w.heap.size w w1) := below_step HBQ.out HBQ.out.size hb1
    clear HW0 HWA HP hb1
    have HN1 := HN.out w1
    have HR1 := HR.out w1
    go_wp2_with (first
      | (go_at_call 8; refine HN1.mono ?_; rintro e w2 ⟨rfl, h2⟩; have h2 := h2.symm; subst h2)
      | (go_at_call 9; refine HR1.mono ?_; rintro e w2 ⟨rfl, h2⟩; have h2 := h2.symm; subst h2))
    go_ret
    exact ⟨rfl, HBW.out⟩
  have HNW : Hid (1 ≤ sw ∧ sw ≤ 6) := hnew
  have HN : Hid (∀ W, Calls Try.prog 8 #[.int .i64 sw] W fun e w' => e = .returned (.tuple #[.pointer (some ⟨W.heap.size, 0, none⟩), .int .i64 0]) ∧ OwnR W w' W.heap.size ⟨sw, fun _ => sw0⟩ 0) := fun W => newO_yes sw hnew W
  have HR : Hid (∀ W, Calls Try.prog 9 #[.int .i64 sw] W fun e w' => ∃ r vl, e = .returned (.tuple #[.pointer (some ⟨r, 0, none⟩), .int .i64 0]) ∧ RfV W.heap.size w' r ⟨sw, List.replicate 7 0, []⟩ vl (.slice none 0 0) ∧ Below W.heap.size W w') := fun W => rNew21_yes sw hnew W
  clear hnew
  go_enter Try.func3, Try.ntmps3
  go_wp2_with (go_at_call 7; refine HW0.mono ?_; rintro e w1 ⟨rfl, hb1⟩; refine of_stopT ?_)
  unfold StopT
  rw [HWA.out] at hb1
  rw [HP.out]
  have HBq1 : Hid (Below wq.heap.size wq w1) := hb1
  have HBW : Hid (Below w.heap.size w w1) := below_step HBQ.out HBQ.out.size hb1
  clear HW0 HWA HP hb1
  have HN1 := HN.out w1
  go_wp2_with (go_at_call 8; refine HN1.mono ?_; rintro e w2 ⟨rfl, hV2⟩; refine of_stopT ?_)
  unfold StopT
  have HR1 := HR.out w2
  have HV2 : Hid _ := hV2
  clear HN HN1 HR hV2
  go_wp2_with (go_at_call 9; refine HR1.mono ?_; rintro e w3 ⟨r, vl, rfl, hr3, hb3⟩; refine of_stopT ?_)
  unfold StopT
  obtain ⟨g, hg⟩ : ∃ g, g = w1.heap.size := ⟨_, rfl⟩
  have H0 : Hid (TwU w1 w3 g r ⟨sw, fun _ => sw0⟩ ⟨sw, List.replicate 7 0, []⟩ 0 (fun _ => False)) := by rw [hg]; exact newU HNW.out HV2.out hr3 hb3
  have HL0 : Hid (LinkR ⟨sw, List.replicate 7 0, []⟩ ⟨sw, fun _ => sw0⟩) := link_new HNW.out
  clear HR1 hr3 hb3 HV2 HNW
  rw [← hg]
  clear hg
  go_wp2_with fail
  go_loopw [11] (fun s11 wr => ∃ (i : Nat) (R : RollM) (d : RfM), i ≤ q ∧ i ≤ 80 ∧ s11 = .int .i64 (i : Int) ∧ Hid (TwU w1 wr g r R d (2 * i) (fun _ => False)) ∧ Hid (LinkR d R)) (fun s11 _ => q - (intOf s11).toNat)
  case atStart => exact ⟨0, _, _, Nat.zero_le _, by omega, rfl, H0, HL0⟩
  case round =>
    obtain ⟨i, R, d, hi, hi80, rfl, HO, HLK⟩ := hrel
    have HBr : Hid (Below w.heap.size w wr) := HBW.out.trans ((TwU.bel HO.out).mono HBW.out.size)
    by_cases hlt : i < q
    case neg =>
      have hlt' : ¬ (i : Int) < (q : Int) := by omega
      go_wp2_with fail
      go_ret
      exact ⟨rfl, HBr.out⟩
    have hlt' : (i : Int) < (q : Int) := by omega
    by_cases hlt2 : i < 80
    case neg =>
      have hlt2' : ¬ (i : Int) < 80 := by omega
      go_wp2_with fail
      go_ret
      exact ⟨rfl, HBr.out⟩
    have hlt2' : (i : Int) < 80 := by omega
    obtain ⟨ga, offa, cura, tya, fra, x, rfl, hga, hcca, hxa⟩ := (HL.out wr HBr.out).at i hlt
    have HX : Hid (OkActR x) := HOK.out x (List.mem_of_getElem? hxa)
    obtain ⟨wx, hwx⟩ : ∃ wx, wx = wr.alloc (.cells (actV21 x) 34) := ⟨_, rfl⟩
    obtain ⟨px, hpx⟩ : ∃ px, px = wr.heap.size := ⟨_, rfl⟩
    have HOx : Hid (TwU w1 wx g r R d (2 * i) (fun k => k = px)) := by
      rw [hwx, hpx]
      exact TwU.less (TwU.block HO.out _) fun k e => .inr e
    have Ax : Hid (wx.heap[px]? = some (.cells (actV21 x) 34 (0, 0))) := by show _ = _; rw [hwx, hpx]; exact heap_new _ _ _ rfl
    have SRx : (wr.alloc (.cells (actV21 zeroAct21) 34)).setRow wr.heap.size (actV21 x) = wx := by rw [hwx]; exact setRow_new _ _ _ _ _ rfl
    have HFA : Hid (∀ W : World, W.heap[px]? = some (.cells (actV21 x) 34 (0, 0)) → W.cell? ⟨px, 0, none⟩ = some (.int .i64 x.kind) ∧ W.cell? ⟨px, 1, none⟩ = some (.int .i64 x.s) ∧ W.cell? ⟨px, 2, none⟩ = some (.int .i64 x.inc) ∧ W.cell? ⟨px, 3, none⟩ = some (.int .i64 x.ep) ∧ W.cell? ⟨px, 4, none⟩ = some (.int .i64 x.n) ∧ W.cell? ⟨px, 5, none⟩ = some (.int .i64 x.now)) := fun W hW =>
      ⟨by rw [cell_of_row _ _ _ _ _ _ hW]; rfl, by rw [cell_of_row _ _ _ _ _ _ hW]; rfl, by rw [cell_of_row _ _ _ _ _ _ hW]; rfl, by rw [cell_of_row _ _ _ _ _ _ hW]; rfl, by rw [cell_of_row _ _ _ _ _ _ hW]; rfl, by rw [cell_of_row _ _ _ _ _ _ hW]; rfl⟩
    obtain ⟨kd, hkd⟩ : ∃ kd, kd = x.kind := ⟨_, rfl⟩
    obtain ⟨xs, hxs⟩ : ∃ xi, xi = x.s := ⟨_, rfl⟩
    obtain ⟨xc, hxc⟩ : ∃ xi, xi = x.inc := ⟨_, rfl⟩
    obtain ⟨xe, hxe⟩ : ∃ xi, xi = x.ep := ⟨_, rfl⟩
    obtain ⟨xn, hxn⟩ : ∃ xi, xi = x.n := ⟨_, rfl⟩
    obtain ⟨xt, hxt⟩ : ∃ xi, xi = x.now := ⟨_, rfl⟩
    have HV : Hid (kd = x.kind ∧ xs = x.s ∧ xc = x.inc ∧ xe = x.ep ∧ xn = x.n ∧ xt = x.now) := ⟨hkd, hxs, hxc, hxe, hxn, hxt⟩
    rw [← hkd, ← hxs, ← hxc, ← hxe, ← hxn, ← hxt] at HFA
    have KGa : Hid (wr.heap[ga]? = some (.cells cura tya fra)) := hga
    have KCa : Hid (∀ j, j < 6 → cura[offa + i * 6 + j]? = (actV21 x)[j]?) := hcca
    have HPX : Hid (px = wr.heap.size) := hpx
    obtain ⟨k0, k1, k2, k3, k4, k5⟩ := HFA.out wx Ax.out
    clear hxa hwx hga hcca HO hkd hxs hxc hxe hxn hxt
    go_wp2_with (first
      | ((with_reducible refine wl_ga21 rfl ?_); refine wl_allocE21 (E := Act21E) Act21Ok rfl rfl ?_)
      | ((with_reducible refine wl_gl21 _ rfl ?_); refine wl_loadE (E := Act21E) Act21Ok rfl _ rfl ga (offa + i * 6) rfl cura tya fra (actV21 x) rfl KGa.out KCa.out ?_)
      | ((with_reducible refine wl_gs21 _ _ rfl ?_); refine wl_storeE (E := Act21E) Act21Ok rfl _ _ rfl wr.heap.size (actV21 x) (act21_fits x) rfl rfl _ (heap_new _ _ _ rfl) rfl _ SRx ?_; refine of_stopT ?_))
    unfold StopT
    rw [← hpx]
    clear SRx KGa KCa hpx
    obtain ⟨R2, hR2⟩ : ∃ R2, R2 = (actR R x).1 := ⟨_, rfl⟩
    obtain ⟨d2, hd2⟩ : ∃ d2, d2 = (actF d x).1 := ⟨_, rfl⟩
    obtain ⟨wt, hwt⟩ : ∃ wt, wt = (actR R x).2 := ⟨_, rfl⟩
    have HLK2 : Hid (LinkR d2 R2) := by rw [hd2, hR2]; exact (link_act HLK.out x).1
    have hwf : (actF d x).2 = wt := by rw [hwt]; exact (link_act HLK.out x).2
    have HTW : Hid (∀ W W', TwU w1 W' g r R d2 (2 * i + 1) (fun k => k = px) ∧ KpY (fun k => k = px) W W' → W.heap[px]? = some (.cells (actV21 x) 34 (0, 0)) → TwU w1 W' g r R d2 (2 * i + 1) (fun k => k = px) ∧ W'.heap[px]? = some (.cells (actV21 x) 34 (0, 0))) := fun W W' h1 h2 => ⟨h1.1, (h1.2 px rfl).trans h2⟩
    have HTN : 2 * i ≤ 100000 := by omega
    have B1 : Hid (kd = 1 → Calls Try.prog 10 #[.pointer (some ⟨r, 0, none⟩), .int .i64 xs, .int .i64 xc, .int .i64 xt] wx fun e w' => e = .returned (.bool wt) ∧ TwU w1 w' g r R d2 (2 * i + 1) (fun k => k = px) ∧ KpY (fun k => k = px) wx w') := fun hk => by
      have := hearU HOx.out HTN x.s x.inc x.now
      rw [HV.out.2.1, HV.out.2.2.1, HV.out.2.2.2.2.2]
      have e : actF d x = hearF d x.s x.inc x.now := by unfold actF; rw [if_pos (by rw [← HV.out.1]; exact hk)]
      rw [← e, hwf, ← hd2] at this
      exact this
    have B2 : Hid (kd = 2 → Calls Try.prog 11 #[.pointer (some ⟨r, 0, none⟩), .int .i64 xs, .int .i64 xc, .int .i64 xe, .int .i64 xn] wx fun e w' => e = .returned (.bool wt) ∧ TwU w1 w' g r R d2 (2 * i + 1) (fun k => k = px) ∧ KpY (fun k => k = px) wx w') := fun hk => by
      have := ackU HOx.out HTN x.s x.inc x.ep x.n
      rw [HV.out.2.1, HV.out.2.2.1, HV.out.2.2.2.1, HV.out.2.2.2.2.1]
      have hk' : x.kind = 2 := by rw [← HV.out.1]; exact hk
      have e : actF d x = ackF d x.s x.inc x.ep x.n := by unfold actF; rw [if_neg (by rw [hk']; decide), if_pos hk']
      rw [← e, hwf, ← hd2] at this
      exact this
    have B3 : Hid (kd = 3 → Calls Try.prog 12 #[.pointer (some ⟨r, 0, none⟩), .int .i64 xs, .int .i64 xc, .int .i64 xn] wx fun e w' => e = .returned (.bool wt) ∧ TwU w1 w' g r R d2 (2 * i + 1) (fun k => k = px) ∧ KpY (fun k => k = px) wx w') := fun hk => by
      have := seenU HOx.out HTN x.s x.inc x.n
      rw [HV.out.2.1, HV.out.2.2.1, HV.out.2.2.2.2.1]
      have hk' : x.kind = 3 := by rw [← HV.out.1]; exact hk
      have e : actF d x = seenF d x.s x.inc x.n := by unfold actF; rw [if_neg (by rw [hk']; decide), if_neg (by rw [hk']; decide), if_pos hk']
      rw [← e, hwf, ← hd2] at this
      exact this
    have B4 : Hid (kd = 4 → wt = false ∧ Calls Try.prog 13 #[.pointer (some ⟨r, 0, none⟩), .int .i64 xs, .int .i64 xe, .int .i64 xt] wx fun e w' => e = .returned (.tuple #[]) ∧ TwU w1 w' g r R d2 (2 * i + 1) (fun k => k = px) ∧ KpY (fun k => k = px) wx w') := fun hk => by
      have := ledU HOx.out HTN x.s x.ep x.now
      rw [HV.out.2.1, HV.out.2.2.2.1, HV.out.2.2.2.2.2]
      have hk' : x.kind = 4 := by rw [← HV.out.1]; exact hk
      have e : actF d x = (ledF d x.s x.ep x.now, false) := by unfold actF; rw [if_neg (by rw [hk']; decide), if_neg (by rw [hk']; decide), if_neg (by rw [hk']; decide), if_pos hk']
      have e1 : ledF d x.s x.ep x.now = d2 := by rw [hd2, e]
      rw [e1] at this
      exact ⟨by rw [← hwf, e], this⟩
    have B5 : Hid (kd = 5 → wt = false ∧ Calls Try.prog 14 #[.pointer (some ⟨r, 0, none⟩), .int .i64 xe, .int .i64 xn] wx fun e w' => e = .returned (.tuple #[]) ∧ TwU w1 w' g r R d2 (2 * i + 1) (fun k => k = px) ∧ KpY (fun k => k = px) wx w') := fun hk => by
      have := keepU HOx.out HTN x.ep x.n
      rw [HV.out.2.2.2.1, HV.out.2.2.2.2.1]
      have hk' : x.kind = 5 := by rw [← HV.out.1]; exact hk
      have e : actF d x = (keepF d x.ep x.n, false) := by unfold actF; rw [if_neg (by rw [hk']; decide), if_neg (by rw [hk']; decide), if_neg (by rw [hk']; decide), if_neg (by rw [hk']; decide), if_pos hk']
      have e1 : keepF d x.ep x.n = d2 := by rw [hd2, e]
      rw [e1] at this
      exact ⟨by rw [← hwf, e], this⟩
    have B6 : Hid (kd ≠ 1 → kd ≠ 2 → kd ≠ 3 → kd ≠ 4 → kd ≠ 5 → wt = false ∧ TwU w1 wx g r R d2 (2 * i + 1) (fun k => k = px)) := fun n1 n2 n3 n4 n5 => by
      rw [HV.out.1] at n1 n2 n3 n4 n5
      have e : actF d x = (d, false) := by unfold actF; rw [if_neg n1, if_neg n2, if_neg n3, if_neg n4, if_neg n5]
      have e1 : d = d2 := by rw [hd2, e]
      refine ⟨by rw [← hwf, e], ?_⟩
      rw [← e1]
      exact TwU.mono HOx.out (Nat.le_succ _)
    have HDO : Hid (∀ W, TwU w1 W g r R d2 (2 * i + 1) (fun k => k = px) → Calls Try.prog 15 #[.pointer (some ⟨g, 0, none⟩), .agg (actV21 x)] W fun e w' => e = .returned (.bool wt) ∧ TwU w1 w' g r R2 d2 (2 * (i + 1)) (fun k => k = px) ∧ KpY (fun k => k = px) W w') := fun W hW => by
      have := doesU hW (by omega) x HX.out
      rw [← hR2, ← hwt] at this
      exact this
    have HXE : Hid (WfI xe) := by rw [HV.out.2.2.2.1]; exact HX.out.ep
    clear HOx hR2 hd2 hwt hwf HLK HTN
    go_upto_block 2 with fail
    go_cut [13] from 49 to 190 (fun s13 wc => s13 = .bool wt ∧ Hid (TwU w1 wc g r R d2 (2 * i + 1) (fun k => k = px)) ∧ Hid (wc.heap[px]? = some (.cells (actV21 x) 34 (0, 0))))
    case first =>
      by_cases c1 : kd = 1
      · have b1 : (kd == 1) = true := by simp [c1]
        have C := B1.out c1
        clear c1
        go_wp2_with (go_at_call 10; refine C.mono ?_; rintro e w4 ⟨rfl, h4⟩; refine of_stopT ?_)
        unfold StopT
        obtain ⟨TW4, A4⟩ := HTW.out _ _ h4 Ax.out
        have TW4 : Hid _ := TW4
        have A4 : Hid _ := A4
        clear h4 B1 B2 B3 B4 B5 B6 HTW
        go_wp2_with fail
        go_meet
        exact ⟨rfl, TW4, A4⟩
      have b1 : (kd == 1) = false := by simp [c1]
      by_cases c2 : kd = 2
      · have b2 : (kd == 2) = true := by simp [c2]
        have C := B2.out c2
        clear c1 c2
        go_wp2_with (go_at_call 11; refine C.mono ?_; rintro e w4 ⟨rfl, h4⟩; refine of_stopT ?_)
        unfold StopT
        obtain ⟨TW4, A4⟩ := HTW.out _ _ h4 Ax.out
        have TW4 : Hid _ := TW4
        have A4 : Hid _ := A4
        clear h4 B1 B2 B3 B4 B5 B6 HTW
        go_wp2_with fail
        go_meet
        exact ⟨rfl, TW4, A4⟩
      have b2 : (kd == 2) = false := by simp [c2]
      by_cases c3 : kd = 3
      · have b3 : (kd == 3) = true := by simp [c3]
        have C := B3.out c3
        clear c1 c2 c3
        go_wp2_with (go_at_call 12; refine C.mono ?_; rintro e w4 ⟨rfl, h4⟩; refine of_stopT ?_)
        unfold StopT
        obtain ⟨TW4, A4⟩ := HTW.out _ _ h4 Ax.out
        have TW4 : Hid _ := TW4
        have A4 : Hid _ := A4
        clear h4 B1 B2 B3 B4 B5 B6 HTW
        go_wp2_with fail
        go_meet
        exact ⟨rfl, TW4, A4⟩
      have b3 : (kd == 3) = false := by simp [c3]
      by_cases c4 : kd = 4
      · have b4 : (kd == 4) = true := by simp [c4]
        obtain ⟨hw0, C⟩ := B4.out c4
        subst hw0
        clear c1 c2 c3 c4
        go_wp2_with (go_at_call 13; refine C.mono ?_; rintro e w4 ⟨rfl, h4⟩; refine of_stopT ?_)
        unfold StopT
        obtain ⟨TW4, A4⟩ := HTW.out _ _ h4 Ax.out
        have TW4 : Hid _ := TW4
        have A4 : Hid _ := A4
        clear h4 B1 B2 B3 B4 B5 B6 HTW
        go_wp2_with fail
        go_meet
        exact ⟨rfl, TW4, A4⟩
      have b4 : (kd == 4) = false := by simp [c4]
      by_cases c5 : kd = 5
      · have b5 : (kd == 5) = true := by simp [c5]
        obtain ⟨hw0, C⟩ := B5.out c5
        subst hw0
        clear c1 c2 c3 c4 c5
        go_wp2_with (go_at_call 14; refine C.mono ?_; rintro e w4 ⟨rfl, h4⟩; refine of_stopT ?_)
        unfold StopT
        obtain ⟨TW4, A4⟩ := HTW.out _ _ h4 Ax.out
        have TW4 : Hid _ := TW4
        have A4 : Hid _ := A4
        clear h4 B1 B2 B3 B4 B5 B6 HTW
        go_wp2_with fail
        go_meet
        exact ⟨rfl, TW4, A4⟩
      have b5 : (kd == 5) = false := by simp [c5]
      obtain ⟨hw0, TW4⟩ := B6.out c1 c2 c3 c4 c5
      subst hw0
      have TW4 : Hid _ := TW4
      clear B1 B2 B3 B4 B5 B6 HTW c1 c2 c3 c4 c5
      go_wp2_with fail
      go_meet
      exact ⟨rfl, TW4, Ax⟩
    case rest =>
      obtain ⟨rfl, TW4, A4⟩ := hcut
      clear B1 B2 B3 B4 B5 B6 HTW
      have D4 := HDO.out wc TW4.out
      clear HDO
      go_wp2_with (first
        | ((with_reducible refine wl_gl21 _ rfl ?_); refine wl_loadE (E := Act21E) Act21Ok rfl _ rfl px 0 rfl (actV21 x) _ (0, 0) (actV21 x) rfl A4.out (fun j _ => by rw [Nat.zero_add]) ?_)
        | (go_at_call 15; refine D4.mono ?_; rintro e w5 ⟨rfl, h5, kp5⟩; refine of_stopT ?_))
      unfold StopT
      have HO5 : Hid (TwU w1 w5 g r R2 d2 (2 * (i + 1)) (fun k => k = px)) := h5
      have A5 : Hid (w5.heap[px]? = some (.cells (actV21 x) 34 (0, 0))) := (kp5 px rfl).trans A4.out
      clear h5 kp5 D4 A4 TW4
      have zbb : ∀ b : Bool, (b != b) = false := fun b => by simp
      go_wp2_with fail
      have hi2 : i + 1 ≤ q := by omega
      have hi3 : i + 1 ≤ 80 := by omega
      go_loopw [14] (fun s14 wr => ∃ (j : Nat), j ≤ 10 ∧ s14 = .int .i64 ((j : Int) - 1) ∧ Hid (TwU w1 wr g r R2 d2 (2 * (i + 1)) (fun k => k = px)) ∧ Hid (wr.heap[px]? = some (.cells (actV21 x) 34 (0, 0)))) (fun s14 _ => 11 - (intOf s14 + 1).toNat)
      case atStart => exact ⟨0, Nat.zero_le _, by rfl, HO5, A5⟩
      case round =>
        obtain ⟨j, hj, rfl, HT, HA⟩ := hrel
        by_cases hj2 : j < 10
        case neg =>
          have hj2' : ¬ (j : Int) - 1 < 9 := by omega
          go_wp2_with fail
          go_roundw
          case rel => exact ⟨i + 1, R2, d2, hi2, hi3, by go_num, TwU.less HT.out fun _ e => e.elim, HLK2⟩
          case measure => simp [intOf]; omega
        have hj2' : (j : Int) - 1 < 9 := by omega
        obtain ⟨a1, ha1⟩ : ∃ a, a = incR R2 ((j : Int) - 1) := ⟨_, rfl⟩
        obtain ⟨a2, ha2⟩ : ∃ a, a = inR R2 ((j : Int) - 1) qn ql := ⟨_, rfl⟩
        obtain ⟨a3, ha3⟩ : ∃ a, a = haveR R2 ((j : Int) - 1) xe := ⟨_, rfl⟩
        obtain ⟨a4, ha4⟩ : ∃ a, a = useR R2 ((j : Int) - 1) := ⟨_, rfl⟩
        obtain ⟨a5, ha5⟩ := bool_of (SafeR R2 ((j : Int) - 1) qe qn qs)
        have K1 : Hid (∀ u : Later wr, Calls Try.prog 16 #[.pointer (some ⟨g, 0, none⟩), .int .i64 ((j : Int) - 1)] u.world fun e w' => e = .returned (.int .i64 a1) ∧ w' = u.world) := fun u => by rw [ha1]; exact incU (TwU.grow HT.out u.below).1 _
        have K2 : Hid (∀ u : Later wr, Calls Try.prog 17 #[.pointer (some ⟨r, 0, none⟩), .int .i64 ((j : Int) - 1)] u.world fun e w' => e = .returned (.int .i64 a1) ∧ w' = u.world) := fun u => by rw [ha1]; exact incV (TwU.grow HT.out u.below).1 HLK2.out _
        have K3 : Hid (∀ u : Later wr, Calls Try.prog 18 #[.pointer (some ⟨g, 0, none⟩), .int .i64 ((j : Int) - 1), .int .i64 qn, .int .i64 ql] u.world fun e w' => e = .returned (.bool a2) ∧ Below u.world.heap.size u.world w') := fun u => by rw [ha2]; exact inU (TwU.grow HT.out u.below).1 _ _ _
        have K4 : Hid (∀ u : Later wr, Calls Try.prog 19 #[.pointer (some ⟨r, 0, none⟩), .int .i64 ((j : Int) - 1), .int .i64 qn, .int .i64 ql] u.world fun e w' => e = .returned (.bool a2) ∧ Below u.world.heap.size u.world w') := fun u => by rw [ha2]; exact inV (TwU.grow HT.out u.below).1 HLK2.out _ _ _
        have K5 : Hid (∀ u : Later wr, Calls Try.prog 20 #[.pointer (some ⟨g, 0, none⟩), .int .i64 ((j : Int) - 1), .int .i64 xe] u.world fun e w' => e = .returned (.int .i64 a3) ∧ w' = u.world) := fun u => by rw [ha3]; exact haveU (TwU.grow HT.out u.below).1 _ _ HXE.out
        have K6 : Hid (∀ u : Later wr, Calls Try.prog 21 #[.pointer (some ⟨r, 0, none⟩), .int .i64 ((j : Int) - 1), .int .i64 xe] u.world fun e w' => e = .returned (.int .i64 a3) ∧ Below u.world.heap.size u.world w') := fun u => by rw [ha3]; exact haveV (TwU.grow HT.out u.below).1 HLK2.out _ _
        have K7 : Hid (∀ u : Later wr, Calls Try.prog 22 #[.pointer (some ⟨g, 0, none⟩), .int .i64 ((j : Int) - 1)] u.world fun e w' => e = .returned (.int .i64 a4) ∧ w' = u.world) := fun u => by rw [ha4]; exact useU (TwU.grow HT.out u.below).1 _
        have K8 : Hid (∀ u : Later wr, Calls Try.prog 23 #[.pointer (some ⟨r, 0, none⟩), .int .i64 ((j : Int) - 1)] u.world fun e w' => e = .returned (.int .i64 a4) ∧ Below u.world.heap.size u.world w') := fun u => by rw [ha4]; exact useV (TwU.grow HT.out u.below).1 HLK2.out _
        have K9 : Hid (∀ u : Later wr, Calls Try.prog 24 #[.pointer (some ⟨g, 0, none⟩), .int .i64 ((j : Int) - 1), .int .i64 qe, .int .i64 qn, .int .i64 qs] u.world fun e w' => e = .returned (.bool a5) ∧ Below u.world.heap.size u.world w') := fun u => by exact safeU (TwU.grow HT.out u.below).1 _ _ _ _ a5 ha5
        have K10 : Hid (∀ u : Later wr, Calls Try.prog 25 #[.pointer (some ⟨r, 0, none⟩), .int .i64 ((j : Int) - 1), .int .i64 qe, .int .i64 qn, .int .i64 qs] u.world fun e w' => e = .returned (.bool a5) ∧ Below u.world.heap.size u.world w') := fun u => by exact safeV (TwU.grow HT.out u.below).1 HLK2.out _ _ _ _ a5 ha5
        have HFu : Hid (∀ u : Later wr, Below wq.heap.size wq u.world) := fun u => HBq1.out.trans ((TwU.bel (TwU.grow HT.out u.below).1).mono HBq1.out.size)
        have fq0 : ∀ u : Later wr, u.world.cell? ⟨pq, 0, none⟩ = some (.int .i64 qe) := fun u => (HFQ.out u.world (HFu.out u)).1
        have fq1 : ∀ u : Later wr, u.world.cell? ⟨pq, 1, none⟩ = some (.int .i64 qn) := fun u => (HFQ.out u.world (HFu.out u)).2.1
        have fq2 : ∀ u : Later wr, u.world.cell? ⟨pq, 2, none⟩ = some (.int .i64 ql) := fun u => (HFQ.out u.world (HFu.out u)).2.2.1
        have fq3 : ∀ u : Later wr, u.world.cell? ⟨pq, 3, none⟩ = some (.int .i64 qs) := fun u => (HFQ.out u.world (HFu.out u)).2.2.2
        have HAu : Hid (∀ u : Later wr, u.world.heap[px]? = some (.cells (actV21 x) 34 (0, 0))) := fun u => ((TwU.grow HT.out u.below).2 px rfl).trans HA.out
        have fx3 : ∀ u : Later wr, u.world.cell? ⟨px, 3, none⟩ = some (.int .i64 xe) := fun u => (HFA.out u.world (HAu.out u)).2.2.2.1
        have ne9 := Later.ne wr
        have y1 : (a1 != a1) = false := by simp
        have y2 : (a2 != a2) = false := by simp
        have y3 : (a3 != a3) = false := by simp
        have y4 : (a4 != a4) = false := by simp
        have y5 : (a5 != a5) = false := by simp
        have HNx : Hid (∀ u : Later wr, TwU w1 u.world g r R2 d2 (2 * (i + 1)) (fun k => k = px)) := fun u => (TwU.grow HT.out u.below).1
        clear ha1 ha2 ha3 ha4 ha5 HFu zbb
        go_wp2_with fail
        simp only [List.append_eq, List.cons_append, List.nil_append]
        refine wp_region_later (by kernel_rfl) (by kernel_rfl) ?_
        go_big_quiet_step (fail)
        go_big_quiet_step (fail)
        go_big_quiet_want; go_big_quiet_op
        refine ⟨_, fun u => Calls.later_same21 (K1.out u), ?_⟩
        go_big_quiet_on
        go_big_quiet_step (fail)
        go_big_quiet_step (fail)
        go_big_quiet_want; go_big_quiet_op
        refine ⟨_, fun u => Calls.later_same21 (K2.out u), ?_⟩
        go_big_quiet_on
        go_big_quiet_step (fail)
        go_big_quiet_step (fail)
        go_big_quiet_step (fail)
        go_big_quiet_step (fail)
        go_big_quiet_step (fail)
        go_big_quiet_step (fail)
        go_big_quiet_step (fail)
        go_big_quiet_step (fail)
        go_big_quiet_want; go_big_quiet_op
        refine ⟨_, fun u => Calls.later_of (K3.out u), ?_⟩
        go_big_quiet_on
        go_big_quiet_step (fail)
        go_big_quiet_step (fail)
        go_big_quiet_step (fail)
        go_big_quiet_step (fail)
        go_big_quiet_step (fail)
        go_big_quiet_step (fail)
        go_big_quiet_want; go_big_quiet_op
        refine ⟨_, fun u => Calls.later_of (K4.out u), ?_⟩
        go_big_quiet_on
        go_big_quiet_step (fail)
        go_big_quiet_step (fail)
        go_big_quiet_step (fail)
        go_big_quiet_step (fail)
        go_big_quiet_step (fail)
        go_big_quiet_step (fail)
        go_big_quiet_step (fail)
        go_big_quiet_want; go_big_quiet_op
        refine ⟨_, fun u => Calls.later_same21 (K5.out u), ?_⟩
        go_big_quiet_on
        go_big_quiet_step (fail)
        go_big_quiet_step (fail)
        go_big_quiet_step (fail)
        go_big_quiet_step (fail)
        go_big_quiet_want; go_big_quiet_op
        refine ⟨_, fun u => Calls.later_of (K6.out u), ?_⟩
        go_big_quiet_on
        go_big_quiet_step (fail)
        go_big_quiet_step (fail)
        go_big_quiet_step (fail)
        go_big_quiet_step (fail)
        go_big_quiet_step (fail)
        go_big_quiet_want; go_big_quiet_op
        refine ⟨_, fun u => Calls.later_same21 (K7.out u), ?_⟩
        go_big_quiet_on
        go_big_quiet_step (fail)
        go_big_quiet_step (fail)
        go_big_quiet_want; go_big_quiet_op
        refine ⟨_, fun u => Calls.later_of (K8.out u), ?_⟩
        go_big_quiet_on
        go_big_quiet_step (fail)
        go_big_quiet_step (fail)
        go_big_quiet_step (fail)
        go_big_quiet_step (fail)
        go_big_quiet_step (fail)
        go_big_quiet_step (fail)
        go_big_quiet_step (fail)
        go_big_quiet_step (fail)
        go_big_quiet_step (fail)
        go_big_quiet_step (fail)
        go_big_quiet_step (fail)
        go_big_quiet_want; go_big_quiet_op
        refine ⟨_, fun u => Calls.later_of (K9.out u), ?_⟩
        go_big_quiet_on
        go_big_quiet_step (fail)
        go_big_quiet_step (fail)
        go_big_quiet_step (fail)
        go_big_quiet_step (fail)
        go_big_quiet_step (fail)
        go_big_quiet_step (fail)
        go_big_quiet_step (fail)
        go_big_quiet_step (fail)
        go_big_quiet_want; go_big_quiet_op
        refine ⟨_, fun u => Calls.later_of (K10.out u), ?_⟩
        go_big_quiet_on
        go_big_quiet_step (fail)
        go_big_quiet_step (fail)
        refine wpQuiet_nil ?_
        rintro w' ⟨uL, rfl⟩
        clear K1 K2 K3 K4 K5 K6 K7 K8 K9 K10 fq0 fq1 fq2 fq3 fx3
        go_wp2_with fail
        go_roundw
        case rel => exact ⟨j + 1, by omega, by first | go_num | (congr 1; omega) | (simp; omega), HNx.out uL, HAu.out uL⟩
        case measure => simp [intOf]; omega
end Go.Proofs.Yteongcihannldaa
