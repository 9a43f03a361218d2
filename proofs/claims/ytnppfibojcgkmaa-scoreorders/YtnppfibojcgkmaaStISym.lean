import Derived.Test.YtnppfibojcgkmaaStIRot
import Derived.Deep.CutRange
namespace Go.Proofs.Ytnppfibojcgkmaa
open Go Go.Shelf Go.RowKit Go.Lib Go.Sort
set_option maxRecDepth 20000

variable {α : Type} [Inhabited α]
set_option maxHeartbeats 16000000 in
set_option maxRecDepth 1000000 in
/-- slices.symMergeCmpFunc where the first part is one element. -/
theorem symI_one {P : Program} (L : StI P) (enc : α → Value) (p : α → Int) (cf : α → α → Int) (hcf : ∀ x y, cf x y < 0 ↔ p y < p x) (g : Nat) (cb : Array Value) (blk off cap : Nat) (d0 : Array α) (w0 : World)
    (eg : ∀ args w, (callFunc g args).run P w = .ok (.enter g args) w) (hcmp : CmpLays1 P g cb enc cf blk off d0.size w0) (R : Row1 enc w0 blk off d0) (a m b : Nat) (hm : m = a + 1) (d : Array α) (w : World) (hs : d0.size = d.size) (S : SW enc w0 blk off d w) (hab : m < b) (hb : b ≤ d.size) (hsz : d.size < 4611686018427387904) (hY : DescF p (arrF d) m b) :
    Calls P 45 #[.slice (some ⟨blk, off, none⟩) d.size cap, .int .i64 a, .int .i64 m, .int .i64 b, .func (.func g) #[] cb] w fun e w' => e = .returned (.tuple #[]) ∧ ∃ d', d'.size = d.size ∧ SW enc w0 blk off d' w' ∧ Merged p (arrF d) (arrF d') a b := by
  have mixed := L.mixed
  have t0 := L.t0; have a0 := L.a0; have z0 := L.z0; have v0 := L.v0
  have t3 := L.t3; have a3 := L.a3; have z3 := L.z3; have v3 := L.v3
  have t4 := L.t4; have a4 := L.a4; have z4 := L.z4; have v4 := L.v4
  have tS := L.tS; have aS := L.aS; have zS := L.zS; have vS := L.vS
  have tF := L.tF; have aF := L.aF; have zF := L.zF; have vF := L.vF
  have tU := L.tU; have aU := L.aU; have zU := L.zU; have vU := L.vU
  have uS := run_underlying L.tS
  have hcl0 := R.hO.cells
  simp only [Value.cells] at hcl0
  have hst := R.hO.store P
  have FG := L.f_symMerge
  have HC : Aside _ := hcmp
  have S0 : Aside (SW enc w0 blk off d w) := S
  have HF : Hid (∀ x y, cf x y < 0 ↔ p y < p x) := hcf
  have HY : Hid (DescF p (arrF d) m b) := hY
  have HM : Hid (m = a + 1) := hm
  have hmz : (m : Int) - (a : Int) = 1 := by omega
  have ham : a < m := by omega
  clear hcmp S hcf hY L hm
  go_enter FG, Try.ntmps45
  go_wp2
  go_loopg [10, 11] (b - m) (fun kx s10 s11 wr => ∃ (i j : Nat), s10 = .int .i64 i ∧ s11 = .int .i64 j ∧ m ≤ i ∧ i ≤ j ∧ j ≤ b ∧ j - i ≤ kx ∧ Aside (SW enc w0 blk off d wr) ∧ Hid (i = m ∨ p (arrF d a) < p (arrF d (i - 1))) ∧ Hid (j = b ∨ p (arrF d j) ≤ p (arrF d a)))
  case atStart => exact ⟨m, b, rfl, rfl, Nat.le_refl _, by omega, Nat.le_refl _, Nat.le_refl _, S0, .inl rfl, .inl rfl⟩
  case round =>
    clear S0
    obtain ⟨i, j, rfl, rfl, hai, hij, hjb, hkx, S1, HI, HJ⟩ := hrel
    by_cases hlt : i < j
    · have hltz : (i : Int) < (j : Int) := by omega
      obtain ⟨h, hh⟩ : ∃ h, h = (i + j) / 2 := ⟨_, rfl⟩
      have hhz : ((i : Int) + (j : Int)) / 2 = (h : Int) := by omega
      have hh1 : i ≤ h := by omega
      have hh2 : h < j := by omega
      clear hh
      by_cases hv : cf d[h]! d[a]! < 0
      · have HN : Hid (h + 1 = m ∨ p (arrF d a) < p (arrF d (h + 1 - 1))) := .inr ((HF.out _ _).1 hv)
        obtain ⟨iN24, hiN24⟩ : ∃ qN, qN = h := ⟨_, rfl⟩
        obtain ⟨jN24, hjN24⟩ : ∃ qN, qN = a := ⟨_, rfl⟩
        have ea24 : ((h : Int)).toNat = iN24 := by omega
        have pa24 : (0 : Int) ≤ (h : Int) := by omega
        have ba24 : (h : Int) < (d.size : Int) := by omega
        have ra24 : IntKind.i64.wrap ((h : Int)) = (h : Int) := by rw [IntKind.wrap_i64]; omega
        have ec24 : ((a : Int)).toNat = jN24 := by omega
        have pc24 : (0 : Int) ≤ (a : Int) := by omega
        have bc24 : (a : Int) < (d.size : Int) := by omega
        have rc24 : IntKind.i64.wrap ((a : Int)) = (a : Int) := by rw [IntKind.wrap_i64]; omega
        obtain ⟨x24, hx24⟩ : ∃ x, x = d[h]! := ⟨_, rfl⟩
        obtain ⟨y24, hy24⟩ : ∃ x, x = d[a]! := ⟨_, rfl⟩
        have l24a := S1.out.cl R (by omega) (h) (by omega)
        have l24b := S1.out.cl R (by omega) (a) (by omega)
        rw [← hx24, ← hiN24] at l24a
        rw [← hy24, ← hjN24] at l24b
        have hc24 := S1.out.cmp HC.out (by omega) x24 y24
        have hv24 : cf x24 y24 < 0 := by rw [hx24, hy24]; exact hv
        have hd24 : decide (cf x24 y24 < 0) = true := decide_eq_true hv24
        clear hx24 hy24 hiN24 hjN24 hv
        go_wp2_with fail
        go_quiet_grown (first | (go_at_fn g; refine Calls.grown_of (hc24 _ _)))
        have S2 : Aside (SW enc w0 blk off d (grow (wr.drewN nq) osq)) := S1.out.grown nq osq
        clear l24a l24b hc24 S1
        generalize grow (wr.drewN nq) osq = w2 at S2 ⊢
        clear nq osq
        clear ea24 ec24
        go_wp2
        go_roundg (j - (h + 1))
        case measure => omega
        case rel => exact ⟨h + 1, j, by go_num, rfl, by omega, by omega, hjb, Nat.le_refl _, S2, HN, HJ⟩
      · have HN : Hid (h = b ∨ p (arrF d h) ≤ p (arrF d a)) := .inr (by have := mt (HF.out d[h]! d[a]!).2 hv; exact Int.not_lt.1 this)
        obtain ⟨iN25, hiN25⟩ : ∃ qN, qN = h := ⟨_, rfl⟩
        obtain ⟨jN25, hjN25⟩ : ∃ qN, qN = a := ⟨_, rfl⟩
        have ea25 : ((h : Int)).toNat = iN25 := by omega
        have pa25 : (0 : Int) ≤ (h : Int) := by omega
        have ba25 : (h : Int) < (d.size : Int) := by omega
        have ra25 : IntKind.i64.wrap ((h : Int)) = (h : Int) := by rw [IntKind.wrap_i64]; omega
        have ec25 : ((a : Int)).toNat = jN25 := by omega
        have pc25 : (0 : Int) ≤ (a : Int) := by omega
        have bc25 : (a : Int) < (d.size : Int) := by omega
        have rc25 : IntKind.i64.wrap ((a : Int)) = (a : Int) := by rw [IntKind.wrap_i64]; omega
        obtain ⟨x25, hx25⟩ : ∃ x, x = d[h]! := ⟨_, rfl⟩
        obtain ⟨y25, hy25⟩ : ∃ x, x = d[a]! := ⟨_, rfl⟩
        have l25a := S1.out.cl R (by omega) (h) (by omega)
        have l25b := S1.out.cl R (by omega) (a) (by omega)
        rw [← hx25, ← hiN25] at l25a
        rw [← hy25, ← hjN25] at l25b
        have hc25 := S1.out.cmp HC.out (by omega) x25 y25
        have hv25 : ¬ cf x25 y25 < 0 := by rw [hx25, hy25]; exact hv
        have hd25 : decide (cf x25 y25 < 0) = false := decide_eq_false hv25
        clear hx25 hy25 hiN25 hjN25 hv
        go_wp2_with fail
        go_quiet_grown (first | (go_at_fn g; refine Calls.grown_of (hc25 _ _)))
        have S2 : Aside (SW enc w0 blk off d (grow (wr.drewN nq) osq)) := S1.out.grown nq osq
        clear l25a l25b hc25 S1
        generalize grow (wr.drewN nq) osq = w2 at S2 ⊢
        clear nq osq
        clear ea25 ec25
        go_wp2
        go_roundg (h - i)
        case measure => omega
        case rel => exact ⟨i, h, rfl, rfl, hai, hh1, by omega, Nat.le_refl _, S2, HI, HN⟩
    · have hltz : ¬ (i : Int) < (j : Int) := by omega
      obtain rfl : i = j := by omega
      go_wp2
      go_loopg [13] b (fun kx s13 wr2 => ∃ (q : Nat) (dk : Array α), s13 = .int .i64 q ∧ a ≤ q ∧ q + 1 ≤ i ∧ i - q ≤ kx ∧ dk.size = d.size ∧ Aside (SW enc w0 blk off dk wr2) ∧ Hid (arrF dk = rotF (arrF d) a (a + 1) (q + 1)))
      case atStart => exact ⟨a, d, rfl, Nat.le_refl _, by omega, by omega, rfl, S1, (rot_up0 _ _).symm⟩
      case round =>
        clear S1
        obtain ⟨q, dk, rfl, haq, hqi, hkx2, hds, S1, HE⟩ := hrel
        by_cases hq : q + 1 < i
        · have hqz : (q : Int) < (i : Int) - 1 := by omega
          have HE2 : Hid (arrF (swp dk q (q + 1)) = rotF (arrF d) a (a + 1) (q + 1 + 1)) := by
            show _ = _
            rw [swp_fun dk _ _ (by omega) (by omega), HE.out, rot_up _ _ _ haq]
          go_wp2_with fail
          obtain ⟨iN44, hiN44⟩ : ∃ qN, qN = q := ⟨_, rfl⟩
          obtain ⟨jN44, hjN44⟩ : ∃ qN, qN = q + 1 := ⟨_, rfl⟩
          have ea44 : ((q : Int)).toNat = iN44 := by omega
          have pa44 : (0 : Int) ≤ (q : Int) := by omega
          have ba44 : (q : Int) < (d.size : Int) := by omega
          have ra44 : IntKind.i64.wrap ((q : Int)) = (q : Int) := by rw [IntKind.wrap_i64]; omega
          have ec44 : ((q : Int) + 1).toNat = jN44 := by omega
          have pc44 : (0 : Int) ≤ (q : Int) + 1 := by omega
          have bc44 : (q : Int) + 1 < (d.size : Int) := by omega
          have rc44 : IntKind.i64.wrap ((q : Int) + 1) = (q : Int) + 1 := by rw [IntKind.wrap_i64]; omega
          obtain ⟨x44, hx44⟩ : ∃ x, x = dk[q]! := ⟨_, rfl⟩
          obtain ⟨y44, hy44⟩ : ∃ x, x = dk[q + 1]! := ⟨_, rfl⟩
          have S2 : Aside (SW enc w0 blk off (swp dk (q) (q + 1)) ((wr.setCell ⟨blk, off + iN44, none⟩ (enc y44)).setCell ⟨blk, off + jN44, none⟩ (enc x44)).drew) := by rw [hiN44, hjN44, hx44, hy44]; exact S1.out.swapped R (q) (q + 1) (by omega) (by omega)
          have c44a := S1.out.c1 R (by omega) (q) (by omega)
          have c44b := S1.out.c1 R (by omega) (q + 1) (by omega)
          have f44a := S1.out.f1 R (by omega) (q) (by omega)
          have f44b := S1.out.f1 R (by omega) (q + 1) (by omega)
          obtain ⟨u44, c44c⟩ := S1.out.c2 R (by omega) (q) (q + 1) (by omega) (by omega) (enc y44)
          rw [← hjN44, ← hiN44] at c44c
          rw [← hx44, ← hiN44] at c44a
          rw [← hy44, ← hjN44] at c44b
          rw [← hiN44] at f44a
          rw [← hjN44] at f44b
          clear S1 hx44 hy44 hiN44 hjN44
          go_wp2_with fail
          go_big_region_o
          clear c44a c44b c44c f44a f44b
          generalize ((wr.setCell ⟨blk, off + iN44, none⟩ (enc y44)).setCell ⟨blk, off + jN44, none⟩ (enc x44)).drew = w2 at S2 ⊢
          clear ea44 ec44
          go_wp2
          go_roundg (i - (q + 1))
          case measure => omega
          case rel => exact ⟨q + 1, swp dk q (q + 1), by go_num, by omega, by omega, Nat.le_refl _, by rw [size_swp]; exact hds, S2, HE2⟩
        · have hqz : ¬ (q : Int) < (i : Int) - 1 := by omega
          obtain rfl : i = q + 1 := by omega
          go_wp2
          (try simp only [Exit.inBlock, Exit.then]); refine bodyPost_ret (results_none rfl _ _ _) rfl ?_
          refine ⟨rfl, dk, hds, S1.out, ?_⟩
          rw [HE.out]
          obtain rfl := HM.out
          exact merged_one (by omega) hjb HY.out HI.out HJ.out
set_option maxHeartbeats 16000000 in
set_option maxRecDepth 1000000 in
/-- slices.symMergeCmpFunc where the second part is one element. -/
theorem symI_last {P : Program} (L : StI P) (enc : α → Value) (p : α → Int) (cf : α → α → Int) (hcf : ∀ x y, cf x y < 0 ↔ p y < p x) (g : Nat) (cb : Array Value) (blk off cap : Nat) (d0 : Array α) (w0 : World)
    (eg : ∀ args w, (callFunc g args).run P w = .ok (.enter g args) w) (hcmp : CmpLays1 P g cb enc cf blk off d0.size w0) (R : Row1 enc w0 blk off d0) (a m b : Nat) (hm : b = m + 1) (d : Array α) (w : World) (hs : d0.size = d.size) (S : SW enc w0 blk off d w) (ham : a + 1 < m) (hb : b ≤ d.size) (hsz : d.size < 4611686018427387904) (hX : DescF p (arrF d) a m) :
    Calls P 45 #[.slice (some ⟨blk, off, none⟩) d.size cap, .int .i64 a, .int .i64 m, .int .i64 b, .func (.func g) #[] cb] w fun e w' => e = .returned (.tuple #[]) ∧ ∃ d', d'.size = d.size ∧ SW enc w0 blk off d' w' ∧ Merged p (arrF d) (arrF d') a b := by
  have mixed := L.mixed
  have t0 := L.t0; have a0 := L.a0; have z0 := L.z0; have v0 := L.v0
  have t3 := L.t3; have a3 := L.a3; have z3 := L.z3; have v3 := L.v3
  have t4 := L.t4; have a4 := L.a4; have z4 := L.z4; have v4 := L.v4
  have tS := L.tS; have aS := L.aS; have zS := L.zS; have vS := L.vS
  have tF := L.tF; have aF := L.aF; have zF := L.zF; have vF := L.vF
  have tU := L.tU; have aU := L.aU; have zU := L.zU; have vU := L.vU
  have uS := run_underlying L.tS
  have hcl0 := R.hO.cells
  simp only [Value.cells] at hcl0
  have hst := R.hO.store P
  have FG := L.f_symMerge
  have HC : Aside _ := hcmp
  have S0 : Aside (SW enc w0 blk off d w) := S
  have HF : Hid (∀ x y, cf x y < 0 ↔ p y < p x) := hcf
  have HX : Hid (DescF p (arrF d) a m) := hX
  have hne : (((m : Int) - (a : Int)) == 1) = false := by simp; omega
  have HM : Hid (b = m + 1) := hm
  have hmz : (b : Int) - (m : Int) = 1 := by omega
  have hmb : m < b := by omega
  clear hcmp S hcf hX L hm
  go_enter FG, Try.ntmps45
  go_wp2
  go_loopg [14, 15] (m - a) (fun kx s10 s11 wr => ∃ (i j : Nat), s10 = .int .i64 i ∧ s11 = .int .i64 j ∧ a ≤ i ∧ i ≤ j ∧ j ≤ m ∧ j - i ≤ kx ∧ Aside (SW enc w0 blk off d wr) ∧ Hid (i = a ∨ p (arrF d m) ≤ p (arrF d (i - 1))) ∧ Hid (j = m ∨ p (arrF d j) < p (arrF d m)))
  case atStart => exact ⟨a, m, rfl, rfl, Nat.le_refl _, by omega, Nat.le_refl _, Nat.le_refl _, S0, .inl rfl, .inl rfl⟩
  case round =>
    clear S0
    obtain ⟨i, j, rfl, rfl, hai, hij, hjb, hkx, S1, HI, HJ⟩ := hrel
    by_cases hlt : i < j
    · have hltz : (i : Int) < (j : Int) := by omega
      obtain ⟨h, hh⟩ : ∃ h, h = (i + j) / 2 := ⟨_, rfl⟩
      have hhz : ((i : Int) + (j : Int)) / 2 = (h : Int) := by omega
      have hh1 : i ≤ h := by omega
      have hh2 : h < j := by omega
      clear hh
      by_cases hv : cf d[m]! d[h]! < 0
      · have HN : Hid (h = m ∨ p (arrF d h) < p (arrF d m)) := .inr ((HF.out _ _).1 hv)
        obtain ⟨iN24, hiN24⟩ : ∃ qN, qN = m := ⟨_, rfl⟩
        obtain ⟨jN24, hjN24⟩ : ∃ qN, qN = h := ⟨_, rfl⟩
        have ea24 : ((m : Int)).toNat = iN24 := by omega
        have pa24 : (0 : Int) ≤ (m : Int) := by omega
        have ba24 : (m : Int) < (d.size : Int) := by omega
        have ra24 : IntKind.i64.wrap ((m : Int)) = (m : Int) := by rw [IntKind.wrap_i64]; omega
        have ec24 : ((h : Int)).toNat = jN24 := by omega
        have pc24 : (0 : Int) ≤ (h : Int) := by omega
        have bc24 : (h : Int) < (d.size : Int) := by omega
        have rc24 : IntKind.i64.wrap ((h : Int)) = (h : Int) := by rw [IntKind.wrap_i64]; omega
        obtain ⟨x24, hx24⟩ : ∃ x, x = d[m]! := ⟨_, rfl⟩
        obtain ⟨y24, hy24⟩ : ∃ x, x = d[h]! := ⟨_, rfl⟩
        have l24a := S1.out.cl R (by omega) (m) (by omega)
        have l24b := S1.out.cl R (by omega) (h) (by omega)
        rw [← hx24, ← hiN24] at l24a
        rw [← hy24, ← hjN24] at l24b
        have hc24 := S1.out.cmp HC.out (by omega) x24 y24
        have hv24 : cf x24 y24 < 0 := by rw [hx24, hy24]; exact hv
        have hd24 : decide (cf x24 y24 < 0) = true := decide_eq_true hv24
        clear hx24 hy24 hiN24 hjN24 hv
        go_wp2_with fail
        go_quiet_grown (first | (go_at_fn g; refine Calls.grown_of (hc24 _ _)))
        have S2 : Aside (SW enc w0 blk off d (grow (wr.drewN nq) osq)) := S1.out.grown nq osq
        clear l24a l24b hc24 S1
        generalize grow (wr.drewN nq) osq = w2 at S2 ⊢
        clear nq osq
        clear ea24 ec24
        go_wp2
        go_roundg (h - i)
        case measure => omega
        case rel => exact ⟨i, h, rfl, rfl, hai, hh1, by omega, Nat.le_refl _, S2, HI, HN⟩
      · have HN : Hid (h + 1 = a ∨ p (arrF d m) ≤ p (arrF d (h + 1 - 1))) := .inr (by have := mt (HF.out d[m]! d[h]!).2 hv; exact Int.not_lt.1 this)
        obtain ⟨iN25, hiN25⟩ : ∃ qN, qN = m := ⟨_, rfl⟩
        obtain ⟨jN25, hjN25⟩ : ∃ qN, qN = h := ⟨_, rfl⟩
        have ea25 : ((m : Int)).toNat = iN25 := by omega
        have pa25 : (0 : Int) ≤ (m : Int) := by omega
        have ba25 : (m : Int) < (d.size : Int) := by omega
        have ra25 : IntKind.i64.wrap ((m : Int)) = (m : Int) := by rw [IntKind.wrap_i64]; omega
        have ec25 : ((h : Int)).toNat = jN25 := by omega
        have pc25 : (0 : Int) ≤ (h : Int) := by omega
        have bc25 : (h : Int) < (d.size : Int) := by omega
        have rc25 : IntKind.i64.wrap ((h : Int)) = (h : Int) := by rw [IntKind.wrap_i64]; omega
        obtain ⟨x25, hx25⟩ : ∃ x, x = d[m]! := ⟨_, rfl⟩
        obtain ⟨y25, hy25⟩ : ∃ x, x = d[h]! := ⟨_, rfl⟩
        have l25a := S1.out.cl R (by omega) (m) (by omega)
        have l25b := S1.out.cl R (by omega) (h) (by omega)
        rw [← hx25, ← hiN25] at l25a
        rw [← hy25, ← hjN25] at l25b
        have hc25 := S1.out.cmp HC.out (by omega) x25 y25
        have hv25 : ¬ cf x25 y25 < 0 := by rw [hx25, hy25]; exact hv
        have hd25 : decide (cf x25 y25 < 0) = false := decide_eq_false hv25
        clear hx25 hy25 hiN25 hjN25 hv
        go_wp2_with fail
        go_quiet_grown (first | (go_at_fn g; refine Calls.grown_of (hc25 _ _)))
        have S2 : Aside (SW enc w0 blk off d (grow (wr.drewN nq) osq)) := S1.out.grown nq osq
        clear l25a l25b hc25 S1
        generalize grow (wr.drewN nq) osq = w2 at S2 ⊢
        clear nq osq
        clear ea25 ec25
        go_wp2
        go_roundg (j - (h + 1))
        case measure => omega
        case rel => exact ⟨h + 1, j, by go_num, rfl, by omega, by omega, hjb, Nat.le_refl _, S2, HN, HJ⟩
    · have hltz : ¬ (i : Int) < (j : Int) := by omega
      obtain rfl : i = j := by omega
      go_wp2
      go_loopg [17] (m + 1) (fun kx s13 wr2 => ∃ (q : Nat) (dk : Array α), s13 = .int .i64 q ∧ i ≤ q ∧ q ≤ m ∧ q ≤ kx ∧ dk.size = d.size ∧ Aside (SW enc w0 blk off dk wr2) ∧ Hid (arrF dk = rotF (arrF d) q m (m + 1)))
      case atStart => exact ⟨m, d, rfl, hjb, Nat.le_refl _, by omega, rfl, S1, (rot_down0 _ _).symm⟩
      case round =>
        clear S1
        obtain ⟨q, dk, rfl, haq, hqi, hkx2, hds, S1, HE⟩ := hrel
        by_cases hq : i < q
        · obtain ⟨q', rfl⟩ : ∃ q', q = q' + 1 := ⟨q - 1, by omega⟩
          have hqz : (i : Int) < (q' : Int) + 1 := by omega
          have HE2 : Hid (arrF (swp dk (q' + 1) q') = rotF (arrF d) q' m (m + 1)) := by
            show _ = _
            rw [swp_fun dk _ _ (by omega) (by omega), HE.out, rot_down _ _ _ (by omega)]
          go_wp2_with fail
          obtain ⟨iN44, hiN44⟩ : ∃ qN, qN = q' + 1 := ⟨_, rfl⟩
          obtain ⟨jN44, hjN44⟩ : ∃ qN, qN = q' := ⟨_, rfl⟩
          have ea44 : ((q' : Int) + 1).toNat = iN44 := by omega
          have pa44 : (0 : Int) ≤ (q' : Int) + 1 := by omega
          have ba44 : (q' : Int) + 1 < (d.size : Int) := by omega
          have ra44 : IntKind.i64.wrap ((q' : Int) + 1) = (q' : Int) + 1 := by rw [IntKind.wrap_i64]; omega
          have ec44 : ((q' : Int)).toNat = jN44 := by omega
          have pc44 : (0 : Int) ≤ (q' : Int) := by omega
          have bc44 : (q' : Int) < (d.size : Int) := by omega
          have rc44 : IntKind.i64.wrap ((q' : Int)) = (q' : Int) := by rw [IntKind.wrap_i64]; omega
          obtain ⟨x44, hx44⟩ : ∃ x, x = dk[q' + 1]! := ⟨_, rfl⟩
          obtain ⟨y44, hy44⟩ : ∃ x, x = dk[q']! := ⟨_, rfl⟩
          have S2 : Aside (SW enc w0 blk off (swp dk (q' + 1) (q')) ((wr.setCell ⟨blk, off + iN44, none⟩ (enc y44)).setCell ⟨blk, off + jN44, none⟩ (enc x44)).drew) := by rw [hiN44, hjN44, hx44, hy44]; exact S1.out.swapped R (q' + 1) (q') (by omega) (by omega)
          have c44a := S1.out.c1 R (by omega) (q' + 1) (by omega)
          have c44b := S1.out.c1 R (by omega) (q') (by omega)
          have f44a := S1.out.f1 R (by omega) (q' + 1) (by omega)
          have f44b := S1.out.f1 R (by omega) (q') (by omega)
          obtain ⟨u44, c44c⟩ := S1.out.c2 R (by omega) (q' + 1) (q') (by omega) (by omega) (enc y44)
          rw [← hiN44, ← hjN44] at c44c
          rw [← hx44, ← hiN44] at c44a
          rw [← hy44, ← hjN44] at c44b
          rw [← hiN44] at f44a
          rw [← hjN44] at f44b
          clear S1 hx44 hy44 hiN44 hjN44
          go_wp2_with fail
          go_big_region_o
          clear c44a c44b c44c f44a f44b
          generalize ((wr.setCell ⟨blk, off + iN44, none⟩ (enc y44)).setCell ⟨blk, off + jN44, none⟩ (enc x44)).drew = w2 at S2 ⊢
          clear ea44 ec44
          go_wp2
          go_roundg q'
          case measure => omega
          case rel => exact ⟨q', swp dk (q' + 1) q', by first | rfl | go_num, by omega, by omega, Nat.le_refl _, by rw [size_swp]; exact hds, S2, HE2⟩
        · have hqz : ¬ (i : Int) < (q : Int) := by omega
          obtain rfl : i = q := by omega
          go_wp2
          (try simp only [Exit.inBlock, Exit.then]); refine bodyPost_ret (results_none rfl _ _ _) rfl ?_
          refine ⟨rfl, dk, hds, S1.out, ?_⟩
          rw [HE.out]
          obtain rfl := HM.out
          exact merged_last hai hjb HX.out HI.out HJ.out
end Go.Proofs.Ytnppfibojcgkmaa
