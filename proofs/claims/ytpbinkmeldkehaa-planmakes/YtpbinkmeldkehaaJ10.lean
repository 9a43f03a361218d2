import Derived.Test.YtpbinkmeldkehaaJ9
import Derived.Deep.CutRange
namespace Go.Proofs.Ytpbinkmeldkehaa
open Go Go.Shelf Go.RowKit Go.Lib Go.Sort
set_option maxRecDepth 20000

variable {α : Type} [Inhabited α]
set_option maxHeartbeats 16000000 in
set_option maxRecDepth 1000000 in
/-- slices.symMergeCmpFunc where the first part is one element. -/
theorem symI_one {P : Program} (L : StI P) (enc : α → Value) (p : α → Int) (cf : α → α → Int) (hcf : ∀ x y, cf x y < 0 ↔ p y < p x) (g : Nat) (cb : Array Value) (blk off cap : Nat) (d0 : Array α) (w0 : World)
    (eg : ∀ args w, (callFunc g args).run P w = .ok (.enter g args) w) (hcmp : CmpLays1 P g cb enc cf blk off d0.size w0) (R : Row1 enc w0 blk off d0) (a m b : Nat) (hm : m = a + 1) (d : Array α) (w : World) (hs : d0.size = d.size) (S : SW enc w0 blk off d w) (hab : m < b) (hb : b ≤ d.size) (hsz : d.size < 4611686018427387904) (hY : DescF p (arrF d) m b) :
    Calls P 94 #[.slice (some ⟨blk, off, none⟩) d.size cap, .int .i64 a, .int .i64 m, .int .i64 b, .func (.func g) #[] cb] w fun e w' => e = .returned (.tuple #[]) ∧ ∃ d', d'.size = d.size ∧ SW enc w0 blk off d' w' ∧ Merged p (arrF d) (arrF d') a b := by
  have mixed := L.mixed
  have t0 := L.t0; have a0 := L.a0; have z0 := L.z0; have v0 := L.v0
  have t3 := L.t3; have a3 := L.a3; have z3 := L.z3; have v3 := L.v3
  have t4 := L.t4; have a4 := L.a4; have z4 := L.z4; have v4 := L.v4
  have tS := L.tS; have aS := L.aS; have zS := L.zS; have vS := L.vS
  have tF := L.tF; have aF := L.aF; have zF := L.zF; have vF := L.vF
  have tU := L.tU; have aU := L.aU; have zU := L.zU; have vU := L.vU
  have uS := run_underlying L.tS
  have hcl0 := R.hO.cells
  simp only [Value.cells] at hcl0
  have hst := R.hO.store P
  have FG := L.f_symMerge
  have HC : Aside _ := hcmp
  have S0 : Aside (SW enc w0 blk off d w) := S
  have HF : Hid (∀ x y, cf x y < 0 ↔ p y < p x) := hcf
  have HY : Hid (DescF p (arrF d) m b) := hY
  have HM : Hid (m = a + 1) := hm
  have hmz : (m : Int) - (a : Int) = 1 := by omega
  have ham : a < m := by omega
  clear hcmp S hcf hY L hm
  go_enter FG, Try.ntmps94
  go_wp2
  go_loopg [10, 11] (b - m) (fun kx s10 s11 wr => ∃ (i j : Nat), s10 = .int .i64 i ∧ s11 = .int .i64 j ∧ m ≤ i ∧ i ≤ j ∧ j ≤ b ∧ j - i ≤ kx ∧ Aside (SW enc w0 blk off d wr) ∧ Hid (i = m ∨ p (arrF d a) < p (arrF d (i - 1))) ∧ Hid (j = b ∨ p (arrF d j) ≤ p (arrF d a)))
  case atStart => exact ⟨m, b, rfl, rfl, Nat.le_refl _, by omega, Nat.le_refl _, Nat.le_refl _, S0, .inl rfl, .inl rfl⟩
  case round =>
    clear S0
    obtain ⟨i, j, rfl, rfl, hai, hij, hjb, hkx, S1, HI, HJ⟩ := hrel
    by_cases hlt : i < j
    · have hltz : (i : Int) < (j : Int) := by omega
      obtain ⟨h, hh⟩ : ∃ h, h = (i + j) / 2 := ⟨_, rfl⟩
      have hhz : ((i : Int) + (j : Int)) / 2 = (h : Int) := by omega
      have hh1 : i ≤ h := by omega
      have hh2 : h < j := by omega
      clear hh
      by_cases hv : cf d[h]! d[a]! < 0
      · have HN : Hid (h + 1 = m ∨ p (arrF d a) < p (arrF d (h + 1 - 1))) := .inr ((HF.out _ _).1 hv)
        obtain ⟨iN24, hiN24⟩ : ∃ qN, qN = h := ⟨_, rfl⟩
        obtain ⟨jN24, hjN24⟩ : ∃ qN, qN = a := ⟨_, rfl⟩
        have ea24 : ((h : Int)).toNat = iN24 := by omega
        have pa24 : (0 : Int) ≤ (h : Int) := by omega
        have ba24 : (h : Int) < (d.size : Int) := by omega
        have ra24 : IntKind.i64.wrap ((h : Int)) = (h : Int) := by rw [IntKind.wrap_i64]; omega
        have ec24 : ((a : Int)).toNat = jN24 := by omega
        have pc24 : (0 : Int) ≤ (a : Int) := by omega
        have bc24 : (a : Int) < (d.size : Int) := by omega
        have rc24 : IntKind.i64.wrap ((a : Int)) = (a : Int) := by rw [IntKind.wrap_i64]; omega
        obtain ⟨x24, hx24⟩ : ∃ x, x = d[h]! := ⟨_, rfl⟩
        obtain ⟨y24, hy24⟩ : ∃ x, x = d[a]! := ⟨_, rfl⟩
        have l24a := S1.out.cl R (by omega) (h) (by omega)
        have l24b := S1.out.cl R (by omega) (a) (by omega)
        rw [← hx24, ← hiN24] at l24a
        rw [← hy24, ← hjN24] at l24b
        have hc24 := S1.out.cmp HC.out (by omega) x24 y24
        have hv24 : cf x24 y24 < 0 := by rw [hx24, hy24]; exact hv
        have hd24 : decide (cf x24 y24 < 0) = true := decide_eq_true hv24
        clear hx24 hy24 hiN24 hjN24 hv
        go_wp2_with fail
        go_quiet_grown (first | (go_at_fn g; refine Calls.grown_of (hc24 _ _)))
        have S2 : Aside (SW enc w0 blk off d (grow (wr.drewN nq) osq)) := S1.out.grown nq osq
        clear l24a l24b hc24 S1
        generalize grow (wr.drewN nq) osq = w2 at S2 ⊢
        clear nq osq
        clear ea24 ec24
        go_wp2
        go_roundg (j - (h + 1))
        case measure => omega
        case rel => exact ⟨h + 1, j, by go_num, rfl, by omega, by omega, hjb, Nat.le_refl _, S2, HN, HJ⟩
      · have HN : Hid (h = b ∨ p (arrF d h) ≤ p (arrF d a)) := .inr (by have := mt (HF.out d[h]! d[a]!).2 hv; exact Int.not_lt.1 this)
        obtain ⟨iN25, hiN25⟩ : ∃ qN, qN = h := ⟨_, rfl⟩
        obtain ⟨jN25, hjN25⟩ : ∃ qN, qN = a := ⟨_, rfl⟩
        have ea25 : ((h : Int)).toNat = iN25 := by omega
        have pa25 : (0 : Int) ≤ (h : Int) := by omega
        have ba25 : (h : Int) < (d.size : Int) := by omega
        have ra25 : IntKind.i64.wrap ((h : Int)) = (h : Int) := by rw [IntKind.wrap_i64]; omega
        have ec25 : ((a : Int)).toNat = jN25 := by omega
        have pc25 : (0 : Int) ≤ (a : Int) := by omega
        have bc25 : (a : Int) < (d.size : Int) := by omega
        have rc25 : IntKind.i64.wrap ((a : Int)) = (a : Int) := by rw [IntKind.wrap_i64]; omega
        obtain ⟨x25, hx25⟩ : ∃ x, x = d[h]! := ⟨_, rfl⟩
        obtain ⟨y25, hy25⟩ : ∃ x, x = d[a]! := ⟨_, rfl⟩
        have l25a := S1.out.cl R (by omega) (h) (by omega)
        have l25b := S1.out.cl R (by omega) (a) (by omega)
        rw [← hx25, ← hiN25] at l25a
        rw [← hy25, ← hjN25] at l25b
        have hc25 := S1.out.cmp HC.out (by omega) x25 y25
        have hv25 : ¬ cf x25 y25 < 0 := by rw [hx25, hy25]; exact hv
        have hd25 : decide (cf x25 y25 < 0) = false := decide_eq_false hv25
        clear hx25 hy25 hiN25 hjN25 hv
        go_wp2_with fail
        go_quiet_grown (first | (go_at_fn g; refine Calls.grown_of (hc25 _ _)))
        have S2 : Aside (SW enc w0 blk off d (grow (wr.drewN nq) osq)) := S1.out.grown nq osq
        clear l25a l25b hc25 S1
        generalize grow (wr.drewN nq) osq = w2 at S2 ⊢
        clear nq osq
        clear ea25 ec25
        go_wp2
        go_roundg (h - i)
        case measure => omega
        case rel => exact ⟨i, h, rfl, rfl, hai, hh1, by omega, Nat.le_refl _, S2, HI, HN⟩
    · have hltz : ¬ (i : Int) < (j : Int) := by omega
      obtain rfl : i = j := by omega
      go_wp2
      go_loopg [13] b (fun kx s13 wr2 => ∃ (q : Nat) (dk : Array α), s13 = .int .i64 q ∧ a ≤ q ∧ q + 1 ≤ i ∧ i - q ≤ kx ∧ dk.size = d.size ∧ Aside (SW enc w0 blk off dk wr2) ∧ Hid (arrF dk = rotF (arrF d) a (a + 1) (q + 1)))
      case atStart => exact ⟨a, d, rfl, Nat.le_refl _, by omega, by omega, rfl, S1, (rot_up0 _ _).symm⟩
      case round =>
        clear S1
        obtain ⟨q, dk, rfl, haq, hqi, hkx2, hds, S1, HE⟩ := hrel
        by_cases hq : q + 1 < i
        · have hqz : (q : Int) < (i : Int) - 1 := by omega
          have HE2 : Hid (arrF (swp dk q (q + 1)) = rotF (arrF d) a (a + 1) (q + 1 + 1)) := by
            show _ = _
            rw [swp_fun dk _ _ (by omega) (by omega), HE.out, rot_up _ _ _ haq]
          go_wp2_with fail
          obtain ⟨iN44, hiN44⟩ : ∃ qN, qN = q := ⟨_, rfl⟩
          obtain ⟨jN44, hjN44⟩ : ∃ qN, qN = q + 1 := ⟨_, rfl⟩
          have ea44 : ((q : Int)).toNat = iN44 := by omega
          have pa44 : (0 : Int) ≤ (q : Int) := by omega
          have ba44 : (q : Int) < (d.size : Int) := by omega
          have ra44 : IntKind.i64.wrap ((q : Int)) = (q : Int) := by rw [IntKind.wrap_i64]; omega
          have ec44 : ((q : Int) + 1).toNat = jN44 := by omega
          have pc44 : (0 : Int) ≤ (q : Int) + 1 := by omega
          have bc44 : (q : Int) + 1 < (d.size : Int) := by omega
          have rc44 : IntKind.i64.wrap ((q : Int) + 1) = (q : Int) + 1 := by rw [IntKind.wrap_i64]; omega
          obtain ⟨x44, hx44⟩ : ∃ x, x = dk[q]! := ⟨_, rfl⟩
          obtain ⟨y44, hy44⟩ : ∃ x, x = dk[q + 1]! := ⟨_, rfl⟩
          have S2 : Aside (SW enc w0 blk off (swp dk (q) (q + 1)) ((wr.setCell ⟨blk, off + iN44, none⟩ (enc y44)).setCell ⟨blk, off + jN44, none⟩ (enc x44)).drew) := by rw [hiN44, hjN44, hx44, hy44]; exact S1.out.swapped R (q) (q + 1) (by omega) (by omega)
          have c44a := S1.out.c1 R (by omega) (q) (by omega)
          have c44b := S1.out.c1 R (by omega) (q + 1) (by omega)
          have f44a := S1.out.f1 R (by omega) (q) (by omega)
          have f44b := S1.out.f1 R (by omega) (q + 1) (by omega)
          obtain ⟨u44, c44c⟩ := S1.out.c2 R (by omega) (q) (q + 1) (by omega) (by omega) (enc y44)
          rw [← hjN44, ← hiN44] at c44c
          rw [← hx44, ← hiN44] at c44a
          rw [← hy44, ← hjN44] at c44b
          rw [← hiN44] at f44a
          rw [← hjN44] at f44b
          clear S1 hx44 hy44 hiN44 hjN44
          go_wp2_with fail
          go_big_region_o
          clear c44a c44b c44c f44a f44b
          generalize ((wr.setCell ⟨blk, off + iN44, none⟩ (enc y44)).setCell ⟨blk, off + jN44, none⟩ (enc x44)).drew = w2 at S2 ⊢
          clear ea44 ec44
          go_wp2
          go_roundg (i - (q + 1))
          case measure => omega
          case rel => exact ⟨q + 1, swp dk q (q + 1), by go_num, by omega, by omega, Nat.le_refl _, by rw [size_swp]; exact hds, S2, HE2⟩
        · have hqz : ¬ (q : Int) < (i : Int) - 1 := by omega
          obtain rfl : i = q + 1 := by omega
          go_wp2
          (try simp only [Exit.inBlock, Exit.then]); refine bodyPost_ret (results_none rfl _ _ _) rfl ?_
          refine ⟨rfl, dk, hds, S1.out, ?_⟩
          rw [HE.out]
          obtain rfl := HM.out
          exact merged_one (by omega) hjb HY.out HI.out HJ.out
set_option maxHeartbeats 16000000 in
set_option maxRecDepth 1000000 in
/-- slices.symMergeCmpFunc where the second part is one element. -/
theorem symI_last {P : Program} (L : StI P) (enc : α → Value) (p : α → Int) (cf : α → α → Int) (hcf : ∀ x y, cf x y < 0 ↔ p y < p x) (g : Nat) (cb : Array Value) (blk off cap : Nat) (d0 : Array α) (w0 : World)
    (eg : ∀ args w, (callFunc g args).run P w = .ok (.enter g args) w) (hcmp : CmpLays1 P g cb enc cf blk off d0.size w0) (R : Row1 enc w0 blk off d0) (a m b : Nat) (hm : b = m + 1) (d : Array α) (w : World) (hs : d0.size = d.size) (S : SW enc w0 blk off d w) (ham : a + 1 < m) (hb : b ≤ d.size) (hsz : d.size < 4611686018427387904) (hX : DescF p (arrF d) a m) :
    Calls P 94 #[.slice (some ⟨blk, off, none⟩) d.size cap, .int .i64 a, .int .i64 m, .int .i64 b, .func (.func g) #[] cb] w fun e w' => e = .returned (.tuple #[]) ∧ ∃ d', d'.size = d.size ∧ SW enc w0 blk off d' w' ∧ Merged p (arrF d) (arrF d') a b := by
  have mixed := L.mixed
  have t0 := L.t0; have a0 := L.a0; have z0 := L.z0; have v0 := L.v0
  have t3 := L.t3; have a3 := L.a3; have z3 := L.z3; have v3 := L.v3
  have t4 := L.t4; have a4 := L.a4; have z4 := L.z4; have v4 := L.v4
  have tS := L.tS; have aS := L.aS; have zS := L.zS; have vS := L.vS
  have tF := L.tF; have aF := L.aF; have zF := L.zF; have vF := L.vF
  have tU := L.tU; have aU := L.aU; have zU := L.zU; have vU := L.vU
  have uS := run_underlying L.tS
  have hcl0 := R.hO.cells
  simp only [Value.cells] at hcl0
  have hst := R.hO.store P
  have FG := L.f_symMerge
  have HC : Aside _ := hcmp
  have S0 : Aside (SW enc w0 blk off d w) := S
  have HF : Hid (∀ x y, cf x y < 0 ↔ p y < p x) := hcf
  have HX : Hid (DescF p (arrF d) a m) := hX
  have hne : (((m : Int) - (a : Int)) == 1) = false := by simp; omega
  have HM : Hid (b = m + 1) := hm
  have hmz : (b : Int) - (m : Int) = 1 := by omega
  have hmb : m < b := by omega
  clear hcmp S hcf hX L hm
  go_enter FG, Try.ntmps94
  go_wp2
  go_loopg [14, 15] (m - a) (fun kx s10 s11 wr => ∃ (i j : Nat), s10 = .int .i64 i ∧ s11 = .int .i64 j ∧ a ≤ i ∧ i ≤ j ∧ j ≤ m ∧ j - i ≤ kx ∧ Aside (SW enc w0 blk off d wr) ∧ Hid (i = a ∨ p (arrF d m) ≤ p (arrF d (i - 1))) ∧ Hid (j = m ∨ p (arrF d j) < p (arrF d m)))
  case atStart => exact ⟨a, m, rfl, rfl, Nat.le_refl _, by omega, Nat.le_refl _, Nat.le_refl _, S0, .inl rfl, .inl rfl⟩
  case round =>
    clear S0
    obtain ⟨i, j, rfl, rfl, hai, hij, hjb, hkx, S1, HI, HJ⟩ := hrel
    by_cases hlt : i < j
    · have hltz : (i : Int) < (j : Int) := by omega
      obtain ⟨h, hh⟩ : ∃ h, h = (i + j) / 2 := ⟨_, rfl⟩
      have hhz : ((i : Int) + (j : Int)) / 2 = (h : Int) := by omega
      have hh1 : i ≤ h := by omega
      have hh2 : h < j := by omega
      clear hh
      by_cases hv : cf d[m]! d[h]! < 0
      · have HN : Hid (h = m ∨ p (arrF d h) < p (arrF d m)) := .inr ((HF.out _ _).1 hv)
        obtain ⟨iN24, hiN24⟩ : ∃ qN, qN = m := ⟨_, rfl⟩
        obtain ⟨jN24, hjN24⟩ : ∃ qN, qN = h := ⟨_, rfl⟩
        have ea24 : ((m : Int)).toNat = iN24 := by omega
        have pa24 : (0 : Int) ≤ (m : Int) := by omega
        have ba24 : (m : Int) < (d.size : Int) := by omega
        have ra24 : IntKind.i64.wrap ((m : Int)) = (m : Int) := by rw [IntKind.wrap_i64]; omega
        have ec24 : ((h : Int)).toNat = jN24 := by omega
        have pc24 : (0 : Int) ≤ (h : Int) := by omega
        have bc24 : (h : Int) < (d.size : Int) := by omega
        have rc24 : IntKind.i64.wrap ((h : Int)) = (h : Int) := by rw [IntKind.wrap_i64]; omega
        obtain ⟨x24, hx24⟩ : ∃ x, x = d[m]! := ⟨_, rfl⟩
        obtain ⟨y24, hy24⟩ : ∃ x, x = d[h]! := ⟨_, rfl⟩
        have l24a := S1.out.cl R (by omega) (m) (by omega)
        have l24b := S1.out.cl R (by omega) (h) (by omega)
        rw [← hx24, ← hiN24] at l24a
        rw [← hy24, ← hjN24] at l24b
        have hc24 := S1.out.cmp HC.out (by omega) x24 y24
        have hv24 : cf x24 y24 < 0 := by rw [hx24, hy24]; exact hv
        have hd24 : decide (cf x24 y24 < 0) = true := decide_eq_true hv24
        clear hx24 hy24 hiN24 hjN24 hv
        go_wp2_with fail
        go_quiet_grown (first | (go_at_fn g; refine Calls.grown_of (hc24 _ _)))
        have S2 : Aside (SW enc w0 blk off d (grow (wr.drewN nq) osq)) := S1.out.grown nq osq
        clear l24a l24b hc24 S1
        generalize grow (wr.drewN nq) osq = w2 at S2 ⊢
        clear nq osq
        clear ea24 ec24
        go_wp2
        go_roundg (h - i)
        case measure => omega
        case rel => exact ⟨i, h, rfl, rfl, hai, hh1, by omega, Nat.le_refl _, S2, HI, HN⟩
      · have HN : Hid (h + 1 = a ∨ p (arrF d m) ≤ p (arrF d (h + 1 - 1))) := .inr (by have := mt (HF.out d[m]! d[h]!).2 hv; exact Int.not_lt.1 this)
        obtain ⟨iN25, hiN25⟩ : ∃ qN, qN = m := ⟨_, rfl⟩
        obtain ⟨jN25, hjN25⟩ : ∃ qN, qN = h := ⟨_, rfl⟩
        have ea25 : ((m : Int)).toNat = iN25 := by omega
        have pa25 : (0 : Int) ≤ (m : Int) := by omega
        have ba25 : (m : Int) < (d.size : Int) := by omega
        have ra25 : IntKind.i64.wrap ((m : Int)) = (m : Int) := by rw [IntKind.wrap_i64]; omega
        have ec25 : ((h : Int)).toNat = jN25 := by omega
        have pc25 : (0 : Int) ≤ (h : Int) := by omega
        have bc25 : (h : Int) < (d.size : Int) := by omega
        have rc25 : IntKind.i64.wrap ((h : Int)) = (h : Int) := by rw [IntKind.wrap_i64]; omega
        obtain ⟨x25, hx25⟩ : ∃ x, x = d[m]! := ⟨_, rfl⟩
        obtain ⟨y25, hy25⟩ : ∃ x, x = d[h]! := ⟨_, rfl⟩
        have l25a := S1.out.cl R (by omega) (m) (by omega)
        have l25b := S1.out.cl R (by omega) (h) (by omega)
        rw [← hx25, ← hiN25] at l25a
        rw [← hy25, ← hjN25] at l25b
        have hc25 := S1.out.cmp HC.out (by omega) x25 y25
        have hv25 : ¬ cf x25 y25 < 0 := by rw [hx25, hy25]; exact hv
        have hd25 : decide (cf x25 y25 < 0) = false := decide_eq_false hv25
        clear hx25 hy25 hiN25 hjN25 hv
        go_wp2_with fail
        go_quiet_grown (first | (go_at_fn g; refine Calls.grown_of (hc25 _ _)))
        have S2 : Aside (SW enc w0 blk off d (grow (wr.drewN nq) osq)) := S1.out.grown nq osq
        clear l25a l25b hc25 S1
        generalize grow (wr.drewN nq) osq = w2 at S2 ⊢
        clear nq osq
        clear ea25 ec25
        go_wp2
        go_roundg (j - (h + 1))
        case measure => omega
        case rel => exact ⟨h + 1, j, by go_num, rfl, by omega, by omega, hjb, Nat.le_refl _, S2, HN, HJ⟩
    · have hltz : ¬ (i : Int) < (j : Int) := by omega
      obtain rfl : i = j := by omega
      go_wp2
      go_loopg [17] (m + 1) (fun kx s13 wr2 => ∃ (q : Nat) (dk : Array α), s13 = .int .i64 q ∧ i ≤ q ∧ q ≤ m ∧ q ≤ kx ∧ dk.size = d.size ∧ Aside (SW enc w0 blk off dk wr2) ∧ Hid (arrF dk = rotF (arrF d) q m (m + 1)))
      case atStart => exact ⟨m, d, rfl, hjb, Nat.le_refl _, by omega, rfl, S1, (rot_down0 _ _).symm⟩
      case round =>
        clear S1
        obtain ⟨q, dk, rfl, haq, hqi, hkx2, hds, S1, HE⟩ := hrel
        by_cases hq : i < q
        · obtain ⟨q', rfl⟩ : ∃ q', q = q' + 1 := ⟨q - 1, by omega⟩
          have hqz : (i : Int) < (q' : Int) + 1 := by omega
          have HE2 : Hid (arrF (swp dk (q' + 1) q') = rotF (arrF d) q' m (m + 1)) := by
            show _ = _
            rw [swp_fun dk _ _ (by omega) (by omega), HE.out, rot_down _ _ _ (by omega)]
          go_wp2_with fail
          obtain ⟨iN44, hiN44⟩ : ∃ qN, qN = q' + 1 := ⟨_, rfl⟩
          obtain ⟨jN44, hjN44⟩ : ∃ qN, qN = q' := ⟨_, rfl⟩
          have ea44 : ((q' : Int) + 1).toNat = iN44 := by omega
          have pa44 : (0 : Int) ≤ (q' : Int) + 1 := by omega
          have ba44 : (q' : Int) + 1 < (d.size : Int) := by omega
          have ra44 : IntKind.i64.wrap ((q' : Int) + 1) = (q' : Int) + 1 := by rw [IntKind.wrap_i64]; omega
          have ec44 : ((q' : Int)).toNat = jN44 := by omega
          have pc44 : (0 : Int) ≤ (q' : Int) := by omega
          have bc44 : (q' : Int) < (d.size : Int) := by omega
          have rc44 : IntKind.i64.wrap ((q' : Int)) = (q' : Int) := by rw [IntKind.wrap_i64]; omega
          obtain ⟨x44, hx44⟩ : ∃ x, x = dk[q' + 1]! := ⟨_, rfl⟩
          obtain ⟨y44, hy44⟩ : ∃ x, x = dk[q']! := ⟨_, rfl⟩
          have S2 : Aside (SW enc w0 blk off (swp dk (q' + 1) (q')) ((wr.setCell ⟨blk, off + iN44, none⟩ (enc y44)).setCell ⟨blk, off + jN44, none⟩ (enc x44)).drew) := by rw [hiN44, hjN44, hx44, hy44]; exact S1.out.swapped R (q' + 1) (q') (by omega) (by omega)
          have c44a := S1.out.c1 R (by omega) (q' + 1) (by omega)
          have c44b := S1.out.c1 R (by omega) (q') (by omega)
          have f44a := S1.out.f1 R (by omega) (q' + 1) (by omega)
          have f44b := S1.out.f1 R (by omega) (q') (by omega)
          obtain ⟨u44, c44c⟩ := S1.out.c2 R (by omega) (q' + 1) (q') (by omega) (by omega) (enc y44)
          rw [← hiN44, ← hjN44] at c44c
          rw [← hx44, ← hiN44] at c44a
          rw [← hy44, ← hjN44] at c44b
          rw [← hiN44] at f44a
          rw [← hjN44] at f44b
          clear S1 hx44 hy44 hiN44 hjN44
          go_wp2_with fail
          go_big_region_o
          clear c44a c44b c44c f44a f44b
          generalize ((wr.setCell ⟨blk, off + iN44, none⟩ (enc y44)).setCell ⟨blk, off + jN44, none⟩ (enc x44)).drew = w2 at S2 ⊢
          clear ea44 ec44
          go_wp2
          go_roundg q'
          case measure => omega
          case rel => exact ⟨q', swp dk (q' + 1) q', by first | rfl | go_num, by omega, by omega, Nat.le_refl _, by rw [size_swp]; exact hds, S2, HE2⟩
        · have hqz : ¬ (i : Int) < (q : Int) := by omega
          obtain rfl : i = q := by omega
          go_wp2
          (try simp only [Exit.inBlock, Exit.then]); refine bodyPost_ret (results_none rfl _ _ _) rfl ?_
          refine ⟨rfl, dk, hds, S1.out, ?_⟩
          rw [HE.out]
          obtain rfl := HM.out
          exact merged_last hai hjb HX.out HI.out HJ.out
end Go.Proofs.Ytpbinkmeldkehaa
namespace Go.Proofs.Ytpbinkmeldkehaa
open Go Go.Shelf Go.RowKit Go.Lib Go.Sort
set_option maxRecDepth 20000

variable {α : Type} [Inhabited α]
set_option maxHeartbeats 16000000 in
set_option maxRecDepth 1000000 in
/-- slices.symMergeCmpFunc: two sorted parts side by side become one, those of one number in their order. -/
theorem symI_step {P : Program} (L : StI P) (enc : α → Value) (p : α → Int) (cf : α → α → Int) (hcf : ∀ x y, cf x y < 0 ↔ p y < p x) (g : Nat) (cb : Array Value) (blk off cap : Nat) (d0 : Array α) (w0 : World)
    (eg : ∀ args w, (callFunc g args).run P w = .ok (.enter g args) w) (hcmp : CmpLays1 P g cb enc cf blk off d0.size w0) (R : Row1 enc w0 blk off d0) (N : Nat)
    (IH : Hid (∀ (a m b : Nat) (d : Array α) (w : World), b - a ≤ N → d0.size = d.size → SW enc w0 blk off d w → a < m → m < b → b ≤ d.size → d.size < 4611686018427387904 → DescF p (arrF d) a m → DescF p (arrF d) m b →
      Calls P 94 #[.slice (some ⟨blk, off, none⟩) d.size cap, .int .i64 a, .int .i64 m, .int .i64 b, .func (.func g) #[] cb] w fun e w' => e = .returned (.tuple #[]) ∧ ∃ d', d'.size = d.size ∧ SW enc w0 blk off d' w' ∧ Merged p (arrF d) (arrF d') a b))
    (a m b : Nat) (d : Array α) (w : World) (hN : b - a ≤ N + 1) (hs : d0.size = d.size) (S : SW enc w0 blk off d w) (ham : a + 1 < m) (hmb : m + 1 < b) (hb : b ≤ d.size) (hsz : d.size < 4611686018427387904) (hX : DescF p (arrF d) a m) (hY : DescF p (arrF d) m b) :
    Calls P 94 #[.slice (some ⟨blk, off, none⟩) d.size cap, .int .i64 a, .int .i64 m, .int .i64 b, .func (.func g) #[] cb] w fun e w' => e = .returned (.tuple #[]) ∧ ∃ d', d'.size = d.size ∧ SW enc w0 blk off d' w' ∧ Merged p (arrF d) (arrF d') a b := by
  have mixed := L.mixed
  have t0 := L.t0; have a0 := L.a0; have z0 := L.z0; have v0 := L.v0
  have t3 := L.t3; have a3 := L.a3; have z3 := L.z3; have v3 := L.v3
  have t4 := L.t4; have a4 := L.a4; have z4 := L.z4; have v4 := L.v4
  have tS := L.tS; have aS := L.aS; have zS := L.zS; have vS := L.vS
  have tF := L.tF; have aF := L.aF; have zF := L.zF; have vF := L.vF
  have tU := L.tU; have aU := L.aU; have zU := L.zU; have vU := L.vU
  have uS := run_underlying L.tS
  have hcl0 := R.hO.cells
  simp only [Value.cells] at hcl0
  have hst := R.hO.store P
  have FG := L.f_symMerge
  have e96 : ∀ args w, (callFunc 96 args).run P w = .ok (.enter 96 args) w := enters_of L.f_rotate (by kernel_rfl) rfl
  have e94 : ∀ args w, (callFunc 94 args).run P w = .ok (.enter 94 args) w := enters_of L.f_symMerge (by kernel_rfl) rfl
  have HC : Aside _ := hcmp
  have S0 : Aside (SW enc w0 blk off d w) := S
  have HF : Hid (∀ x y, cf x y < 0 ↔ p y < p x) := hcf
  have HX : Hid (DescF p (arrF d) a m) := hX
  have HY : Hid (DescF p (arrF d) m b) := hY
  have hne : (((m : Int) - (a : Int)) == 1) = false := by simp; omega
  have hne2 : (((b : Int) - (m : Int)) == 1) = false := by simp; omega
  have LL : Hid (StI P) := L
  have HCM : Hid (CmpLays1 P g cb enc cf blk off d0.size w0) := hcmp
  obtain ⟨mid, hm0⟩ : ∃ h, h = (a + b) / 2 := ⟨_, rfl⟩
  have hmz : ((a : Int) + (b : Int)) / 2 = (mid : Int) := by omega
  have hm1 : a < mid := by omega
  have hm2 : mid < b := by omega
  have hm3 : a + b ≤ mid + mid + 1 := by omega
  have hm4 : mid + mid ≤ a + b := by omega
  clear hcmp S hcf hX hY L hm0
  go_enter FG, Try.ntmps94
  go_upto_if 140 with fail
  generalize hb : decide ((mid : Int) < (m : Int)) = tb
  have HB : Hid (decide ((mid : Int) < (m : Int)) = tb) := hb
  clear hb
  go_cut [20, 21] from 141 to 146 (fun s20 s21 wx => ∃ (s r : Nat), s20 = .int .i64 s ∧ s21 = .int .i64 r ∧ a ≤ s ∧ s ≤ r ∧ r ≤ m ∧ mid + m ≤ b + s ∧ r ≤ mid ∧ Hid ((s = a ∨ s + b = mid + m) ∧ (r = m ∨ r = mid)) ∧ Aside (SW enc w0 blk off d wx))
  case first =>
    cases tb with
    | true =>
      have h : mid < m := by have := of_decide_eq_true HB.out; omega
      go_wp2
      go_meet
      case rel => exact ⟨mid + m - b, mid, by rw [show ((mid + m - b : Nat) : Int) = (mid : Int) + (m : Int) - (b : Int) by omega], rfl, by omega, by omega, by omega, by omega, by omega, ⟨.inr (by omega), .inr rfl⟩, S0⟩
    | false =>
      have h : ¬ mid < m := by have := of_decide_eq_false HB.out; omega
      go_wp2
      go_meet
      case rel => exact ⟨a, m, rfl, rfl, by omega, by omega, by omega, by omega, by omega, ⟨.inl rfl, .inl rfl⟩, S0⟩
  case rest =>
    clear S0
    obtain ⟨s0, r0, rfl, rfl, hs1, hs2, hs3, hs4, hs5, HSR, S0⟩ := hcut
    go_wp2
    go_loopg [20, 21] (r0 - s0) (fun kx s20 s21 wr => ∃ (i j : Nat), s20 = .int .i64 i ∧ s21 = .int .i64 j ∧ s0 ≤ i ∧ i ≤ j ∧ j ≤ r0 ∧ j - i ≤ kx ∧ Aside (SW enc w0 blk off d wr) ∧ Hid (i = s0 ∨ p (arrF d (mid + m - i)) ≤ p (arrF d (i - 1))) ∧ Hid (j = r0 ∨ p (arrF d j) < p (arrF d (mid + m - j - 1))))
    case atStart => exact ⟨s0, r0, rfl, rfl, Nat.le_refl _, hs2, Nat.le_refl _, Nat.le_refl _, S0, .inl rfl, .inl rfl⟩
    case round =>
      clear S0
      obtain ⟨i, j, rfl, rfl, hai, hij, hjb, hkx, S1, HI, HJ⟩ := hrel
      by_cases hlt : i < j
      · have hltz : (i : Int) < (j : Int) := by omega
        obtain ⟨h, hh⟩ : ∃ h, h = (i + j) / 2 := ⟨_, rfl⟩
        have hhz : ((i : Int) + (j : Int)) / 2 = (h : Int) := by omega
        have hh1 : i ≤ h := by omega
        have hh2 : h < j := by omega
        clear hh
        obtain ⟨u, hu⟩ : ∃ u, u = mid + m - 1 - h := ⟨_, rfl⟩
        have huz : (mid : Int) + (m : Int) - 1 - (h : Int) = (u : Int) := by omega
        have hub : u < b := by omega
        have HU : Hid (u = mid + m - 1 - h) := hu
        clear hu
        by_cases hv : cf d[u]! d[h]! < 0
        · have HN : Hid (h = r0 ∨ p (arrF d h) < p (arrF d (mid + m - h - 1))) := .inr (by have hu := HU.out; rw [show mid + m - h - 1 = u by omega]; exact (HF.out _ _).1 hv)
          obtain ⟨iN24, hiN24⟩ : ∃ qN, qN = u := ⟨_, rfl⟩
          obtain ⟨jN24, hjN24⟩ : ∃ qN, qN = h := ⟨_, rfl⟩
          have ea24 : ((u : Int)).toNat = iN24 := by omega
          have pa24 : (0 : Int) ≤ (u : Int) := by omega
          have ba24 : (u : Int) < (d.size : Int) := by omega
          have ra24 : IntKind.i64.wrap ((u : Int)) = (u : Int) := by rw [IntKind.wrap_i64]; omega
          have ec24 : ((h : Int)).toNat = jN24 := by omega
          have pc24 : (0 : Int) ≤ (h : Int) := by omega
          have bc24 : (h : Int) < (d.size : Int) := by omega
          have rc24 : IntKind.i64.wrap ((h : Int)) = (h : Int) := by rw [IntKind.wrap_i64]; omega
          obtain ⟨x24, hx24⟩ : ∃ x, x = d[u]! := ⟨_, rfl⟩
          obtain ⟨y24, hy24⟩ : ∃ x, x = d[h]! := ⟨_, rfl⟩
          have l24a := S1.out.cl R (by omega) (u) (by omega)
          have l24b := S1.out.cl R (by omega) (h) (by omega)
          rw [← hx24, ← hiN24] at l24a
          rw [← hy24, ← hjN24] at l24b
          have hc24 := S1.out.cmp HC.out (by omega) x24 y24
          have hv24 : cf x24 y24 < 0 := by rw [hx24, hy24]; exact hv
          have hd24 : decide (cf x24 y24 < 0) = true := decide_eq_true hv24
          clear hx24 hy24 hiN24 hjN24 hv
          go_wp2_with fail
          go_quiet_grown (first | (go_at_fn g; refine Calls.grown_of (hc24 _ _)))
          have S2 : Aside (SW enc w0 blk off d (grow (wr.drewN nq) osq)) := S1.out.grown nq osq
          clear l24a l24b hc24 S1
          generalize grow (wr.drewN nq) osq = w2 at S2 ⊢
          clear nq osq
          clear ea24 ec24
          go_wp2
          go_roundg (h - i)
          case measure => omega
          case rel => exact ⟨i, h, rfl, rfl, hai, hh1, by omega, Nat.le_refl _, S2, HI, HN⟩
        · have HN : Hid (h + 1 = s0 ∨ p (arrF d (mid + m - (h + 1))) ≤ p (arrF d (h + 1 - 1))) := .inr (by have := mt (HF.out d[u]! d[h]!).2 hv; have hu := HU.out; rw [show mid + m - (h + 1) = u by omega]; exact Int.not_lt.1 this)
          obtain ⟨iN25, hiN25⟩ : ∃ qN, qN = u := ⟨_, rfl⟩
          obtain ⟨jN25, hjN25⟩ : ∃ qN, qN = h := ⟨_, rfl⟩
          have ea25 : ((u : Int)).toNat = iN25 := by omega
          have pa25 : (0 : Int) ≤ (u : Int) := by omega
          have ba25 : (u : Int) < (d.size : Int) := by omega
          have ra25 : IntKind.i64.wrap ((u : Int)) = (u : Int) := by rw [IntKind.wrap_i64]; omega
          have ec25 : ((h : Int)).toNat = jN25 := by omega
          have pc25 : (0 : Int) ≤ (h : Int) := by omega
          have bc25 : (h : Int) < (d.size : Int) := by omega
          have rc25 : IntKind.i64.wrap ((h : Int)) = (h : Int) := by rw [IntKind.wrap_i64]; omega
          obtain ⟨x25, hx25⟩ : ∃ x, x = d[u]! := ⟨_, rfl⟩
          obtain ⟨y25, hy25⟩ : ∃ x, x = d[h]! := ⟨_, rfl⟩
          have l25a := S1.out.cl R (by omega) (u) (by omega)
          have l25b := S1.out.cl R (by omega) (h) (by omega)
          rw [← hx25, ← hiN25] at l25a
          rw [← hy25, ← hjN25] at l25b
          have hc25 := S1.out.cmp HC.out (by omega) x25 y25
          have hv25 : ¬ cf x25 y25 < 0 := by rw [hx25, hy25]; exact hv
          have hd25 : decide (cf x25 y25 < 0) = false := decide_eq_false hv25
          clear hx25 hy25 hiN25 hjN25 hv
          go_wp2_with fail
          go_quiet_grown (first | (go_at_fn g; refine Calls.grown_of (hc25 _ _)))
          have S2 : Aside (SW enc w0 blk off d (grow (wr.drewN nq) osq)) := S1.out.grown nq osq
          clear l25a l25b hc25 S1
          generalize grow (wr.drewN nq) osq = w2 at S2 ⊢
          clear nq osq
          clear ea25 ec25
          go_wp2
          go_roundg (j - (h + 1))
          case measure => omega
          case rel => exact ⟨h + 1, j, by go_num, rfl, by omega, by omega, hjb, Nat.le_refl _, S2, HN, HJ⟩
      · have hltz : ¬ (i : Int) < (j : Int) := by omega
        obtain rfl : i = j := by omega
        obtain ⟨en, hen⟩ : ∃ en, en = mid + m - i := ⟨_, rfl⟩
        have henz : (mid : Int) + (m : Int) - (i : Int) = (en : Int) := by omega
        have hsum : i + en = mid + m := by omega
        have h1 : a ≤ i := by omega
        have h2 : i ≤ m := by omega
        have h3 : m ≤ en := by omega
        have h4 : en ≤ b := by omega
        have Q : Hid ((i = a ∨ en = b ∨ p (arrF d en) ≤ p (arrF d (i - 1))) ∧ (i = m ∨ en = m ∨ p (arrF d i) < p (arrF d (en - 1)))) := by
          obtain ⟨g1, g2⟩ := HSR.out
          refine ⟨?_, ?_⟩
          · rcases HI.out with e | e
            · rcases g1 with g1 | g1
              · left; omega
              · right; left; omega
            · right; right; rw [hen]; exact e
          · rcases HJ.out with e | e
            · rcases g2 with g2 | g2
              · left; omega
              · right; left; omega
            · right; right; rw [hen]; exact e
        clear hen HSR HI HJ
        go_upto_region 39 with fail
        go_cut [185] from 178 to 185 (fun c wx => c = .bool (decide (i < m ∧ m < en)) ∧ Aside (SW enc w0 blk off d wx))
        case first =>
          by_cases c1 : i < m
          · have c1z : (i : Int) < (m : Int) := by omega
            by_cases c2 : m < en
            · have c2z : (m : Int) < (en : Int) := by omega
              have HV : Hid (decide (i < m ∧ m < en) = true) := decide_eq_true ⟨c1, c2⟩
              go_wp2
              go_meet
              case rel => exact ⟨by rw [HV.out], S1⟩
            · have c2z : ¬ (m : Int) < (en : Int) := by omega
              have HV : Hid (decide (i < m ∧ m < en) = false) := decide_eq_false (by omega)
              go_wp2
              go_meet
              case rel => exact ⟨by rw [HV.out], S1⟩
          · have c1z : ¬ (i : Int) < (m : Int) := by omega
            have HV : Hid (decide (i < m ∧ m < en) = false) := decide_eq_false (by omega)
            go_wp2
            go_meet
            case rel => exact ⟨by rw [HV.out], S1⟩
        case rest =>
        clear S1
        obtain ⟨rfl, S1⟩ := hcut
        generalize hb1 : decide (i < m ∧ m < en) = tb1
        have HB1 : Hid (decide (i < m ∧ m < en) = tb1) := hb1
        clear hb1
        go_upto_if 185 with fail
        go_cut [] from 186 to 191 (fun wx => ∃ d1 : Array α, d1.size = d.size ∧ arrF d1 = rotF (arrF d) i m en ∧ Aside (SW enc w0 blk off d1 wx))
        case first =>
          cases tb1 with
          | true =>
            obtain ⟨c1, c2⟩ := of_decide_eq_true HB1.out
            have hc := rotateI LL.out enc g cb blk off cap i m en d0 d w0 wc R hs S1.out c1 c2 (by omega) hsz
            clear S1
            go_wp2_with (go_at_fn 96; refine hc.mono ?_; rintro e w1 ⟨rfl, d1, hd1, S3, hE⟩)
            go_meet
            case rel => exact ⟨d1, hd1, hE, S3⟩
          | false =>
            have hE : Hid (arrF d = rotF (arrF d) i m en) := by
              have := of_decide_eq_false HB1.out
              by_cases c1 : i = m
              · rw [c1, rot_none1]; rfl
              · have c2 : en = m := by omega
                rw [c2, rot_none2]; rfl
            go_wp2
            go_meet
            case rel => exact ⟨d, rfl, hE.out, S1⟩
        case rest =>
          clear S1
          obtain ⟨d1, hd1, hE1, S1⟩ := hcut
          clear HB1
          have HE1 : Hid (arrF d1 = rotF (arrF d) i m en) := hE1
          clear hE1
          go_upto_region 41 with fail
          go_cut [199] from 192 to 199 (fun c wx => c = .bool (decide (a < i ∧ i < mid)) ∧ Aside (SW enc w0 blk off d1 wx))
          case first =>
            by_cases c1 : a < i
            · have c1z : (a : Int) < (i : Int) := by omega
              by_cases c2 : i < mid
              · have c2z : (i : Int) < (mid : Int) := by omega
                have HV : Hid (decide (a < i ∧ i < mid) = true) := decide_eq_true ⟨c1, c2⟩
                go_wp2
                go_meet
                case rel => exact ⟨by rw [HV.out], S1⟩
              · have c2z : ¬ (i : Int) < (mid : Int) := by omega
                have HV : Hid (decide (a < i ∧ i < mid) = false) := decide_eq_false (by omega)
                go_wp2
                go_meet
                case rel => exact ⟨by rw [HV.out], S1⟩
            · have c1z : ¬ (a : Int) < (i : Int) := by omega
              have HV : Hid (decide (a < i ∧ i < mid) = false) := decide_eq_false (by omega)
              go_wp2
              go_meet
              case rel => exact ⟨by rw [HV.out], S1⟩
          case rest =>
          clear S1
          obtain ⟨rfl, S1⟩ := hcut
          generalize hb2 : decide (a < i ∧ i < mid) = tb2
          have HB2 : Hid (decide (a < i ∧ i < mid) = tb2) := hb2
          clear hb2
          go_upto_if 199 with fail
          go_cut [] from 200 to 205 (fun wx => ∃ d2 : Array α, d2.size = d.size ∧ Merged p (arrF d1) (arrF d2) a mid ∧ Aside (SW enc w0 blk off d2 wx))
          case first =>
            cases tb2 with
            | true =>
              obtain ⟨c1, c2⟩ := of_decide_eq_true HB2.out
              have hc := IH.out a i mid d1 wc (by omega) (by omega) S1.out c1 c2 (by omega) (by omega) (by rw [HE1.out]; exact (HX.out.part (Nat.le_refl _) h2).congr fun t q1 q2 => rotF_out _ h3 h2 (by omega)) (by
                rw [HE1.out]
                intro x y q1 q2 q3
                simp only [rotF]
                rw [if_pos (by omega), if_pos (by omega)]
                exact HY.out _ _ (by omega) (by omega) (by omega))
              rw [hd1] at hc
              clear S1
              go_wp2_with (go_at_fn 94; refine hc.mono ?_; rintro e w1 ⟨rfl, d2, hd2, S3, hE⟩)
              go_meet
              case rel => exact ⟨d2, hd2, hE, S3⟩
            | false =>
              have M : Hid (Merged p (arrF d1) (arrF d1) a mid) := Merged.refl (by rw [HE1.out]; exact merged_none h1 h2 h3 h4 hsum HX.out HY.out (by have := of_decide_eq_false HB2.out; omega))
              go_wp2
              go_meet
              case rel => exact ⟨d1, hd1, M.out, S1⟩
          case rest =>
            clear S1
            obtain ⟨d2, hd2, hM, S1⟩ := hcut
            clear HB2
            have M1 : Hid (Merged p (arrF d1) (arrF d2) a mid) := hM
            have FIN : Hid (∀ g : Nat → α, Merged p (arrF d2) g mid b → Merged p (arrF d) g a b) := fun g hg => merged_step h1 h2 h3 h4 hsum ⟨by omega, by omega⟩ HX.out HY.out Q.out.1 Q.out.2 (by rw [← HE1.out]; exact M1.out) hg
            clear hM
            by_cases c1 : mid < en
            · have c1z : (mid : Int) < (en : Int) := by omega
              by_cases c2 : en < b
              · have c2z : (en : Int) < (b : Int) := by omega
                have hc := IH.out mid en b d2 wc (by omega) (by omega) S1.out c1 c2 (by omega) (by omega) (by
                  intro x y q1 q2 q3
                  rw [M1.out.out y (by omega), M1.out.out x (by omega), HE1.out]
                  simp only [rotF]
                  rw [if_neg (by omega), if_pos (by omega), if_neg (by omega), if_pos (by omega)]
                  exact HX.out _ _ (by omega) (by omega) (by omega)) ((HY.out.part h3 (Nat.le_refl _)).congr fun t q1 q2 => by rw [M1.out.out t (by omega), HE1.out, rotF_out _ h3 h2 (by omega)])
                rw [hd2] at hc
                clear S1
                go_wp2_with (go_at_fn 94; refine hc.mono ?_; rintro e w1 ⟨rfl, d3, hd3, S3, hE⟩)
                go_end0
                exact ⟨rfl, d3, hd3, S3, FIN.out _ hE⟩
              · have c2z : ¬ (en : Int) < (b : Int) := by omega
                have M : Hid (Merged p (arrF d2) (arrF d2) mid b) := Merged.refl (merged_none2 h1 h2 h3 h4 hsum HX.out HY.out (fun t ht => by rw [M1.out.out t (by omega), HE1.out]) (by omega))
                go_wp2
                go_end0
                exact ⟨rfl, d2, hd2, S1.out, FIN.out _ M.out⟩
            · have c1z : ¬ (mid : Int) < (en : Int) := by omega
              have M : Hid (Merged p (arrF d2) (arrF d2) mid b) := Merged.refl (merged_none2 h1 h2 h3 h4 hsum HX.out HY.out (fun t ht => by rw [M1.out.out t (by omega), HE1.out]) (by omega))
              go_wp2
              go_end0
              exact ⟨rfl, d2, hd2, S1.out, FIN.out _ M.out⟩
theorem symMergeI {P : Program} (L : StI P) (enc : α → Value) (p : α → Int) (cf : α → α → Int) (hcf : ∀ x y, cf x y < 0 ↔ p y < p x) (g : Nat) (cb : Array Value) (blk off cap : Nat) (d0 : Array α) (w0 : World)
    (eg : ∀ args w, (callFunc g args).run P w = .ok (.enter g args) w) (hcmp : CmpLays1 P g cb enc cf blk off d0.size w0) (R : Row1 enc w0 blk off d0) : ∀ (N a m b : Nat) (d : Array α) (w : World), b - a ≤ N → d0.size = d.size → SW enc w0 blk off d w → a < m → m < b → b ≤ d.size → d.size < 4611686018427387904 → DescF p (arrF d) a m → DescF p (arrF d) m b →
    Calls P 94 #[.slice (some ⟨blk, off, none⟩) d.size cap, .int .i64 a, .int .i64 m, .int .i64 b, .func (.func g) #[] cb] w fun e w' => e = .returned (.tuple #[]) ∧ ∃ d', d'.size = d.size ∧ SW enc w0 blk off d' w' ∧ Merged p (arrF d) (arrF d') a b
  | 0, a, m, b, d, w, h, _, _, h1, h2, _, _, _, _ => by omega
  | N + 1, a, m, b, d, w, h, hs, S, h1, h2, hb, hsz, hX, hY => by
    by_cases c1 : m = a + 1
    · exact symI_one L enc p cf hcf g cb blk off cap d0 w0 eg hcmp R a m b c1 d w hs S h2 hb hsz hY
    · by_cases c2 : b = m + 1
      · exact symI_last L enc p cf hcf g cb blk off cap d0 w0 eg hcmp R a m b c2 d w hs S (by omega) hb hsz hX
      · exact symI_step L enc p cf hcf g cb blk off cap d0 w0 eg hcmp R N (symMergeI L enc p cf hcf g cb blk off cap d0 w0 eg hcmp R N) a m b d w h hs S (by omega) (by omega) hb hsz hX hY
end Go.Proofs.Ytpbinkmeldkehaa
namespace Go.Proofs.Ytpbinkmeldkehaa
open Go
set_option maxRecDepth 20000

section
variable {α : Type} {p : α → Int}
/-- Sorted block by block, from a place on. -/
def BlkD (p : α → Int) (f : Nat → α) (s lo n : Nat) : Prop := ∀ i j, lo ≤ i → i < j → j < n → i / s = j / s → p (f j) ≤ p (f i)
theorem div_ge {t q j : Nat} (ht : 0 < t) (h : t * q ≤ j) : q ≤ j / t := (Nat.le_div_iff_mul_le ht).2 (by rw [Nat.mul_comm]; exact h)
theorem ge_of_div {t q i : Nat} (ht : 0 < t) (h : q ≤ i / t) : t * q ≤ i := by
  have := (Nat.le_div_iff_mul_le ht).1 h
  rwa [Nat.mul_comm] at this
theorem div_of_in {t q i : Nat} (h1 : t * q ≤ i) (h2 : i < t * q + t) : i / t = q := by
  refine Nat.div_eq_of_lt_le ?_ ?_
  · rw [Nat.mul_comm]; exact h1
  · rw [Nat.add_mul, Nat.one_mul, Nat.mul_comm q t]; exact h2
theorem Merged.whole {f g : Nat → α} {a b n : Nat} (h : Merged p f g a b) (hab : a ≤ b) (hb : b ≤ n) : Alike p (segF g 0 n) (segF f 0 n) := by
  have e : ∀ u : Nat → α, segF u 0 n = segF u 0 a ++ (segF u a (b - a) ++ segF u b (n - b)) := fun u => by
    rw [show n = a + ((b - a) + (n - b)) by omega, segF_add, segF_add, show 0 + a + (b - a) = b by omega, Nat.zero_add, show a + (b - a + (n - b)) - b = n - b by omega]
  rw [e, e]
  refine Alike.app ?_ (Alike.app h.alike ?_)
  · rw [segF_congr (f := g) (g := f) (a := 0) (b := 0) fun i hi => h.out _ (by omega)]; exact Alike.refl _ _
  · rw [segF_congr (f := g) (g := f) (a := b) (b := b) fun i hi => h.out _ (by omega)]; exact Alike.refl _ _
/-- A block more. -/
theorem blk_more {f g : Nat → α} {t q n b : Nat} (ht : 0 < t) (h : BlkD p f t 0 (t * q)) (hb1 : t * q ≤ b) (hb2 : b ≤ t * q + t) (m : Merged p f g (t * q) b) (hn : n = b) : BlkD p g t 0 n := by
  subst hn
  intro i j _ hij hj he
  by_cases c : t * q ≤ j
  · have hi : t * q ≤ i := ge_of_div ht (by rw [he]; exact div_ge ht c)
    exact m.desc i j hi hij hj
  · rw [m.out i (by omega), m.out j (by omega)]
    exact h i j (Nat.zero_le _) hij (by omega) he
/-- What lies behind stays. -/
theorem blk_behind {f g : Nat → α} {s a b n : Nat} (h : BlkD p f s a n) (hab : a ≤ b) (m : Merged p f g a b) : BlkD p g s b n := fun i j hi hij hj he => by
  rw [m.out i (by omega), m.out j (by omega)]
  exact h i j (by omega) hij hj he
theorem blk_desc {f : Nat → α} {s q a n : Nat} (h : BlkD p f s a n) (ha : a ≤ s * q) {b : Nat} (hb : b ≤ s * q + s) (hn : b ≤ n) : DescF p f (s * q) b := fun i j hi hij hj =>
  h i j (by omega) hij (by omega) (by rw [div_of_in hi (by omega), div_of_in (t := s) (q := q) (i := j) (by omega) (by omega)])
theorem blk_all {f : Nat → α} {s n : Nat} (h : BlkD p f s 0 n) (hs : n ≤ s) : DescF p f 0 n := fun i j hi hij hj =>
  h i j hi hij hj (by rw [Nat.div_eq_of_lt (by omega), Nat.div_eq_of_lt (by omega)])
theorem blk_none (f : Nat → α) (s : Nat) : BlkD p f s 0 0 := fun i j _ _ hj _ => by omega
end
end Go.Proofs.Ytpbinkmeldkehaa
