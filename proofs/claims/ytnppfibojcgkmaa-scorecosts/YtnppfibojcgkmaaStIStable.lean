import Derived.Test.YtnppfibojcgkmaaStISymG
import Derived.Test.YtnppfibojcgkmaaStMath2
namespace Go.Proofs.Ytnppfibojcgkmaa
open Go Go.Shelf Go.RowKit Go.Lib Go.Sort
set_option maxRecDepth 20000

def stRenI : Go.Shelf.Ren := ⟨fun | 20 => 44 | n => n, fun | 0 => 0 | 3 => 3 | 4 => 4 | 22 => 30 | 24 => 3 | 25 => 52 | n => n, fun | n => n⟩
theorem stLayI {P : Program} (L : StI P) : SlLaysF.n20 P stRenI where
  mixed := L.mixed
  f20 := ⟨_, by kernel_rfl, L.f_insertionSort.trans (congrArg some (show Try.f44 = { SlBodyF.n20 stRenI with name := Try.f44.name } by kernel_rfl))⟩
  t0 := L.t0
  a0 := L.a0
  z0 := L.z0
  v0 := L.v0
  t3 := L.t3
  a3 := L.a3
  z3 := L.z3
  v3 := L.v3
  t4 := L.t4
  a4 := L.a4
  z4 := L.z4
  v4 := L.v4
  t22 := L.tS
  a22 := L.aS
  z22 := L.zS
  v22 := L.vS
  a24 := L.a3
  z24 := L.z3
  t25 := L.tF
  a25 := L.aF
  z25 := L.zF
  v25 := L.vF
theorem ltOf_ltPI {β : Type} {p : β → Int} {cf : β → β → Int} (hcf : ∀ x y, cf x y < 0 ↔ p y < p x) : ltOf cf = ltP p := by
  funext x y
  unfold ltOf ltP
  rw [Bool.eq_iff_iff, decide_eq_true_iff, decide_eq_true_iff]
  exact hcf x y
variable {α : Type} [Inhabited α]
theorem insI {P : Program} (L : StI P) (enc : α → Value) (p : α → Int) (cf : α → α → Int) (hcf : ∀ x y, cf x y < 0 ↔ p y < p x) (g : Nat) (cb : Array Value) (blk off cap : Nat) (d0 : Array α) (w0 : World)
    (eg : ∀ args w, (callFunc g args).run P w = .ok (.enter g args) w) (hcmp : CmpLays1 P g cb enc cf blk off d0.size w0) (R : Row1 enc w0 blk off d0) (a b : Nat) (d : Array α) (w : World) (hs : d0.size = d.size) (S : SW enc w0 blk off d w) (hab : a ≤ b) (hb : b ≤ d.size) (hsz : d.size < 1152921504606846976) :
    Calls P 44 #[.slice (some ⟨blk, off, none⟩) d.size cap, .int .i64 a, .int .i64 b, .func (.func g) #[] cb] w fun e w' => e = .returned (.tuple #[]) ∧ ∃ d', d'.size = d.size ∧ SW enc w0 blk off d' w' ∧ Merged p (arrF d) (arrF d') a b := by
  have hc := Any.insertionSortCmpFunc_s (stLayI L) enc cf g cb blk off cap a b d0 d w0 w eg hcmp R hs S hab hb (by omega)
  refine hc.mono ?_
  rintro e w' ⟨rfl, S'⟩
  rw [ltOf_ltPI hcf] at S'
  obtain ⟨m1, m2⟩ := ins_merged (p := p) d a b hab hb
  exact ⟨rfl, _, m1, S', m2⟩

set_option maxHeartbeats 16000000 in
set_option maxRecDepth 1000000 in
/-- slices.stableCmpFunc: sorted by the falling number, those of one number in their order. -/
theorem stableI {P : Program} (L : StI P) (enc : α → Value) (p : α → Int) (cf : α → α → Int) (hcf : ∀ x y, cf x y < 0 ↔ p y < p x) (g : Nat) (cb : Array Value) (blk off cap : Nat) (d : Array α) (w : World)
    (eg : ∀ args w, (callFunc g args).run P w = .ok (.enter g args) w) (hcmp : CmpLays1 P g cb enc cf blk off d.size w) (R : Row1 enc w blk off d) (hsz : d.size < 1152921504606846976) :
    Calls P 43 #[.slice (some ⟨blk, off, none⟩) d.size cap, .int .i64 d.size, .func (.func g) #[] cb] w fun e w' => e = .returned (.tuple #[]) ∧ ∃ d', d'.size = d.size ∧ SW enc w blk off d' w' ∧ DescF p (arrF d') 0 d.size ∧ Alike p (segF (arrF d') 0 d.size) (segF (arrF d) 0 d.size) := by
  have mixed := L.mixed
  have t0 := L.t0; have a0 := L.a0; have z0 := L.z0; have v0 := L.v0
  have t3 := L.t3; have a3 := L.a3; have z3 := L.z3; have v3 := L.v3
  have t4 := L.t4; have a4 := L.a4; have z4 := L.z4; have v4 := L.v4
  have tS := L.tS; have aS := L.aS; have zS := L.zS; have vS := L.vS
  have tF := L.tF; have aF := L.aF; have zF := L.zF; have vF := L.vF
  have uS := run_underlying L.tS
  have hcl0 := R.hO.cells
  simp only [Value.cells] at hcl0
  have hst := R.hO.store P
  have FG := L.f_stable
  have e44 : ∀ args w, (callFunc 44 args).run P w = .ok (.enter 44 args) w := enters_of L.f_insertionSort (by kernel_rfl) rfl
  have e45 : ∀ args w, (callFunc 45 args).run P w = .ok (.enter 45 args) w := enters_of L.f_symMerge (by kernel_rfl) rfl
  obtain ⟨n, hn⟩ : ∃ n, n = d.size := ⟨_, rfl⟩
  have HI : Hid (∀ (a b : Nat) (dk : Array α) (W : World), n = dk.size → SW enc w blk off dk W → a ≤ b → b ≤ n → Calls P 44 #[.slice (some ⟨blk, off, none⟩) n cap, .int .i64 a, .int .i64 b, .func (.func g) #[] cb] W fun e w' => e = .returned (.tuple #[]) ∧ ∃ d', d'.size = n ∧ SW enc w blk off d' w' ∧ Merged p (arrF dk) (arrF d') a b) := fun a b dk W h1 h2 h3 h4 => by
    have := insI L enc p cf hcf g cb blk off cap d w eg hcmp R a b dk W (by omega) h2 h3 (by omega) (by omega)
    rw [← h1] at this; exact this
  have HM : Hid (∀ (a m b : Nat) (dk : Array α) (W : World), n = dk.size → SW enc w blk off dk W → a < m → m < b → b ≤ n → DescF p (arrF dk) a m → DescF p (arrF dk) m b → Calls P 45 #[.slice (some ⟨blk, off, none⟩) n cap, .int .i64 a, .int .i64 m, .int .i64 b, .func (.func g) #[] cb] W fun e w' => e = .returned (.tuple #[]) ∧ ∃ d', d'.size = n ∧ SW enc w blk off d' w' ∧ Merged p (arrF dk) (arrF d') a b) := fun a m b dk W h1 h2 h3 h4 h5 h6 h7 => by
    have := symMergeI L enc p cf hcf g cb blk off cap d w eg hcmp R (b - a) a m b dk W (Nat.le_refl _) (by omega) h2 h3 h4 (by omega) (by omega) h6 h7
    rw [← h1] at this; exact this
  have S0 : Aside (SW enc w blk off d w) := SW.start R.hH
  have HD : Hid (n = d.size) := hn
  rw [← hn] at hsz ⊢
  clear hcmp R hcf L hn eg
  go_enter FG, Try.ntmps43
  go_wp2
  go_loopg [7, 8] n (fun kx s7 s8 wr => ∃ (q a b : Nat) (dk : Array α), s7 = .int .i64 a ∧ s8 = .int .i64 b ∧ b = a + 20 ∧ a ≤ n ∧ n - a ≤ kx ∧ Hid (a = 20 * q ∧ BlkD p (arrF dk) 20 0 a) ∧ dk.size = n ∧ Aside (SW enc w blk off dk wr) ∧ Hid (Alike p (segF (arrF dk) 0 n) (segF (arrF d) 0 n)))
  case atStart => exact ⟨0, 0, 20, d, rfl, rfl, rfl, Nat.zero_le _, Nat.le_refl _, ⟨rfl, blk_none _ _⟩, HD.out.symm, S0, Alike.refl _ _⟩
  case round =>
    clear S0
    obtain ⟨q, a, b, dk, rfl, rfl, hb, han, hkx, HQ, hds, S1, HA⟩ := hrel
    have HBA : Hid (b = a + 20) := hb
    have hba : a < b := by omega
    by_cases hlt : b ≤ n
    · have hltz : (b : Int) ≤ (n : Int) := by omega
      have hc := HI.out a b dk wr hds.symm S1.out (by omega) hlt
      clear hb
      clear S1
      go_wp2_with (go_at_fn 44; refine hc.mono ?_; rintro e w1 ⟨rfl, d', hd', S3, hE⟩)
      go_roundg (n - b)
      case measure => omega
      case rel =>
        obtain ⟨q1, q2⟩ := HQ.out
        have hb := HBA.out
        refine ⟨q + 1, b, b + 20, d', rfl, by go_num, rfl, hlt, Nat.le_refl _, ⟨by omega, ?_⟩, hd', S3, (hE.whole (by omega) hlt).trans HA.out⟩
        rw [q1] at hE q2
        exact blk_more (by omega) q2 (by omega) (by omega) hE rfl
    · have hltz : ¬ (b : Int) ≤ (n : Int) := by omega
      have hc := HI.out a n dk wr hds.symm S1.out han (Nat.le_refl _)
      clear hb S1
      go_wp2_with (go_at_fn 44; refine hc.mono ?_; rintro e w1 ⟨rfl, d', hd', S3, hE⟩)
      have B1 : Hid (BlkD p (arrF d') 20 0 n ∧ Alike p (segF (arrF d') 0 n) (segF (arrF d) 0 n)) := by
        obtain ⟨q1, q2⟩ := HQ.out
        have hb := HBA.out
        refine ⟨?_, (hE.whole han (Nat.le_refl _)).trans HA.out⟩
        rw [q1] at hE q2
        exact blk_more (by omega) q2 (by omega) (by omega) hE rfl
      have S1 : Aside (SW enc w blk off d' w1) := S3
      clear S3 hE HQ HA hc
      obtain ⟨W1, hW1⟩ : ∃ W, W = w1 := ⟨_, rfl⟩
      rw [← hW1] at S1 ⊢
      clear hW1
      go_loopg [6, 7, 8, 9] n (fun kx s6 s7 s8 s9 wr => ∃ (s : Nat) (a b m : Value) (dk : Array α), s6 = .int .i64 s ∧ s7 = a ∧ s8 = b ∧ s9 = m ∧ 20 ≤ s ∧ n - s ≤ kx ∧ s ≤ n + n + 20 ∧ dk.size = n ∧ Aside (SW enc w blk off dk wr) ∧ Hid (BlkD p (arrF dk) s 0 n ∧ Alike p (segF (arrF dk) 0 n) (segF (arrF d) 0 n)))
      case atStart => exact ⟨20, _, _, _, d', rfl, rfl, rfl, rfl, by omega, by omega, by omega, hd', S1, B1⟩
      case round =>
        clear S1 B1
        obtain ⟨s, va, vb, vm, dk, rfl, rfl, rfl, rfl, hs20, hkx2, hs2, hds2, S1, B1⟩ := hrel
        by_cases hsn : s < n
        · have hsnz : (s : Int) < (n : Int) := by omega
          go_wp2
          obtain ⟨W2, hW2⟩ : ∃ W, W = wr := ⟨_, rfl⟩
          rw [← hW2] at S1 ⊢
          clear hW2
          go_loopg [7, 8] n (fun kx s7 s8 wr2 => ∃ (q a b : Nat) (dj : Array α), s7 = .int .i64 a ∧ s8 = .int .i64 b ∧ b = a + (s + s) ∧ a ≤ n ∧ n - a ≤ kx ∧ Hid (a = (s + s) * q ∧ BlkD p (arrF dj) (s + s) 0 a ∧ BlkD p (arrF dj) s a n) ∧ dj.size = n ∧ Aside (SW enc w blk off dj wr2) ∧ Hid (Alike p (segF (arrF dj) 0 n) (segF (arrF d) 0 n)))
          case atStart => exact ⟨0, 0, s + s, dk, rfl, by rw [show ((s + s : Nat) : Int) = 2 * (s : Int) by omega], by omega, Nat.zero_le _, Nat.le_refl _, ⟨by rw [Nat.mul_zero], blk_none _ _, B1.out.1⟩, hds2, S1, B1.out.2⟩
          case round =>
            clear S1 B1
            obtain ⟨q, a, b, dj, rfl, rfl, hb, han, hkx3, HQ, hdj, S1, HA⟩ := hrel
            have HBA : Hid (b = a + (s + s)) := hb
            have eas : ((a + s : Nat) : Int) = (a : Int) + (s : Int) := by omega
            have ess : (s + s) * q = s * (2 * q) := by rw [← Nat.two_mul, Nat.mul_comm 2 s, Nat.mul_assoc]
            have ess2 : (s + s) * q + s = s * (2 * q + 1) := by rw [ess, Nat.mul_add, Nat.mul_one]
            have ESS : Hid ((s + s) * q = s * (2 * q) ∧ (s + s) * q + s = s * (2 * q + 1)) := ⟨ess, ess2⟩
            clear ess ess2
            by_cases hlt : b ≤ n
            · have hltz : (b : Int) ≤ (n : Int) := by omega
              have hc := HM.out a (a + s) b dj wr hdj.symm S1.out (by omega) (by omega) hlt (by
                obtain ⟨q1, q2, q3⟩ := HQ.out
                have e1 := ESS.out.1
                rw [← q1] at e1
                have := blk_desc q3 (q := 2 * q) (by omega) (b := a + s) (by omega) (by omega)
                rw [← e1] at this; exact this) (by
                obtain ⟨q1, q2, q3⟩ := HQ.out
                have e1 := ESS.out.2
                rw [← q1] at e1
                have := blk_desc q3 (q := 2 * q + 1) (by omega) (b := b) (by omega) (by omega)
                rw [← e1] at this; exact this)
              rw [eas] at hc
              clear hb S1
              go_wp2_with (go_at_fn 45; refine hc.mono ?_; rintro e w1 ⟨rfl, d', hd', S3, hE⟩)
              go_roundg (n - b)
              case measure => have := HBA.out; omega
              case rel =>
                obtain ⟨q1, q2, q3⟩ := HQ.out
                have hb := HBA.out
                refine ⟨q + 1, b, b + (s + s), d', rfl, by rw [show ((b + (s + s) : Nat) : Int) = (b : Int) + 2 * (s : Int) by omega], rfl, hlt, Nat.le_refl _, ⟨by rw [Nat.mul_add, Nat.mul_one, ← q1]; exact hb, ?_, blk_behind q3 (by omega) hE⟩, hd', S3, (hE.whole (by omega) hlt).trans HA.out⟩
                rw [q1] at hE q2
                exact blk_more (by omega) q2 (by omega) (by omega) hE rfl
            · have hltz : ¬ (b : Int) ≤ (n : Int) := by omega
              by_cases hm : a + s < n
              · have hmz : (a : Int) + (s : Int) < (n : Int) := by omega
                have hc := HM.out a (a + s) n dj wr hdj.symm S1.out (by omega) hm (Nat.le_refl _) (by
                  obtain ⟨q1, q2, q3⟩ := HQ.out
                  have e1 := ESS.out.1
                  rw [← q1] at e1
                  have := blk_desc q3 (q := 2 * q) (by omega) (b := a + s) (by omega) (by omega)
                  rw [← e1] at this; exact this) (by
                  obtain ⟨q1, q2, q3⟩ := HQ.out
                  have e1 := ESS.out.2
                  rw [← q1] at e1
                  have := blk_desc q3 (q := 2 * q + 1) (by omega) (b := n) (by omega) (by omega)
                  rw [← e1] at this; exact this)
                rw [eas] at hc
                clear hb S1
                go_wp2_with (go_at_fn 45; refine hc.mono ?_; rintro e w1 ⟨rfl, d', hd', S3, hE⟩)
                go_roundg (n - (s + s))
                case measure => omega
                case rel =>
                  obtain ⟨q1, q2, q3⟩ := HQ.out
                  have hb := HBA.out
                  refine ⟨s + s, _, _, _, d', by rw [show ((s + s : Nat) : Int) = (s : Int) * 2 by omega], rfl, rfl, rfl, by omega, Nat.le_refl _, by omega, hd', S3, ⟨?_, (hE.whole han (Nat.le_refl _)).trans HA.out⟩⟩
                  rw [q1] at hE q2
                  exact blk_more (by omega) q2 (by omega) (by omega) hE rfl
              · have hmz : ¬ (a : Int) + (s : Int) < (n : Int) := by omega
                have M : Hid (BlkD p (arrF dj) (s + s) 0 n) := by
                  obtain ⟨q1, q2, q3⟩ := HQ.out
                  have e1 := ESS.out.1
                  rw [← q1] at e1
                  have hD := blk_desc q3 (q := 2 * q) (by omega) (b := n) (by omega) (Nat.le_refl _)
                  rw [← e1] at hD
                  have hE := Merged.refl hD
                  rw [q1] at hE q2
                  exact blk_more (by omega) q2 (by omega) (by omega) hE rfl
                clear hb
                go_wp2
                go_roundg (n - (s + s))
                case measure => omega
                case rel => exact ⟨s + s, _, _, _, dj, by rw [show ((s + s : Nat) : Int) = (s : Int) * 2 by omega], rfl, rfl, rfl, by omega, Nat.le_refl _, by omega, hdj, S1, ⟨M.out, HA.out⟩⟩
        · have hsnz : ¬ (s : Int) < (n : Int) := by omega
          go_wp2
          go_end0
          exact ⟨rfl, dk, hds2, S1.out, blk_all B1.out.1 (by omega), B1.out.2⟩
end Go.Proofs.Ytnppfibojcgkmaa
