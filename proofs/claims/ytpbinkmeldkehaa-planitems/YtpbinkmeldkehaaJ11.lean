import Derived.Test.YtpbinkmeldkehaaJ10
import Derived.Test.YtpbinkmeldkehaaJ8
import Derived.Deep.QuietTactic
namespace Go.Proofs.Ytpbinkmeldkehaa
open Go Go.Shelf Go.RowKit Go.Lib Go.Sort
set_option maxRecDepth 20000

def stRenI : Go.Shelf.Ren := ⟨fun | 20 => 93 | n => n, fun | 0 => 0 | 3 => 3 | 4 => 4 | 22 => 28 | 24 => 3 | 25 => 83 | n => n, fun | n => n⟩
theorem stLayI {P : Program} (L : StI P) : SlLaysF.n20 P stRenI where
  mixed := L.mixed
  f20 := ⟨_, by kernel_rfl, L.f_insertionSort.trans (congrArg some (show Try.f93 = { SlBodyF.n20 stRenI with name := Try.f93.name } by kernel_rfl))⟩
  t0 := L.t0
  a0 := L.a0
  z0 := L.z0
  v0 := L.v0
  t3 := L.t3
  a3 := L.a3
  z3 := L.z3
  v3 := L.v3
  t4 := L.t4
  a4 := L.a4
  z4 := L.z4
  v4 := L.v4
  t22 := L.tS
  a22 := L.aS
  z22 := L.zS
  v22 := L.vS
  a24 := L.a3
  z24 := L.z3
  t25 := L.tF
  a25 := L.aF
  z25 := L.zF
  v25 := L.vF
theorem ltOf_ltPI {β : Type} {p : β → Int} {cf : β → β → Int} (hcf : ∀ x y, cf x y < 0 ↔ p y < p x) : ltOf cf = ltP p := by
  funext x y
  unfold ltOf ltP
  rw [Bool.eq_iff_iff, decide_eq_true_iff, decide_eq_true_iff]
  exact hcf x y
variable {α : Type} [Inhabited α]
theorem insI {P : Program} (L : StI P) (enc : α → Value) (p : α → Int) (cf : α → α → Int) (hcf : ∀ x y, cf x y < 0 ↔ p y < p x) (g : Nat) (cb : Array Value) (blk off cap : Nat) (d0 : Array α) (w0 : World)
    (eg : ∀ args w, (callFunc g args).run P w = .ok (.enter g args) w) (hcmp : CmpLays1 P g cb enc cf blk off d0.size w0) (R : Row1 enc w0 blk off d0) (a b : Nat) (d : Array α) (w : World) (hs : d0.size = d.size) (S : SW enc w0 blk off d w) (hab : a ≤ b) (hb : b ≤ d.size) (hsz : d.size < 1152921504606846976) :
    Calls P 93 #[.slice (some ⟨blk, off, none⟩) d.size cap, .int .i64 a, .int .i64 b, .func (.func g) #[] cb] w fun e w' => e = .returned (.tuple #[]) ∧ ∃ d', d'.size = d.size ∧ SW enc w0 blk off d' w' ∧ Merged p (arrF d) (arrF d') a b := by
  have hc := Any.insertionSortCmpFunc_s (stLayI L) enc cf g cb blk off cap a b d0 d w0 w eg hcmp R hs S hab hb (by omega)
  refine hc.mono ?_
  rintro e w' ⟨rfl, S'⟩
  rw [ltOf_ltPI hcf] at S'
  obtain ⟨m1, m2⟩ := ins_merged (p := p) d a b hab hb
  exact ⟨rfl, _, m1, S', m2⟩

set_option maxHeartbeats 16000000 in
set_option maxRecDepth 1000000 in
/-- slices.stableCmpFunc: sorted by the falling number, those of one number in their order. -/
theorem stableI {P : Program} (L : StI P) (enc : α → Value) (p : α → Int) (cf : α → α → Int) (hcf : ∀ x y, cf x y < 0 ↔ p y < p x) (g : Nat) (cb : Array Value) (blk off cap : Nat) (d : Array α) (w : World)
    (eg : ∀ args w, (callFunc g args).run P w = .ok (.enter g args) w) (hcmp : CmpLays1 P g cb enc cf blk off d.size w) (R : Row1 enc w blk off d) (hsz : d.size < 1152921504606846976) :
    Calls P 75 #[.slice (some ⟨blk, off, none⟩) d.size cap, .int .i64 d.size, .func (.func g) #[] cb] w fun e w' => e = .returned (.tuple #[]) ∧ ∃ d', d'.size = d.size ∧ SW enc w blk off d' w' ∧ DescF p (arrF d') 0 d.size ∧ Alike p (segF (arrF d') 0 d.size) (segF (arrF d) 0 d.size) := by
  have mixed := L.mixed
  have t0 := L.t0; have a0 := L.a0; have z0 := L.z0; have v0 := L.v0
  have t3 := L.t3; have a3 := L.a3; have z3 := L.z3; have v3 := L.v3
  have t4 := L.t4; have a4 := L.a4; have z4 := L.z4; have v4 := L.v4
  have tS := L.tS; have aS := L.aS; have zS := L.zS; have vS := L.vS
  have tF := L.tF; have aF := L.aF; have zF := L.zF; have vF := L.vF
  have uS := run_underlying L.tS
  have hcl0 := R.hO.cells
  simp only [Value.cells] at hcl0
  have hst := R.hO.store P
  have FG := L.f_stable
  have e93 : ∀ args w, (callFunc 93 args).run P w = .ok (.enter 93 args) w := enters_of L.f_insertionSort (by kernel_rfl) rfl
  have e94 : ∀ args w, (callFunc 94 args).run P w = .ok (.enter 94 args) w := enters_of L.f_symMerge (by kernel_rfl) rfl
  obtain ⟨n, hn⟩ : ∃ n, n = d.size := ⟨_, rfl⟩
  have HI : Hid (∀ (a b : Nat) (dk : Array α) (W : World), n = dk.size → SW enc w blk off dk W → a ≤ b → b ≤ n → Calls P 93 #[.slice (some ⟨blk, off, none⟩) n cap, .int .i64 a, .int .i64 b, .func (.func g) #[] cb] W fun e w' => e = .returned (.tuple #[]) ∧ ∃ d', d'.size = n ∧ SW enc w blk off d' w' ∧ Merged p (arrF dk) (arrF d') a b) := fun a b dk W h1 h2 h3 h4 => by
    have := insI L enc p cf hcf g cb blk off cap d w eg hcmp R a b dk W (by omega) h2 h3 (by omega) (by omega)
    rw [← h1] at this; exact this
  have HM : Hid (∀ (a m b : Nat) (dk : Array α) (W : World), n = dk.size → SW enc w blk off dk W → a < m → m < b → b ≤ n → DescF p (arrF dk) a m → DescF p (arrF dk) m b → Calls P 94 #[.slice (some ⟨blk, off, none⟩) n cap, .int .i64 a, .int .i64 m, .int .i64 b, .func (.func g) #[] cb] W fun e w' => e = .returned (.tuple #[]) ∧ ∃ d', d'.size = n ∧ SW enc w blk off d' w' ∧ Merged p (arrF dk) (arrF d') a b) := fun a m b dk W h1 h2 h3 h4 h5 h6 h7 => by
    have := symMergeI L enc p cf hcf g cb blk off cap d w eg hcmp R (b - a) a m b dk W (Nat.le_refl _) (by omega) h2 h3 h4 (by omega) (by omega) h6 h7
    rw [← h1] at this; exact this
  have S0 : Aside (SW enc w blk off d w) := SW.start R.hH
  have HD : Hid (n = d.size) := hn
  rw [← hn] at hsz ⊢
  clear hcmp R hcf L hn eg
  go_enter FG, Try.ntmps75
  go_wp2
  go_loopg [7, 8] n (fun kx s7 s8 wr => ∃ (q a b : Nat) (dk : Array α), s7 = .int .i64 a ∧ s8 = .int .i64 b ∧ b = a + 20 ∧ a ≤ n ∧ n - a ≤ kx ∧ Hid (a = 20 * q ∧ BlkD p (arrF dk) 20 0 a) ∧ dk.size = n ∧ Aside (SW enc w blk off dk wr) ∧ Hid (Alike p (segF (arrF dk) 0 n) (segF (arrF d) 0 n)))
  case atStart => exact ⟨0, 0, 20, d, rfl, rfl, rfl, Nat.zero_le _, Nat.le_refl _, ⟨rfl, blk_none _ _⟩, HD.out.symm, S0, Alike.refl _ _⟩
  case round =>
    clear S0
    obtain ⟨q, a, b, dk, rfl, rfl, hb, han, hkx, HQ, hds, S1, HA⟩ := hrel
    have HBA : Hid (b = a + 20) := hb
    have hba : a < b := by omega
    by_cases hlt : b ≤ n
    · have hltz : (b : Int) ≤ (n : Int) := by omega
      have hc := HI.out a b dk wr hds.symm S1.out (by omega) hlt
      clear hb
      clear S1
      go_wp2_with (go_at_fn 93; refine hc.mono ?_; rintro e w1 ⟨rfl, d', hd', S3, hE⟩)
      go_roundg (n - b)
      case measure => omega
      case rel =>
        obtain ⟨q1, q2⟩ := HQ.out
        have hb := HBA.out
        refine ⟨q + 1, b, b + 20, d', rfl, by go_num, rfl, hlt, Nat.le_refl _, ⟨by omega, ?_⟩, hd', S3, (hE.whole (by omega) hlt).trans HA.out⟩
        rw [q1] at hE q2
        exact blk_more (by omega) q2 (by omega) (by omega) hE rfl
    · have hltz : ¬ (b : Int) ≤ (n : Int) := by omega
      have hc := HI.out a n dk wr hds.symm S1.out han (Nat.le_refl _)
      clear hb S1
      go_wp2_with (go_at_fn 93; refine hc.mono ?_; rintro e w1 ⟨rfl, d', hd', S3, hE⟩)
      have B1 : Hid (BlkD p (arrF d') 20 0 n ∧ Alike p (segF (arrF d') 0 n) (segF (arrF d) 0 n)) := by
        obtain ⟨q1, q2⟩ := HQ.out
        have hb := HBA.out
        refine ⟨?_, (hE.whole han (Nat.le_refl _)).trans HA.out⟩
        rw [q1] at hE q2
        exact blk_more (by omega) q2 (by omega) (by omega) hE rfl
      have S1 : Aside (SW enc w blk off d' w1) := S3
      clear S3 hE HQ HA hc
      obtain ⟨W1, hW1⟩ : ∃ W, W = w1 := ⟨_, rfl⟩
      rw [← hW1] at S1 ⊢
      clear hW1
      go_loopg [6, 7, 8, 9] n (fun kx s6 s7 s8 s9 wr => ∃ (s : Nat) (a b m : Value) (dk : Array α), s6 = .int .i64 s ∧ s7 = a ∧ s8 = b ∧ s9 = m ∧ 20 ≤ s ∧ n - s ≤ kx ∧ s ≤ n + n + 20 ∧ dk.size = n ∧ Aside (SW enc w blk off dk wr) ∧ Hid (BlkD p (arrF dk) s 0 n ∧ Alike p (segF (arrF dk) 0 n) (segF (arrF d) 0 n)))
      case atStart => exact ⟨20, _, _, _, d', rfl, rfl, rfl, rfl, by omega, by omega, by omega, hd', S1, B1⟩
      case round =>
        clear S1 B1
        obtain ⟨s, va, vb, vm, dk, rfl, rfl, rfl, rfl, hs20, hkx2, hs2, hds2, S1, B1⟩ := hrel
        by_cases hsn : s < n
        · have hsnz : (s : Int) < (n : Int) := by omega
          go_wp2
          obtain ⟨W2, hW2⟩ : ∃ W, W = wr := ⟨_, rfl⟩
          rw [← hW2] at S1 ⊢
          clear hW2
          go_loopg [7, 8] n (fun kx s7 s8 wr2 => ∃ (q a b : Nat) (dj : Array α), s7 = .int .i64 a ∧ s8 = .int .i64 b ∧ b = a + (s + s) ∧ a ≤ n ∧ n - a ≤ kx ∧ Hid (a = (s + s) * q ∧ BlkD p (arrF dj) (s + s) 0 a ∧ BlkD p (arrF dj) s a n) ∧ dj.size = n ∧ Aside (SW enc w blk off dj wr2) ∧ Hid (Alike p (segF (arrF dj) 0 n) (segF (arrF d) 0 n)))
          case atStart => exact ⟨0, 0, s + s, dk, rfl, by rw [show ((s + s : Nat) : Int) = 2 * (s : Int) by omega], by omega, Nat.zero_le _, Nat.le_refl _, ⟨by rw [Nat.mul_zero], blk_none _ _, B1.out.1⟩, hds2, S1, B1.out.2⟩
          case round =>
            clear S1 B1
            obtain ⟨q, a, b, dj, rfl, rfl, hb, han, hkx3, HQ, hdj, S1, HA⟩ := hrel
            have HBA : Hid (b = a + (s + s)) := hb
            have eas : ((a + s : Nat) : Int) = (a : Int) + (s : Int) := by omega
            have ess : (s + s) * q = s * (2 * q) := by rw [← Nat.two_mul, Nat.mul_comm 2 s, Nat.mul_assoc]
            have ess2 : (s + s) * q + s = s * (2 * q + 1) := by rw [ess, Nat.mul_add, Nat.mul_one]
            have ESS : Hid ((s + s) * q = s * (2 * q) ∧ (s + s) * q + s = s * (2 * q + 1)) := ⟨ess, ess2⟩
            clear ess ess2
            by_cases hlt : b ≤ n
            · have hltz : (b : Int) ≤ (n : Int) := by omega
              have hc := HM.out a (a + s) b dj wr hdj.symm S1.out (by omega) (by omega) hlt (by
                obtain ⟨q1, q2, q3⟩ := HQ.out
                have e1 := ESS.out.1
                rw [← q1] at e1
                have := blk_desc q3 (q := 2 * q) (by omega) (b := a + s) (by omega) (by omega)
                rw [← e1] at this; exact this) (by
                obtain ⟨q1, q2, q3⟩ := HQ.out
                have e1 := ESS.out.2
                rw [← q1] at e1
                have := blk_desc q3 (q := 2 * q + 1) (by omega) (b := b) (by omega) (by omega)
                rw [← e1] at this; exact this)
              rw [eas] at hc
              clear hb S1
              go_wp2_with (go_at_fn 94; refine hc.mono ?_; rintro e w1 ⟨rfl, d', hd', S3, hE⟩)
              go_roundg (n - b)
              case measure => have := HBA.out; omega
              case rel =>
                obtain ⟨q1, q2, q3⟩ := HQ.out
                have hb := HBA.out
                refine ⟨q + 1, b, b + (s + s), d', rfl, by rw [show ((b + (s + s) : Nat) : Int) = (b : Int) + 2 * (s : Int) by omega], rfl, hlt, Nat.le_refl _, ⟨by rw [Nat.mul_add, Nat.mul_one, ← q1]; exact hb, ?_, blk_behind q3 (by omega) hE⟩, hd', S3, (hE.whole (by omega) hlt).trans HA.out⟩
                rw [q1] at hE q2
                exact blk_more (by omega) q2 (by omega) (by omega) hE rfl
            · have hltz : ¬ (b : Int) ≤ (n : Int) := by omega
              by_cases hm : a + s < n
              · have hmz : (a : Int) + (s : Int) < (n : Int) := by omega
                have hc := HM.out a (a + s) n dj wr hdj.symm S1.out (by omega) hm (Nat.le_refl _) (by
                  obtain ⟨q1, q2, q3⟩ := HQ.out
                  have e1 := ESS.out.1
                  rw [← q1] at e1
                  have := blk_desc q3 (q := 2 * q) (by omega) (b := a + s) (by omega) (by omega)
                  rw [← e1] at this; exact this) (by
                  obtain ⟨q1, q2, q3⟩ := HQ.out
                  have e1 := ESS.out.2
                  rw [← q1] at e1
                  have := blk_desc q3 (q := 2 * q + 1) (by omega) (b := n) (by omega) (by omega)
                  rw [← e1] at this; exact this)
                rw [eas] at hc
                clear hb S1
                go_wp2_with (go_at_fn 94; refine hc.mono ?_; rintro e w1 ⟨rfl, d', hd', S3, hE⟩)
                go_roundg (n - (s + s))
                case measure => omega
                case rel =>
                  obtain ⟨q1, q2, q3⟩ := HQ.out
                  have hb := HBA.out
                  refine ⟨s + s, _, _, _, d', by rw [show ((s + s : Nat) : Int) = (s : Int) * 2 by omega], rfl, rfl, rfl, by omega, Nat.le_refl _, by omega, hd', S3, ⟨?_, (hE.whole han (Nat.le_refl _)).trans HA.out⟩⟩
                  rw [q1] at hE q2
                  exact blk_more (by omega) q2 (by omega) (by omega) hE rfl
              · have hmz : ¬ (a : Int) + (s : Int) < (n : Int) := by omega
                have M : Hid (BlkD p (arrF dj) (s + s) 0 n) := by
                  obtain ⟨q1, q2, q3⟩ := HQ.out
                  have e1 := ESS.out.1
                  rw [← q1] at e1
                  have hD := blk_desc q3 (q := 2 * q) (by omega) (b := n) (by omega) (Nat.le_refl _)
                  rw [← e1] at hD
                  have hE := Merged.refl hD
                  rw [q1] at hE q2
                  exact blk_more (by omega) q2 (by omega) (by omega) hE rfl
                clear hb
                go_wp2
                go_roundg (n - (s + s))
                case measure => omega
                case rel => exact ⟨s + s, _, _, _, dj, by rw [show ((s + s : Nat) : Int) = (s : Int) * 2 by omega], rfl, rfl, rfl, by omega, Nat.le_refl _, by omega, hdj, S1, ⟨M.out, HA.out⟩⟩
        · have hsnz : ¬ (s : Int) < (n : Int) := by omega
          go_wp2
          go_end0
          exact ⟨rfl, dk, hds2, S1.out, blk_all B1.out.1 (by omega), B1.out.2⟩
end Go.Proofs.Ytpbinkmeldkehaa
namespace Go.Proofs.Ytpbinkmeldkehaa
open Go Go.Lib Go.RowKit Go.Sort Go.Shelf
set_option maxRecDepth 20000

/-! deal.falling: the places of sizes, the greatest first. -/
def cmpK (K : Nat → Int) (i j : Nat) : Int := if K i < K j then -1 else if K j < K i then 1 else 0
theorem cmpK_lt (K : Nat → Int) (i j : Nat) : cmpK K i j < 0 ↔ -K j < -K i := by
  unfold cmpK
  split
  · simp; omega
  · split <;> simp <;> omega

def cmp13 (x y : Int) : Int := if x < y then -1 else if y < x then 1 else 0
theorem nan13_any (x : Int) (w : World) : Calls Try.prog 76 #[.int .i64 x] w fun e w' => e = .returned (.bool false) ∧ w' = w := by
  go_enter Try.func76, Try.ntmps76
  go_wp2_with fail
  go_ret
  exact ⟨by simp, rfl⟩
theorem compare13_any (x y : Int) (w : World) : Calls Try.prog 55 #[.int .i64 x, .int .i64 y] w fun e w' => e = .returned (.int .i64 (cmp13 x y)) ∧ w' = w := by
  have HN : Hid (∀ x W, Calls Try.prog 76 #[.int .i64 x] W fun e w' => e = .returned (.bool false) ∧ w' = W) := nan13_any
  by_cases h1 : x < y
  · have HV : Hid (cmp13 x y = -1) := by show _ = _; unfold cmp13; rw [if_pos h1]
    go_enter Try.func55, Try.ntmps55
    go_wp2_with (go_at_call 76; refine (HN.out _ _).mono ?_; rintro e w' ⟨rfl, rfl⟩)
    go_ret
    exact ⟨by rw [HV.out]; rfl, rfl⟩
  · by_cases h2 : y < x
    · have HV : Hid (cmp13 x y = 1) := by show _ = _; unfold cmp13; rw [if_neg h1, if_pos h2]
      go_enter Try.func55, Try.ntmps55
      go_wp2_with (go_at_call 76; refine (HN.out _ _).mono ?_; rintro e w' ⟨rfl, rfl⟩)
      go_ret
      exact ⟨by rw [HV.out]; rfl, rfl⟩
    · have HV : Hid (cmp13 x y = 0) := by show _ = _; unfold cmp13; rw [if_neg h1, if_neg h2]
      go_enter Try.func55, Try.ntmps55
      go_wp2_with (go_at_call 76; refine (HN.out _ _).mono ?_; rintro e w' ⟨rfl, rfl⟩)
      go_ret
      exact ⟨by rw [HV.out]; rfl, rfl⟩
def keyZ (z : List Int) (i : Nat) : Int := -(z.getD i 0)
theorem keyZ_at {z : List Int} {i : Nat} {x : Int} (h : z[i]? = some x) : keyZ z i = -x := by unfold keyZ; rw [List.getD, h]; rfl
theorem ISl.cell {w : World} {o : Option Addr} {n cap : Nat} {z : List Int} (h : ISl w (.slice o n cap) z) (k : Nat) (hk : k < n) : ∃ g off x, o = some ⟨g, off, none⟩ ∧ w.cell? ⟨g, off + k, none⟩ = some (.int .i64 x) ∧ z[k]? = some x := by
  obtain ⟨g, off, x, cur, t, fr, h1, h2, h3, h4⟩ := ISl.at h k hk
  exact ⟨g, off, x, h1, (cell_of_row _ _ _ _ _ _ h2).trans h3, h4⟩
set_option maxHeartbeats 4000000 in
theorem fall1_any (z : List Int) (vl : Value) (c i j : Nat) (hi : i < z.length) (hj : j < z.length) (w : World) (hbox : w.cell? ⟨c, 0, none⟩ = some vl) (hL : ISl w vl z) :
    Calls Try.prog 54 #[.int .i64 (i : Int), .int .i64 (j : Int), .pointer (some ⟨c, 0, none⟩)] w fun e w' => e = .returned (.int .i64 (cmpK (keyZ z) i j)) ∧ ∃ q, w' = w.drewN q := by
  obtain ⟨o, cap, rfl, h1, h2⟩ := hL.slice
  obtain ⟨g, off, x, rfl, hx, hxi⟩ := hL.cell i hi
  obtain ⟨g', off', y, e, hy, hyj⟩ := hL.cell j hj
  simp only [Option.some.injEq, Addr.mk.injEq, and_true] at e
  obtain ⟨rfl, rfl⟩ := e
  have HC : Hid (∀ W, Calls Try.prog 55 #[.int .i64 y, .int .i64 x] W fun e w' => e = .returned (.int .i64 (cmpK (keyZ z) i j)) ∧ w' = W) := fun W => by
    have h := compare13_any y x W
    have e2 : cmpK (keyZ z) i j = cmp13 y x := by
      unfold cmpK cmp13
      rw [keyZ_at hxi, keyZ_at hyj]
      by_cases a1 : y < x
      · rw [if_pos (by omega), if_pos a1]
      · rw [if_neg (by omega), if_neg a1]
        by_cases a2 : x < y
        · rw [if_pos (by omega), if_pos a2]
        · rw [if_neg (by omega), if_neg a2]
    rw [e2]
    exact h
  generalize cmpK (keyZ z) i j = R at HC ⊢
  have hiz : (i : Int) < (z.length : Int) := by omega
  have hjz : (j : Int) < (z.length : Int) := by omega
  generalize z.length = n at hiz hjz hbox h1
  unfold maxLen at h2
  clear hL hi hj hxi hyj
  go_enter Try.func54, Try.ntmps54
  go_wp2_with fail
  go_quiet (first | (go_at_call 55; exact Calls.quiet_of_same (HC.out _)))
  go_wp2_with fail
  go_ret
  exact ⟨rfl, nq, rfl⟩
section
variable {α : Type} [Inhabited α]
theorem segI_all (d : Array α) : segF (arrF d) 0 d.size = d.toList := by
  apply List.ext_getElem?
  intro i
  unfold segF arrF
  by_cases hi : i < d.size
  · simp [hi]
  · simp [hi]
theorem sw_heap {enc : α → Value} {w : World} {blk off m : Nat} {dk : Array α} {os : Array Obj} (k : Nat) (hk : k < w.heap.size) (hne : k ≠ blk) : (sortWorld enc w blk off m dk os).heap[k]? = w.heap[k]? := by
  unfold sortWorld grow putRow mapBlock Sort.ahead
  rw [Array.getElem?_append_left (by simpa using hk), Array.getElem?_modify, if_neg (fun e => hne e.symm)]
theorem SW.grownBy {enc : α → Value} {w W : World} {g off : Nat} {d : Array α} (h : SW enc w g off d W) : w.grownBy W (some g) := by
  obtain ⟨n, os, rfl⟩ := h
  refine ⟨rfl, rfl, rfl, SW.le ⟨n, os, rfl⟩, fun j hj hne => sw_heap j hj fun e => hne (by rw [e])⟩
theorem own_of_sw {enc : α → Value} {w W : World} {g B cap : Nat} {ty : TypeId} {d : Array α} {L : List Value} (h : SW enc w g 0 d W) (hown : VOwn ty B w (.slice (some ⟨g, 0, none⟩) d.size cap) L) : VOwn ty B W (.slice (some ⟨g, 0, none⟩) d.size cap) (d.toList.map enc) := by
  have hl := hown.sl.len
  obtain ⟨h1, ⟨e, _⟩ | ⟨g', cap', cur, e, hB, hcur, h5, h6, h7, h4⟩⟩ := hown
  · cases e
  simp only [Value.slice.injEq, Option.some.injEq, Addr.mk.injEq, and_true] at e
  obtain ⟨⟨rfl, _⟩, _, rfl⟩ := e
  obtain ⟨n, os, rfl⟩ := h
  have hlt : g < w.heap.size := (Array.getElem?_eq_some_iff.1 hcur).1
  have hlen : (d.toList.map enc).length = d.size := by simp
  refine ⟨by simp, .inr ⟨g, cap, putCells enc 0 d cur, by rw [hlen], hB, ?_, by rw [hlen, hl]; exact h5, h6, by rw [← h7]; simp [putCells], ?_⟩⟩
  · unfold sortWorld grow putRow mapBlock Sort.ahead
    rw [Array.getElem?_append_left (by simpa using hlt), Array.getElem?_modify, if_pos rfl, hcur]
    rfl
  · rw [hlen, Nat.mul_one]
    have hsz : d.size ≤ cur.size := by rw [h7, Nat.mul_one, hl]; exact h5
    apply List.ext_getElem?
    intro t
    by_cases ht : t < d.size
    · rw [List.getElem?_take_of_lt ht, Array.getElem?_toList]
      unfold putCells
      rw [Array.getElem?_mapIdx, Array.getElem?_eq_getElem (by omega), Option.map_some, if_pos (by omega), Nat.sub_zero]
      simp [ht]
    · rw [List.getElem?_take_eq_none (by omega), List.getElem?_eq_none (by simp; omega)]
end
/-- A list of places that is sorted so is the order. -/
theorem ord_of_sorted {K : Nat → Int} {n : Nat} {m' m : List (Fin n)} (hm : m.Pairwise fun a b => a.val < b.val) (hall : ∀ i : Fin n, i ∈ m) (hd : Desc (fun i : Fin n => -K i.val) m') (ha : Alike (fun i : Fin n => -K i.val) m' m) : IsOrd K n (m'.map Fin.val) := by
  refine ⟨fun i => ⟨fun h => ?_, fun h => ?_⟩, ?_⟩
  · obtain ⟨j, _, rfl⟩ := List.mem_map.1 h
    exact j.2
  · have h1 : (⟨i, h⟩ : Fin n) ∈ m'.filter (fun x => -K x.val == -K i) := by
      rw [ha (-K i)]
      exact List.mem_filter.2 ⟨hall _, by simp⟩
    exact List.mem_map.2 ⟨_, (List.mem_filter.1 h1).1, rfl⟩
  · rw [List.pairwise_map, List.pairwise_iff_forall_sublist]
    intro a b hab
    have h1 := (List.pairwise_iff_forall_sublist.1 hd) hab
    by_cases he : K a.val = K b.val
    · right
      refine ⟨he, ?_⟩
      have h2 := List.Sublist.filter (fun x : Fin n => -K x.val == -K a.val) hab
      rw [ha (-K a.val)] at h2
      have h3 : [a, b].filter (fun x : Fin n => -K x.val == -K a.val) = [a, b] := by simp [he]
      rw [h3] at h2
      exact (List.pairwise_iff_forall_sublist.1 hm) (h2.trans List.filter_sublist)
    · left
      have : -K b.val ≤ -K a.val := h1
      omega
def inV (o : List Nat) : List Value := o.map fun i : Nat => Value.int .i64 (i : Int)
theorem inV_len (o : List Nat) : (inV o).length = o.length := by simp [inV]
set_option maxHeartbeats 4000000 in
set_option maxRecDepth 1000000 in
theorem sort_none (g cap : Nat) (f : Value) (w : World) :
    Calls Try.prog 53 #[.slice (some ⟨g, 0, none⟩) 0 cap, f] w fun e w' => e = .returned (.tuple #[]) ∧ w' = w := by
  have HS : Hid (∀ W, Calls Try.prog 75 #[.slice (some ⟨g, 0, none⟩) 0 cap, .int .i64 0, f] W fun e w' => e = .returned (.tuple #[]) ∧ w' = W) := fun W => by
    have HI : Hid (∀ W, Calls Try.prog 93 #[.slice (some ⟨g, 0, none⟩) 0 cap, .int .i64 0, .int .i64 0, f] W fun e w' => e = .returned (.tuple #[]) ∧ w' = W) := fun W => by
      go_enter Try.func93, Try.ntmps93
      go_wp2
      go_loopg [8] 0 (fun kx s wr => s = .int .i64 1 ∧ wr = W)
      case atStart => exact ⟨rfl, rfl⟩
      case round =>
        obtain ⟨rfl, rfl⟩ := hrel
        go_wp2
        go_end0
        exact ⟨rfl, rfl⟩
    go_enter Try.func75, Try.ntmps75
    go_wp2
    go_loopg [7, 8] 0 (fun kx s7 s8 wr => s7 = .int .i64 0 ∧ s8 = .int .i64 20 ∧ wr = W)
    case atStart => exact ⟨rfl, rfl, rfl⟩
    case round =>
      obtain ⟨rfl, rfl, rfl⟩ := hrel
      go_wp2_with (go_at_call 93; refine (HI.out _).mono ?_; rintro e w' ⟨rfl, rfl⟩)
      go_loopg [6, 7, 8, 9] 0 (fun kx s6 s7 s8 s9 wr2 => ∃ a b c : Value, s6 = .int .i64 20 ∧ s7 = a ∧ s8 = b ∧ s9 = c ∧ wr2 = w')
      case atStart => exact ⟨_, _, _, rfl, rfl, rfl, rfl, rfl⟩
      case round =>
        obtain ⟨a, b, c, rfl, rfl, rfl, rfl, rfl⟩ := hrel
        go_wp2
        go_end0
        exact ⟨rfl, rfl⟩
  go_enter Try.func53, Try.ntmps53
  go_wp2_with (go_at_call 75; refine (HS.out _).mono ?_; rintro e w' ⟨rfl, rfl⟩)
  go_end0
  exact ⟨rfl, rfl⟩
theorem fin_pair (n : Nat) : (Array.ofFn (fun i : Fin n => i)).toList.Pairwise fun a b => a.val < b.val := by
  rw [Array.toList_ofFn, List.pairwise_iff_getElem]
  intro i j hi hj hij
  simp
  exact hij
set_option maxHeartbeats 4000000 in
set_option maxRecDepth 1000000 in
/-- The places are sorted. -/
theorem sort13_any (l : List Int) (hn : l.length ≤ 1000) (vl : Value) (B c g : Nat) (w : World) (tc : TypeId) (fc : Nat × Nat)
    (hrow : VOwn 3 B w (.slice (some ⟨g, 0, none⟩) l.length l.length) (inV (List.range l.length)))
    (hc : w.heap[c]? = some (.cells #[vl] tc fc)) (hcg : c ≠ g)
    (hL : ISl w vl l) (hlg : 0 < l.length → ∀ b, vl.ownBlock = some b → b ≠ g) :
    Calls Try.prog 53 #[.slice (some ⟨g, 0, none⟩) l.length l.length, .func (.func 54) #[] #[.pointer (some ⟨c, 0, none⟩)]] w fun e w' => e = .returned (.tuple #[]) ∧ ∃ o, IsOrd (keyZ l) l.length o ∧ VOwn 3 B w' (.slice (some ⟨g, 0, none⟩) l.length l.length) (inV o) ∧ w.grownBy w' (some g) := by
  rcases Nat.eq_zero_or_pos l.length with h0 | h0
  · rw [h0] at hrow ⊢
    refine (sort_none g 0 _ w).mono ?_
    rintro e w' ⟨rfl, rfl⟩
    exact ⟨rfl, [], ⟨fun i => by simp, List.Pairwise.nil⟩, by simpa using hrow, ⟨rfl, rfl, rfl, Nat.le_refl _, fun k _ _ => rfl⟩⟩
  · letI : Inhabited (Fin l.length) := ⟨⟨0, h0⟩⟩
    have hg : g < w.heap.size := (hrow.ge g rfl).2
    obtain ⟨D, hD⟩ : ∃ D : Array (Fin l.length), D = Array.ofFn (fun i : Fin l.length => i) := ⟨_, rfl⟩
    have hDs : D.size = l.length := by rw [hD]; simp
    have hDj : ∀ j, (hj : j < l.length) → D[j]! = (⟨j, hj⟩ : Fin l.length) := fun j hj => by
      rw [getElem!_pos D j (by omega)]
      subst hD
      simp
    have hH : Holds (fun i : Fin l.length => Value.int .i64 (i.val : Int)) w g 0 D := fun j hj => by
      obtain ⟨cc, h1, h2, h3⟩ := hrow.cell j (by omega)
      rw [Nat.zero_add]
      refine ⟨?_, h3⟩
      rw [h1, ← h2, hDj j (by omega)]
      unfold inV
      rw [List.getElem?_map, List.getElem?_range (by omega)]; rfl
    have hR : Row1 (fun i : Fin l.length => Value.int .i64 (i.val : Int)) w g 0 D := ⟨fun _ => rfl, hH, hg⟩
    have hcmp : CmpReads Try.prog 54 #[.pointer (some ⟨c, 0, none⟩)] (fun i : Fin l.length => Value.int .i64 (i.val : Int)) (fun i j => cmpK (keyZ l) i.val j.val) g 0 D.size w := fun m os dk hs x y => by
      have e1 := (sw_heap (enc := fun i : Fin l.length => Value.int .i64 (i.val : Int)) (w := w) (blk := g) (off := 0) (m := m) (dk := dk) (os := os) c (Array.getElem?_eq_some_iff.1 hc).1 hcg).trans hc
      have := fall1_any l vl c x.val y.val x.2 y.2 (sortWorld (fun i : Fin l.length => Value.int .i64 (i.val : Int)) w g 0 m dk os) (by rw [cell_of_row _ _ _ _ _ _ e1]; rfl) (VSl.of_heap hL fun b _ h1 h2 => (sw_heap b (Array.getElem?_eq_some_iff.1 h1).1 (hlg h0 b h2)).trans h1)
      simpa using this
    have hs := stableI stI (fun i : Fin l.length => Value.int .i64 (i.val : Int)) (fun i => -(keyZ l i.val)) (fun i j => cmpK (keyZ l) i.val j.val) (fun x y => cmpK_lt (keyZ l) x.val y.val) 54 #[.pointer (some ⟨c, 0, none⟩)] g 0 l.length D w (enters_of Try.func54 (by kernel_rfl) rfl) hcmp.lays hR (by omega)
    have HF : Hid (∀ w' (d' : Array (Fin l.length)), d'.size = D.size → SW (fun i : Fin l.length => Value.int .i64 (i.val : Int)) w g 0 d' w' → DescF (fun i : Fin l.length => -(keyZ l i.val)) (arrF d') 0 D.size → Alike (fun i : Fin l.length => -(keyZ l i.val)) (segF (arrF d') 0 D.size) (segF (arrF D) 0 D.size) → ∃ o, IsOrd (keyZ l) l.length o ∧ VOwn 3 B w' (.slice (some ⟨g, 0, none⟩) l.length l.length) (inV o) ∧ w.grownBy w' (some g)) := fun w' d' q1 q2 q3 q4 => by
      have e1 := segI_all d'
      rw [q1] at e1
      have hdesc : Desc (fun i : Fin l.length => -(keyZ l i.val)) d'.toList := by
        have := DescF.seg (p := fun i : Fin l.length => -(keyZ l i.val)) (f := arrF d') (a := 0) (n := D.size) (by rw [Nat.zero_add]; exact q3)
        rw [e1] at this
        exact this
      rw [e1, segI_all D] at q4
      refine ⟨d'.toList.map Fin.val, ord_of_sorted (by rw [hD]; exact fin_pair _) (fun i => by rw [hD]; simp) hdesc q4, ?_, SW.grownBy q2⟩
      have h3 := own_of_sw (ty := 3) (B := B) (cap := l.length) (L := inV (List.range l.length)) q2 (by rw [q1, hDs]; exact hrow)
      rw [q1, hDs] at h3
      have e3 : inV (d'.toList.map Fin.val) = d'.toList.map (fun i : Fin l.length => Value.int .i64 (i.val : Int)) := by unfold inV; rw [List.map_map]; rfl
      rw [e3]; exact h3
    rw [hDs] at hs HF
    have HS : Hid (∀ W, W = w → Calls Try.prog 75 #[.slice (some ⟨g, 0, none⟩) l.length l.length, .int .i64 (l.length : Int), .func (.func 54) #[] #[.pointer (some ⟨c, 0, none⟩)]] W fun e w' => e = .returned (.tuple #[]) ∧ ∃ o, IsOrd (keyZ l) l.length o ∧ VOwn 3 B w' (.slice (some ⟨g, 0, none⟩) l.length l.length) (inV o) ∧ w.grownBy w' (some g)) := fun W hW => by
      subst hW
      refine hs.mono ?_
      rintro e w' ⟨rfl, d', q1, q2, q3, q4⟩
      exact ⟨rfl, HF.out w' d' q1 q2 q3 q4⟩
    clear hs HF hcmp hR hH hDj hDs hD hrow hc hL hlg
    generalize l.length = n at HS hn h0 ⊢
    go_enter Try.func53, Try.ntmps53
    go_wp2_with (go_at_call 75; refine (HS.out _ rfl).mono ?_; rintro e w' ⟨rfl, ho⟩)
    go_end0
    exact ⟨rfl, ho⟩
theorem inV_range_at (n k : Nat) (h : k < n) : (inV (List.range n))[k]? = some (Value.int .i64 (k : Int)) := by
  unfold inV
  rw [List.getElem?_map, List.getElem?_range h]; rfl
end Go.Proofs.Ytpbinkmeldkehaa
namespace Go.Proofs.Ytpbinkmeldkehaa
open Go Go.Lib Go.RowKit
set_option maxRecDepth 20000

theorem load_tab {w : World} {q g : Nat} {vw : Value} {room : Int} (hg : w.heap[q]? = some (.cells #[.map (some g), vw, .int .i64 room] 81 (0, 0))) : (Instr.loadAt 81 (.pointer (some ⟨q, 0, none⟩))).run Try.prog w = .ok (.agg #[.map (some g), vw, .int .i64 room]) w := by
  simp only [Instr.loadAt, Instr.sureAddr, Sem.run_bind, Sem.run_pure, Result.andThen_ok, run_loadVar_row w q _ _ #[.map (some g), vw, .int .i64 room] (0, 0) _ hg Try.underlying81 rfl (show (Try.prog.info? 81).map (·.size) = some 3 by kernel_rfl)]
theorem give_step {th : Nat → Bool} {ld : Nat → Int} {wt : Nat → Nat} {room size : Int} {but n : Nat} (h1 : 1 ≤ n) : giveGo th ld wt room size but n = if mayG th ld room size but n then
      (match giveGo th ld wt room size but (n - 1) with
      | none => some (n, costT (ld n + size) (wt n))
      | some (m, y) => if placeT (costT (ld n + size) (wt n)) < placeT y then some (n, costT (ld n + size) (wt n)) else some (m, y))
    else giveGo th ld wt room size but (n - 1) := by
  obtain ⟨k, rfl⟩ : ∃ k, n = k + 1 := ⟨n - 1, by omega⟩
  rw [giveGo, Nat.add_sub_cancel]
  by_cases hm : mayG th ld room size but (k + 1) = true
  · rw [if_pos hm, if_pos hm]
    cases giveGo th ld wt room size but k with
    | none => rfl
    | some p => rfl
  · rw [if_neg hm, if_neg hm]
theorem costT_wd (a : Int) (v : Nat) : Wd (costT a v) := by
  exact wd_rung (costT_le a v)
set_option maxHeartbeats 8000000 in
theorem give_any (g : Nat) (th : Nat → Bool) (ld : Nat → Int) (l : List Nat) (hW : AllW l) (vw : Value) (room size0 : Int) (but : Nat) (w : World) (hM : MapL w g th ld) (hL : FSl w vw l)
    (hr1 : -9223372036854775808 ≤ room) (hr2 : room ≤ 9223372036854775807) (hs2 : size0 ≤ 9223372036854775807) (hld : ∀ k, 1 ≤ k → k ≤ 6 → th k = true → 0 ≤ ld k ∧ ld k ≤ max room 0) :
    Calls Try.prog 44 #[.agg (tabA g vw room), .int .i64 size0, .int .i64 (but : Int)] w fun e w' => e = .returned (.int .i64 (giveN th ld (wtT l) room (max size0 0) but : Nat)) ∧ MapL w' g th (ldUp ld (giveN th ld (wtT l) room (max size0 0) but) (max size0 0)) ∧ Kept (fun k => k = g) w w' := by
  obtain ⟨s, hs⟩ : ∃ s, s = max size0 0 := ⟨_, rfl⟩
  have HS : Hid (s = max size0 0) := hs
  have hs0 : 0 ≤ s := by omega
  have hs3 : s ≤ 9223372036854775807 := by omega
  rw [← hs]
  obtain ⟨GG, hGG⟩ : ∃ GG : Nat → Option (Nat × Nat), GG = giveGo th ld (wtT l) room s but := ⟨_, rfl⟩
  have STEP : Hid (∀ n : Nat, 1 ≤ n → GG n = if mayG th ld room s but n then
      (match GG (n - 1) with
      | none => some (n, costT (ld n + s) (wtT l n))
      | some (m, y) => if placeT (costT (ld n + s) (wtT l n)) < placeT y then some (n, costT (ld n + s) (wtT l n)) else some (m, y))
    else GG (n - 1)) := fun n h => by rw [hGG]; exact give_step h
  have G0 : Hid (GG 0 = none) := by show _ = _; rw [hGG, giveGo]
  have GIN : Hid (∀ k n x : Nat, GG k = some (n, x) → 1 ≤ n ∧ n ≤ k ∧ mayG th ld room s but n = true ∧ Wd x) := fun k n x h => by
    rw [hGG] at h
    obtain ⟨h1, h2, h3, h4⟩ := giveGo_in h
    refine ⟨h1, h2, h3, ?_⟩
    rw [h4]
    unfold mayG at h3
    simp only [Bool.and_eq_true, Bool.not_eq_true', decide_eq_false_iff_not] at h3
    exact costT_wd _ _
  have RES : Hid (giveN th ld (wtT l) room s but = gI (GG 6)) := by show _ = _; rw [hGG, giveN]
  have WT : Hid (∀ (n : Nat) W, 1 ≤ n → n ≤ 6 → Below w.heap.size w W → Calls Try.prog 57 #[.agg #[.map (some g), vw, .int .i64 room], .int .i64 (n : Int)] W fun e w' => e = .returned (.float .f64 (wtT l n)) ∧ Below W.heap.size W w') := fun n W h1 h2 hb => by have h := weight_any g l vw room n h1 h2 W (VSl.below hL hb); unfold tabA at h; exact h
  have CO : Hid (∀ (n : Nat) W (a : Int), a ≤ 9223372036854775807 → Calls Try.prog 56 #[.int .i64 a, .float .f64 (wtT l n)] W fun e w' => e = .returned (.float .f64 (costT a (wtT l n))) ∧ w' = W) := fun n W a ha => by have h := cost_any a (wtT l n) ha (wt_wd hW n) W; exact h
  have LS : Hid (∀ (x y : Nat) W, Wd x → Wd y → Calls Try.prog 58 #[.float .f64 x, .float .f64 y] W fun e w' => e = .returned (.bool (decide (placeT x < placeT y))) ∧ w' = W) := fun x y W h1 h2 => less_any x y h1 h2 W
  have CW : Hid (∀ (n : Nat) (a : Int), a ≤ 9223372036854775807 → Wd (costT a (wtT l n))) := fun n a _ => costT_wd a _
  have HM : Hid (MapL w g th ld) := hM
  have HLD : Hid (∀ k, 1 ≤ k → k ≤ 6 → th k = true → 0 ≤ ld k ∧ ld k ≤ max room 0) := hld
  rw [RES.out]
  clear hGG hM hL hld hs RES hW
  unfold tabA
  have Q0 : Hid ((w.alloc (.cells #[.map (some g), vw, .int .i64 room] 81)).heap[w.heap.size]? = some (.cells #[.map (some g), vw, .int .i64 room] 81 (0, 0))) := heap_new _ _ _ rfl
  have B0 : Hid (Below w.heap.size w (w.alloc (.cells #[.map (some g), vw, .int .i64 room] 81))) := (Below.refl _ _).alloc (Nat.le_refl _) _
  go_enter Try.func44, Try.ntmps44
  go_wp2_with (refine wl_maxI rfl _ _ rfl size0 0 s rfl rfl HS.out ?_)
  go_loopw [7, 8, 9] (fun v7 v8 v9 wr => ∃ n : Nat, 1 ≤ n ∧ n ≤ 7 ∧ v9 = .int .i64 (n : Int) ∧ v7 = .int .i64 (gI (GG (n - 1)) : Nat) ∧ v8 = .float .f64 (gX (GG (n - 1))) ∧ Hid (wr.heap[w.heap.size]? = some (.cells #[.map (some g), vw, .int .i64 room] 81 (0, 0))) ∧ Hid (Below w.heap.size w wr)) (fun _ _ v9 _ => 7 - (intOf v9).toNat)
  case atStart => exact ⟨1, by omega, by omega, rfl, by rw [show (1 : Nat) - 1 = 0 from rfl, G0.out]; rfl, by rw [show (1 : Nat) - 1 = 0 from rfl, G0.out]; rfl, Q0, B0⟩
  case round =>
    clear Q0 B0
    obtain ⟨n, hn1, hn7, rfl, rfl, rfl, QX, BX⟩ := hrel
    have r0 : wr.cell? ⟨w.heap.size, 0, none⟩ = some (.map (some g)) := by rw [cell_of_row _ _ _ _ _ _ QX.out]; rfl
    have r1 : wr.cell? ⟨w.heap.size, 1, none⟩ = some vw := by rw [cell_of_row _ _ _ _ _ _ QX.out]; rfl
    have r2 : wr.cell? ⟨w.heap.size, 2, none⟩ = some (.int .i64 room) := by rw [cell_of_row _ _ _ _ _ _ QX.out]; rfl
    by_cases hle : n ≤ 6
    · have hle' : (n : Int) ≤ 6 := by omega
      have hlook := (HM.out.below BX.out).look n hn1 hle
      have hnn : n + 1 - 1 = n := by omega
      cases hth : th n with
      | false =>
        rw [hth] at hlook
        simp only [Bool.false_eq_true, if_false] at hlook
        have HE : Hid (GG (n + 1 - 1) = GG (n - 1)) := by
          show _ = _
          rw [hnn, STEP.out n hn1, if_neg (by unfold mayG; rw [hth]; simp)]
        clear hth
        go_wp2_with fail
        go_roundw
        case rel => exact ⟨n + 1, by omega, by omega, by go_num, by rw [HE.out], by rw [HE.out], QX, BX⟩
        case measure => simp [intOf]; omega
      | true =>
        rw [hth, if_pos rfl] at hlook
        obtain ⟨hx0, hx1⟩ := HLD.out n hn1 hle hth
        by_cases hbut : n = but
        · have hb1 : ((n : Int) == (but : Int)) = true := by simp; omega
          have HE : Hid (GG (n + 1 - 1) = GG (n - 1)) := by
            show _ = _
            rw [hnn, STEP.out n hn1, if_neg (by unfold mayG; simp [hbut])]
          generalize ld n = x at *
          clear hth hbut
          go_wp2_with fail
          go_roundw
          case rel => exact ⟨n + 1, by omega, by omega, by go_num, by rw [HE.out], by rw [HE.out], QX, BX⟩
          case measure => simp [intOf]; omega
        · have hb1 : ((n : Int) == (but : Int)) = false := by simp; omega
          by_cases hfit : room - ld n < s
          · have hf1 : decide (room - ld n < s) = true := by simpa using hfit
            have HE : Hid (GG (n + 1 - 1) = GG (n - 1)) := by
              show _ = _
              rw [hnn, STEP.out n hn1, if_neg (by unfold mayG; simp [hfit])]
            have hr3 : -9223372036854775808 ≤ room - ld n := by omega
            have hr4 : room - ld n ≤ 9223372036854775807 := by omega
            generalize ld n = x at *
            clear hth hbut
            go_wp2_with fail
            go_roundw
            case rel => exact ⟨n + 1, by omega, by omega, by go_num, by rw [HE.out], by rw [HE.out], QX, BX⟩
            case measure => simp [intOf]; omega
          · have hf1 : decide (room - ld n < s) = false := by simpa using hfit
            have HG : Hid (GG n = (match GG (n - 1) with
              | none => some (n, costT (ld n + s) (wtT l n))
              | some (m, y) => if placeT (costT (ld n + s) (wtT l n)) < placeT y then some (n, costT (ld n + s) (wtT l n)) else some (m, y))) := by
              show _ = _
              rw [STEP.out n hn1, if_pos (by unfold mayG; simp [hfit, hth, hbut])]
            have hr3 : -9223372036854775808 ≤ room - ld n := by omega
            have hr4 : room - ld n ≤ 9223372036854775807 := by omega
            have hr5 : ld n + s ≤ 9223372036854775807 := by omega
            have hr6 : -9223372036854775808 ≤ ld n + s := by omega
            have co := fun W => CO.out n W (ld n + s) hr5
            have cw := CW.out n (ld n + s) hr5
            have hlt := load_tab QX.out
            have wt := WT.out n wr hn1 hle BX.out
            generalize costT (ld n + s) (wtT l n) = cx at co cw HG
            generalize ld n = x at *
            clear hth hbut
            go_wp2_with (first | (go_at_call 57; refine wt.mono ?_; rintro e w2 ⟨rfl, hb2⟩; refine of_stopT ?_))
            unfold StopT
            have Q2 : Hid (w2.heap[w.heap.size]? = some (.cells #[.map (some g), vw, .int .i64 room] 81 (0, 0))) := (hb2.block _ (Array.getElem?_eq_some_iff.1 QX.out).1).trans QX.out
            have B2 : Hid (Below w.heap.size w w2) := BX.out.trans (hb2.mono BX.out.size)
            clear hb2 QX BX r0 r1 r2 hlook hlt wt
            have hvw : True := trivial
            cases hp : GG (n - 1) with
            | none =>
              have HE : Hid (GG (n + 1 - 1) = some (n, cx)) := by show _ = _; rw [hnn, HG.out, hp]
              have hg0 : gI none = 0 := rfl
              rw [hg0]
              clear hp HG
              go_wp2_with (first | (go_at_call 56; refine (co _).mono ?_; rintro e w3 ⟨rfl, hw3⟩; rw [hw3]; clear hw3 w3))
              go_roundw
              case rel => exact ⟨n + 1, by omega, by omega, by go_num, by rw [HE.out]; rfl, by rw [HE.out]; rfl, Q2, B2⟩
              case measure => simp [intOf]; omega
            | some pq =>
              obtain ⟨m, y⟩ := pq
              obtain ⟨hm1, _, _, hyw⟩ := GIN.out _ _ _ hp
              have hgm : gI (some (m, y)) = m := rfl
              have hgy : gX (some (m, y)) = y := rfl
              rw [hgm, hgy]
              have hm0 : ((m : Int) == 0) = false := by simp; omega
              have ls := fun W => LS.out cx y W cw hyw
              by_cases hless : placeT cx < placeT y
              · have HE : Hid (GG (n + 1 - 1) = some (n, cx)) := by show _ = _; rw [hnn, HG.out, hp]; dsimp only; rw [if_pos hless]
                have hl : decide (placeT cx < placeT y) = true := by simpa using hless
                rw [hl] at ls
                clear hp HG hless hl hgm hgy
                go_wp2_with (first | (go_at_call 56; refine (co _).mono ?_; rintro e w3 ⟨rfl, hw3⟩; rw [hw3]; clear hw3 w3) | (go_at_call 58; refine (ls _).mono ?_; rintro e w3 ⟨rfl, hw3⟩; rw [hw3]; clear hw3 w3))
                go_roundw
                case rel => exact ⟨n + 1, by omega, by omega, by go_num, by rw [HE.out]; rfl, by rw [HE.out]; rfl, Q2, B2⟩
                case measure => simp [intOf]; omega
              · have HE : Hid (GG (n + 1 - 1) = some (m, y)) := by show _ = _; rw [hnn, HG.out, hp]; dsimp only; rw [if_neg hless]
                have hl : decide (placeT cx < placeT y) = false := by simpa using hless
                rw [hl] at ls
                clear hp HG hless hl hgm hgy
                go_wp2_with (first | (go_at_call 56; refine (co _).mono ?_; rintro e w3 ⟨rfl, hw3⟩; rw [hw3]; clear hw3 w3) | (go_at_call 58; refine (ls _).mono ?_; rintro e w3 ⟨rfl, hw3⟩; rw [hw3]; clear hw3 w3))
                go_roundw
                case rel => exact ⟨n + 1, by omega, by omega, by go_num, by rw [HE.out]; rfl, by rw [HE.out]; rfl, Q2, B2⟩
                case measure => simp [intOf]; omega
    · have hle' : ¬ (n : Int) ≤ 6 := by omega
      obtain rfl : n = 7 := by omega
      cases hp : GG (7 - 1) with
      | none =>
        have H6 : Hid (GG 6 = none) := hp
        have hg0 : gI none = 0 := rfl
        rw [hg0]
        have M1 : Hid (MapL wr g th (ldUp ld 0 s)) := MapL.congr (HM.out.below BX.out) (fun _ _ _ => rfl) (fun k _ _ _ => by unfold ldUp; rw [if_neg (by simp)])
        clear hp
        go_wp2_with fail
        go_ret
        exact ⟨by rw [H6.out]; rfl, by rw [H6.out]; exact M1.out, Kept.of_below BX.out⟩
      | some pq =>
        obtain ⟨m, y⟩ := pq
        have H6 : Hid (GG 6 = some (m, y)) := hp
        obtain ⟨hm1, hm6, hmay, _⟩ := GIN.out _ _ _ H6.out
        have hgm : gI (some (m, y)) = m := rfl
        rw [hgm]
        have hth : th m = true ∧ ld m + s ≤ room := by
          unfold mayG at hmay
          simp only [Bool.and_eq_true, Bool.not_eq_true', decide_eq_false_iff_not] at hmay
          exact ⟨hmay.1.1, by omega⟩
        obtain ⟨hx0, hx1⟩ := HLD.out m hm1 hm6 hth.1
        have hget := (HM.out.below BX.out).get m hm1 hm6
        rw [hth.1, if_pos rfl] at hget
        obtain ⟨w2, hrun, hM2, hgr⟩ := (HM.out.below BX.out).put m hm1 hm6 (ld m + s) (by omega) (by omega)
        have M2 : Hid (MapL w2 g th (ldUp ld m s)) := by
          refine MapL.congr hM2 (fun k _ _ => ?_) (fun k _ _ _ => ?_)
          · unfold updB
            split
            · rename_i e; rw [e, hth.1]
            · rfl
          · unfold updI ldUp
            by_cases e : k = m
            · rw [if_pos e, if_pos ⟨e, by omega⟩, e]
            · rw [if_neg e, if_neg (fun h => e h.1)]
        have K2 : Hid (Kept (fun k => k = g) w w2) := (Kept.pre BX.out (Kept.of_grown hgr (fun k hk => by cases hk; rfl)))
        have hm0 : ((m : Int) == 0) = false := by simp; omega
        have hr5 : ld m + s ≤ 9223372036854775807 := by omega
        have hr6 : -9223372036854775808 ≤ ld m + s := by omega
        clear hp hM2 hgr hmay hth hgm
        generalize ld m = x at *
        go_wp2_with fail
        go_ret
        exact ⟨by rw [H6.out]; rfl, by rw [H6.out]; exact M2.out, K2.out⟩
end Go.Proofs.Ytpbinkmeldkehaa
