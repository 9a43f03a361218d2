import Derived.Test.YtojhckjdkafpmaaJ22
import Derived.Test.YtojhckjdkafpmaaJ8
import Derived.Test.YtojhckjdkafpmaaJ11
namespace Go.Proofs.Ytojhckjdkafpmaa
open Go Go.Shelf Go.RowKit Go.Lib Go.Sort
set_option maxRecDepth 20000

variable {α : Type} [Inhabited α]
set_option maxHeartbeats 16000000 in
set_option maxRecDepth 1000000 in
/-- slices.symMergeCmpFunc: two sorted parts side by side become one, those of one number in their order. -/
theorem symS_step {P : Program} {k : Nat} (L : StS P k) (enc : α → List Value) (p : α → Int) (cf : α → α → Int) (hcf : ∀ x y, cf x y < 0 ↔ p y < p x) (g : Nat) (cb : Array Value) (blk off cap : Nat) (d0 : Array α) (w0 : World)
    (eg : ∀ args w, (callFunc g args).run P w = .ok (.enter g args) w) (hcmp : CmpLays P g cb enc k cf blk off d0.size w0) (R : RowK enc k w0 blk off d0) (N : Nat)
    (IH : Hid (∀ (a m b : Nat) (d : Array α) (w : World), b - a ≤ N → d0.size = d.size → SWK enc k w0 blk off d w → a < m → m < b → b ≤ d.size → d.size < 4611686018427387904 → DescF p (arrF d) a m → DescF p (arrF d) m b →
      Calls P 79 #[.slice (some ⟨blk, off, none⟩) d.size cap, .int .i64 a, .int .i64 m, .int .i64 b, .func (.func g) #[] cb] w fun e w' => e = .returned (.tuple #[]) ∧ ∃ d', d'.size = d.size ∧ SWK enc k w0 blk off d' w' ∧ Merged p (arrF d) (arrF d') a b))
    (a m b : Nat) (d : Array α) (w : World) (hN : b - a ≤ N + 1) (hs : d0.size = d.size) (S : SWK enc k w0 blk off d w) (ham : a + 1 < m) (hmb : m + 1 < b) (hb : b ≤ d.size) (hsz : d.size < 4611686018427387904) (hX : DescF p (arrF d) a m) (hY : DescF p (arrF d) m b) :
    Calls P 79 #[.slice (some ⟨blk, off, none⟩) d.size cap, .int .i64 a, .int .i64 m, .int .i64 b, .func (.func g) #[] cb] w fun e w' => e = .returned (.tuple #[]) ∧ ∃ d', d'.size = d.size ∧ SWK enc k w0 blk off d' w' ∧ Merged p (arrF d) (arrF d') a b := by
  have mixed := L.mixed
  have t0 := L.t0; have a0 := L.a0; have z0 := L.z0; have v0 := L.v0
  have t3 := L.t3; have a3 := L.a3; have z3 := L.z3; have v3 := L.v3
  have t4 := L.t4; have a4 := L.a4; have z4 := L.z4; have v4 := L.v4
  have tS := L.tS; have aS := L.aS; have zS := L.zS; have vS := L.vS
  have tF := L.tF; have aF := L.aF; have zF := L.zF; have vF := L.vF
  have tU := L.tU; have aU := L.aU; have zU := L.zU; have vU := L.vU
  have aE := L.aE; have zE := L.zE
  have FG := L.f_symMerge
  have e80 : ∀ args w, (callFunc 80 args).run P w = .ok (.enter 80 args) w := enters_of L.f_rotate (by kernel_rfl) rfl
  have e79 : ∀ args w, (callFunc 79 args).run P w = .ok (.enter 79 args) w := enters_of L.f_symMerge (by kernel_rfl) rfl
  have HC : Aside _ := hcmp
  have S0 : Aside (SWK enc k w0 blk off d w) := S
  have HF : Hid (∀ x y, cf x y < 0 ↔ p y < p x) := hcf
  have HX : Hid (DescF p (arrF d) a m) := hX
  have HY : Hid (DescF p (arrF d) m b) := hY
  have hne : (((m : Int) - (a : Int)) == 1) = false := by simp; omega
  have hne2 : (((b : Int) - (m : Int)) == 1) = false := by simp; omega
  have LL : Hid (StS P k) := L
  have HCM : Hid (CmpLays P g cb enc k cf blk off d0.size w0) := hcmp
  obtain ⟨mid, hm0⟩ : ∃ h, h = (a + b) / 2 := ⟨_, rfl⟩
  have hmz : ((a : Int) + (b : Int)) / 2 = (mid : Int) := by omega
  have hm1 : a < mid := by omega
  have hm2 : mid < b := by omega
  have hm3 : a + b ≤ mid + mid + 1 := by omega
  have hm4 : mid + mid ≤ a + b := by omega
  clear hcmp S hcf hX hY L hm0
  go_enter FG, Try.ntmps79
  go_upto_if 140 with fail
  generalize hb : decide ((mid : Int) < (m : Int)) = tb
  have HB : Hid (decide ((mid : Int) < (m : Int)) = tb) := hb
  clear hb
  go_cut [20, 21] from 141 to 146 (fun s20 s21 wx => ∃ (s r : Nat), s20 = .int .i64 s ∧ s21 = .int .i64 r ∧ a ≤ s ∧ s ≤ r ∧ r ≤ m ∧ mid + m ≤ b + s ∧ r ≤ mid ∧ Hid ((s = a ∨ s + b = mid + m) ∧ (r = m ∨ r = mid)) ∧ Aside (SWK enc k w0 blk off d wx))
  case first =>
    cases tb with
    | true =>
      have h : mid < m := by have := of_decide_eq_true HB.out; omega
      go_wp2
      go_meet
      case rel => exact ⟨mid + m - b, mid, by rw [show ((mid + m - b : Nat) : Int) = (mid : Int) + (m : Int) - (b : Int) by omega], rfl, by omega, by omega, by omega, by omega, by omega, ⟨.inr (by omega), .inr rfl⟩, S0⟩
    | false =>
      have h : ¬ mid < m := by have := of_decide_eq_false HB.out; omega
      go_wp2
      go_meet
      case rel => exact ⟨a, m, rfl, rfl, by omega, by omega, by omega, by omega, by omega, ⟨.inl rfl, .inl rfl⟩, S0⟩
  case rest =>
    clear S0
    obtain ⟨s0, r0, rfl, rfl, hs1, hs2, hs3, hs4, hs5, HSR, S0⟩ := hcut
    go_wp2
    go_loopg [20, 21] (r0 - s0) (fun kx s20 s21 wr => ∃ (i j : Nat), s20 = .int .i64 i ∧ s21 = .int .i64 j ∧ s0 ≤ i ∧ i ≤ j ∧ j ≤ r0 ∧ j - i ≤ kx ∧ Aside (SWK enc k w0 blk off d wr) ∧ Hid (i = s0 ∨ p (arrF d (mid + m - i)) ≤ p (arrF d (i - 1))) ∧ Hid (j = r0 ∨ p (arrF d j) < p (arrF d (mid + m - j - 1))))
    case atStart => exact ⟨s0, r0, rfl, rfl, Nat.le_refl _, hs2, Nat.le_refl _, Nat.le_refl _, S0, .inl rfl, .inl rfl⟩
    case round =>
      clear S0
      obtain ⟨i, j, rfl, rfl, hai, hij, hjb, hkx, S1, HI, HJ⟩ := hrel
      by_cases hlt : i < j
      · have hltz : (i : Int) < (j : Int) := by omega
        obtain ⟨h, hh⟩ : ∃ h, h = (i + j) / 2 := ⟨_, rfl⟩
        have hhz : ((i : Int) + (j : Int)) / 2 = (h : Int) := by omega
        have hh1 : i ≤ h := by omega
        have hh2 : h < j := by omega
        clear hh
        obtain ⟨u, hu⟩ : ∃ u, u = mid + m - 1 - h := ⟨_, rfl⟩
        have huz : (mid : Int) + (m : Int) - 1 - (h : Int) = (u : Int) := by omega
        have hub : u < b := by omega
        have HU : Hid (u = mid + m - 1 - h) := hu
        clear hu
        by_cases hv : cf d[u]! d[h]! < 0
        · have HN : Hid (h = r0 ∨ p (arrF d h) < p (arrF d (mid + m - h - 1))) := .inr (by have hu := HU.out; rw [show mid + m - h - 1 = u by omega]; exact (HF.out _ _).1 hv)
          have ea24 : ((u : Int)).toNat = u := by omega
          have pa24 : (0 : Int) ≤ (u : Int) := by omega
          have ba24 : (u : Int) < (d.size : Int) := by omega
          have ra24 : IntKind.i64.wrap ((u : Int)) = (u : Int) := by rw [IntKind.wrap_i64]; omega
          have ec24 : ((h : Int)).toNat = h := by omega
          have pc24 : (0 : Int) ≤ (h : Int) := by omega
          have bc24 : (h : Int) < (d.size : Int) := by omega
          have rc24 : IntKind.i64.wrap ((h : Int)) = (h : Int) := by rw [IntKind.wrap_i64]; omega
          obtain ⟨x24, hx24⟩ : ∃ x, x = d[u]! := ⟨_, rfl⟩
          obtain ⟨y24, hy24⟩ : ∃ x, x = d[h]! := ⟨_, rfl⟩
          have l24a := S1.out.ld R (by omega) P (u) (by omega)
          have l24b := S1.out.ld R (by omega) P (h) (by omega)
          rw [← hx24] at l24a
          rw [← hy24] at l24b
          have hc24 := S1.out.cmp HC.out (by omega) x24 y24
          have hv24 : cf x24 y24 < 0 := by rw [hx24, hy24]; exact hv
          have hd24 : decide (cf x24 y24 < 0) = true := decide_eq_true hv24
          clear hx24 hy24 hv
          go_wp2_with fail
          go_quiet_grown (first | (go_at_fn g; refine Calls.grown_of (hc24 _ _)))
          have S2 : Aside (SWK enc k w0 blk off d (grow (wr.drewN nq) osq)) := S1.out.grown nq osq
          clear l24a l24b hc24 S1
          generalize grow (wr.drewN nq) osq = w2 at S2 ⊢
          clear nq osq
          go_wp2
          go_roundg (h - i)
          case measure => omega
          case rel => exact ⟨i, h, rfl, rfl, hai, hh1, by omega, Nat.le_refl _, S2, HI, HN⟩
        · have HN : Hid (h + 1 = s0 ∨ p (arrF d (mid + m - (h + 1))) ≤ p (arrF d (h + 1 - 1))) := .inr (by have := mt (HF.out d[u]! d[h]!).2 hv; have hu := HU.out; rw [show mid + m - (h + 1) = u by omega]; exact Int.not_lt.1 this)
          have ea25 : ((u : Int)).toNat = u := by omega
          have pa25 : (0 : Int) ≤ (u : Int) := by omega
          have ba25 : (u : Int) < (d.size : Int) := by omega
          have ra25 : IntKind.i64.wrap ((u : Int)) = (u : Int) := by rw [IntKind.wrap_i64]; omega
          have ec25 : ((h : Int)).toNat = h := by omega
          have pc25 : (0 : Int) ≤ (h : Int) := by omega
          have bc25 : (h : Int) < (d.size : Int) := by omega
          have rc25 : IntKind.i64.wrap ((h : Int)) = (h : Int) := by rw [IntKind.wrap_i64]; omega
          obtain ⟨x25, hx25⟩ : ∃ x, x = d[u]! := ⟨_, rfl⟩
          obtain ⟨y25, hy25⟩ : ∃ x, x = d[h]! := ⟨_, rfl⟩
          have l25a := S1.out.ld R (by omega) P (u) (by omega)
          have l25b := S1.out.ld R (by omega) P (h) (by omega)
          rw [← hx25] at l25a
          rw [← hy25] at l25b
          have hc25 := S1.out.cmp HC.out (by omega) x25 y25
          have hv25 : ¬ cf x25 y25 < 0 := by rw [hx25, hy25]; exact hv
          have hd25 : decide (cf x25 y25 < 0) = false := decide_eq_false hv25
          clear hx25 hy25 hv
          go_wp2_with fail
          go_quiet_grown (first | (go_at_fn g; refine Calls.grown_of (hc25 _ _)))
          have S2 : Aside (SWK enc k w0 blk off d (grow (wr.drewN nq) osq)) := S1.out.grown nq osq
          clear l25a l25b hc25 S1
          generalize grow (wr.drewN nq) osq = w2 at S2 ⊢
          clear nq osq
          go_wp2
          go_roundg (j - (h + 1))
          case measure => omega
          case rel => exact ⟨h + 1, j, by go_num, rfl, by omega, by omega, hjb, Nat.le_refl _, S2, HN, HJ⟩
      · have hltz : ¬ (i : Int) < (j : Int) := by omega
        obtain rfl : i = j := by omega
        obtain ⟨en, hen⟩ : ∃ en, en = mid + m - i := ⟨_, rfl⟩
        have henz : (mid : Int) + (m : Int) - (i : Int) = (en : Int) := by omega
        have hsum : i + en = mid + m := by omega
        have h1 : a ≤ i := by omega
        have h2 : i ≤ m := by omega
        have h3 : m ≤ en := by omega
        have h4 : en ≤ b := by omega
        have Q : Hid ((i = a ∨ en = b ∨ p (arrF d en) ≤ p (arrF d (i - 1))) ∧ (i = m ∨ en = m ∨ p (arrF d i) < p (arrF d (en - 1)))) := by
          obtain ⟨g1, g2⟩ := HSR.out
          refine ⟨?_, ?_⟩
          · rcases HI.out with e | e
            · rcases g1 with g1 | g1
              · left; omega
              · right; left; omega
            · right; right; rw [hen]; exact e
          · rcases HJ.out with e | e
            · rcases g2 with g2 | g2
              · left; omega
              · right; left; omega
            · right; right; rw [hen]; exact e
        clear hen HSR HI HJ
        go_upto_region 39 with fail
        go_cut [185] from 178 to 185 (fun c wx => c = .bool (decide (i < m ∧ m < en)) ∧ Aside (SWK enc k w0 blk off d wx))
        case first =>
          by_cases c1 : i < m
          · have c1z : (i : Int) < (m : Int) := by omega
            by_cases c2 : m < en
            · have c2z : (m : Int) < (en : Int) := by omega
              have HV : Hid (decide (i < m ∧ m < en) = true) := decide_eq_true ⟨c1, c2⟩
              go_wp2
              go_meet
              case rel => exact ⟨by rw [HV.out], S1⟩
            · have c2z : ¬ (m : Int) < (en : Int) := by omega
              have HV : Hid (decide (i < m ∧ m < en) = false) := decide_eq_false (by omega)
              go_wp2
              go_meet
              case rel => exact ⟨by rw [HV.out], S1⟩
          · have c1z : ¬ (i : Int) < (m : Int) := by omega
            have HV : Hid (decide (i < m ∧ m < en) = false) := decide_eq_false (by omega)
            go_wp2
            go_meet
            case rel => exact ⟨by rw [HV.out], S1⟩
        case rest =>
        clear S1
        obtain ⟨rfl, S1⟩ := hcut
        generalize hb1 : decide (i < m ∧ m < en) = tb1
        have HB1 : Hid (decide (i < m ∧ m < en) = tb1) := hb1
        clear hb1
        go_upto_if 185 with fail
        go_cut [] from 186 to 191 (fun wx => ∃ d1 : Array α, d1.size = d.size ∧ arrF d1 = rotF (arrF d) i m en ∧ Aside (SWK enc k w0 blk off d1 wx))
        case first =>
          cases tb1 with
          | true =>
            obtain ⟨c1, c2⟩ := of_decide_eq_true HB1.out
            have hc := rotateS LL.out enc g cb blk off cap i m en d0 d w0 wc R hs S1.out c1 c2 (by omega) hsz
            clear S1
            go_wp2_with (go_at_fn 80; refine hc.mono ?_; rintro e w1 ⟨rfl, d1, hd1, S3, hE⟩)
            go_meet
            case rel => exact ⟨d1, hd1, hE, S3⟩
          | false =>
            have hE : Hid (arrF d = rotF (arrF d) i m en) := by
              have := of_decide_eq_false HB1.out
              by_cases c1 : i = m
              · rw [c1, rot_none1]; rfl
              · have c2 : en = m := by omega
                rw [c2, rot_none2]; rfl
            go_wp2
            go_meet
            case rel => exact ⟨d, rfl, hE.out, S1⟩
        case rest =>
          clear S1
          obtain ⟨d1, hd1, hE1, S1⟩ := hcut
          clear HB1
          have HE1 : Hid (arrF d1 = rotF (arrF d) i m en) := hE1
          clear hE1
          go_upto_region 41 with fail
          go_cut [199] from 192 to 199 (fun c wx => c = .bool (decide (a < i ∧ i < mid)) ∧ Aside (SWK enc k w0 blk off d1 wx))
          case first =>
            by_cases c1 : a < i
            · have c1z : (a : Int) < (i : Int) := by omega
              by_cases c2 : i < mid
              · have c2z : (i : Int) < (mid : Int) := by omega
                have HV : Hid (decide (a < i ∧ i < mid) = true) := decide_eq_true ⟨c1, c2⟩
                go_wp2
                go_meet
                case rel => exact ⟨by rw [HV.out], S1⟩
              · have c2z : ¬ (i : Int) < (mid : Int) := by omega
                have HV : Hid (decide (a < i ∧ i < mid) = false) := decide_eq_false (by omega)
                go_wp2
                go_meet
                case rel => exact ⟨by rw [HV.out], S1⟩
            · have c1z : ¬ (a : Int) < (i : Int) := by omega
              have HV : Hid (decide (a < i ∧ i < mid) = false) := decide_eq_false (by omega)
              go_wp2
              go_meet
              case rel => exact ⟨by rw [HV.out], S1⟩
          case rest =>
          clear S1
          obtain ⟨rfl, S1⟩ := hcut
          generalize hb2 : decide (a < i ∧ i < mid) = tb2
          have HB2 : Hid (decide (a < i ∧ i < mid) = tb2) := hb2
          clear hb2
          go_upto_if 199 with fail
          go_cut [] from 200 to 205 (fun wx => ∃ d2 : Array α, d2.size = d.size ∧ Merged p (arrF d1) (arrF d2) a mid ∧ Aside (SWK enc k w0 blk off d2 wx))
          case first =>
            cases tb2 with
            | true =>
              obtain ⟨c1, c2⟩ := of_decide_eq_true HB2.out
              have hc := IH.out a i mid d1 wc (by omega) (by omega) S1.out c1 c2 (by omega) (by omega) (by rw [HE1.out]; exact (HX.out.part (Nat.le_refl _) h2).congr fun t q1 q2 => rotF_out _ h3 h2 (by omega)) (by
                rw [HE1.out]
                intro x y q1 q2 q3
                simp only [rotF]
                rw [if_pos (by omega), if_pos (by omega)]
                exact HY.out _ _ (by omega) (by omega) (by omega))
              rw [hd1] at hc
              clear S1
              go_wp2_with (go_at_fn 79; refine hc.mono ?_; rintro e w1 ⟨rfl, d2, hd2, S3, hE⟩)
              go_meet
              case rel => exact ⟨d2, hd2, hE, S3⟩
            | false =>
              have M : Hid (Merged p (arrF d1) (arrF d1) a mid) := Merged.refl (by rw [HE1.out]; exact merged_none h1 h2 h3 h4 hsum HX.out HY.out (by have := of_decide_eq_false HB2.out; omega))
              go_wp2
              go_meet
              case rel => exact ⟨d1, hd1, M.out, S1⟩
          case rest =>
            clear S1
            obtain ⟨d2, hd2, hM, S1⟩ := hcut
            clear HB2
            have M1 : Hid (Merged p (arrF d1) (arrF d2) a mid) := hM
            have FIN : Hid (∀ g : Nat → α, Merged p (arrF d2) g mid b → Merged p (arrF d) g a b) := fun g hg => merged_step h1 h2 h3 h4 hsum ⟨by omega, by omega⟩ HX.out HY.out Q.out.1 Q.out.2 (by rw [← HE1.out]; exact M1.out) hg
            clear hM
            by_cases c1 : mid < en
            · have c1z : (mid : Int) < (en : Int) := by omega
              by_cases c2 : en < b
              · have c2z : (en : Int) < (b : Int) := by omega
                have hc := IH.out mid en b d2 wc (by omega) (by omega) S1.out c1 c2 (by omega) (by omega) (by
                  intro x y q1 q2 q3
                  rw [M1.out.out y (by omega), M1.out.out x (by omega), HE1.out]
                  simp only [rotF]
                  rw [if_neg (by omega), if_pos (by omega), if_neg (by omega), if_pos (by omega)]
                  exact HX.out _ _ (by omega) (by omega) (by omega)) ((HY.out.part h3 (Nat.le_refl _)).congr fun t q1 q2 => by rw [M1.out.out t (by omega), HE1.out, rotF_out _ h3 h2 (by omega)])
                rw [hd2] at hc
                clear S1
                go_wp2_with (go_at_fn 79; refine hc.mono ?_; rintro e w1 ⟨rfl, d3, hd3, S3, hE⟩)
                go_end0
                exact ⟨rfl, d3, hd3, S3, FIN.out _ hE⟩
              · have c2z : ¬ (en : Int) < (b : Int) := by omega
                have M : Hid (Merged p (arrF d2) (arrF d2) mid b) := Merged.refl (merged_none2 h1 h2 h3 h4 hsum HX.out HY.out (fun t ht => by rw [M1.out.out t (by omega), HE1.out]) (by omega))
                go_wp2
                go_end0
                exact ⟨rfl, d2, hd2, S1.out, FIN.out _ M.out⟩
            · have c1z : ¬ (mid : Int) < (en : Int) := by omega
              have M : Hid (Merged p (arrF d2) (arrF d2) mid b) := Merged.refl (merged_none2 h1 h2 h3 h4 hsum HX.out HY.out (fun t ht => by rw [M1.out.out t (by omega), HE1.out]) (by omega))
              go_wp2
              go_end0
              exact ⟨rfl, d2, hd2, S1.out, FIN.out _ M.out⟩
theorem symMergeS {P : Program} {k : Nat} (L : StS P k) (enc : α → List Value) (p : α → Int) (cf : α → α → Int) (hcf : ∀ x y, cf x y < 0 ↔ p y < p x) (g : Nat) (cb : Array Value) (blk off cap : Nat) (d0 : Array α) (w0 : World)
    (eg : ∀ args w, (callFunc g args).run P w = .ok (.enter g args) w) (hcmp : CmpLays P g cb enc k cf blk off d0.size w0) (R : RowK enc k w0 blk off d0) : ∀ (N a m b : Nat) (d : Array α) (w : World), b - a ≤ N → d0.size = d.size → SWK enc k w0 blk off d w → a < m → m < b → b ≤ d.size → d.size < 4611686018427387904 → DescF p (arrF d) a m → DescF p (arrF d) m b →
    Calls P 79 #[.slice (some ⟨blk, off, none⟩) d.size cap, .int .i64 a, .int .i64 m, .int .i64 b, .func (.func g) #[] cb] w fun e w' => e = .returned (.tuple #[]) ∧ ∃ d', d'.size = d.size ∧ SWK enc k w0 blk off d' w' ∧ Merged p (arrF d) (arrF d') a b
  | 0, a, m, b, d, w, h, _, _, h1, h2, _, _, _, _ => by omega
  | N + 1, a, m, b, d, w, h, hs, S, h1, h2, hb, hsz, hX, hY => by
    by_cases c1 : m = a + 1
    · exact symS_one L enc p cf hcf g cb blk off cap d0 w0 eg hcmp R a m b c1 d w hs S h2 hb hsz hY
    · by_cases c2 : b = m + 1
      · exact symS_last L enc p cf hcf g cb blk off cap d0 w0 eg hcmp R a m b c2 d w hs S (by omega) hb hsz hX
      · exact symS_step L enc p cf hcf g cb blk off cap d0 w0 eg hcmp R N (symMergeS L enc p cf hcf g cb blk off cap d0 w0 eg hcmp R N) a m b d w h hs S (by omega) (by omega) hb hsz hX hY
end Go.Proofs.Ytojhckjdkafpmaa
namespace Go.Proofs.Ytojhckjdkafpmaa
open Go Go.Shelf Go.RowKit Go.Lib Go.Sort
set_option maxRecDepth 20000

def stRenS : Go.Shelf.Ren := ⟨fun | 20 => 78 | n => n, fun | 0 => 0 | 3 => 3 | 4 => 4 | 22 => 43 | 24 => 38 | 25 => 93 | n => n, fun | n => n⟩
theorem stLayS {P : Program} {k : Nat} (L : StS P k) : SlLaysF0.n20 P stRenS where
  mixed := L.mixed
  f20 := ⟨_, by kernel_rfl, L.f_insertionSort.trans (congrArg some (show Try.f78 = { SlBodyF.n20 stRenS with name := Try.f78.name } by kernel_rfl))⟩
  t0 := L.t0
  a0 := L.a0
  z0 := L.z0
  v0 := L.v0
  t3 := L.t3
  a3 := L.a3
  z3 := L.z3
  v3 := L.v3
  t4 := L.t4
  a4 := L.a4
  z4 := L.z4
  v4 := L.v4
  t22 := L.tS
  a22 := L.aS
  z22 := L.zS
  v22 := L.vS
  t25 := L.tF
  a25 := L.aF
  z25 := L.zF
  v25 := L.vF
theorem ltOf_ltPS {β : Type} {p : β → Int} {cf : β → β → Int} (hcf : ∀ x y, cf x y < 0 ↔ p y < p x) : ltOf cf = ltP p := by
  funext x y
  unfold ltOf ltP
  rw [Bool.eq_iff_iff, decide_eq_true_iff, decide_eq_true_iff]
  exact hcf x y
variable {α : Type} [Inhabited α]
theorem CmpLays.onS {P : Program} {enc : α → List Value} {k : Nat} {cf : α → α → Int} {g : Nat} {cb : Array Value} {blk off size : Nat} {w0 W : World} {d : Array α} (hC : CmpLays P g cb enc k cf blk off size w0) (h : SWK enc k w0 blk off d W) (hblk : blk < w0.heap.size) (hs : d.size = size) : CmpLays P g cb enc k cf blk off size W := by
  intro m os dk hd x y
  obtain ⟨n, os0, rfl⟩ := h
  rw [sortWorldK_on enc k w0 blk off n m d dk os0 os hblk (by omega)]
  exact hC _ _ dk hd x y
theorem insS {P : Program} {k : Nat} (L : StS P k) (enc : α → List Value) (p : α → Int) (cf : α → α → Int) (hcf : ∀ x y, cf x y < 0 ↔ p y < p x) (g : Nat) (cb : Array Value) (blk off cap : Nat) (d0 : Array α) (w0 : World)
    (eg : ∀ args w, (callFunc g args).run P w = .ok (.enter g args) w) (hcmp : CmpLays P g cb enc k cf blk off d0.size w0) (R : RowK enc k w0 blk off d0) (a b : Nat) (d : Array α) (w : World) (hs : d0.size = d.size) (S : SWK enc k w0 blk off d w) (hab : a ≤ b) (hb : b ≤ d.size) (hsz : d.size < 1152921504606846976) :
    Calls P 78 #[.slice (some ⟨blk, off, none⟩) d.size cap, .int .i64 a, .int .i64 b, .func (.func g) #[] cb] w fun e w' => e = .returned (.tuple #[]) ∧ ∃ d', d'.size = d.size ∧ SWK enc k w0 blk off d' w' ∧ Merged p (arrF d) (arrF d') a b := by
  have hc := AnyQ.insertionSortCmpFunc (stLayS L) k L.aE L.zE enc R.hk R.h1 cf g cb blk off cap a b d w eg (by rw [← hs]; exact CmpLays.onS hcmp S R.hblk hs.symm) (S.holds R.hblk R.hH hs.symm) (S.lt R.hblk) hab hb (by omega)
  refine hc.mono ?_
  rintro e w' ⟨rfl, n, os, rfl⟩
  rw [ltOf_ltPS hcf]
  obtain ⟨m1, m2⟩ := ins_merged (p := p) d a b hab hb
  exact ⟨rfl, _, m1, S.on R.hblk n _ os m1, m2⟩

set_option maxHeartbeats 16000000 in
set_option maxRecDepth 1000000 in
/-- slices.stableCmpFunc: sorted by the falling number, those of one number in their order. -/
theorem stableS {P : Program} {k : Nat} (L : StS P k) (enc : α → List Value) (p : α → Int) (cf : α → α → Int) (hcf : ∀ x y, cf x y < 0 ↔ p y < p x) (g : Nat) (cb : Array Value) (blk off cap : Nat) (d : Array α) (w : World)
    (eg : ∀ args w, (callFunc g args).run P w = .ok (.enter g args) w) (hcmp : CmpLays P g cb enc k cf blk off d.size w) (R : RowK enc k w blk off d) (hsz : d.size < 1152921504606846976) :
    Calls P 75 #[.slice (some ⟨blk, off, none⟩) d.size cap, .int .i64 d.size, .func (.func g) #[] cb] w fun e w' => e = .returned (.tuple #[]) ∧ ∃ d', d'.size = d.size ∧ SWK enc k w blk off d' w' ∧ DescF p (arrF d') 0 d.size ∧ Alike p (segF (arrF d') 0 d.size) (segF (arrF d) 0 d.size) := by
  have mixed := L.mixed
  have t0 := L.t0; have a0 := L.a0; have z0 := L.z0; have v0 := L.v0
  have t3 := L.t3; have a3 := L.a3; have z3 := L.z3; have v3 := L.v3
  have t4 := L.t4; have a4 := L.a4; have z4 := L.z4; have v4 := L.v4
  have tS := L.tS; have aS := L.aS; have zS := L.zS; have vS := L.vS
  have tF := L.tF; have aF := L.aF; have zF := L.zF; have vF := L.vF
  have aE := L.aE; have zE := L.zE
  have FG := L.f_stable
  have e78 : ∀ args w, (callFunc 78 args).run P w = .ok (.enter 78 args) w := enters_of L.f_insertionSort (by kernel_rfl) rfl
  have e79 : ∀ args w, (callFunc 79 args).run P w = .ok (.enter 79 args) w := enters_of L.f_symMerge (by kernel_rfl) rfl
  obtain ⟨n, hn⟩ : ∃ n, n = d.size := ⟨_, rfl⟩
  have HI : Hid (∀ (a b : Nat) (dk : Array α) (W : World), n = dk.size → SWK enc k w blk off dk W → a ≤ b → b ≤ n → Calls P 78 #[.slice (some ⟨blk, off, none⟩) n cap, .int .i64 a, .int .i64 b, .func (.func g) #[] cb] W fun e w' => e = .returned (.tuple #[]) ∧ ∃ d', d'.size = n ∧ SWK enc k w blk off d' w' ∧ Merged p (arrF dk) (arrF d') a b) := fun a b dk W h1 h2 h3 h4 => by
    have := insS L enc p cf hcf g cb blk off cap d w eg hcmp R a b dk W (by omega) h2 h3 (by omega) (by omega)
    rw [← h1] at this; exact this
  have HM : Hid (∀ (a m b : Nat) (dk : Array α) (W : World), n = dk.size → SWK enc k w blk off dk W → a < m → m < b → b ≤ n → DescF p (arrF dk) a m → DescF p (arrF dk) m b → Calls P 79 #[.slice (some ⟨blk, off, none⟩) n cap, .int .i64 a, .int .i64 m, .int .i64 b, .func (.func g) #[] cb] W fun e w' => e = .returned (.tuple #[]) ∧ ∃ d', d'.size = n ∧ SWK enc k w blk off d' w' ∧ Merged p (arrF dk) (arrF d') a b) := fun a m b dk W h1 h2 h3 h4 h5 h6 h7 => by
    have := symMergeS L enc p cf hcf g cb blk off cap d w eg hcmp R (b - a) a m b dk W (Nat.le_refl _) (by omega) h2 h3 h4 (by omega) (by omega) h6 h7
    rw [← h1] at this; exact this
  have S0 : Aside (SWK enc k w blk off d w) := SWK.start R.hH
  have HD : Hid (n = d.size) := hn
  rw [← hn] at hsz ⊢
  clear hcmp R hcf L hn eg
  go_enter FG, Try.ntmps75
  go_wp2
  go_loopg [7, 8] n (fun kx s7 s8 wr => ∃ (q a b : Nat) (dk : Array α), s7 = .int .i64 a ∧ s8 = .int .i64 b ∧ b = a + 20 ∧ a ≤ n ∧ n - a ≤ kx ∧ Hid (a = 20 * q ∧ BlkD p (arrF dk) 20 0 a) ∧ dk.size = n ∧ Aside (SWK enc k w blk off dk wr) ∧ Hid (Alike p (segF (arrF dk) 0 n) (segF (arrF d) 0 n)))
  case atStart => exact ⟨0, 0, 20, d, rfl, rfl, rfl, Nat.zero_le _, Nat.le_refl _, ⟨rfl, blk_none _ _⟩, HD.out.symm, S0, Alike.refl _ _⟩
  case round =>
    clear S0
    obtain ⟨q, a, b, dk, rfl, rfl, hb, han, hkx, HQ, hds, S1, HA⟩ := hrel
    have HBA : Hid (b = a + 20) := hb
    have hba : a < b := by omega
    by_cases hlt : b ≤ n
    · have hltz : (b : Int) ≤ (n : Int) := by omega
      have hc := HI.out a b dk wr hds.symm S1.out (by omega) hlt
      clear hb
      clear S1
      go_wp2_with (go_at_fn 78; refine hc.mono ?_; rintro e w1 ⟨rfl, d', hd', S3, hE⟩)
      go_roundg (n - b)
      case measure => omega
      case rel =>
        obtain ⟨q1, q2⟩ := HQ.out
        have hb := HBA.out
        refine ⟨q + 1, b, b + 20, d', rfl, by go_num, rfl, hlt, Nat.le_refl _, ⟨by omega, ?_⟩, hd', S3, (hE.whole (by omega) hlt).trans HA.out⟩
        rw [q1] at hE q2
        exact blk_more (by omega) q2 (by omega) (by omega) hE rfl
    · have hltz : ¬ (b : Int) ≤ (n : Int) := by omega
      have hc := HI.out a n dk wr hds.symm S1.out han (Nat.le_refl _)
      clear hb S1
      go_wp2_with (go_at_fn 78; refine hc.mono ?_; rintro e w1 ⟨rfl, d', hd', S3, hE⟩)
      have B1 : Hid (BlkD p (arrF d') 20 0 n ∧ Alike p (segF (arrF d') 0 n) (segF (arrF d) 0 n)) := by
        obtain ⟨q1, q2⟩ := HQ.out
        have hb := HBA.out
        refine ⟨?_, (hE.whole han (Nat.le_refl _)).trans HA.out⟩
        rw [q1] at hE q2
        exact blk_more (by omega) q2 (by omega) (by omega) hE rfl
      have S1 : Aside (SWK enc k w blk off d' w1) := S3
      clear S3 hE HQ HA hc
      obtain ⟨W1, hW1⟩ : ∃ W, W = w1 := ⟨_, rfl⟩
      rw [← hW1] at S1 ⊢
      clear hW1
      go_loopg [6, 7, 8, 9] n (fun kx s6 s7 s8 s9 wr => ∃ (s : Nat) (a b m : Value) (dk : Array α), s6 = .int .i64 s ∧ s7 = a ∧ s8 = b ∧ s9 = m ∧ 20 ≤ s ∧ n - s ≤ kx ∧ s ≤ n + n + 20 ∧ dk.size = n ∧ Aside (SWK enc k w blk off dk wr) ∧ Hid (BlkD p (arrF dk) s 0 n ∧ Alike p (segF (arrF dk) 0 n) (segF (arrF d) 0 n)))
      case atStart => exact ⟨20, _, _, _, d', rfl, rfl, rfl, rfl, by omega, by omega, by omega, hd', S1, B1⟩
      case round =>
        clear S1 B1
        obtain ⟨s, va, vb, vm, dk, rfl, rfl, rfl, rfl, hs20, hkx2, hs2, hds2, S1, B1⟩ := hrel
        by_cases hsn : s < n
        · have hsnz : (s : Int) < (n : Int) := by omega
          go_wp2
          obtain ⟨W2, hW2⟩ : ∃ W, W = wr := ⟨_, rfl⟩
          rw [← hW2] at S1 ⊢
          clear hW2
          go_loopg [7, 8] n (fun kx s7 s8 wr2 => ∃ (q a b : Nat) (dj : Array α), s7 = .int .i64 a ∧ s8 = .int .i64 b ∧ b = a + (s + s) ∧ a ≤ n ∧ n - a ≤ kx ∧ Hid (a = (s + s) * q ∧ BlkD p (arrF dj) (s + s) 0 a ∧ BlkD p (arrF dj) s a n) ∧ dj.size = n ∧ Aside (SWK enc k w blk off dj wr2) ∧ Hid (Alike p (segF (arrF dj) 0 n) (segF (arrF d) 0 n)))
          case atStart => exact ⟨0, 0, s + s, dk, rfl, by rw [show ((s + s : Nat) : Int) = 2 * (s : Int) by omega], by omega, Nat.zero_le _, Nat.le_refl _, ⟨by rw [Nat.mul_zero], blk_none _ _, B1.out.1⟩, hds2, S1, B1.out.2⟩
          case round =>
            clear S1 B1
            obtain ⟨q, a, b, dj, rfl, rfl, hb, han, hkx3, HQ, hdj, S1, HA⟩ := hrel
            have HBA : Hid (b = a + (s + s)) := hb
            have eas : ((a + s : Nat) : Int) = (a : Int) + (s : Int) := by omega
            have ess : (s + s) * q = s * (2 * q) := by rw [← Nat.two_mul, Nat.mul_comm 2 s, Nat.mul_assoc]
            have ess2 : (s + s) * q + s = s * (2 * q + 1) := by rw [ess, Nat.mul_add, Nat.mul_one]
            have ESS : Hid ((s + s) * q = s * (2 * q) ∧ (s + s) * q + s = s * (2 * q + 1)) := ⟨ess, ess2⟩
            clear ess ess2
            by_cases hlt : b ≤ n
            · have hltz : (b : Int) ≤ (n : Int) := by omega
              have hc := HM.out a (a + s) b dj wr hdj.symm S1.out (by omega) (by omega) hlt (by
                obtain ⟨q1, q2, q3⟩ := HQ.out
                have e1 := ESS.out.1
                rw [← q1] at e1
                have := blk_desc q3 (q := 2 * q) (by omega) (b := a + s) (by omega) (by omega)
                rw [← e1] at this; exact this) (by
                obtain ⟨q1, q2, q3⟩ := HQ.out
                have e1 := ESS.out.2
                rw [← q1] at e1
                have := blk_desc q3 (q := 2 * q + 1) (by omega) (b := b) (by omega) (by omega)
                rw [← e1] at this; exact this)
              rw [eas] at hc
              clear hb S1
              go_wp2_with (go_at_fn 79; refine hc.mono ?_; rintro e w1 ⟨rfl, d', hd', S3, hE⟩)
              go_roundg (n - b)
              case measure => have := HBA.out; omega
              case rel =>
                obtain ⟨q1, q2, q3⟩ := HQ.out
                have hb := HBA.out
                refine ⟨q + 1, b, b + (s + s), d', rfl, by rw [show ((b + (s + s) : Nat) : Int) = (b : Int) + 2 * (s : Int) by omega], rfl, hlt, Nat.le_refl _, ⟨by rw [Nat.mul_add, Nat.mul_one, ← q1]; exact hb, ?_, blk_behind q3 (by omega) hE⟩, hd', S3, (hE.whole (by omega) hlt).trans HA.out⟩
                rw [q1] at hE q2
                exact blk_more (by omega) q2 (by omega) (by omega) hE rfl
            · have hltz : ¬ (b : Int) ≤ (n : Int) := by omega
              by_cases hm : a + s < n
              · have hmz : (a : Int) + (s : Int) < (n : Int) := by omega
                have hc := HM.out a (a + s) n dj wr hdj.symm S1.out (by omega) hm (Nat.le_refl _) (by
                  obtain ⟨q1, q2, q3⟩ := HQ.out
                  have e1 := ESS.out.1
                  rw [← q1] at e1
                  have := blk_desc q3 (q := 2 * q) (by omega) (b := a + s) (by omega) (by omega)
                  rw [← e1] at this; exact this) (by
                  obtain ⟨q1, q2, q3⟩ := HQ.out
                  have e1 := ESS.out.2
                  rw [← q1] at e1
                  have := blk_desc q3 (q := 2 * q + 1) (by omega) (b := n) (by omega) (by omega)
                  rw [← e1] at this; exact this)
                rw [eas] at hc
                clear hb S1
                go_wp2_with (go_at_fn 79; refine hc.mono ?_; rintro e w1 ⟨rfl, d', hd', S3, hE⟩)
                go_roundg (n - (s + s))
                case measure => omega
                case rel =>
                  obtain ⟨q1, q2, q3⟩ := HQ.out
                  have hb := HBA.out
                  refine ⟨s + s, _, _, _, d', by rw [show ((s + s : Nat) : Int) = (s : Int) * 2 by omega], rfl, rfl, rfl, by omega, Nat.le_refl _, by omega, hd', S3, ⟨?_, (hE.whole han (Nat.le_refl _)).trans HA.out⟩⟩
                  rw [q1] at hE q2
                  exact blk_more (by omega) q2 (by omega) (by omega) hE rfl
              · have hmz : ¬ (a : Int) + (s : Int) < (n : Int) := by omega
                have M : Hid (BlkD p (arrF dj) (s + s) 0 n) := by
                  obtain ⟨q1, q2, q3⟩ := HQ.out
                  have e1 := ESS.out.1
                  rw [← q1] at e1
                  have hD := blk_desc q3 (q := 2 * q) (by omega) (b := n) (by omega) (Nat.le_refl _)
                  rw [← e1] at hD
                  have hE := Merged.refl hD
                  rw [q1] at hE q2
                  exact blk_more (by omega) q2 (by omega) (by omega) hE rfl
                clear hb
                go_wp2
                go_roundg (n - (s + s))
                case measure => omega
                case rel => exact ⟨s + s, _, _, _, dj, by rw [show ((s + s : Nat) : Int) = (s : Int) * 2 by omega], rfl, rfl, rfl, by omega, Nat.le_refl _, by omega, hdj, S1, ⟨M.out, HA.out⟩⟩
        · have hsnz : ¬ (s : Int) < (n : Int) := by omega
          go_wp2
          go_end0
          exact ⟨rfl, dk, hds2, S1.out, blk_all B1.out.1 (by omega), B1.out.2⟩
end Go.Proofs.Ytojhckjdkafpmaa
namespace Go.Proofs.Ytojhckjdkafpmaa
open Go Go.Shelf Go.RowKit Go.Lib Go.Sort
set_option maxRecDepth 20000

theorem ordF_lt (x y : Slt) : cmpT x.order y.order < 0 ↔ ordK y < ordK x := by
  rw [cmpT_lt]
  unfold ordK
  omega
theorem laysT_any [Inhabited Slt] (blk off size : Nat) (w : World) : CmpLays Try.prog 61 #[] (fun x => (slotV x).toList) 36 (fun x y => cmpT x.order y.order) blk off size w := fun _ _ _ _ x y => by
  have := rules1_any x y
  simp only [List.append_toArray, List.append_nil, Array.toArray_toList] at *
  refine (this _).mono ?_
  rintro e w' ⟨rfl, rfl⟩
  exact ⟨rfl, 0, _, by rw [alloc_eq_grow, alloc_eq_grow, grow_grow]; rfl⟩
/-- Sorted by the rising order, those of one in their order. -/
structure SortedT (m m' : List Slt) : Prop where
  len : m'.length = m.length
  desc : Desc ordK m'
  alike : Alike ordK m' m
set_option maxHeartbeats 4000000 in
set_option maxRecDepth 1000000 in
theorem sortT_any (B : Nat) (m : List Slt) (v : Value) (w : World) (hown : SlotsAt B w v m) (hm : m.length ≤ 1000000) :
    Calls Try.prog 60 #[v, .func (.func 61) #[] #[]] w fun e w' => e = .returned (.tuple #[]) ∧ ∃ m', SortedT m m' ∧ SlotsAt B w' v m' ∧ w.grownBy w' v.ownBlock := by
  letI : Inhabited Slt := ⟨zeroS⟩
  obtain ⟨h1, ⟨rfl, h2⟩ | ⟨g, cap, cur, rfl, hB, hcur, h5, h6, h7, h4⟩⟩ := hown
  · have hm0 : m = [] := List.eq_nil_of_length_eq_zero h2
    subst hm0
    have HS : Hid (∀ W, Calls Try.prog 75 #[.slice none 0 0, .int .i64 0, .func (.func 61) #[] #[]] W fun e w' => e = .returned (.tuple #[]) ∧ w' = W) := fun W => by
      have HI : Hid (∀ W, Calls Try.prog 78 #[.slice none 0 0, .int .i64 0, .int .i64 0, .func (.func 61) #[] #[]] W fun e w' => e = .returned (.tuple #[]) ∧ w' = W) := fun W => by
        go_enter Try.func78, Try.ntmps78
        go_wp2
        go_loopg [8] 0 (fun kx s wr => s = .int .i64 1 ∧ wr = W)
        case atStart => exact ⟨rfl, rfl⟩
        case round =>
          obtain ⟨rfl, rfl⟩ := hrel
          go_wp2
          go_end0
          exact ⟨rfl, rfl⟩
      go_enter Try.func75, Try.ntmps75
      go_wp2
      go_loopg [7, 8] 0 (fun kx s7 s8 wr => s7 = .int .i64 0 ∧ s8 = .int .i64 20 ∧ wr = W)
      case atStart => exact ⟨rfl, rfl, rfl⟩
      case round =>
        obtain ⟨rfl, rfl, rfl⟩ := hrel
        go_wp2_with (go_at_call 78; refine (HI.out _).mono ?_; rintro e w' ⟨rfl, rfl⟩)
        go_loopg [6, 7, 8, 9] 0 (fun kx s6 s7 s8 s9 wr2 => ∃ a b c : Value, s6 = .int .i64 20 ∧ s7 = a ∧ s8 = b ∧ s9 = c ∧ wr2 = w')
        case atStart => exact ⟨_, _, _, rfl, rfl, rfl, rfl, rfl⟩
        case round =>
          obtain ⟨a, b, c, rfl, rfl, rfl, rfl, rfl⟩ := hrel
          go_wp2
          go_end0
          exact ⟨rfl, rfl⟩
    go_enter Try.func60, Try.ntmps60
    go_wp2_with (go_at_call 75; refine (HS.out _).mono ?_; rintro e w' ⟨rfl, rfl⟩)
    go_end0
    exact ⟨rfl, [], ⟨rfl, List.Pairwise.nil, Alike.refl _ _⟩, SlotsAt.nil _ _, ⟨rfl, rfl, rfl, Nat.le_refl _, fun k _ _ => rfl⟩⟩
  · have hc := stableS stS (fun x => (slotV x).toList) ordK (fun x y => cmpT x.order y.order) ordF_lt 61 #[] g 0 cap m.toArray w (enters_of Try.func61 (by kernel_rfl) rfl) (laysT_any _ _ _ _) ⟨fun x => by rw [Array.length_toList, slotV_size], fun x u hu => (Array.all_eq_true_iff_forall_mem.1 (slotV_one x)) u (by simpa using hu), holds_of_own (enc := slotV) (k := 36) slotV_size hcur h4, (Array.getElem?_eq_some_iff.1 hcur).1⟩ (by simp; omega)
    have HC : Hid (∀ W, W = w → Calls Try.prog 75 #[.slice (some ⟨g, 0, none⟩) m.length cap, .int .i64 m.length, .func (.func 61) #[] #[]] W fun e w' => e = .returned (.tuple #[]) ∧ ∃ d', d'.size = m.length ∧ SWK (fun x => (slotV x).toList) 36 w g 0 d' w' ∧ DescF ordK (arrF d') 0 m.length ∧ Alike ordK (segF (arrF d') 0 m.length) (segF (arrF m.toArray) 0 m.length)) := fun W hW => by
      subst hW
      simpa using hc
    have FIN : Hid (∀ w' (d' : Array Slt), d'.size = m.length → SWK (fun x => (slotV x).toList) 36 w g 0 d' w' → DescF ordK (arrF d') 0 m.length → Alike ordK (segF (arrF d') 0 m.length) (segF (arrF m.toArray) 0 m.length) → ∃ m', SortedT m m' ∧ SlotsAt B w' (.slice (some ⟨g, 0, none⟩) m.length cap) m' ∧ w.grownBy w' (some g)) := fun w' d' q1 q2 q3 q4 => by
      obtain ⟨cur', c1, c2, c3⟩ := own_of_swk (enc := slotV) (k := 36) slotV_size q2 hcur (by rw [q1, h7]; exact Nat.mul_le_mul_right _ h5)
      have e1 := segF_all d'
      rw [q1] at e1
      have e2 := segF_all m.toArray
      simp only [List.size_toArray] at e2
      rw [e1, e2] at q4
      refine ⟨d'.toList, ⟨by simpa using q1, ?_, by simpa using q4⟩, ⟨by rw [gcells_len (k := 36) slotV_size], .inr ⟨g, cap, cur', by simp [q1], hB, c1, by simpa [q1] using h5, h6, by rw [c2, h7], by simpa [q1] using c3⟩⟩, SWK.grownBy q2⟩
      have := DescF.seg (p := ordK) (f := arrF d') (a := 0) (n := m.length) (by rw [Nat.zero_add]; exact q3)
      rw [e1] at this
      exact this
    clear hc hcur h4 h1 hB
    obtain ⟨n, hn⟩ : ∃ n, n = m.length := ⟨_, rfl⟩
    rw [← hn] at HC FIN hm h5 ⊢
    clear hn
    go_enter Try.func60, Try.ntmps60
    go_wp2_with (go_at_call 75; refine (HC.out _ rfl).mono ?_; rintro e w' ⟨rfl, d', q1, q2, q3, q4⟩)
    go_end0
    exact ⟨rfl, FIN.out _ _ q1 q2 q3 q4⟩
end Go.Proofs.Ytojhckjdkafpmaa
