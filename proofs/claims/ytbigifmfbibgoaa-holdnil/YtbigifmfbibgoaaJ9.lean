import Derived.Test.YtbigifmfbibgoaaJ5
import Derived.Test.YtbigifmfbibgoaaJ6
namespace Go.Proofs.Ytbigifmfbibgoaa
open Go Go.RowKit
set_option maxRecDepth 20000

/-! HoldFills: items one behind the other, from a hold that holds nothing. -/
def hzH (fl ep : Int) : HoldM := riseH (liftH (newH 1) fl) ep
theorem hz_filling {fl ep : Int} (of : Int) (h0 : 0 ≤ fl) (h1 : fl ≤ 1) (h2 : 2 ≤ ep) : Filling (hzH fl ep) fl ep of 0 := by
  have hk : HoldOk (hzH fl ep) := rise_ok (lift_ok (new_okH 1) fl) ep
  have htop : (liftH (newH 1) fl).top < ep := by
    unfold liftH
    split
    · show max 0 fl < ep
      omega
    · show 0 < ep
      omega
  have e1 : hzH fl ep = forgetH { liftH (newH 1) fl with top := ep } := by
    unfold hzH riseH
    rw [if_pos htop]
  have hc0 : ∀ e, ((liftH (newH 1) fl).cnt e).1 = 0 := fun e => by
    unfold liftH
    split
    · unfold forgetH
      dsimp only
      split
      · rfl
      · rfl
    · rfl
  refine ⟨hk, ?_, ?_, ?_, fun h => absurd h (Nat.lt_irrefl 0)⟩
  · rw [e1]
    show fl ≤ (liftH (newH 1) fl).floor
    unfold liftH
    split
    · exact Int.le_refl _
    · rename_i hn
      show fl ≤ 0
      have : ¬ (0 : Int) < fl := hn
      omega
  · rw [e1]
    rfl
  · rw [e1]
    unfold forgetH
    dsimp only
    rw [if_pos (Or.inr rfl)]
    exact hc0 ep
def FillS (h : HoldM) (fl ep of : Int) (k : Nat) : Prop := Filling h fl ep of k ∨ (k = 0 ∧ h = newH 1)
theorem fillS_full {h : HoldM} {fl ep of : Int} {k : Nat} (hF : FillS h fl ep of k) (hk : (k : Int) < of) : fullH h ep = false := by
  rcases hF with hF | ⟨rfl, rfl⟩
  · cases hb : fullH h ep with
    | false => rfl
    | true =>
      have h1 := full_cnt.1 hb
      have h2 := hF.cnt
      have h3 := hF.of_ (by omega)
      omega
  · rfl
theorem item_new {fl ep at_ o : Int} (hv : ¬ (fl < 0 ∨ ep < 1 ∨ at_ < 0 ∨ o ≤ at_)) (h0 : 0 ≤ fl) (h1 : fl ≤ 1) (h2 : 2 ≤ ep) : itemH (newH 1) fl ep at_ o = itemH (hzH fl ep) fl ep at_ o := by
  have hF := hz_filling o h0 h1 h2
  have hz : riseH (liftH (hzH fl ep) fl) ep = hzH fl ep := fill_lift hF
  unfold itemH
  rw [if_neg hv, if_neg hv, hz]
  rfl
theorem fillS_odd {h : HoldM} {fl ep of : Int} {k : Nat} (hF : FillS h fl ep of k) (h0 : 0 ≤ fl) (h1 : fl ≤ 1) (h2 : 2 ≤ ep) {odd o : Int} (ho : (k : Int) < odd) : (itemH h fl ep odd o).2 = 0 ∧ FillS (itemH h fl ep odd o).1 fl ep of k := by
  rcases hF with hF | ⟨rfl, rfl⟩
  · have := fill_odd hF (odd := odd) (o := o) ho
    exact ⟨this.1, .inl (by rw [this.2]; exact hF)⟩
  · by_cases hv : fl < 0 ∨ ep < 1 ∨ odd < 0 ∨ o ≤ odd
    · have : itemH (newH 1) fl ep odd o = (newH 1, 0) := by unfold itemH; rw [if_pos hv]
      rw [this]
      exact ⟨rfl, .inr ⟨rfl, rfl⟩⟩
    · rw [item_new hv h0 h1 h2]
      have hz := hz_filling of h0 h1 h2
      have := fill_odd hz (odd := odd) (o := o) ho
      exact ⟨this.1, .inl (by rw [this.2]; exact hz)⟩
theorem fillS_more {h : HoldM} {fl ep of : Int} {k : Nat} (hF : FillS h fl ep of k) (h0 : 0 ≤ fl) (h1 : fl ≤ 1) (h2 : 2 ≤ ep) (hk : (k : Int) < of) : (itemH h fl ep k of).2 = 1 ∧ Filling (itemH h fl ep k of).1 fl ep of (k + 1) := by
  rcases hF with hF | ⟨rfl, rfl⟩
  · have := fill_more hF h0 (by omega) hk
    rw [this.1]
    exact ⟨rfl, this.2⟩
  · rw [item_new (by omega) h0 h1 h2]
    have := fill_more (hz_filling of h0 h1 h2) h0 (by omega) hk
    rw [this.1]
    exact ⟨rfl, this.2⟩
theorem fill_lead {h : HoldM} {fl ep of : Int} {n : Nat} (hF : Filling h fl ep of n) (hn : 0 < n) (hof : (n : Int) = of) (he : 1 ≤ ep) : (leadH h 0 ep ep).2 = true ∧ (leadH h 0 ep ep).1.use = ep := by
  have hk := lift_ok hF.ok ep
  have hle := hF.ok.le
  have htp := hF.top
  have hcnt : (liftH h ep).cnt ep = h.cnt ep := by
    unfold liftH
    split
    · unfold forgetH
      dsimp only
      rw [if_pos (Or.inl rfl)]
    · rfl
  have hfull : fullH (liftH h ep) ep = true := by
    rw [full_cnt, hcnt, hF.cnt, hF.of_ hn]
    exact ⟨hn, hof⟩
  have htop : (liftH h ep).top = ep := by
    unfold liftH
    split
    · show max h.top ep = ep
      omega
    · exact htp
  have huse : (liftH h ep).use ≤ ep := by
    by_cases hu : (liftH h ep).use = 0
    · omega
    · have h3 := (hk.two _ (full_cnt.1 (hk.uses hu)).1).1
      have := hk.le
      rcases h3 with e | e <;> omega
  have hs : (sayH (liftH h ep) 0 ep).use = ep := by
    unfold sayH
    rw [if_pos hfull]
    by_cases hu : ep = (liftH h ep).use
    · rw [if_pos hu]
      exact hu.symm
    · rw [if_neg hu, if_pos (by omega)]
  unfold leadH
  rw [if_neg (by omega)]
  dsimp only
  rw [hs]
  exact ⟨by simp; omega, rfl⟩
end Go.Proofs.Ytbigifmfbibgoaa
namespace Go.Proofs.Ytbigifmfbibgoaa
open Go Go.Lib Go.RowKit
set_option maxRecDepth 20000

theorem wl_maxIq {ops : Array Oper} {rest : List Oper} {o : Oper} {a : Act} {w : World} {Q : Exit → Act → World → Prop} (hw : Region.wanted o (yielded ops a.tmps) = true) (x y : Operand) (ho : o.op = .call { callee := .builtin .max, args := #[x, y], argTypes := #[3, 3] })
    (p q r : Int) (hx : a.eval x = .int .i64 p) (hy : a.eval y = .int .i64 q) (hr : r = max p q) (h : wpList Try.prog ops Q rest (a.put o.dst (.int .i64 r)) w) : wpList Try.prog ops Q (o :: rest) a w := by
  obtain ⟨dst, op, ty, pos, after, guard⟩ := o
  subst ho
  have hr : (execOp a.eval ⟨dst, .call { callee := .builtin .max, args := #[x, y], argTypes := #[3, 3] }, ty, pos, after, guard⟩).run Try.prog w = .ok (.value (.int .i64 r)) w := by
    subst hr
    by_cases h1 : q ≤ p
    · rw [show max p q = p by omega]
      unfold execOp
      simp [resolve, invoke, builtin, hx, hy, Builtin.max_, Builtin.max2]
      all_goals omega
    · rw [show max p q = q by omega]
      unfold execOp
      simp [resolve, invoke, builtin, hx, hy, Builtin.max_, Builtin.max2]
      all_goals omega
  refine wpList_step fun K hK => ?_
  rw [if_pos hw]
  unfold Oper.wp
  rw [hr]
  exact hK _ _ h
theorem and63_18 (n : Int) : bits .and .i64 n 63 = n % 64 := by
  have h : (BitVec.ofInt 64 63).toNat = 2 ^ 6 - 1 := by decide
  have key : (BitVec.ofInt 64 n &&& BitVec.ofInt 64 63).toNat = (n % ((2 ^ 64 : Nat) : Int)).toNat % 2 ^ 6 := by
    rw [BitVec.toNat_and, BitVec.toNat_ofInt, h, Nat.and_two_pow_sub_one_eq_mod]
  show IntKind.i64.wrap ((BitVec.ofInt 64 n &&& BitVec.ofInt 64 63).toNat : Nat) = _
  rw [key, IntKind.wrap_i64]
  omega
theorem and1023_18 (n : Int) : bits .and .i64 n 1023 = n % 1024 := by
  have h : (BitVec.ofInt 64 1023).toNat = 2 ^ 10 - 1 := by decide
  have key : (BitVec.ofInt 64 n &&& BitVec.ofInt 64 1023).toNat = (n % ((2 ^ 64 : Nat) : Int)).toNat % 2 ^ 10 := by
    rw [BitVec.toNat_and, BitVec.toNat_ofInt, h, Nat.and_two_pow_sub_one_eq_mod]
  show IntKind.i64.wrap ((BitVec.ofInt 64 n &&& BitVec.ofInt 64 1023).toNat : Nat) = _
  rw [key, IntKind.wrap_i64]
  omega
theorem and1_18 (n : Int) : bits .and .i64 n 1 = n % 2 := by
  have h : (BitVec.ofInt 64 1).toNat = 2 ^ 1 - 1 := by decide
  have key : (BitVec.ofInt 64 n &&& BitVec.ofInt 64 1).toNat = (n % ((2 ^ 64 : Nat) : Int)).toNat % 2 ^ 1 := by
    rw [BitVec.toNat_and, BitVec.toNat_ofInt, h, Nat.and_two_pow_sub_one_eq_mod]
  show IntKind.i64.wrap ((BitVec.ofInt 64 n &&& BitVec.ofInt 64 1).toNat : Nat) = _
  rw [key, IntKind.wrap_i64]
  omega
set_option maxHeartbeats 32000000 in
theorem lawHFills_any (w : World) (of0 ep0 fl0 odd : Int) (ho2 : odd ≤ 9223372036854775807) :
    Calls Try.prog 7 #[.int .i64 of0, .int .i64 ep0, .int .i64 fl0, .int .i64 odd] w fun e w' => e = .returned (.bool true) ∧ Below w.heap.size w w' := by
  have HW := awake18_any w
  have N1 : Hid (∀ W, Calls Try.prog 10 #[.int .i64 1] W fun x w' => x = .returned (.pointer (some ⟨W.heap.size, 0, none⟩)) ∧ HoldV w' W.heap.size (newH 1) ∧ Below W.heap.size W w') := fun W => newHold_any W 1
  obtain ⟨m, hm, m1, m2⟩ : ∃ m : Nat, bits .and .i64 of0 63 = (m : Int) ∧ 0 ≤ m ∧ m ≤ 63 := ⟨(of0 % 64).toNat, by rw [and63_18]; omega, by omega, by omega⟩
  obtain ⟨n, hn⟩ : ∃ n, n = m + 1 := ⟨_, rfl⟩
  have hmn : (1 : Int) + (m : Int) = (n : Int) := by omega
  have hn64 : n ≤ 64 := by omega
  have hn1 : 1 ≤ n := by omega
  obtain ⟨em, hem, em1, em2⟩ : ∃ x, bits .and .i64 ep0 1023 = x ∧ 0 ≤ x ∧ x ≤ 1023 := ⟨_, and1023_18 ep0, by omega, by omega⟩
  obtain ⟨ep, hep⟩ : ∃ ep, ep = 2 + em := ⟨_, rfl⟩
  have hep' : 2 + em = ep := hep.symm
  obtain ⟨fl, hfl, fl1, fl2⟩ : ∃ x, bits .and .i64 fl0 1 = x ∧ 0 ≤ x ∧ x ≤ 1 := ⟨_, and1_18 fl0, by omega, by omega⟩
  have HFL : Hid (0 ≤ fl ∧ fl ≤ 1 ∧ 2 ≤ ep) := ⟨fl1, fl2, by omega⟩
  have HOD : Hid (odd ≤ 9223372036854775807) := ho2
  have ov0 : 0 ≤ ep := by omega
  have ov1 : ep ≤ 1025 := by omega
  clear hn hep fl1 fl2 em1 m1 ho2
  go_enter Try.func7, Try.ntmps7
  go_wp2_with (first
    | (go_at_call 9; refine HW.mono ?_; rintro e w1 ⟨rfl, hb1⟩)
    | (go_at_call 10; refine (N1.out _).mono ?_; rintro e w2 ⟨rfl, hV2, hb2⟩; refine of_stopT ?_))
  unfold StopT
  obtain ⟨g, hg⟩ : ∃ g, g = w1.heap.size := ⟨_, rfl⟩
  have HB2 : Hid (Below w.heap.size w w2) := below_step hb1 hb1.size hb2
  have HG : Hid (w.heap.size ≤ g) := by show _ ≤ _; rw [hg]; exact hb1.size
  rw [← hg] at hV2 ⊢
  have HV2 : Hid (HoldV w2 g (newH 1)) := hV2
  clear hV2 hb1 hb2 HW N1 hg
  go_wp2_with fail
  clear hm hem hfl hmn hep' m2 em2
  go_loopw [10] (fun s10 wr => ∃ (k : Nat) (h : HoldM), k ≤ n ∧ s10 = .int .i64 (k : Int) ∧ Hid (HoldV wr g h) ∧ Hid (HoldIn h) ∧ Hid (FillS h fl ep (n : Int) k) ∧ Below w.heap.size w wr) (fun s10 _ => n - (intOf s10).toNat)
  case atStart => exact ⟨0, newH 1, Nat.zero_le _, rfl, HV2, (new_hoIn 1), (Or.inr ⟨rfl, rfl⟩), HB2.out⟩
  case round =>
    obtain ⟨k, h, hk, rfl, HV, HI, HFS, hb⟩ := hrel
    have HB : Hid (Below w.heap.size w wr) := hb
    clear hb
    by_cases hlt : k < n
    · have hlt' : (k : Int) < (n : Int) := by omega
      have FU := fullH_any wr g h HV.out ep
      rw [fillS_full HFS.out hlt'] at FU
      go_wp2_with (go_at_call 22; refine FU.mono ?_; rintro e w3 ⟨rfl, b3⟩; refine of_stopT ?_)
      unfold StopT
      have V3 : Hid (HoldV w3 g h) := HV.out.below b3
      have B3 : Hid (Below w.heap.size w w3) := below_step HB.out HB.out.size b3
      clear b3 FU HV HB
      by_cases po : odd > (k : Int)
      · have f0 := fillS_odd HFS.out HFL.out.1 HFL.out.2.1 HFL.out.2.2 (odd := odd) (o := max (n : Int) odd) po
        have c0 := item_any w3 g h V3.out fl ep odd (max (n : Int) odd) (by have := HOD.out; omega)
        rw [f0.1] at c0
        obtain ⟨M, hM⟩ : ∃ M, M = max (n : Int) odd := ⟨_, rfl⟩
        have HM : Hid (M = max (n : Int) odd) := hM
        rw [← hM] at c0 f0
        obtain ⟨h1, hh1⟩ : ∃ h1, h1 = (itemH h fl ep odd M).1 := ⟨_, rfl⟩
        rw [← hh1] at c0 f0
        have F1 : Hid (FillS h1 fl ep (n : Int) k) := f0.2
        have I1 : Hid (HoldIn h1) := by
          show HoldIn _
          rw [hh1]
          exact ⟨item_ok HI.out.ok _ _ _ _, item_hoB HI.out.b _ _ _ _⟩
        clear f0 hh1 hM
        go_wp2_with (first
          | go_skip
          | (refine wl_maxIq rfl (.tmp 41) (.tmp 42) rfl (n : Int) odd M rfl rfl HM.out ?_)
          | (go_at_call 23; refine c0.mono ?_; rintro e w4 ⟨rfl, t4⟩; refine of_stopT ?_))
        unfold StopT
        have V4 : Hid (HoldV w4 g h1) := t4.1
        have B4 : Hid (Below w.heap.size w w4) := B3.out.trans (t4.belowH HG.out B3.out.size)
        clear t4 c0 V3 B3
        have f1 := fillS_more F1.out HFL.out.1 HFL.out.2.1 HFL.out.2.2 (show (k : Int) < (n : Int) by omega)
        have c1 := item_any w4 g h1 V4.out fl ep (k : Int) (n : Int) (by omega)
        rw [f1.1] at c1
        obtain ⟨h2, hh2⟩ : ∃ h2, h2 = (itemH h1 fl ep (k : Int) (n : Int)).1 := ⟨_, rfl⟩
        rw [← hh2] at c1 f1
        have F2 : Hid (Filling h2 fl ep (n : Int) (k + 1)) := f1.2
        have c2 : Hid (∀ W, HoldV W g h2 → Calls Try.prog 23 #[.pointer (some ⟨g, 0, none⟩), .int .i64 fl, .int .i64 ep, .int .i64 (k : Int), .int .i64 (n : Int)] W fun x w' => x = .returned (.int .i64 2) ∧ HoldTo W w' g h2) := fun W hW => by
          have h3 := item_any W g h2 hW fl ep (k : Int) (n : Int) (by omega)
          rw [fill_again F2.out HFL.out.1 (by have := HFL.out.2.2; omega) (by omega)] at h3
          exact h3
        have I2 : Hid (HoldIn h2) := by
          show HoldIn _
          rw [hh2]
          exact ⟨item_ok I1.out.ok _ _ _ _, item_hoB I1.out.b _ _ _ _⟩
        clear f1 hh2
        go_wp2_with (go_at_call 23; refine c1.mono ?_; rintro e w5 ⟨rfl, t5⟩; refine of_stopT ?_)
        unfold StopT
        have B5 : Hid (Below w.heap.size w w5) := B4.out.trans (t5.belowH HG.out B4.out.size)
        have d2 := c2.out w5 t5.1
        clear t5 c1 c2
        go_wp2_with (go_at_call 23; refine d2.mono ?_; rintro e w6 ⟨rfl, t6⟩; refine of_stopT ?_)
        unfold StopT
        have V6 : Hid (HoldV w6 g h2) := t6.1
        have B6 : Hid (Below w.heap.size w w6) := B5.out.trans (t6.belowH HG.out B5.out.size)
        have FS6 : Hid (FillS h2 fl ep (n : Int) (k + 1)) := Or.inl F2.out
        clear t6 d2
        go_wp2_with fail
        go_roundw
        case rel => exact ⟨k + 1, h2, by omega, by go_num, V6, I2, FS6, B6.out⟩
        case measure => simp [intOf]; omega
      · have po' : ¬ odd > (k : Int) := po
        have f1 := fillS_more HFS.out HFL.out.1 HFL.out.2.1 HFL.out.2.2 (show (k : Int) < (n : Int) by omega)
        have c1 := item_any w3 g h V3.out fl ep (k : Int) (n : Int) (by omega)
        rw [f1.1] at c1
        obtain ⟨h2, hh2⟩ : ∃ h2, h2 = (itemH h fl ep (k : Int) (n : Int)).1 := ⟨_, rfl⟩
        rw [← hh2] at c1 f1
        have F2 : Hid (Filling h2 fl ep (n : Int) (k + 1)) := f1.2
        have c2 : Hid (∀ W, HoldV W g h2 → Calls Try.prog 23 #[.pointer (some ⟨g, 0, none⟩), .int .i64 fl, .int .i64 ep, .int .i64 (k : Int), .int .i64 (n : Int)] W fun x w' => x = .returned (.int .i64 2) ∧ HoldTo W w' g h2) := fun W hW => by
          have h3 := item_any W g h2 hW fl ep (k : Int) (n : Int) (by omega)
          rw [fill_again F2.out HFL.out.1 (by have := HFL.out.2.2; omega) (by omega)] at h3
          exact h3
        have I2 : Hid (HoldIn h2) := by
          show HoldIn _
          rw [hh2]
          exact ⟨item_ok HI.out.ok _ _ _ _, item_hoB HI.out.b _ _ _ _⟩
        clear f1 hh2
        go_wp2_with (go_at_call 23; refine c1.mono ?_; rintro e w5 ⟨rfl, t5⟩; refine of_stopT ?_)
        unfold StopT
        have B5 : Hid (Below w.heap.size w w5) := B3.out.trans (t5.belowH HG.out B3.out.size)
        have d2 := c2.out w5 t5.1
        clear t5 c1 c2
        go_wp2_with (go_at_call 23; refine d2.mono ?_; rintro e w6 ⟨rfl, t6⟩; refine of_stopT ?_)
        unfold StopT
        have V6 : Hid (HoldV w6 g h2) := t6.1
        have B6 : Hid (Below w.heap.size w w6) := B5.out.trans (t6.belowH HG.out B5.out.size)
        have FS6 : Hid (FillS h2 fl ep (n : Int) (k + 1)) := Or.inl F2.out
        clear t6 d2
        go_wp2_with fail
        go_roundw
        case rel => exact ⟨k + 1, h2, by omega, by go_num, V6, I2, FS6, B6.out⟩
        case measure => simp [intOf]; omega
    · have hlt' : ¬ (k : Int) < (n : Int) := by omega
      have hkn : k = n := by omega
      have FF : Hid (Filling h fl ep (n : Int) n) := by
        have := HFS.out
        rw [hkn] at this
        exact this.resolve_right fun x => by omega
      have CO := countH_any wr g h HV.out ep
      rw [show (h.cnt ep).1 = n from FF.out.cnt, show (h.cnt ep).2 = (n : Int) from FF.out.of_ (by omega)] at CO
      have HFU : Hid (∀ W, HoldV W g h → Calls Try.prog 22 #[.pointer (some ⟨g, 0, none⟩), .int .i64 ep] W fun x w' => x = .returned (.bool true) ∧ Below W.heap.size W w') := fun W hW => by
        have := fullH_any W g h hW ep
        rw [show fullH h ep = true by rw [full_cnt, FF.out.cnt, FF.out.of_ (by omega)]; exact ⟨by omega, rfl⟩] at this
        exact this
      have FL := fill_lead FF.out (by omega) rfl (by have := HFL.out.2.2; omega)
      have HLD : Hid (∀ W, HoldV W g h → Calls Try.prog 24 #[.pointer (some ⟨g, 0, none⟩), .int .i64 0, .int .i64 ep, .int .i64 ep] W fun x w' => x = .returned (.bool true) ∧ HoldTo W w' g (leadH h 0 ep ep).1) := fun W hW => by
        have := lead_any W g h hW HI.out.ok 0 ep ep
        rw [FL.1] at this
        exact this
      have HUS : Hid (∀ W, HoldV W g (leadH h 0 ep ep).1 → Calls Try.prog 17 #[.pointer (some ⟨g, 0, none⟩)] W fun x w' => x = .returned (.int .i64 ep) ∧ w' = W) := fun W hW => by
        have := useHo_any W g _ hW
        rw [FL.2] at this
        exact this
      clear hkn FL
      go_wp2_with (go_at_call 20; refine CO.mono ?_; rintro e w3 ⟨rfl, b3⟩; refine of_stopT ?_)
      unfold StopT
      have V3 : Hid (HoldV w3 g h) := HV.out.below b3
      have B3 : Hid (Below w.heap.size w w3) := below_step HB.out HB.out.size b3
      have fu := HFU.out w3 V3.out
      clear b3 CO HFU
      go_wp2_with (go_at_call 22; refine fu.mono ?_; rintro e w4 ⟨rfl, b4⟩; refine of_stopT ?_)
      unfold StopT
      have V4 : Hid (HoldV w4 g h) := V3.out.below b4
      have B4 : Hid (Below w.heap.size w w4) := below_step B3.out B3.out.size b4
      have ld := HLD.out w4 V4.out
      clear b4 fu HLD
      go_wp2_with (go_at_call 24; refine ld.mono ?_; rintro e w5 ⟨rfl, t5⟩; refine of_stopT ?_)
      unfold StopT
      have B5 : Hid (Below w.heap.size w w5) := B4.out.trans (t5.belowH HG.out B4.out.size)
      have us := HUS.out w5 t5.1
      clear t5 ld HUS
      go_wp2_with (go_at_call 17; refine us.mono ?_; rintro e w6 ⟨rfl, h6⟩; have h6 := h6.symm; subst h6)
      go_ret
      exact ⟨rfl, B5.out⟩
end Go.Proofs.Ytbigifmfbibgoaa
namespace Go.Proofs.Ytbigifmfbibgoaa
open Go Go.RowKit
set_option maxRecDepth 20000

theorem ninc_any (w : World) : Calls Try.prog 14 #[.pointer none] w fun e w' => e = .returned (.int .i64 0) ∧ w' = w := by
  go_enter Try.func14, Try.ntmps14
  go_wp2_with fail
  go_ret
  exact ⟨rfl, rfl⟩
theorem nfloor_any (w : World) : Calls Try.prog 15 #[.pointer none] w fun e w' => e = .returned (.int .i64 0) ∧ w' = w := by
  go_enter Try.func15, Try.ntmps15
  go_wp2_with fail
  go_ret
  exact ⟨rfl, rfl⟩
theorem ntop_any (w : World) : Calls Try.prog 16 #[.pointer none] w fun e w' => e = .returned (.int .i64 0) ∧ w' = w := by
  go_enter Try.func16, Try.ntmps16
  go_wp2_with fail
  go_ret
  exact ⟨rfl, rfl⟩
theorem nuse_any (w : World) : Calls Try.prog 17 #[.pointer none] w fun e w' => e = .returned (.int .i64 0) ∧ w' = w := by
  go_enter Try.func17, Try.ntmps17
  go_wp2_with fail
  go_ret
  exact ⟨rfl, rfl⟩
theorem ncountH_any (w : World) (e : Int) : Calls Try.prog 20 #[.pointer none, .int .i64 e] w fun e w' => e = .returned (.tuple #[.int .i64 0, .int .i64 0]) ∧ w' = w := by
  go_enter Try.func20, Try.ntmps20
  go_wp2_with fail
  go_ret2
  exact ⟨rfl, rfl⟩
theorem nfull_any (w : World) (e : Int) : Calls Try.prog 22 #[.pointer none, .int .i64 e] w fun e w' => e = .returned (.bool false) ∧ w' = w := by
  have HC := ncountH_any w e
  go_enter Try.func22, Try.ntmps22
  go_wp2_with (go_at_call 20; refine HC.mono ?_; rintro e w1 ⟨rfl, h1⟩; subst h1)
  go_ret
  exact ⟨rfl, rfl⟩
theorem nlive_any (w : World) (a b : Int) : Calls Try.prog 18 #[.pointer none, .int .i64 a, .int .i64 b] w fun e w' => e = .returned (.bool false) ∧ w' = w := by
  go_enter Try.func18, Try.ntmps18
  go_wp2_with fail
  go_ret
  exact ⟨rfl, rfl⟩
theorem nitem_any (w : World) (a b c d : Int) : Calls Try.prog 23 #[.pointer none, .int .i64 a, .int .i64 b, .int .i64 c, .int .i64 d] w fun e w' => e = .returned (.int .i64 0) ∧ w' = w := by
  go_enter Try.func23, Try.ntmps23
  go_wp2_with fail
  go_ret
  exact ⟨rfl, rfl⟩
theorem nlead_any (w : World) (a b c : Int) : Calls Try.prog 24 #[.pointer none, .int .i64 a, .int .i64 b, .int .i64 c] w fun e w' => e = .returned (.bool false) ∧ w' = w := by
  go_enter Try.func24, Try.ntmps24
  go_wp2_with fail
  go_ret
  exact ⟨rfl, rfl⟩
set_option maxHeartbeats 8000000 in
theorem ndoes_any (w : World) (x : ActH) : Calls Try.prog 13 #[.pointer none, .agg (actH x)] w fun e w' => e = .returned (.int .i64 0) ∧ Below w.heap.size w w' := by
  obtain ⟨w0, hw0⟩ : ∃ w0, w0 = w.alloc (.cells (actH x) 31) := ⟨_, rfl⟩
  have B0 : Hid (Below w.heap.size w w0) := by show Below _ _ _; rw [hw0]; exact (Below.refl _ _).alloc (Nat.le_refl _) _
  have A0 : w0.heap[w.heap.size]? = some (.cells (actH x) 31 (0, 0)) := by rw [hw0]; exact heap_new _ _ _ rfl
  have F := acthf_of (off := 0) A0 (fun j _ => by rw [Nat.zero_add])
  have k0 := F.c0
  have k1 := F.c1
  have k2 := F.c2
  have k3 := F.c3
  have k4 := F.c4
  have k5 := F.c5
  cases hl : x.lead with
  | false =>
    rw [hl] at k0
    have HI := nitem_any w0 x.floor x.epoch x.at_ x.of_
    rw [hw0] at HI k0 k1 k2 k3 k4 k5 B0
    clear F A0 hl hw0
    go_enter Try.func13, Try.ntmps13
    go_wp2_with (go_at_call 23; refine HI.mono ?_; rintro e w1 ⟨rfl, h1⟩; subst h1)
    go_ret
    exact ⟨rfl, B0.out⟩
  | true =>
    rw [hl] at k0
    have HI := nlead_any w0 x.sent x.epoch x.floor
    rw [hw0] at HI k0 k1 k2 k3 k4 k5 B0
    clear F A0 hl hw0
    go_enter Try.func13, Try.ntmps13
    go_wp2_with (go_at_call 24; refine HI.mono ?_; rintro e w1 ⟨rfl, h1⟩; subst h1)
    go_ret
    exact ⟨rfl, B0.out⟩
set_option maxHeartbeats 16000000 in
theorem lawHNil_any (w : World) (x : ActH) :
    Calls Try.prog 8 #[.agg (actH x)] w fun e w' => e = .returned (.bool true) ∧ Below w.heap.size w w' := by
  obtain ⟨p, hp⟩ : ∃ p, p = w.heap.size := ⟨_, rfl⟩
  obtain ⟨w0, hw0⟩ : ∃ w0, w0 = w.alloc (.cells (actH x) 31) := ⟨_, rfl⟩
  have B0 : Hid (Below w.heap.size w w0) := by show Below _ _ _; rw [hw0]; exact (Below.refl _ _).alloc (Nat.le_refl _) _
  have A0 : Hid (w0.heap[p]? = some (.cells (actH x) 31 (0, 0))) := by show _ = _; rw [hw0, hp]; exact heap_new _ _ _ rfl
  have HW := awake18_any w0
  have FF : Hid (∀ W, Below w0.heap.size w0 W → W.heap[p]? = some (.cells (actH x) 31 (0, 0)) ∧ ActHF W p 0 x) := fun W hb => by
    have h1 := (hb.block p (Array.getElem?_eq_some_iff.1 A0.out).1).trans A0.out
    exact ⟨h1, acthf_of (off := 0) h1 (fun j _ => by rw [Nat.zero_add])⟩
  have ND : Hid (∀ W, Calls Try.prog 13 #[.pointer none, .agg (actH x)] W fun e w' => e = .returned (.int .i64 0) ∧ Below W.heap.size W w') := fun W => ndoes_any W x
  have HWA : Hid (w.alloc (.cells (actH x) 31) = w0) := hw0.symm
  have HP : Hid (w.heap.size = p) := hp.symm
  rw [hw0] at HW
  clear hp hw0
  go_enter Try.func8, Try.ntmps8
  go_wp2_with (go_at_call 9; refine HW.mono ?_; rintro e w1 ⟨rfl, hb1⟩; refine of_stopT ?_)
  unfold StopT
  rw [HWA.out] at hb1
  rw [HP.out]
  have B1 : Hid (Below w0.heap.size w0 w1) := hb1
  have k2 := (FF.out w1 hb1).2.c2
  have NC := ncountH_any w1 x.epoch
  have K1 : Hid (w1.heap[p]? = some (.cells (actH x) 31 (0, 0))) := (FF.out w1 hb1).1
  have nd := ND.out w1
  clear hb1 HW HWA HP ND
  go_wp2_with (first
    | (go_at_call 20; refine NC.mono ?_; rintro e w2 ⟨rfl, h2⟩; have h2 := h2.symm; subst h2)
    | (refine wl_loadE (E := ActHE) ActHOk rfl _ rfl p 0 rfl (actH x) _ (0, 0) (actH x) rfl K1.out (fun j _ => by rw [Nat.zero_add]) ?_)
    | (go_at_call 13; refine nd.mono ?_; rintro e w3 ⟨rfl, b3⟩; refine of_stopT ?_))
  unfold StopT
  have B3 : Below w0.heap.size w0 w3 := below_step B1.out B1.out.size b3
  have F3 := (FF.out w3 B3).2
  have j2 := F3.c2
  have j3 := F3.c3
  have j5 := F3.c5
  have HB3 : Hid (Below w.heap.size w w3) := below_step B0.out B0.out.size B3
  have n1 := ninc_any w3
  have n2 := nfloor_any w3
  have n3 := ntop_any w3
  have n4 := nuse_any w3
  have n5 := nfull_any w3 x.epoch
  have n6 := nlive_any w3 x.sent x.at_
  clear B3 F3 b3 k2 NC nd
  go_wp2_with (first
    | (go_at_call 14; refine n1.mono ?_; rintro e w4 ⟨rfl, h4⟩; have h4 := h4.symm; subst h4)
    | (go_at_call 15; refine n2.mono ?_; rintro e w4 ⟨rfl, h4⟩; have h4 := h4.symm; subst h4)
    | (go_at_call 16; refine n3.mono ?_; rintro e w4 ⟨rfl, h4⟩; have h4 := h4.symm; subst h4)
    | (go_at_call 17; refine n4.mono ?_; rintro e w4 ⟨rfl, h4⟩; have h4 := h4.symm; subst h4)
    | (go_at_call 22; refine n5.mono ?_; rintro e w4 ⟨rfl, h4⟩; have h4 := h4.symm; subst h4)
    | (go_at_call 18; refine n6.mono ?_; rintro e w4 ⟨rfl, h4⟩; have h4 := h4.symm; subst h4))
  go_ret
  exact ⟨rfl, HB3.out⟩
end Go.Proofs.Ytbigifmfbibgoaa
