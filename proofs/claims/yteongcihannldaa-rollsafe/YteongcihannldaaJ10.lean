import Derived.Test.YteongcihannldaaJ8
import Derived.Test.YteongcihannldaaJ3
import Derived.Test.YteongcihannldaaJ4
import Derived.Test.YteongcihannldaaJ5
import Derived.Test.YteongcihannldaaJ9
import Derived.Test.YteongcihannldaaJ2
namespace Go.Proofs.Yteongcihannldaa
open Go Go.RowKit
set_option maxRecDepth 20000

def SInv (R : RollM) (s ep qn ql : Int) (U Y : Bool) : Prop := isRl R s = true → ((U = true ∨ ep ≤ 0) ↔ ep ≤ (R.sw s).use) ∧ (Y = true ↔ youngS (R.sw s) ep qn ql)
def nextU (R : RollM) (x : ActR) (s ep : Int) (U : Bool) : Bool := (if (x.s == s && x.kind == 1 && (actR R x).2 && decide (x.inc > incR R s)) = true then false else U) || (x.s == s && x.kind == 3 && (actR R x).2 && decide (x.n ≥ ep))
def nextY (R : RollM) (x : ActR) (s ep qn ql : Int) (Y : Bool) : Bool := (if (x.s == s && x.kind == 1 && (actR R x).2 && decide (x.inc > incR R s)) = true then false else Y) || (x.s == s && x.kind == 4 && decide (x.ep < ep) && decide (qn - x.now < ql))
theorem clock_id {t : Int} (h : 0 ≤ t ∧ t ≤ 1099511627776) : clockR t = t := by unfold clockR; omega
theorem sinv_new (n s ep qn ql : Int) : SInv ⟨n, fun _ => sw0⟩ s ep qn ql false false := fun _ => ⟨by
  show (false = true ∨ ep ≤ 0) ↔ ep ≤ 0
  simp, by
  show false = true ↔ youngS sw0 ep qn ql
  have : ¬ youngS sw0 ep qn ql := young_sw0 ep qn ql 0 0
  simp [this]⟩
theorem sinv_next {R : RollM} {s ep qn ql : Int} {U Y : Bool} (h : SInv R s ep qn ql U Y) (hi : RollIn R) (x : ActR) (ht : 0 ≤ x.now ∧ x.now ≤ 1099511627776) (hq : 0 ≤ qn ∧ qn ≤ 1099511627776) : SInv (actR R x).1 s ep qn ql (nextU R x s ep U) (nextY R x s ep qn ql Y) := by
  intro hs
  rw [isRl_act] at hs
  obtain ⟨h1, h2⟩ := h hs
  have hL : incR R s = (R.sw s).life := incR_yes hs
  unfold nextU nextY
  rw [hL]
  have hu0 := (hi.ok s).use0
  by_cases es : x.s = s
  · unfold actR
    by_cases k1 : x.kind = 1
    · rw [if_pos k1, es]
      by_cases hc : isRl R s = true ∧ 1 ≤ x.inc ∧ (R.sw s).life ≤ x.inc
      · rw [hearR_yes hc]
        dsimp only
        rw [set_at, use_hear, young_hear]
        by_cases g : (R.sw s).life < x.inc
        · simp [k1, g]
        · rw [if_neg g]
          simp [k1, g, h1, h2]
      · rw [hearR_no hc]
        simp [k1, h1, h2]
    · rw [if_neg k1]
      by_cases k2 : x.kind = 2
      · rw [if_pos k2, es]
        have e : ((ackR R s x.inc x.ep x.n).1.sw s).use = (R.sw s).use ∧ ((ackR R s x.inc x.ep x.n).1.sw s).led = (R.sw s).led := by
          unfold ackR
          split
          · rw [set_at]; exact ⟨rfl, rfl⟩
          · exact ⟨rfl, rfl⟩
        unfold youngS
        rw [e.1, e.2]
        simp [k2]
        refine ⟨h1, ?_⟩
        unfold youngS at h2
        simpa using h2
      rw [if_neg k2]
      by_cases k3 : x.kind = 3
      · rw [if_pos k3, es]
        cases hl : livesR R s x.inc with
        | false =>
          rw [seenR_no hl]
          simp [k3, h1, h2]
        | true =>
          rw [seenR_yes hl]
          dsimp only
          rw [set_at]
          unfold youngS at h2 ⊢
          unfold seenS
          dsimp only
          simp [k3, h2]
          constructor
          · rintro ((q | q) | q)
            · have := h1.1 (.inl q); omega
            · omega
            · have := h1.1 (.inr q); omega
          · intro q
            by_cases q1 : ep ≤ (R.sw s).use
            · rcases h1.2 q1 with q2 | q2
              · exact .inl (.inl q2)
              · exact .inr q2
            · exact .inl (.inr (by omega))
      rw [if_neg k3]
      by_cases k4 : x.kind = 4
      · rw [if_pos k4, es]
        dsimp only
        rw [ledR_yes hs, set_at, young_led, clock_id ht, clock_id hq]
        show (_ ↔ ep ≤ (R.sw s).use) ∧ _
        simp [k4, h1, h2]
      rw [if_neg k4]
      by_cases k5 : x.kind = 5
      · rw [if_pos k5]
        simp [k4]
        exact ⟨h1, h2⟩
      rw [if_neg k5]
      simp [k4, h1, h2]
  · have e5 : ((actR R x).1.sw s).use = (R.sw s).use ∧ ((actR R x).1.sw s).led = (R.sw s).led := by
      by_cases k5 : x.kind = 5
      · unfold actR
        rw [if_neg (by rw [k5]; decide), if_neg (by rw [k5]; decide), if_neg (by rw [k5]; decide), if_neg (by rw [k5]; decide), if_pos k5]
        exact ⟨rfl, rfl⟩
      · rw [act_other R x s es k5]
        exact ⟨rfl, rfl⟩
    unfold youngS
    rw [e5.1, e5.2]
    simp [es]
    refine ⟨h1, ?_⟩
    unfold youngS at h2
    simpa using h2
theorem sinv_end {R : RollM} {s ep qn ql : Int} {U Y : Bool} (h : SInv R s ep qn ql U Y) (hs : isRl R s = true) : (U || decide (ep ≤ 0) || !Y) = true ↔ SafeR R s ep qn ql := by
  obtain ⟨h1, h2⟩ := h hs
  unfold SafeR SafeS
  rw [← h1, ← h2]
  simp [hs]
end Go.Proofs.Yteongcihannldaa
namespace Go.Proofs.Yteongcihannldaa
open Go Go.RowKit
set_option maxRecDepth 20000

set_option maxHeartbeats 64000000 in
theorem lawRSafe_any (w : World) (sw s : Int) (va : Value) (l : List ActR) (hl : GSl Act21E actV21 w va l) (ho : ∀ x ∈ l, OkActR x) (q0 : AskR) : Calls Try.prog 4 #[.int .i64 sw, va, .int .i64 s, .agg (askV21 q0)] w fun e w' => e = .returned (.bool true) ∧ Below w.heap.size w w' := by
  have HW : Hid (∀ W, Calls Try.prog 7 #[] W fun e w' => e = .returned (.bool true) ∧ Below W.heap.size W w') := fun W => awake21_any W
  obtain ⟨oA, cA, hva, hcA, hcA2⟩ := hl.slice
  obtain ⟨q, hq⟩ : ∃ q, q = l.length := ⟨_, rfl⟩
  rw [← hq] at hva hcA
  have HL : Hid (∀ W, Below w.heap.size w W → GSl Act21E actV21 W va l) := fun W hb => hl.below hb
  have HOK : Hid (∀ x ∈ l, OkActR x) := ho
  unfold maxLen at hcA2
  clear hl ho hq
  subst hva
  obtain ⟨qe, qn, ql, qs⟩ := q0
  obtain ⟨wq, hwq⟩ : ∃ wq, wq = w.alloc (.cells (askV21 ⟨qe, qn, ql, qs⟩) 24) := ⟨_, rfl⟩
  obtain ⟨pq, hpq⟩ : ∃ pq, pq = w.heap.size := ⟨_, rfl⟩
  have HBQ : Hid (Below w.heap.size w wq) := by show Below _ _ _; rw [hwq]; exact (Below.refl _ _).alloc (Nat.le_refl _) _
  have HFQ : Hid (∀ W, Below wq.heap.size wq W → W.cell? ⟨pq, 0, none⟩ = some (.int .i64 qe) ∧ W.cell? ⟨pq, 1, none⟩ = some (.int .i64 qn) ∧ W.cell? ⟨pq, 3, none⟩ = some (.int .i64 qs)) := fun W hW => by
    have a2 : wq.heap[pq]? = some (.cells (askV21 ⟨qe, qn, ql, qs⟩) 24 (0, 0)) := by rw [hwq, hpq]; exact heap_new _ _ _ rfl
    have a3 := (hW.block _ (Array.getElem?_eq_some_iff.1 a2).1).trans a2
    exact ⟨by rw [cell_of_row _ _ _ _ _ _ a3]; rfl, by rw [cell_of_row _ _ _ _ _ _ a3]; rfl, by rw [cell_of_row _ _ _ _ _ _ a3]; rfl⟩
  have HWA : Hid (w.alloc (.cells (askV21 ⟨qe, qn, ql, qs⟩) 24) = wq) := hwq.symm
  have HP : Hid (w.heap.size = pq) := hpq.symm
  have HW0 := HW.out wq
  rw [hwq] at HW0
  clear hpq hwq HW
  by_cases hnew : 1 ≤ sw ∧ sw ≤ 6
  case neg =>
    have HN : Hid (∀ W, Calls Try.prog 8 #[.int .i64 sw] W fun e w' => e = .returned (.tuple #[.pointer none, .int .i64 1]) ∧ w' = W) := fun W => newRl_no sw hnew W
    go_enter Try.func4, Try.ntmps4
    go_wp2_with (go_at_call 7; refine HW0.mono ?_; rintro e w1 ⟨rfl, hb1⟩; refine of_stopT ?_)
    unfold StopT
    rw [HWA.out] at hb1
    rw [HP.out]
    have HBq1 : Hid (Below wq.heap.size wq w1) := hb1
    have HBW : Hid (Below w.heap.size w w1) := below_step HBQ.out HBQ.out.size hb1
    clear HW0 HWA HP hb1
    have HN1 := HN.out w1
    go_wp2_with (go_at_call 8; refine HN1.mono ?_; rintro e w2 ⟨rfl, h2⟩; have h2 := h2.symm; subst h2)
    go_ret
    exact ⟨rfl, HBW.out⟩
  have HN : Hid (∀ W, Calls Try.prog 8 #[.int .i64 sw] W fun e w' => e = .returned (.tuple #[.pointer (some ⟨W.heap.size, 0, none⟩), .int .i64 0]) ∧ OwnR W w' W.heap.size ⟨sw, fun _ => sw0⟩ 0) := fun W => newO_yes sw hnew W
  have HSW : Hid (1 ≤ sw ∧ sw ≤ 6) := hnew
  clear hnew
  go_enter Try.func4, Try.ntmps4
  go_wp2_with (go_at_call 7; refine HW0.mono ?_; rintro e w1 ⟨rfl, hb1⟩; refine of_stopT ?_)
  unfold StopT
  rw [HWA.out] at hb1
  rw [HP.out]
  have HBq1 : Hid (Below wq.heap.size wq w1) := hb1
  have HBW : Hid (Below w.heap.size w w1) := below_step HBQ.out HBQ.out.size hb1
  clear HW0 HWA HP hb1
  have HN1 := HN.out w1
  go_wp2_with (go_at_call 8; refine HN1.mono ?_; rintro e w2 ⟨rfl, hV2⟩; refine of_stopT ?_)
  unfold StopT
  have HBq2 : Hid (Below wq.heap.size wq w2) := HBq1.out.trans (hV2.bel.mono HBq1.out.size)
  have HB2 : Hid (Below w.heap.size w w2) := HBW.out.trans (hV2.bel.mono HBW.out.size)
  obtain ⟨g, hg⟩ : ∃ g, g = w1.heap.size := ⟨_, rfl⟩
  have H0 : Hid (OwnX w1 w2 g ⟨sw, fun _ => sw0⟩ 0 (fun _ => False)) := by rw [hg]; exact OwnX.of hV2
  clear HN HN1 hV2
  rw [← hg]
  clear hg
  obtain ⟨z0, z1, z3⟩ := HFQ.out w2 HBq2.out
  by_cases hq1 : qn < 0
  · go_wp2_with fail
    go_ret
    exact ⟨rfl, HB2.out⟩
  by_cases hq2 : qn > 1099511627776
  · go_wp2_with fail
    go_ret
    exact ⟨rfl, HB2.out⟩
  go_wp2_with fail
  have HQN : Hid (0 ≤ qn ∧ qn ≤ 1099511627776) := ⟨by omega, by omega⟩
  clear z0 z1 z3 hq1 hq2 HBq2 HB2
  go_loopw [11, 12, 13] (fun s11 s12 s13 wr => ∃ (i : Nat) (R : RollM) (U Y : Bool), i ≤ q ∧ i ≤ 80 ∧ s11 = .bool U ∧ s12 = .bool Y ∧ s13 = .int .i64 (i : Int) ∧ Hid (OwnX w1 wr g R i (fun _ => False)) ∧ Hid (SInv R s qe qn qs U Y ∧ R.count = sw)) (fun _ _ s13 _ => q - (intOf s13).toNat)
  case atStart => exact ⟨0, _, false, false, Nat.zero_le _, by omega, rfl, rfl, rfl, H0, sinv_new _ _ _ _ _, rfl⟩
  case round =>
    obtain ⟨i, R, U, Y, hi, hi80, rfl, rfl, rfl, HO, HI⟩ := hrel
    have HBr : Hid (Below w.heap.size w wr) := HBW.out.trans ((OwnX.bel HO.out).mono HBW.out.size)
    have HBqr : Hid (Below wq.heap.size wq wr) := HBq1.out.trans ((OwnX.bel HO.out).mono HBq1.out.size)
    by_cases hlt : i < q
    case neg =>
      have hlt' : ¬ (i : Int) < (q : Int) := by omega
      obtain ⟨z0, z1, z3⟩ := HFQ.out wr HBqr.out
      by_cases es : 1 ≤ s ∧ s ≤ sw
      · have hs : isRl R s = true := by unfold isRl; rw [HI.out.2]; simp [es]
        have e1 : ¬ s < 1 := by omega
        have e2 : ¬ s > sw := by omega
        have CS := safeX HO.out s qe qn qs _ (sinv_end HI.out.1 hs)
        clear hs es HO HI
        cases U
        · by_cases e3 : qe ≤ 0
          · have e4 : decide (qe ≤ 0) = true := decide_eq_true e3
            rw [Bool.false_or, e4, Bool.true_or] at CS
            go_wp2_with (go_at_call 24; refine CS.mono ?_; rintro e y ⟨rfl, by1⟩; refine of_stopT ?_)
            unfold StopT
            have BY : Hid _ := by1
            obtain ⟨y0, y1, y3⟩ := HFQ.out y (below_step HBqr.out HBqr.out.size by1)
            clear by1 CS
            go_wp2_with fail
            go_ret
            exact ⟨rfl, below_step HBr.out HBr.out.size BY.out⟩
          · have e4 : decide (qe ≤ 0) = false := decide_eq_false e3
            rw [Bool.false_or, e4, Bool.false_or] at CS
            cases Y
            all_goals
              simp only [Bool.not_false, Bool.not_true] at CS
              go_wp2_with (go_at_call 24; refine CS.mono ?_; rintro e y ⟨rfl, by1⟩; refine of_stopT ?_)
              unfold StopT
              have BY : Hid _ := by1
              obtain ⟨y0, y1, y3⟩ := HFQ.out y (below_step HBqr.out HBqr.out.size by1)
              clear by1 CS
              go_wp2_with fail
              go_ret
              exact ⟨rfl, below_step HBr.out HBr.out.size BY.out⟩
        · rw [Bool.true_or, Bool.true_or] at CS
          go_wp2_with (go_at_call 24; refine CS.mono ?_; rintro e y ⟨rfl, by1⟩)
          go_ret
          exact ⟨rfl, below_step HBr.out HBr.out.size by1⟩
      · have hs : isRl R s = false := by unfold isRl; rw [HI.out.2]; simp; omega
        have CS := safeX HO.out s qe qn qs false (by unfold SafeR; rw [hs]; simp)
        clear hs HO HI
        by_cases e1 : s < 1
        · clear es
          go_wp2_with (go_at_call 24; refine CS.mono ?_; rintro e y ⟨rfl, by1⟩)
          go_ret
          exact ⟨rfl, below_step HBr.out HBr.out.size by1⟩
        · have e2 : s > sw := by omega
          clear es
          go_wp2_with (go_at_call 24; refine CS.mono ?_; rintro e y ⟨rfl, by1⟩)
          go_ret
          exact ⟨rfl, below_step HBr.out HBr.out.size by1⟩
    have hlt' : (i : Int) < (q : Int) := by omega
    by_cases hlt2 : i < 80
    case neg =>
      have hlt2' : ¬ (i : Int) < 80 := by omega
      obtain ⟨z0, z1, z3⟩ := HFQ.out wr HBqr.out
      by_cases es : 1 ≤ s ∧ s ≤ sw
      · have hs : isRl R s = true := by unfold isRl; rw [HI.out.2]; simp [es]
        have e1 : ¬ s < 1 := by omega
        have e2 : ¬ s > sw := by omega
        have CS := safeX HO.out s qe qn qs _ (sinv_end HI.out.1 hs)
        clear hs es HO HI
        cases U
        · by_cases e3 : qe ≤ 0
          · have e4 : decide (qe ≤ 0) = true := decide_eq_true e3
            rw [Bool.false_or, e4, Bool.true_or] at CS
            go_wp2_with (go_at_call 24; refine CS.mono ?_; rintro e y ⟨rfl, by1⟩; refine of_stopT ?_)
            unfold StopT
            have BY : Hid _ := by1
            obtain ⟨y0, y1, y3⟩ := HFQ.out y (below_step HBqr.out HBqr.out.size by1)
            clear by1 CS
            go_wp2_with fail
            go_ret
            exact ⟨rfl, below_step HBr.out HBr.out.size BY.out⟩
          · have e4 : decide (qe ≤ 0) = false := decide_eq_false e3
            rw [Bool.false_or, e4, Bool.false_or] at CS
            cases Y
            all_goals
              simp only [Bool.not_false, Bool.not_true] at CS
              go_wp2_with (go_at_call 24; refine CS.mono ?_; rintro e y ⟨rfl, by1⟩; refine of_stopT ?_)
              unfold StopT
              have BY : Hid _ := by1
              obtain ⟨y0, y1, y3⟩ := HFQ.out y (below_step HBqr.out HBqr.out.size by1)
              clear by1 CS
              go_wp2_with fail
              go_ret
              exact ⟨rfl, below_step HBr.out HBr.out.size BY.out⟩
        · rw [Bool.true_or, Bool.true_or] at CS
          go_wp2_with (go_at_call 24; refine CS.mono ?_; rintro e y ⟨rfl, by1⟩)
          go_ret
          exact ⟨rfl, below_step HBr.out HBr.out.size by1⟩
      · have hs : isRl R s = false := by unfold isRl; rw [HI.out.2]; simp; omega
        have CS := safeX HO.out s qe qn qs false (by unfold SafeR; rw [hs]; simp)
        clear hs HO HI
        by_cases e1 : s < 1
        · clear es
          go_wp2_with (go_at_call 24; refine CS.mono ?_; rintro e y ⟨rfl, by1⟩)
          go_ret
          exact ⟨rfl, below_step HBr.out HBr.out.size by1⟩
        · have e2 : s > sw := by omega
          clear es
          go_wp2_with (go_at_call 24; refine CS.mono ?_; rintro e y ⟨rfl, by1⟩)
          go_ret
          exact ⟨rfl, below_step HBr.out HBr.out.size by1⟩
    have hlt2' : (i : Int) < 80 := by omega
    obtain ⟨ga, offa, cura, tya, fra, x, rfl, hga, hcca, hxa⟩ := (HL.out wr HBr.out).at i hlt
    have HX : Hid (OkActR x) := HOK.out x (List.mem_of_getElem? hxa)
    obtain ⟨wx, hwx⟩ : ∃ wx, wx = wr.alloc (.cells (actV21 x) 34) := ⟨_, rfl⟩
    obtain ⟨px, hpx⟩ : ∃ px, px = wr.heap.size := ⟨_, rfl⟩
    have HOx : Hid (OwnX w1 wx g R i (fun k =>  k = px)) := by
      rw [hwx, hpx]
      exact OwnX.less (OwnX.block HO.out _) fun k e => .inr e
    have Ax : Hid (wx.heap[px]? = some (.cells (actV21 x) 34 (0, 0))) := by show _ = _; rw [hwx, hpx]; exact heap_new _ _ _ rfl
    have SRx : (wr.alloc (.cells (actV21 zeroAct21) 34)).setRow wr.heap.size (actV21 x) = wx := by rw [hwx]; exact setRow_new _ _ _ _ _ rfl
    have HFA : Hid (∀ W : World, W.heap[px]? = some (.cells (actV21 x) 34 (0, 0)) → W.cell? ⟨px, 0, none⟩ = some (.int .i64 x.kind) ∧ W.cell? ⟨px, 1, none⟩ = some (.int .i64 x.s) ∧ W.cell? ⟨px, 2, none⟩ = some (.int .i64 x.inc) ∧ W.cell? ⟨px, 3, none⟩ = some (.int .i64 x.ep) ∧ W.cell? ⟨px, 4, none⟩ = some (.int .i64 x.n) ∧ W.cell? ⟨px, 5, none⟩ = some (.int .i64 x.now)) := fun W hW =>
      ⟨by rw [cell_of_row _ _ _ _ _ _ hW]; rfl, by rw [cell_of_row _ _ _ _ _ _ hW]; rfl, by rw [cell_of_row _ _ _ _ _ _ hW]; rfl, by rw [cell_of_row _ _ _ _ _ _ hW]; rfl, by rw [cell_of_row _ _ _ _ _ _ hW]; rfl, by rw [cell_of_row _ _ _ _ _ _ hW]; rfl⟩
    obtain ⟨kd, hkd⟩ : ∃ kd, kd = x.kind := ⟨_, rfl⟩
    obtain ⟨xs, hxs⟩ : ∃ xi, xi = x.s := ⟨_, rfl⟩
    obtain ⟨xc, hxc⟩ : ∃ xi, xi = x.inc := ⟨_, rfl⟩
    obtain ⟨xe, hxe⟩ : ∃ xi, xi = x.ep := ⟨_, rfl⟩
    obtain ⟨xn, hxn⟩ : ∃ xi, xi = x.n := ⟨_, rfl⟩
    obtain ⟨xt, hxt⟩ : ∃ xi, xi = x.now := ⟨_, rfl⟩
    have HV : Hid (kd = x.kind ∧ xs = x.s ∧ xc = x.inc ∧ xe = x.ep ∧ xn = x.n ∧ xt = x.now) := ⟨hkd, hxs, hxc, hxe, hxn, hxt⟩
    rw [← hkd, ← hxs, ← hxc, ← hxe, ← hxn, ← hxt] at HFA
    have KGa : Hid (wr.heap[ga]? = some (.cells cura tya fra)) := hga
    have KCa : Hid (∀ j, j < 6 → cura[offa + i * 6 + j]? = (actV21 x)[j]?) := hcca
    have HPX : Hid (px = wr.heap.size) := hpx
    obtain ⟨k0, k1, k2, k3, k4, k5⟩ := HFA.out wx Ax.out
    clear hxa hwx hga hcca HO hkd hxs hxc hxe hxn hxt
    go_wp2_with (first
      | ((with_reducible refine wl_ga21 rfl ?_); refine wl_allocE21 (E := Act21E) Act21Ok rfl rfl ?_)
      | ((with_reducible refine wl_gl21 _ rfl ?_); refine wl_loadE (E := Act21E) Act21Ok rfl _ rfl ga (offa + i * 6) rfl cura tya fra (actV21 x) rfl KGa.out KCa.out ?_)
      | ((with_reducible refine wl_gs21 _ _ rfl ?_); refine wl_storeE (E := Act21E) Act21Ok rfl _ _ rfl wr.heap.size (actV21 x) (act21_fits x) rfl rfl _ (heap_new _ _ _ rfl) rfl _ SRx ?_; refine of_stopT ?_))
    unfold StopT
    rw [← hpx]
    clear SRx KGa KCa hpx
    obtain ⟨z0, z1, z3⟩ := HFQ.out wx (HBq1.out.trans ((OwnX.bel HOx.out).mono HBq1.out.size))
    by_cases t1 : xt < 0
    · go_wp2_with fail
      go_roundw
      case rel => exact ⟨i + 1, R, U, Y, by omega, by omega, rfl, rfl, by go_num, by
        obtain ⟨a1, a2, v, C, a3, a4⟩ := HOx.out
        exact ⟨a1, a2, v, C, a3.mono (Nat.le_succ _), fun _ e => e.elim⟩, HI⟩
      case measure => simp [intOf]; omega
    by_cases t2 : xt > 1099511627776
    · go_wp2_with fail
      go_roundw
      case rel => exact ⟨i + 1, R, U, Y, by omega, by omega, rfl, rfl, by go_num, by
        obtain ⟨a1, a2, v, C, a3, a4⟩ := HOx.out
        exact ⟨a1, a2, v, C, a3.mono (Nat.le_succ _), fun _ e => e.elim⟩, HI⟩
      case measure => simp [intOf]; omega
    have A1 := incX HOx.out s
    have A5 := doesX HOx.out (by omega) x HX.out
    obtain ⟨L, hL⟩ : ∃ L, L = incR R s := ⟨_, rfl⟩
    rw [← hL] at A1
    obtain ⟨R2, hR2⟩ : ∃ R2, R2 = (actR R x).1 := ⟨_, rfl⟩
    obtain ⟨d, hd⟩ : ∃ d, d = (actR R x).2 := ⟨_, rfl⟩
    rw [← hR2, ← hd] at A5
    have HNX : Hid (∀ u y : Bool, u = ((if (xs == s && kd == 1 && d && decide (xc > L)) = true then false else U) || (xs == s && kd == 3 && d && decide (xn ≥ qe))) → y = ((if (xs == s && kd == 1 && d && decide (xc > L)) = true then false else Y) || (xs == s && kd == 4 && decide (xe < qe) && decide (qn - xt < qs))) → SInv R2 s qe qn qs u y ∧ R2.count = sw) := by
      rintro u y rfl rfl
      have := sinv_next HI.out.1 HOx.out.isIn x (by rw [← HV.out.2.2.2.2.2]; omega) HQN.out
      unfold nextU nextY at this
      rw [← HV.out.1, ← HV.out.2.1, ← HV.out.2.2.1, ← HV.out.2.2.2.1, ← HV.out.2.2.2.2.1, ← HV.out.2.2.2.2.2, ← hL, ← hd, ← hR2] at this
      exact ⟨this, by rw [hR2, act_count]; exact HI.out.2⟩
    clear HOx hL hR2 hd HI
    go_wp2_with (first
      | (go_at_call 16; refine A1.mono ?_; rintro e y1 ⟨rfl, z⟩; have z := z.symm; subst z)
      | ((with_reducible refine wl_gl21 _ rfl ?_); refine wl_loadE (E := Act21E) Act21Ok rfl _ rfl px 0 rfl (actV21 x) _ (0, 0) (actV21 x) rfl Ax.out (fun j _ => by rw [Nat.zero_add]) ?_)
      | (go_at_call 15; refine A5.mono ?_; rintro e w5 ⟨rfl, h5, kp5⟩; refine of_stopT ?_))
    unfold StopT
    have HO2 : Hid (OwnX w1 w5 g R2 (i + 1) (fun k => k = px)) := h5
    have Ax5 : w5.heap[px]? = some (.cells (actV21 x) 34 (0, 0)) := (kp5 px rfl).trans Ax.out
    clear k0 k1 k2 k3 k4 k5 A1 A5 z0 z1 z3 HBqr
    obtain ⟨k0, k1, k2, k3, k4, k5⟩ := HFA.out w5 Ax5
    obtain ⟨z0, z1, z3⟩ := HFQ.out w5 (HBq1.out.trans ((OwnX.bel HO2.out).mono HBq1.out.size))
    have hwr : IntKind.i64.wrap (qn - xt) = qn - xt := by have := HQN.out; rw [IntKind.wrap_i64]; omega
    clear h5 kp5 Ax5 HFA Ax t1 t2
    by_cases cs : xs = s
    case neg =>
      have b1 : (xs == s) = false := by simp [cs]
      clear cs
      cases U <;> cases Y
      all_goals
        go_wp2_with fail
        go_roundw
        case rel => exact ⟨i + 1, R2, _, _, by omega, by omega, rfl, rfl, by go_num, OwnX.less HO2.out fun _ e => e.elim, HNX.out _ _ (by simp [*]) (by simp [*])⟩
        case measure => simp [intOf]; omega
    have b1 : (xs == s) = true := by simp [cs]
    clear cs
    by_cases c1 : kd = 1
    · have b2 : (kd == 1) = true := by simp [c1]
      have b3 : (kd == 3) = false := by simp [c1]
      have b4 : (kd == 4) = false := by simp [c1]
      clear c1
      cases d
      · cases U <;> cases Y
        all_goals
          go_wp2_with fail
          go_roundw
          case rel => exact ⟨i + 1, R2, _, _, by omega, by omega, rfl, rfl, by go_num, OwnX.less HO2.out fun _ e => e.elim, HNX.out _ _ (by simp [*]) (by simp [*])⟩
          case measure => simp [intOf]; omega
      · by_cases c2 : xc > L
        · have b5 : decide (xc > L) = true := decide_eq_true c2
          go_wp2_with fail
          go_roundw
          case rel => exact ⟨i + 1, R2, _, _, by omega, by omega, rfl, rfl, by go_num, OwnX.less HO2.out fun _ e => e.elim, HNX.out _ _ (by simp [*]) (by simp [*])⟩
          case measure => simp [intOf]; omega
        · have b5 : decide (xc > L) = false := decide_eq_false c2
          cases U <;> cases Y
          all_goals
            go_wp2_with fail
            go_roundw
            case rel => exact ⟨i + 1, R2, _, _, by omega, by omega, rfl, rfl, by go_num, OwnX.less HO2.out fun _ e => e.elim, HNX.out _ _ (by simp [*]) (by simp [*])⟩
            case measure => simp [intOf]; omega
    have b2 : (kd == 1) = false := by simp [c1]
    by_cases c3 : kd = 3
    · have b3 : (kd == 3) = true := by simp [c3]
      have b4 : (kd == 4) = false := by simp [c3]
      clear c1 c3
      cases d
      · cases U <;> cases Y
        all_goals
          go_wp2_with fail
          go_roundw
          case rel => exact ⟨i + 1, R2, _, _, by omega, by omega, rfl, rfl, by go_num, OwnX.less HO2.out fun _ e => e.elim, HNX.out _ _ (by simp [*]) (by simp [*])⟩
          case measure => simp [intOf]; omega
      · by_cases c2 : xn ≥ qe
        all_goals
          cases U <;> cases Y
          all_goals
            go_wp2_with fail
            go_roundw
            case rel => exact ⟨i + 1, R2, _, _, by omega, by omega, rfl, rfl, by go_num, OwnX.less HO2.out fun _ e => e.elim, HNX.out _ _ (by simp [*]) (by simp [*])⟩
            case measure => simp [intOf]; omega
    have b3 : (kd == 3) = false := by simp [c3]
    by_cases c4 : kd = 4
    · have b4 : (kd == 4) = true := by simp [c4]
      clear c1 c3 c4
      by_cases c5 : xe < qe
      · by_cases c6 : qn - xt < qs
        all_goals
          cases U <;> cases Y
          all_goals
            go_wp2_with fail
            go_roundw
            case rel => exact ⟨i + 1, R2, _, _, by omega, by omega, rfl, rfl, by go_num, OwnX.less HO2.out fun _ e => e.elim, HNX.out _ _ (by simp [*]) (by simp [*])⟩
            case measure => simp [intOf]; omega
      · cases U <;> cases Y
        all_goals
          go_wp2_with fail
          go_roundw
          case rel => exact ⟨i + 1, R2, _, _, by omega, by omega, rfl, rfl, by go_num, OwnX.less HO2.out fun _ e => e.elim, HNX.out _ _ (by simp [*]) (by simp [*])⟩
          case measure => simp [intOf]; omega
    have b4 : (kd == 4) = false := by simp [c4]
    clear c1 c3 c4
    cases U <;> cases Y
    all_goals
      go_wp2_with fail
      go_roundw
      case rel => exact ⟨i + 1, R2, _, _, by omega, by omega, rfl, rfl, by go_num, OwnX.less HO2.out fun _ e => e.elim, HNX.out _ _ (by simp [*]) (by simp [*])⟩
      case measure => simp [intOf]; omega
end Go.Proofs.Yteongcihannldaa
namespace Go.Proofs.Yteongcihannldaa
open Go Go.RowKit
set_option maxRecDepth 20000

/-! Of a roll that isn't there. -/
set_option maxHeartbeats 1000000 in
theorem within_nil (w : World) (s inc : Int) : Calls Try.prog 39 #[.pointer none, .int .i64 s, .int .i64 inc] w fun e w' => e = .returned (.pointer none) ∧ w' = w := by
  have H := of_nil w s
  go_enter Try.func39, Try.ntmps39
  go_wp2_with (go_at_call 35; refine H.mono ?_; rintro e w1 ⟨rfl, q⟩; subst q)
  go_ret
  exact ⟨rfl, rfl⟩
set_option maxHeartbeats 1000000 in
theorem hear_nil (w : World) (s inc now : Int) : Calls Try.prog 26 #[.pointer none, .int .i64 s, .int .i64 inc, .int .i64 now] w fun e w' => e = .returned (.bool false) ∧ w' = w := by
  have H := of_nil w s
  go_enter Try.func26, Try.ntmps26
  go_wp2_with (go_at_call 35; refine H.mono ?_; rintro e w1 ⟨rfl, q⟩; subst q)
  go_ret
  exact ⟨rfl, rfl⟩
set_option maxHeartbeats 1000000 in
theorem ack_nil (w : World) (s inc ep n : Int) : Calls Try.prog 33 #[.pointer none, .int .i64 s, .int .i64 inc, .int .i64 ep, .int .i64 n] w fun e w' => e = .returned (.bool false) ∧ w' = w := by
  have H := within_nil w s inc
  go_enter Try.func33, Try.ntmps33
  go_wp2_with (go_at_call 39; refine H.mono ?_; rintro e w1 ⟨rfl, q⟩; subst q)
  go_ret
  exact ⟨rfl, rfl⟩
set_option maxHeartbeats 1000000 in
theorem seen_nil (w : World) (s inc n : Int) : Calls Try.prog 28 #[.pointer none, .int .i64 s, .int .i64 inc, .int .i64 n] w fun e w' => e = .returned (.bool false) ∧ w' = w := by
  have H := within_nil w s inc
  go_enter Try.func28, Try.ntmps28
  go_wp2_with (go_at_call 39; refine H.mono ?_; rintro e w1 ⟨rfl, q⟩; subst q)
  go_ret
  exact ⟨rfl, rfl⟩
set_option maxHeartbeats 1000000 in
theorem led_nil (w : World) (s ep now : Int) : Calls Try.prog 27 #[.pointer none, .int .i64 s, .int .i64 ep, .int .i64 now] w fun e w' => e = .returned (.tuple #[]) ∧ w' = w := by
  have H := of_nil w s
  go_enter Try.func27, Try.ntmps27
  go_wp2_with (go_at_call 35; refine H.mono ?_; rintro e w1 ⟨rfl, q⟩; subst q)
  first | go_end0 | refine bodyPost_ret (results_none rfl _ _ _) rfl ?_
  exact ⟨rfl, rfl⟩
set_option maxHeartbeats 1000000 in
theorem keep_nil (w : World) (a b : Int) : Calls Try.prog 34 #[.pointer none, .int .i64 a, .int .i64 b] w fun e w' => e = .returned (.tuple #[]) ∧ w' = w := by
  skip
  go_enter Try.func34, Try.ntmps34
  go_wp2_with fail
  first | go_end0 | refine bodyPost_ret (results_none rfl _ _ _) rfl ?_
  exact ⟨rfl, rfl⟩
set_option maxHeartbeats 1000000 in
theorem inc_nil (w : World) (s : Int) : Calls Try.prog 16 #[.pointer none, .int .i64 s] w fun e w' => e = .returned (.int .i64 0) ∧ w' = w := by
  have H := of_nil w s
  go_enter Try.func16, Try.ntmps16
  go_wp2_with (go_at_call 35; refine H.mono ?_; rintro e w1 ⟨rfl, q⟩; subst q)
  go_ret
  exact ⟨rfl, rfl⟩
set_option maxHeartbeats 1000000 in
theorem in_nil (w : World) (s now lost : Int) : Calls Try.prog 18 #[.pointer none, .int .i64 s, .int .i64 now, .int .i64 lost] w fun e w' => e = .returned (.bool false) ∧ Below w.heap.size w w' := by
  have H := of_nil w s
  go_enter Try.func18, Try.ntmps18
  go_wp2_with (go_at_call 35; refine H.mono ?_; rintro e w1 ⟨rfl, q⟩; subst q)
  go_quiet (fail)
  go_wp2_with fail
  go_ret
  exact ⟨rfl, below_drewN _ _⟩
set_option maxHeartbeats 1000000 in
theorem have_nil (w : World) (s ep : Int) : Calls Try.prog 20 #[.pointer none, .int .i64 s, .int .i64 ep] w fun e w' => e = .returned (.int .i64 0) ∧ w' = w := by
  have H := of_nil w s
  go_enter Try.func20, Try.ntmps20
  go_wp2_with (go_at_call 35; refine H.mono ?_; rintro e w1 ⟨rfl, q⟩; subst q)
  go_ret
  exact ⟨rfl, rfl⟩
set_option maxHeartbeats 1000000 in
theorem use_nil (w : World) (s : Int) : Calls Try.prog 22 #[.pointer none, .int .i64 s] w fun e w' => e = .returned (.int .i64 0) ∧ w' = w := by
  have H := of_nil w s
  go_enter Try.func22, Try.ntmps22
  go_wp2_with (go_at_call 35; refine H.mono ?_; rintro e w1 ⟨rfl, q⟩; subst q)
  go_ret
  exact ⟨rfl, rfl⟩
set_option maxHeartbeats 1000000 in
theorem safe_nil (w : World) (s ep now lease : Int) : Calls Try.prog 24 #[.pointer none, .int .i64 s, .int .i64 ep, .int .i64 now, .int .i64 lease] w fun e w' => e = .returned (.bool false) ∧ w' = w := by
  have H := of_nil w s
  go_enter Try.func24, Try.ntmps24
  go_wp2_with (go_at_call 35; refine H.mono ?_; rintro e w1 ⟨rfl, q⟩; subst q)
  go_ret
  exact ⟨rfl, rfl⟩
end Go.Proofs.Yteongcihannldaa
namespace Go.Proofs.Yteongcihannldaa
open Go Go.RowKit
set_option maxRecDepth 20000

set_option maxHeartbeats 16000000 in
theorem does21_nil (w : World) (x : ActR) : Calls Try.prog 15 #[.pointer none, .agg (actV21 x)] w fun e w' => e = .returned (.bool false) ∧ Below w.heap.size w w' := by
  obtain ⟨w0, hw0⟩ : ∃ w0, w0 = w.alloc (.cells (actV21 x) 34) := ⟨_, rfl⟩
  have HB : Hid (Below w.heap.size w w0) := by show Below _ _ _; rw [hw0]; exact (Below.refl _ _).alloc (Nat.le_refl _) _
  unfold actV21 at hw0 ⊢
  obtain ⟨kd, s, inc, ep, n, now⟩ := x
  dsimp only at *
  have H1 := hear_nil w0 s inc now
  have H2 := ack_nil w0 s inc ep n
  have H3 := seen_nil w0 s inc n
  have H4 := led_nil w0 s ep now
  have H5 := keep_nil w0 ep n
  have hw0' := hw0.symm
  clear hw0
  have q0 : w0.cell? ⟨w.heap.size, 0, none⟩ = some (.int .i64 kd) := by rw [← hw0', cell_of_row _ _ _ _ _ _ (heap_new _ _ _ rfl)]; rfl
  have q1 : w0.cell? ⟨w.heap.size, 1, none⟩ = some (.int .i64 s) := by rw [← hw0', cell_of_row _ _ _ _ _ _ (heap_new _ _ _ rfl)]; rfl
  have q2 : w0.cell? ⟨w.heap.size, 2, none⟩ = some (.int .i64 inc) := by rw [← hw0', cell_of_row _ _ _ _ _ _ (heap_new _ _ _ rfl)]; rfl
  have q3 : w0.cell? ⟨w.heap.size, 3, none⟩ = some (.int .i64 ep) := by rw [← hw0', cell_of_row _ _ _ _ _ _ (heap_new _ _ _ rfl)]; rfl
  have q4 : w0.cell? ⟨w.heap.size, 4, none⟩ = some (.int .i64 n) := by rw [← hw0', cell_of_row _ _ _ _ _ _ (heap_new _ _ _ rfl)]; rfl
  have q5 : w0.cell? ⟨w.heap.size, 5, none⟩ = some (.int .i64 now) := by rw [← hw0', cell_of_row _ _ _ _ _ _ (heap_new _ _ _ rfl)]; rfl
  by_cases k1 : kd = 1
  · have k1' : (kd == 1) = true := by simp [k1]
    clear k1
    go_enter Try.func15, Try.ntmps15
    go_wp2_with (go_at_call 26; refine H1.mono ?_; rintro e w2 ⟨rfl, r1⟩; subst r1)
    go_ret
    exact ⟨rfl, HB.out⟩
  have k1' : (kd == 1) = false := by simp [k1]
  by_cases k2 : kd = 2
  · have k2' : (kd == 2) = true := by simp [k2]
    clear k1 k2
    go_enter Try.func15, Try.ntmps15
    go_wp2_with (go_at_call 33; refine H2.mono ?_; rintro e w2 ⟨rfl, r1⟩; subst r1)
    go_ret
    exact ⟨rfl, HB.out⟩
  have k2' : (kd == 2) = false := by simp [k2]
  by_cases k3 : kd = 3
  · have k3' : (kd == 3) = true := by simp [k3]
    clear k1 k2 k3
    go_enter Try.func15, Try.ntmps15
    go_wp2_with (go_at_call 28; refine H3.mono ?_; rintro e w2 ⟨rfl, r1⟩; subst r1)
    go_ret
    exact ⟨rfl, HB.out⟩
  have k3' : (kd == 3) = false := by simp [k3]
  by_cases k4 : kd = 4
  · have k4' : (kd == 4) = true := by simp [k4]
    clear k1 k2 k3 k4
    go_enter Try.func15, Try.ntmps15
    go_wp2_with (go_at_call 27; refine H4.mono ?_; rintro e w2 ⟨rfl, r1⟩; subst r1)
    go_ret
    exact ⟨rfl, HB.out⟩
  have k4' : (kd == 4) = false := by simp [k4]
  by_cases k5 : kd = 5
  · have k5' : (kd == 5) = true := by simp [k5]
    clear k1 k2 k3 k4 k5
    go_enter Try.func15, Try.ntmps15
    go_wp2_with (go_at_call 34; refine H5.mono ?_; rintro e w2 ⟨rfl, r1⟩; subst r1)
    go_ret
    exact ⟨rfl, HB.out⟩
  have k5' : (kd == 5) = false := by simp [k5]
  clear k1 k2 k3 k4 k5
  go_enter Try.func15, Try.ntmps15
  go_wp2_with fail
  go_ret
  exact ⟨rfl, HB.out⟩
set_option maxHeartbeats 16000000 in
theorem lawRNil_any (w : World) (x : ActR) (q : AskR) : Calls Try.prog 6 #[.agg (actV21 x), .agg (askV21 q)] w fun e w' => e = .returned (.bool true) ∧ Below w.heap.size w w' := by
  have HW : Hid (∀ W, Calls Try.prog 7 #[] W fun e w' => e = .returned (.bool true) ∧ Below W.heap.size W w') := fun W => awake21_any W
  have HD : Hid (∀ W, Calls Try.prog 15 #[.pointer none, .agg (actV21 x)] W fun e w' => e = .returned (.bool false) ∧ Below W.heap.size W w') := fun W => does21_nil W x
  obtain ⟨w0, hw0⟩ : ∃ w0, w0 = (w.alloc (.cells (actV21 x) 34)).alloc (.cells (askV21 q) 24) := ⟨_, rfl⟩
  have HB : Hid (Below w.heap.size w w0) := by show Below _ _ _; rw [hw0]; exact ((Below.refl _ _).alloc (Nat.le_refl _) _).alloc (by simp) _
  have HF : Hid (∀ W, Below w0.heap.size w0 W → W.heap[w.heap.size]? = some (.cells (actV21 x) 34 (0, 0)) ∧ W.heap[w.heap.size + 1]? = some (.cells (askV21 q) 24 (0, 0))) := fun W hW => by
    have a1 : w0.heap[w.heap.size]? = some (.cells (actV21 x) 34 (0, 0)) := by rw [hw0]; exact heap_past _ _ _ _ (heap_new _ _ _ rfl)
    have a2 : w0.heap[w.heap.size + 1]? = some (.cells (askV21 q) 24 (0, 0)) := by rw [hw0]; exact heap_new _ _ _ (by simp)
    exact ⟨(hW.block _ (Array.getElem?_eq_some_iff.1 a1).1).trans a1, (hW.block _ (Array.getElem?_eq_some_iff.1 a2).1).trans a2⟩
  have HW0 := HW.out w0
  obtain ⟨p, hp⟩ : ∃ p, p = w.heap.size := ⟨_, rfl⟩
  obtain ⟨kd, s, inc, ep, n, now⟩ := x
  obtain ⟨qe, qn, ql, qs⟩ := q
  have HI : Hid (∀ W, Calls Try.prog 16 #[.pointer none, .int .i64 s] W fun e w' => e = .returned (.int .i64 0) ∧ w' = W) := fun W => inc_nil W s
  have HN : Hid (∀ W, Calls Try.prog 18 #[.pointer none, .int .i64 s, .int .i64 qn, .int .i64 ql] W fun e w' => e = .returned (.bool false) ∧ Below W.heap.size W w') := fun W => in_nil W s qn ql
  have HH : Hid (∀ W, Calls Try.prog 20 #[.pointer none, .int .i64 s, .int .i64 ep] W fun e w' => e = .returned (.int .i64 0) ∧ w' = W) := fun W => have_nil W s ep
  have HU : Hid (∀ W, Calls Try.prog 22 #[.pointer none, .int .i64 s] W fun e w' => e = .returned (.int .i64 0) ∧ w' = W) := fun W => use_nil W s
  have HS : Hid (∀ W, Calls Try.prog 24 #[.pointer none, .int .i64 s, .int .i64 qe, .int .i64 qn, .int .i64 qs] W fun e w' => e = .returned (.bool false) ∧ w' = W) := fun W => safe_nil W s qe qn qs
  rw [← hp] at HF
  have FC : Hid (∀ W, Below w0.heap.size w0 W → W.cell? ⟨p, 1, none⟩ = some (.int .i64 s) ∧ W.cell? ⟨p, 3, none⟩ = some (.int .i64 ep) ∧ W.cell? ⟨p + 1, 0, none⟩ = some (.int .i64 qe) ∧ W.cell? ⟨p + 1, 1, none⟩ = some (.int .i64 qn) ∧ W.cell? ⟨p + 1, 2, none⟩ = some (.int .i64 ql) ∧ W.cell? ⟨p + 1, 3, none⟩ = some (.int .i64 qs)) := fun W hW => by
    obtain ⟨a1, a2⟩ := HF.out W hW
    exact ⟨by rw [cell_of_row _ _ _ _ _ _ a1]; rfl, by rw [cell_of_row _ _ _ _ _ _ a1]; rfl, by rw [cell_of_row _ _ _ _ _ _ a2]; rfl, by rw [cell_of_row _ _ _ _ _ _ a2]; rfl, by rw [cell_of_row _ _ _ _ _ _ a2]; rfl, by rw [cell_of_row _ _ _ _ _ _ a2]; rfl⟩
  have HWA : Hid ((w.alloc (.cells (actV21 ⟨kd, s, inc, ep, n, now⟩) 34)).alloc (.cells (askV21 ⟨qe, qn, ql, qs⟩) 24) = w0) := hw0.symm
  have HP : Hid (w.heap.size = p) := hp.symm
  rw [hw0] at HW0
  clear hp hw0 HW
  go_enter Try.func6, Try.ntmps6
  go_wp2_with (go_at_call 7; refine HW0.mono ?_; rintro e w1 ⟨rfl, hb1⟩; refine of_stopT ?_)
  unfold StopT
  rw [HWA.out] at hb1
  rw [HP.out]
  have B1 : Hid (Below w0.heap.size w0 w1) := hb1
  have K1 : Hid (w1.heap[p]? = some (.cells (actV21 ⟨kd, s, inc, ep, n, now⟩) 34 (0, 0))) := (HF.out w1 hb1).1
  have nd := HD.out w1
  clear hb1 HW0 HWA HP HD
  go_wp2_with (first
    | (refine wl_loadE (E := Act21E) Act21Ok rfl _ rfl p 0 rfl (actV21 ⟨kd, s, inc, ep, n, now⟩) _ (0, 0) (actV21 ⟨kd, s, inc, ep, n, now⟩) rfl K1.out (fun j _ => by rw [Nat.zero_add]) ?_)
    | (go_at_call 15; refine nd.mono ?_; rintro e w3 ⟨rfl, b3⟩; refine of_stopT ?_))
  unfold StopT
  have B3 : Below w0.heap.size w0 w3 := below_step B1.out B1.out.size b3
  obtain ⟨f1, f2, f3, f4, f5, f6⟩ := FC.out w3 B3
  have HB3 : Hid (Below w0.heap.size w0 w3) := B3
  have n1 := HI.out w3
  have n2 := HN.out w3
  clear B3 b3 nd K1
  go_wp2_with (first
    | (go_at_call 16; refine n1.mono ?_; rintro e w4 ⟨rfl, h4⟩; have h4 := h4.symm; subst h4)
    | (go_at_call 18; refine n2.mono ?_; rintro e w4 ⟨rfl, b4⟩; refine of_stopT ?_))
  unfold StopT
  have B4 : Below w0.heap.size w0 w4 := below_step HB3.out HB3.out.size b4
  have HB4 : Hid (Below w.heap.size w w4) := below_step HB.out HB.out.size B4
  clear f1 f2 f3 f4 f5 f6
  obtain ⟨f1, f2, f3, f4, f5, f6⟩ := FC.out w4 B4
  have n3 := HH.out w4
  have n4 := HU.out w4
  have n5 := HS.out w4
  clear B4 b4 n1 n2
  go_wp2_with (first
    | (go_at_call 20; refine n3.mono ?_; rintro e w5 ⟨rfl, h4⟩; have h4 := h4.symm; subst h4)
    | (go_at_call 22; refine n4.mono ?_; rintro e w5 ⟨rfl, h4⟩; have h4 := h4.symm; subst h4)
    | (go_at_call 24; refine n5.mono ?_; rintro e w5 ⟨rfl, h4⟩; have h4 := h4.symm; subst h4))
  go_ret
  exact ⟨rfl, HB4.out⟩
end Go.Proofs.Yteongcihannldaa
